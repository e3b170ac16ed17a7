package layout

import (
	"bytes"
	"encoding/hex"
	"fmt"
	"math"
	"reflect"
	"slices"
	"strings"
	"testing"

	"balise/api"
	"balise/crc"
)

// yard has something of each kind, all numbers of it unlike, so that no two
// can change places unseen.
func yard() api.Layout {
	return api.Layout{
		Nodes:    []complex128{0, 1 - 2i, -1000000 + 1000000i},
		Sections: []api.Section{{Len: 0x1234, A: 5, B: 6}, {Len: 10000, A: 255, B: 7}},
		Parts:    [][]int{{8, 9, 10}, {}, {11}},
		Points:   []api.Point{{Node: 12, Stem: 13, Left: 14, Right: 15}, {Node: 16, Stem: 17, Left: 18, Right: 19}},
		Routes:   [][]int{{20, 21}, {22}},
		Speed:    0x2021, Mute: 0x2223, Wait: 0x2425, Cancel: 0x2627, Stay: 0x2829,
	}
}

// yardText is yard's bytes, as the chapter tells them, a line for each list.
var yardText = []string{
	"424c",
	"03 00000000 00000000 00000001 fffffffe fff0bdc0 000f4240",
	"02 1234 05 06 2710 ff 07",
	"03 03 08 09 0a 00 01 0b",
	"02 0c 0d 0e 0f 10 11 12 13",
	"02 02 14 15 01 16",
	"2021 2223 2425 2627 2829",
}

func fromText(t *testing.T, lines ...string) []byte {
	t.Helper()
	p, err := hex.DecodeString(strings.ReplaceAll(strings.Join(lines, ""), " ", ""))
	if err != nil {
		t.Fatal(err)
	}
	return p
}

// copied shares nothing with l.
func copied(l api.Layout) api.Layout {
	l.Nodes, l.Sections, l.Points = slices.Clone(l.Nodes), slices.Clone(l.Sections), slices.Clone(l.Points)
	l.Parts, l.Routes = copiedRows(l.Parts), copiedRows(l.Routes)
	return l
}

func copiedRows(rows [][]int) [][]int {
	all := slices.Clone(rows)
	for i := range all {
		all[i] = slices.Clone(all[i])
	}
	return all
}

// alike holds two layouts against one another by their texts: a second
// reckoning beside Same, to which a nil list is like an empty one, too.
func alike(a, b api.Layout) bool {
	return fmt.Sprintf("%+v", a) == fmt.Sprintf("%+v", b)
}

// numbers tells numbers that are now great, now small, always the same ones.
type numbers uint32

func (n *numbers) below(limit int) int {
	*n = *n*1664525 + 1013904223
	return int(uint64(*n) * uint64(limit) >> 32)
}

func (n *numbers) rows() [][]int {
	rows := make([][]int, n.below(5))
	for i := range rows {
		rows[i] = make([]int, n.below(5))
		for j := range rows[i] {
			rows[i][j] = n.below(256)
		}
	}
	return rows
}

func (n *numbers) place() complex128 {
	east, north := n.below(2*api.MaxPlace+1), n.below(2*api.MaxPlace+1)
	return complex(float64(east-api.MaxPlace), float64(north-api.MaxPlace))
}

func (n *numbers) layout() api.Layout {
	l := api.Layout{Parts: n.rows(), Routes: n.rows(), Speed: n.below(1 << 16)}
	for range n.below(5) {
		l.Nodes = append(l.Nodes, n.place())
	}
	for range n.below(5) {
		l.Sections = append(l.Sections, api.Section{Len: n.below(1 << 16), A: n.below(256), B: n.below(256)})
	}
	for range n.below(5) {
		l.Points = append(l.Points, api.Point{Node: n.below(256), Stem: n.below(256), Left: n.below(256), Right: n.below(256)})
	}
	for _, time := range []*int64{&l.Mute, &l.Wait, &l.Cancel, &l.Stay} {
		*time = int64(n.below(1 << 16))
	}
	return l
}

func TestEncodeLaysEachNumberWhereItBelongs(t *testing.T) {
	want := crc.Close(fromText(t, yardText...))
	if got := Encode(yard()); !bytes.Equal(got, want) {
		t.Errorf("%x\nnot\n%x", got, want)
	}
}

func TestEncodeOfNothing(t *testing.T) {
	want := crc.Close([]byte("BL\x00\x00\x00\x00\x00\x00\x00\x00\x00\x00\x00\x00\x00\x00\x00"))
	empty := api.Layout{Nodes: []complex128{}, Sections: []api.Section{}, Parts: [][]int{}, Points: []api.Point{}, Routes: [][]int{}}
	for _, l := range []api.Layout{{}, empty} {
		if got := Encode(l); !bytes.Equal(got, want) {
			t.Errorf("%x", got)
		}
	}
	l, e := Decode(want)
	if e != api.OK || !alike(l, api.Layout{}) || !Same(l, api.Layout{}) {
		t.Error(l, e)
	}
	rows := api.Layout{Parts: [][]int{nil, {}}, Routes: [][]int{nil}}
	want = crc.Close([]byte("BL\x00\x00\x02\x00\x00\x00\x01\x00\x00\x00\x00\x00\x00\x00\x00\x00\x00\x00"))
	if got := Encode(rows); !bytes.Equal(got, want) {
		t.Errorf("%x", got)
	}
	if l, e := Decode(want); e != api.OK || len(l.Parts) != 2 || len(l.Routes) != 1 || !Same(l, rows) {
		t.Error(l, e)
	}
}

func TestEncodeLaysTheLowestBits(t *testing.T) {
	great := api.Layout{
		Sections: []api.Section{{Len: 0x51234, A: 0x105, B: -1}, {Len: -2, A: -256, B: math.MaxInt}},
		Parts:    [][]int{{256, -3, math.MinInt}},
		Points:   []api.Point{{Node: 0x1ab, Stem: -4, Left: 511, Right: math.MinInt + 7}},
		Routes:   [][]int{{-128, 0x7fffff80}},
		Speed:    0x10001, Mute: -1, Wait: math.MinInt64, Cancel: math.MaxInt64, Stay: 1<<32 + 9,
	}
	low := api.Layout{
		Sections: []api.Section{{Len: 0x1234, A: 5, B: 255}, {Len: 0xfffe, A: 0, B: 255}},
		Parts:    [][]int{{0, 253, 0}},
		Points:   []api.Point{{Node: 0xab, Stem: 252, Left: 255, Right: 7}},
		Routes:   [][]int{{128, 128}},
		Speed:    1, Mute: 0xffff, Wait: 0, Cancel: 0xffff, Stay: 9,
	}
	want := crc.Close(fromText(t, "424c 00",
		"02 1234 05 ff fffe 00 ff",
		"01 03 00 fd 00",
		"01 ab fc ff 07",
		"01 02 80 80",
		"0001 ffff 0000 ffff 0009"))
	for _, l := range []api.Layout{great, low} {
		if got := Encode(l); !bytes.Equal(got, want) {
			t.Errorf("%x\nnot\n%x", got, want)
		}
	}
	if l, e := Decode(want); e != api.OK || !alike(l, low) {
		t.Error(l, e)
	}
}

func TestNodesAreTwosComplement(t *testing.T) {
	minus := math.Copysign(0, -1)
	for _, c := range []struct {
		z    complex128
		text string
	}{
		{-1 - 1i, "ffffffff ffffffff"},
		{-1, "ffffffff 00000000"},
		{1i, "00000000 00000001"},
		{-256i, "00000000 ffffff00"},
		{1000000 - 1000000i, "000f4240 fff0bdc0"},
		{-1000000 + 999999i, "fff0bdc0 000f423f"},
		{complex(minus, minus), "00000000 00000000"},
	} {
		got := Encode(api.Layout{Nodes: []complex128{c.z}})
		want := crc.Close(fromText(t, "424c 01", c.text, "00 00 00 00 0000 0000 0000 0000 0000"))
		if !bytes.Equal(got, want) {
			t.Errorf("%v: %x", c.z, got)
		}
		l, e := Decode(got)
		if e != api.OK || len(l.Nodes) != 1 || l.Nodes[0] != c.z {
			t.Errorf("%v came back as %v, %d", c.z, l, e)
		}
	}
	l, _ := Decode(Encode(api.Layout{Nodes: []complex128{complex(minus, minus)}}))
	if math.Signbit(real(l.Nodes[0])) || math.Signbit(imag(l.Nodes[0])) {
		t.Error("a nought came back with a sign")
	}
}

// Whether a layout may be is not asked here: all that bytes can tell is told.
func TestDecodeTellsWhatMayNotBe(t *testing.T) {
	p := crc.Close(fromText(t, "424c",
		"01 80000000 7fffffff",
		"01 ffff ff fe",
		"01 02 ff ff",
		"01 ff fe fd fc",
		"01 01 ff",
		"ffff fffe fffd fffc fffb"))
	want := api.Layout{
		Nodes:    []complex128{-2147483648 + 2147483647i},
		Sections: []api.Section{{Len: 65535, A: 255, B: 254}},
		Parts:    [][]int{{255, 255}},
		Points:   []api.Point{{Node: 255, Stem: 254, Left: 253, Right: 252}},
		Routes:   [][]int{{255}},
		Speed:    65535, Mute: 65534, Wait: 65533, Cancel: 65532, Stay: 65531,
	}
	if l, e := Decode(p); e != api.OK || !alike(l, want) {
		t.Error(l, e)
	}
}

func TestDecodeIsBack(t *testing.T) {
	all := []api.Layout{{}, yard()}
	n := numbers(1)
	for range 2000 {
		all = append(all, n.layout())
	}
	for _, l := range all {
		before := copied(l)
		p := Encode(l)
		got, e := Decode(p)
		if e != api.OK || !alike(got, l) || !Same(got, l) || !Same(l, got) {
			t.Fatalf("%+v came back as %+v, %d", l, got, e)
		}
		if !reflect.DeepEqual(l, before) {
			t.Fatalf("%+v was written into: %+v", before, l)
		}
		if !bytes.Equal(Encode(got), p) {
			t.Fatalf("%+v has other bytes", got)
		}
	}
}

func TestTheMostOfEach(t *testing.T) {
	n := numbers(2)
	row := make([]int, 255)
	for i := range row {
		row[i] = 255 - i
	}
	var l api.Layout
	for i := range 255 {
		l.Nodes = append(l.Nodes, n.place())
		l.Sections = append(l.Sections, api.Section{Len: i * 257, A: i, B: 255 - i})
		l.Points = append(l.Points, api.Point{Node: i, Stem: i ^ 1, Left: i ^ 2, Right: i ^ 4})
		l.Parts = append(l.Parts, slices.Clone(row))
		l.Routes = append(l.Routes, slices.Clone(row[:i]))
	}
	p := Encode(l)
	if want := 2 + 1 + 255*8 + 1 + 255*4 + 1 + 255*256 + 1 + 255*4 + 1 + 255 + 255*127 + 10 + 2; len(p) != want {
		t.Errorf("%d bytes, not %d", len(p), want)
	}
	got, e := Decode(p)
	if e != api.OK || !alike(got, l) || !Same(got, l) {
		t.Error("it came back as another one,", e)
	}
}

// checkNone wants an error, nothing beside it, and p as it was.
func checkNone(t *testing.T, p []byte, want api.Errno) {
	t.Helper()
	before := bytes.Clone(p)
	l, e := Decode(p)
	if e != want || !alike(l, api.Layout{}) {
		t.Fatalf("Decode(%x) = %+v, %d, not %d", p, l, e, want)
	}
	if !bytes.Equal(p, before) {
		t.Fatalf("Decode wrote into %x: %x", before, p)
	}
}

func TestDecodeTellsOpensError(t *testing.T) {
	checkNone(t, nil, api.ErrShort)
	checkNone(t, []byte{}, api.ErrShort)
	for b := range 256 {
		checkNone(t, []byte{byte(b)}, api.ErrShort)
	}
	checkNone(t, []byte("BL"), api.ErrSum)
	checkNone(t, []byte{0, 1}, api.ErrSum)
	p := Encode(yard())
	checkNone(t, p[:len(p)-2], api.ErrSum)
	for bit := range len(p) * 8 {
		turned := bytes.Clone(p)
		turned[bit/8] ^= 1 << (bit % 8)
		checkNone(t, turned, api.ErrSum)
	}
}

func TestDecodeOfOtherLetters(t *testing.T) {
	body := fromText(t, yardText...)
	checkNone(t, crc.Close(nil), api.ErrForm)
	for n := range 1 << 16 {
		body[0], body[1] = byte(n>>8), byte(n)
		if n&0xff == 0 {
			checkNone(t, crc.Close(body[:1]), api.ErrForm)
		}
		if string(body[:2]) == "BL" {
			continue
		}
		checkNone(t, crc.Close(body[:2]), api.ErrForm)
		checkNone(t, crc.Close(body), api.ErrForm)
	}
}

func TestDecodeOfBytesThatEndTooSoon(t *testing.T) {
	n := numbers(3)
	for _, l := range []api.Layout{{}, yard(), n.layout(), n.layout()} {
		p := Encode(l)
		for size := 2; size < len(p)-2; size++ {
			checkNone(t, crc.Close(p[:size]), api.ErrShort)
		}
	}
	checkNone(t, crc.Close([]byte("BL\xff")), api.ErrShort)
	checkNone(t, crc.Close([]byte("BL\x00\x00\xff\xff\xff")), api.ErrShort)
	p := crc.Close(fromText(t, yardText...))
	for at := 2; at < len(p)-2; at++ {
		checkEndsAlike(t, p, at)
	}
}

// checkEndsAlike turns a byte into the greatest one: where it is a count, the
// bytes end too soon; else they are a layout still.
func checkEndsAlike(t *testing.T, p []byte, at int) {
	t.Helper()
	body := bytes.Clone(p[:len(p)-2])
	body[at] = 0xff
	counts := map[int]bool{2: true, 27: true, 36: true, 37: true, 41: true, 42: true, 44: true, 53: true, 54: true, 57: true}
	if counts[at] {
		checkNone(t, crc.Close(body), api.ErrShort)
		return
	}
	if l, e := Decode(crc.Close(body)); e != api.OK || !bytes.Equal(Encode(l), crc.Close(body)) {
		t.Fatalf("byte %d: %+v, %d", at, l, e)
	}
}

func TestDecodeOfBytesThatAreLeft(t *testing.T) {
	n := numbers(4)
	for _, l := range []api.Layout{{}, yard(), n.layout()} {
		p := Encode(l)
		body := p[:len(p)-2]
		for b := range 256 {
			checkNone(t, crc.Close(append(bytes.Clone(body), byte(b))), api.ErrForm)
		}
		for count := range 40 {
			checkNone(t, crc.Close(append(bytes.Clone(body), make([]byte, count+1)...)), api.ErrForm)
		}
		checkNone(t, crc.Close(p), api.ErrForm)
	}
}

// Whatever bytes are: they are a layout's and its own, or an error.
func TestDecodeOfAnyBytes(t *testing.T) {
	n := numbers(5)
	told := map[api.Errno]int{}
	for range 20000 {
		body := []byte("BL")
		for range n.below(60) {
			body = append(body, byte(n.below(1+n.below(4)*n.below(4))))
		}
		p := crc.Close(body)
		l, e := Decode(p)
		told[e]++
		if e == api.OK && !bytes.Equal(Encode(l), p) {
			t.Fatalf("%x is %+v", p, l)
		}
		if e != api.OK && !alike(l, api.Layout{}) {
			t.Fatalf("%x is %d, and %+v", p, e, l)
		}
	}
	if told[api.OK] < 50 || told[api.ErrShort] < 50 || told[api.ErrForm] < 50 || len(told) != 3 {
		t.Error(told)
	}
}

// Of these nothing is promised but that the calls end.
func TestCallsEnd(t *testing.T) {
	huge := api.Layout{
		Nodes:    make([]complex128, 300),
		Sections: make([]api.Section, 256),
		Parts:    [][]int{make([]int, 1000)},
		Points:   make([]api.Point, 600),
		Routes:   make([][]int, 257),
	}
	odd := api.Layout{}
	for _, x := range []float64{math.NaN(), math.Inf(1), math.Inf(-1), math.MaxFloat64, 0.5, 1e10, math.SmallestNonzeroFloat64} {
		odd.Nodes = append(odd.Nodes, complex(x, -x), complex(0, x))
	}
	for _, l := range []api.Layout{huge, odd} {
		Decode(Encode(l))
		Same(l, l)
		Same(l, api.Layout{})
	}
}

// changes each make one thing of yard another one.
func changes() map[string]func(l *api.Layout) {
	return map[string]func(l *api.Layout){
		"a real part":       func(l *api.Layout) { l.Nodes[1]++ },
		"an imaginary part": func(l *api.Layout) { l.Nodes[2] += 1i },
		"a node more":       func(l *api.Layout) { l.Nodes = append(l.Nodes, 0) },
		"a node less":       func(l *api.Layout) { l.Nodes = l.Nodes[:2] },
		"no nodes":          func(l *api.Layout) { l.Nodes = nil },
		"nodes' order":      func(l *api.Layout) { l.Nodes[0], l.Nodes[1] = l.Nodes[1], l.Nodes[0] },
		"a length":          func(l *api.Layout) { l.Sections[0].Len++ },
		"an A":              func(l *api.Layout) { l.Sections[1].A-- },
		"a B":               func(l *api.Layout) { l.Sections[1].B++ },
		"A for B":           func(l *api.Layout) { l.Sections[0].A, l.Sections[0].B = l.Sections[0].B, l.Sections[0].A },
		"a section more":    func(l *api.Layout) { l.Sections = append(l.Sections, api.Section{}) },
		"a section less":    func(l *api.Layout) { l.Sections = l.Sections[:1] },
		"a part's section":  func(l *api.Layout) { l.Parts[2][0]++ },
		"a part's order":    func(l *api.Layout) { l.Parts[0][1], l.Parts[0][2] = l.Parts[0][2], l.Parts[0][1] },
		"a part longer":     func(l *api.Layout) { l.Parts[1] = []int{0} },
		"a part shorter":    func(l *api.Layout) { l.Parts[0] = l.Parts[0][:2] },
		"another part's":    func(l *api.Layout) { l.Parts[0], l.Parts[1] = l.Parts[0][:2], l.Parts[0][2:] },
		"a part more":       func(l *api.Layout) { l.Parts = append(l.Parts, nil) },
		"a part less":       func(l *api.Layout) { l.Parts = l.Parts[:2] },
		"parts' order":      func(l *api.Layout) { l.Parts[1], l.Parts[2] = l.Parts[2], l.Parts[1] },
		"a point's node":    func(l *api.Layout) { l.Points[0].Node++ },
		"a stem":            func(l *api.Layout) { l.Points[1].Stem++ },
		"a left":            func(l *api.Layout) { l.Points[0].Left++ },
		"a right":           func(l *api.Layout) { l.Points[1].Right++ },
		"a point more":      func(l *api.Layout) { l.Points = append(l.Points, api.Point{}) },
		"a point less":      func(l *api.Layout) { l.Points = l.Points[:1] },
		"a route's section": func(l *api.Layout) { l.Routes[1][0]++ },
		"a route longer":    func(l *api.Layout) { l.Routes[1] = append(l.Routes[1], 0) },
		"a route shorter":   func(l *api.Layout) { l.Routes[0] = l.Routes[0][:1] },
		"a route more":      func(l *api.Layout) { l.Routes = append(l.Routes, []int{}) },
		"a route less":      func(l *api.Layout) { l.Routes = l.Routes[1:] },
		"parts for routes":  func(l *api.Layout) { l.Parts, l.Routes = l.Routes, l.Parts },
		"the speed":         func(l *api.Layout) { l.Speed += 1 << 16 },
		"Mute":              func(l *api.Layout) { l.Mute++ },
		"Wait":              func(l *api.Layout) { l.Wait-- },
		"Cancel":            func(l *api.Layout) { l.Cancel = -l.Cancel },
		"Stay":              func(l *api.Layout) { l.Stay += 1 << 40 },
	}
}

func TestSameOfOneThingUnlike(t *testing.T) {
	for name, change := range changes() {
		a, b := yard(), yard()
		change(&b)
		before := copied(b)
		if Same(a, b) || Same(b, a) {
			t.Errorf("%s: the same", name)
		}
		if !Same(b, b) || !Same(b, before) {
			t.Errorf("%s: it isn't the same as itself", name)
		}
		if !reflect.DeepEqual(b, before) || !reflect.DeepEqual(a, yard()) {
			t.Errorf("%s: Same wrote into what it was handed", name)
		}
	}
}

func TestSame(t *testing.T) {
	empty := api.Layout{Nodes: []complex128{}, Sections: []api.Section{}, Parts: [][]int{}, Points: []api.Point{}, Routes: [][]int{}}
	if !Same(api.Layout{}, api.Layout{}) || !Same(empty, api.Layout{}) || !Same(api.Layout{}, empty) {
		t.Error("nil is not like an empty list")
	}
	a, b := yard(), yard()
	b.Parts[1] = nil
	if !Same(a, b) || !Same(b, a) {
		t.Error("a nil row is not like an empty one")
	}
	if Same(yard(), api.Layout{}) || Same(api.Layout{}, yard()) {
		t.Error("something is like nothing")
	}
	minus := math.Copysign(0, -1)
	b.Nodes[0] = complex(minus, minus)
	if !Same(a, b) {
		t.Error("a nought with a sign is == to one without")
	}
	b.Nodes[0] = complex(0, math.NaN())
	if Same(b, b) {
		t.Error("what isn't a number is == to nothing")
	}
}

func TestEncodeSharesNothing(t *testing.T) {
	l := yard()
	first, second := Encode(l), Encode(l)
	want := crc.Close(fromText(t, yardText...))
	for i := range first {
		first[i] = 0xee
	}
	if !reflect.DeepEqual(l, yard()) || !bytes.Equal(second, want) {
		t.Error("what was answered is shared")
	}
	writeOver(l)
	if !bytes.Equal(second, want) {
		t.Error("what was handed in is shared")
	}
}

func TestDecodeSharesNothing(t *testing.T) {
	p := Encode(yard())
	before := bytes.Clone(p)
	first, _ := Decode(p)
	second, _ := Decode(p)
	writeOver(first)
	if !bytes.Equal(p, before) || !Same(second, yard()) {
		t.Error("what was answered is shared")
	}
	for i := range p {
		p[i] = 0xee
	}
	if !Same(second, yard()) {
		t.Error("what was handed in is shared")
	}
	for _, rows := range [][][]int{second.Parts, second.Routes} {
		for i := range rows {
			_ = append(rows[i], 0xee, 0xee)
		}
	}
	if !Same(second, yard()) {
		t.Error("a row has another one's room behind it")
	}
}

func writeOver(l api.Layout) {
	for i := range l.Nodes {
		l.Nodes[i] = -7
	}
	for i := range l.Sections {
		l.Sections[i] = api.Section{Len: 7, A: 7, B: 7}
	}
	for i := range l.Points {
		l.Points[i] = api.Point{Node: 7, Stem: 7, Left: 7, Right: 7}
	}
	for _, rows := range [][][]int{l.Parts, l.Routes} {
		for i := range rows {
			for j := range rows[i] {
				rows[i][j] = 7
			}
			rows[i] = nil
		}
	}
}
