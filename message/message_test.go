package message

import (
	"bytes"
	"fmt"
	"math"
	"reflect"
	"slices"
	"strings"
	"testing"

	"balise/api"
	"balise/crc"
)

// spaced is a text of 0 and 1, its fields told apart by blanks, as closed bytes.
func spaced(text string) []byte {
	return crc.Close(packed(strings.ReplaceAll(text, " ", "")))
}

// zeros and ones are as many of them in a row.
func zeros(count int) string { return strings.Repeat("0", count) }
func ones(count int) string  { return strings.Repeat("1", count) }

// checkNone wants an error, nothing beside it, and p as it was.
func checkNone(t *testing.T, p []byte, want api.Errno) {
	t.Helper()
	before := bytes.Clone(p)
	m, e := Decode(p)
	if e != want || !alike(m, api.Message{}) {
		t.Fatalf("Decode(%x) = %+v, %d, not %d", p, m, e, want)
	}
	if !bytes.Equal(p, before) {
		t.Fatalf("Decode wrote into %x: %x", before, p)
	}
}

// checkRead wants what the model tells of these bytes with a sum of their own.
func checkRead(t *testing.T, body []byte) api.Errno {
	t.Helper()
	want, wanted := read(unpacked(body))
	p := crc.Close(body)
	m, e := Decode(p)
	if e != wanted || !alike(m, want) {
		t.Fatalf("%x: %+v, %d, not %+v, %d", body, m, e, want, wanted)
	}
	if e == api.OK && !bytes.Equal(Encode(m), p) {
		t.Fatalf("%x is %+v, but that has other bytes: %x", p, m, Encode(m))
	}
	return e
}

func TestExample(t *testing.T) {
	got := Encode(api.Message{Kind: api.Open, Train: 1})
	if !bytes.Equal(got, crc.Close([]byte{0x20, 0x80, 0, 0, 0})) {
		t.Errorf("%x", got)
	}
}

// All numbers of a message are unlike, so that no two can change places
// unseen.
func TestEncodeLaysEachNumberWhereItBelongs(t *testing.T) {
	full := api.Message{Train: 0x2c, Time: 0x1234567, Dir: 1, Ahead: 0x2f13, Trail: []int{1, 62, 33}}
	const head = " 101100 1001000110100010101100111 "
	const trail = " 0011 000001 111110 100001"
	for _, c := range []struct {
		kind  byte
		whole bool
		text  string
	}{
		{api.Open, false, "001" + head},
		{api.Close, true, "010" + head},
		{api.Report, false, "011" + head + "1 10111100010011 0" + trail},
		{api.Report, true, "011" + head + "1 10111100010011 1" + trail},
		{api.Accept, true, "100" + head},
		{api.Refuse, false, "101" + head},
		{api.Move, true, "110" + head + trail},
	} {
		m := copied(full)
		m.Kind, m.Whole = c.kind, c.whole
		if got, want := Encode(m), spaced(c.text); !bytes.Equal(got, want) {
			t.Errorf("Kind %d: %x, not %x", c.kind, got, want)
		}
	}
}

func TestEncodeOfOneFieldAlone(t *testing.T) {
	for _, c := range []struct {
		m    api.Message
		text string
	}{
		{api.Message{Kind: api.Report}, "011" + zeros(51)},
		{api.Message{Kind: api.Report, Train: 1}, "011 000001" + zeros(45)},
		{api.Message{Kind: api.Report, Train: 63}, "011 111111" + zeros(45)},
		{api.Message{Kind: api.Report, Time: 1}, "011" + zeros(30) + "1" + zeros(20)},
		{api.Message{Kind: api.Report, Time: api.MaxTime}, "011 000000 1" + zeros(44)},
		{api.Message{Kind: api.Report, Dir: 1}, "011" + zeros(31) + "1" + zeros(19)},
		{api.Message{Kind: api.Report, Ahead: 1}, "011" + zeros(45) + "1" + zeros(5)},
		{api.Message{Kind: api.Report, Ahead: api.MaxLen}, "011" + zeros(32) + "10011100010000" + zeros(5)},
		{api.Message{Kind: api.Report, Whole: true}, "011" + zeros(46) + "1 0000"},
		{api.Message{Kind: api.Report, Trail: []int{}}, "011" + zeros(51)},
		{api.Message{Kind: api.Report, Trail: []int{0}}, "011" + zeros(47) + "0001 000000"},
		{api.Message{Kind: api.Report, Trail: []int{31}}, "011" + zeros(47) + "0001 011111"},
		{api.Message{Kind: api.Move}, "110" + zeros(35)},
		{api.Message{Kind: api.Move, Trail: []int{63}}, "110" + zeros(31) + "0001 111111"},
		{api.Message{Kind: api.Move, Trail: make([]int, 15)}, "110" + zeros(31) + "1111" + zeros(90)},
		{api.Message{Kind: api.Accept, Time: 1}, "100" + zeros(30) + "1"},
	} {
		if got, want := Encode(c.m), spaced(c.text); !bytes.Equal(got, want) {
			t.Errorf("%+v: %x, not %x", c.m, got, want)
		}
		if m, e := Decode(spaced(c.text)); e != api.OK || !alike(m, c.m) {
			t.Errorf("%+v came back as %+v, %d", c.m, m, e)
		}
	}
}

func TestDecodeIsBack(t *testing.T) {
	n := numbers(2)
	all := messages()
	for i := range 3000 {
		all = append(all, n.message(byte(1+i%6)))
	}
	for _, m := range all {
		before := copied(m)
		p := Encode(m)
		if !bytes.Equal(p, crc.Close(packed(text(m)))) {
			t.Fatalf("%+v: %x", m, p)
		}
		got, e := Decode(p)
		if e != api.OK || !alike(got, m) || !Same(got, m) || !Same(m, got) {
			t.Fatalf("%+v came back as %+v, %d", m, got, e)
		}
		if !reflect.DeepEqual(m, before) {
			t.Fatalf("%+v was written into: %+v", before, m)
		}
	}
}

func TestEncodeLaysTheLowestBits(t *testing.T) {
	great := api.Message{Train: 64 + 5, Time: 1<<25 + 3, Dir: 6, Ahead: 1<<14 + 7, Trail: []int{64, -1, math.MinInt, math.MaxInt, 1<<32 + 9}}
	low := api.Message{Train: 5, Time: 3, Dir: 0, Ahead: 7, Trail: []int{0, 63, 0, 63, 9}}
	negative := api.Message{Train: -1, Time: -2, Dir: -3, Ahead: -4, Trail: []int{-5}}
	turned := api.Message{Train: 63, Time: 1<<25 - 2, Dir: 1, Ahead: 1<<14 - 4, Trail: []int{59}}
	least := api.Message{Train: math.MinInt, Time: math.MinInt64, Dir: math.MinInt, Ahead: math.MinInt}
	most := api.Message{Train: math.MaxInt, Time: math.MaxInt64, Dir: math.MaxInt, Ahead: math.MaxInt}
	full := api.Message{Train: 63, Time: 1<<25 - 1, Dir: 1, Ahead: 1<<14 - 1}
	for _, c := range []struct{ m, low api.Message }{
		{great, low}, {negative, turned}, {least, api.Message{}}, {most, full},
	} {
		for _, kind := range []byte{api.Report, api.Move, api.Open, api.Refuse} {
			m, low := copied(c.m), copied(c.low)
			m.Kind, low.Kind = kind, kind
			if !bytes.Equal(Encode(m), Encode(low)) || !bytes.Equal(Encode(m), crc.Close(packed(text(low)))) {
				t.Errorf("%+v: %x, not %x", m, Encode(m), Encode(low))
			}
		}
		c.m.Kind, c.low.Kind = api.Report, api.Report
		if m, e := Decode(Encode(c.m)); e != api.OK || !alike(m, c.low) {
			t.Errorf("%+v came back as %+v, %d", c.m, m, e)
		}
	}
}

// Each bit of each number is laid, and no bit above its width.
func TestEncodeOfEachBit(t *testing.T) {
	for bit := range 64 {
		n := int64(1) << bit
		for _, m := range []api.Message{
			{Train: int(n)}, {Time: n}, {Dir: int(n)}, {Ahead: int(n)},
			{Trail: []int{int(n), 0}}, {Trail: []int{0, int(n)}}, {Train: -int(n), Time: -n, Ahead: -int(n), Dir: -int(n), Trail: []int{-int(n)}},
		} {
			for kind := range 256 {
				m.Kind = byte(kind)
				if got, want := Encode(m), crc.Close(packed(text(m))); !bytes.Equal(got, want) {
					t.Fatalf("%+v: %x, not %x", m, got, want)
				}
			}
		}
	}
}

func TestEncodeOfOtherKinds(t *testing.T) {
	for kind := range 256 {
		if kind == api.Report || kind == api.Move {
			continue
		}
		m := api.Message{Kind: byte(kind), Train: 9, Time: 17, Dir: 1, Ahead: 77, Whole: true, Trail: []int{1, 2, 3}}
		p := Encode(m)
		if want := spaced(lowest(int64(kind), 3) + "001001" + lowest(17, 25)); !bytes.Equal(p, want) {
			t.Fatalf("Kind %d: %x, not %x", kind, p, want)
		}
		switch low := byte(kind % 8); low {
		case 0, 7:
			checkNone(t, p, api.ErrForm)
		case api.Report:
			checkNone(t, p, api.ErrShort)
		default: // of a Move, too: the noughts up to a whole byte are its count
			if got, e := Decode(p); e != api.OK || !alike(got, api.Message{Kind: low, Train: 9, Time: 17}) {
				t.Fatalf("Kind %d: %+v, %d", kind, got, e)
			}
		}
	}
}

func TestDecodeTellsOpensError(t *testing.T) {
	checkNone(t, nil, api.ErrShort)
	checkNone(t, []byte{}, api.ErrShort)
	for b := range 256 {
		checkNone(t, []byte{byte(b)}, api.ErrShort)
	}
	for n := 1; n < 1<<16; n++ {
		checkNone(t, []byte{byte(n), byte(n >> 8)}, api.ErrSum)
	}
	for _, text := range []string{"000", "111" + ones(40), "001", "011" + zeros(40), "001" + zeros(40), "110" + ones(200)} {
		p := spaced(text)
		p[len(p)-1] ^= 0x80
		checkNone(t, p, api.ErrSum)
		checkNone(t, p[:len(p)-1], api.ErrSum)
	}
}

func TestDecodeOfNoBits(t *testing.T) {
	checkNone(t, crc.Close(nil), api.ErrShort)
	checkNone(t, []byte{0, 0}, api.ErrShort)
}

// The Kind is told ahead of an end that comes too soon, and of what is left.
func TestDecodeOfNoKind(t *testing.T) {
	for _, kind := range []string{"000", "111"} {
		for size := range 200 {
			checkNone(t, spaced(kind+zeros(size)), api.ErrForm)
			checkNone(t, spaced(kind+ones(size)), api.ErrForm)
		}
	}
	for b := range 256 {
		want := api.ErrShort
		if b>>5 == 0 || b>>5 == 7 {
			want = api.ErrForm
		}
		checkNone(t, crc.Close([]byte{byte(b)}), want)
	}
}

func TestDecodeOfBytesThatEndTooSoon(t *testing.T) {
	for _, m := range messages() {
		whole := text(m)
		body := packed(whole)
		for size := 1; size < len(body); size++ {
			checkNone(t, crc.Close(body[:size]), api.ErrShort)
		}
		told := map[api.Errno]bool{}
		for size := range len(whole) + 1 {
			told[checkRead(t, packed(whole[:size]))] = true
		}
		if !told[api.OK] || !told[api.ErrShort] {
			t.Fatalf("%+v: %v", m, told)
		}
	}
}

// The last whole byte that is missing is enough, wherever the bits end in it.
func TestDecodeOfEachEnd(t *testing.T) {
	for _, c := range []struct {
		text string
		want api.Errno
	}{
		{"001" + zeros(29), api.ErrShort},
		{"001" + zeros(31), api.OK},
		{"011" + zeros(31), api.ErrShort},
		{"011" + zeros(45), api.ErrShort},
		{"011" + zeros(51), api.OK},
		{"011" + zeros(47) + "0001 00", api.ErrShort},
		{"011" + zeros(47) + "0001 000000", api.OK},
		{"011" + zeros(47) + "0011" + zeros(10), api.ErrShort},
		{"011" + zeros(47) + "0011" + zeros(18), api.OK},
		{"011" + zeros(47) + "1111" + zeros(82), api.ErrShort},
		{"011" + zeros(47) + "1111" + zeros(90), api.OK},
		{"110" + zeros(29), api.ErrShort},
		{"110" + zeros(35), api.OK},
		{"110" + zeros(31) + "0001 00", api.ErrShort},
		{"110" + zeros(31) + "0001 000000", api.OK},
		{"110" + zeros(31) + "0011" + zeros(10), api.ErrShort},
		{"110" + zeros(31) + "0011" + zeros(18), api.OK},
		{"110" + zeros(31) + "1111" + zeros(82), api.ErrShort},
		{"110" + zeros(31) + "1111" + zeros(90), api.OK},
	} {
		if _, e := Decode(spaced(c.text)); e != c.want {
			t.Errorf("%s: %d, not %d", c.text, e, c.want)
		}
	}
}

func TestDecodeOfWhatIsLeft(t *testing.T) {
	ends := map[int]bool{}
	for _, m := range messages() {
		whole := text(m)
		left := len(packed(whole))*8 - len(whole)
		ends[left] = true
		for size := 1; size <= left; size++ {
			if got, e := Decode(spaced(whole + zeros(size))); e != api.OK || !alike(got, m) {
				t.Fatalf("%+v and %d noughts: %+v, %d", m, size, got, e)
			}
			checkNone(t, spaced(whole+zeros(size-1)+"1"), api.ErrForm)
		}
		for more := range 40 {
			checkNone(t, spaced(whole+zeros(left+1+more)), api.ErrForm)
			checkNone(t, spaced(whole+zeros(left+more)+"1"), api.ErrForm)
		}
		checkNone(t, crc.Close(Encode(m)), api.ErrForm)
	}
	if !reflect.DeepEqual(ends, map[int]bool{0: true, 2: true, 4: true, 6: true}) {
		t.Error("the messages end elsewhere:", ends)
	}
}

func TestOneBitTurned(t *testing.T) {
	for _, m := range messages() {
		p := Encode(m)
		for bit := range len(p) * 8 {
			turned := bytes.Clone(p)
			turned[bit/8] ^= 0x80 >> (bit % 8)
			checkNone(t, turned, api.ErrSum)
			if body := turned[:len(p)-2]; bit/8 < len(body) {
				checkRead(t, body)
				if got, e := Decode(crc.Close(body)); e == api.OK && alike(got, m) {
					t.Fatalf("%+v: bit %d is turned unseen", m, bit)
				}
			}
		}
	}
}

// Whatever bytes are: they are a message's and its own, or an error.
func TestDecodeOfAnyBytes(t *testing.T) {
	n := numbers(3)
	told := map[api.Errno]int{}
	for i := range 1 << 16 {
		checkRead(t, []byte{byte(i >> 8), byte(i)})
	}
	for range 40000 {
		told[checkRead(t, n.spoilt())]++
	}
	if told[api.OK] < 500 || told[api.ErrShort] < 500 || told[api.ErrForm] < 500 || len(told) != 3 {
		t.Error(told)
	}
	for range 20000 {
		p := make([]byte, n.below(20))
		for i := range p {
			p[i] = byte(n.below(256))
		}
		if m, e := Decode(p); e != api.OK && !alike(m, api.Message{}) {
			t.Fatalf("%x is %d, and %+v", p, e, m)
		}
	}
}

// Of a longer Trail nothing is promised but that the calls end, and that they
// write into nothing.
func TestCallsEnd(t *testing.T) {
	for _, size := range []int{16, 17, 31, 32, 255, 256, 100000} {
		for kind := range 256 {
			if size > 1000 && kind > 8 {
				break
			}
			m := api.Message{Kind: byte(kind), Train: math.MinInt, Time: math.MinInt64, Dir: math.MinInt, Ahead: math.MaxInt, Trail: slices.Repeat([]int{math.MinInt + 5}, size)}
			Decode(Encode(m))
			if !Same(m, m) || Same(m, api.Message{Kind: byte(kind)}) || m.Trail[size-1] != math.MinInt+5 {
				t.Fatal(kind, size)
			}
		}
	}
	Decode(make([]byte, 1<<20))
	Decode(crc.Close(bytes.Repeat([]byte{0x7f}, 1<<20)))
}

func report() api.Message {
	return api.Message{Kind: api.Report, Train: 5, Time: 9, Dir: 1, Ahead: 3, Whole: true, Trail: []int{2, 1, 4}}
}

// changes each make one thing of a message another one.
func changes() map[string]func(m *api.Message) {
	return map[string]func(m *api.Message){
		"the Kind":           func(m *api.Message) { m.Kind = api.Move },
		"the Kind's width":   func(m *api.Message) { m.Kind += 8 },
		"the train":          func(m *api.Message) { m.Train++ },
		"the train's width":  func(m *api.Message) { m.Train += 64 },
		"the train's sign":   func(m *api.Message) { m.Train = -m.Train },
		"the time":           func(m *api.Message) { m.Time-- },
		"the time's width":   func(m *api.Message) { m.Time += 1 << 25 },
		"the time's height":  func(m *api.Message) { m.Time += 1 << 40 },
		"Dir":                func(m *api.Message) { m.Dir = 0 },
		"Dir's width":        func(m *api.Message) { m.Dir += 2 },
		"Ahead":              func(m *api.Message) { m.Ahead++ },
		"Ahead's width":      func(m *api.Message) { m.Ahead += 1 << 14 },
		"Whole":              func(m *api.Message) { m.Whole = false },
		"the trail's first":  func(m *api.Message) { m.Trail[0]++ },
		"the trail's middle": func(m *api.Message) { m.Trail[1]-- },
		"the trail's last":   func(m *api.Message) { m.Trail[2] += 64 },
		"the trail's order":  func(m *api.Message) { slices.Reverse(m.Trail) },
		"a trail longer":     func(m *api.Message) { m.Trail = append(m.Trail, 0) },
		"a trail shorter":    func(m *api.Message) { m.Trail = m.Trail[:2] },
		"a trail's first":    func(m *api.Message) { m.Trail = m.Trail[1:] },
		"no trail":           func(m *api.Message) { m.Trail = nil },
	}
}

func TestSameOfOneThingUnlike(t *testing.T) {
	for name, change := range changes() {
		for kind := range 256 {
			a, b := report(), report()
			change(&b)
			if !strings.HasPrefix(name, "the Kind") {
				a.Kind, b.Kind = byte(kind), byte(kind)
			}
			first, second := copied(a), copied(b)
			if Same(a, b) || Same(b, a) {
				t.Fatalf("%s, Kind %d: the same", name, kind)
			}
			if !Same(a, first) || !Same(b, second) {
				t.Fatalf("%s, Kind %d: it isn't the same as itself", name, kind)
			}
			if !reflect.DeepEqual(a, first) || !reflect.DeepEqual(b, second) {
				t.Fatalf("%s: Same wrote into what it was handed", name)
			}
		}
	}
}

func TestSame(t *testing.T) {
	if !Same(api.Message{}, api.Message{}) || !Same(report(), report()) {
		t.Error("a message isn't the same as itself")
	}
	if Same(report(), api.Message{}) || Same(api.Message{}, report()) {
		t.Error("something is like nothing")
	}
	empty := api.Message{Trail: []int{}}
	if !Same(empty, api.Message{}) || !Same(api.Message{}, empty) {
		t.Error("nil is not like an empty list")
	}
	all := messages()
	for _, a := range all {
		for _, b := range all {
			if Same(a, b) != alike(a, b) {
				t.Fatalf("%+v and %+v", a, b)
			}
		}
	}
}

func TestEncodeSharesNothing(t *testing.T) {
	m := report()
	first, second := Encode(m), Encode(m)
	want := crc.Close(packed(text(report())))
	for i := range first {
		first[i] = 0xee
	}
	if !reflect.DeepEqual(m, report()) || !bytes.Equal(second, want) {
		t.Error("what was answered is shared")
	}
	for i := range m.Trail {
		m.Trail[i] = 7
	}
	if !bytes.Equal(second, want) {
		t.Error("what was handed in is shared")
	}
	room := []int{2, 1, 4, 8, 8}
	m.Trail = room[:3]
	Encode(m)
	if fmt.Sprint(room) != "[2 1 4 8 8]" {
		t.Error("Encode wrote behind what it was handed", room)
	}
}

func TestDecodeSharesNothing(t *testing.T) {
	p := Encode(report())
	before := bytes.Clone(p)
	first, _ := Decode(p)
	second, _ := Decode(p)
	for i := range first.Trail {
		first.Trail[i] = 7
	}
	_ = append(first.Trail, 7)
	if !bytes.Equal(p, before) || !alike(second, report()) {
		t.Error("what was answered is shared")
	}
	for i := range p {
		p[i] = 0xee
	}
	if !alike(second, report()) {
		t.Error("what was handed in is shared")
	}
}
