package crc

import (
	"bytes"
	"math/bits"
	"testing"

	"balise/api"
)

// mirrored is the same sum the other way round: the register is told from its
// other end, so that it goes up, and 8005 is a001 told so.
func mirrored(p []byte) uint16 {
	register := uint32(0xffff)
	for _, b := range p {
		register ^= uint32(bits.Reverse8(b)) << 8
		for range 8 {
			register <<= 1
			if register > 0xffff {
				register = register&0xffff ^ 0x8005
			}
		}
	}
	return ^bits.Reverse16(uint16(register))
}

// lists are bytes of all lengths up to 300, each bit of them now 0, now 1.
func lists() [][]byte {
	all := [][]byte{nil}
	next := uint32(1)
	for size := range 301 {
		p := make([]byte, size)
		for i := range p {
			next = next*1664525 + 1013904223
			p[i] = byte(next >> 24)
		}
		all = append(all, p, bytes.Repeat([]byte{0}, size), bytes.Repeat([]byte{0xff}, size))
	}
	return all
}

func TestKnownSums(t *testing.T) {
	for _, c := range []struct {
		text string
		sum  uint16
	}{
		{"", 0},
		{"123456789", 0xb4c8},
		{"\x00", 0xbf40},
		{"\xff", 0xff00},
		{"\xff\xff", 0xffff},
	} {
		if got := Of([]byte(c.text)); got != c.sum {
			t.Errorf("Of(%q) = %04x, not %04x", c.text, got, c.sum)
		}
	}
	if Of(nil) != 0 {
		t.Error("the sum of nothing")
	}
}

func TestOfEveryPairOfBytes(t *testing.T) {
	for a := range 256 {
		if p := []byte{byte(a)}; Of(p) != mirrored(p) {
			t.Fatalf("Of(%x) = %04x, not %04x", p, Of(p), mirrored(p))
		}
		for b := range 256 {
			if p := []byte{byte(a), byte(b)}; Of(p) != mirrored(p) {
				t.Fatalf("Of(%x) = %04x, not %04x", p, Of(p), mirrored(p))
			}
		}
	}
}

func TestOfLists(t *testing.T) {
	for _, p := range lists() {
		before := bytes.Clone(p)
		if Of(p) != mirrored(p) {
			t.Fatalf("Of(%x) = %04x, not %04x", p, Of(p), mirrored(p))
		}
		if !bytes.Equal(p, before) {
			t.Fatalf("Of wrote into %x: %x", before, p)
		}
	}
}

func TestCloseLaysTheLowerByteFirst(t *testing.T) {
	if got := Close([]byte("123456789")); string(got) != "123456789\xc8\xb4" {
		t.Errorf("%x", got)
	}
	if got := Close([]byte{0}); !bytes.Equal(got, []byte{0, 0x40, 0xbf}) {
		t.Errorf("%x", got)
	}
	for i, p := range [][]byte{nil, {}} {
		if got := Close(p); !bytes.Equal(got, []byte{0, 0}) {
			t.Errorf("%d: of nothing: %x", i, got)
		}
	}
	for _, p := range lists() {
		sum := mirrored(p)
		want := append(bytes.Clone(p), byte(sum), byte(sum>>8))
		if got := Close(p); !bytes.Equal(got, want) {
			t.Fatalf("Close(%x) = %x", p, got)
		}
	}
}

func TestOpenIsBack(t *testing.T) {
	for _, p := range lists() {
		got, e := Open(Close(p))
		if e != api.OK || !bytes.Equal(got, p) {
			t.Fatalf("%x came back as %x, %d", p, got, e)
		}
	}
	if got, e := Open([]byte{0, 0}); e != api.OK || len(got) != 0 {
		t.Errorf("the sum of none: %x, %d", got, e)
	}
}

func TestOpenOfTooFew(t *testing.T) {
	checkNone(t, nil, api.ErrShort)
	checkNone(t, []byte{}, api.ErrShort)
	for b := range 256 {
		checkNone(t, []byte{byte(b)}, api.ErrShort)
	}
}

func TestOpenOfTwo(t *testing.T) {
	for n := 1; n < 1<<16; n++ {
		checkNone(t, []byte{byte(n), byte(n >> 8)}, api.ErrSum)
	}
}

func TestOpenOfAnotherSum(t *testing.T) {
	checkNone(t, []byte("123456789\xb4\xc8"), api.ErrSum)
	checkNone(t, []byte("123456788\xc8\xb4"), api.ErrSum)
	checkNone(t, []byte("123456789"), api.ErrSum)
	closed := Close([]byte("balise"))
	for n := range 1 << 16 {
		p := append([]byte("balise"), byte(n), byte(n>>8))
		if bytes.Equal(p, closed) {
			continue
		}
		checkNone(t, p, api.ErrSum)
	}
}

func TestOneBitTurned(t *testing.T) {
	for _, p := range [][]byte{{}, {0}, []byte("123456789"), bytes.Repeat([]byte{0}, 100), bytes.Repeat([]byte{0xff}, 100)} {
		closed := Close(p)
		for bit := range len(closed) * 8 {
			turned := bytes.Clone(closed)
			turned[bit/8] ^= 1 << (bit % 8)
			checkNone(t, turned, api.ErrSum)
		}
	}
}

// checkNone wants an error, nothing beside it, and p as it was.
func checkNone(t *testing.T, p []byte, want api.Errno) {
	t.Helper()
	before := bytes.Clone(p)
	if got, e := Open(p); e != want || len(got) != 0 {
		t.Fatalf("Open(%x) = %x, %d", p, got, e)
	}
	if !bytes.Equal(p, before) {
		t.Fatalf("Open wrote into %x: %x", before, p)
	}
}

func TestCloseSharesNothing(t *testing.T) {
	all := []byte{1, 2, 3, 4, 5, 6}
	p := all[:3]
	first, second := Close(p), Close(p)
	if !bytes.Equal(all, []byte{1, 2, 3, 4, 5, 6}) {
		t.Fatalf("Close wrote behind what it was handed: %x", all)
	}
	writeOver(first)
	if !bytes.Equal(p, []byte{1, 2, 3}) || !bytes.Equal(second, Close(p)) {
		t.Error("what was answered is shared")
	}
	writeOver(p)
	if !bytes.Equal(second, Close([]byte{1, 2, 3})) {
		t.Error("what was handed in is shared")
	}
}

func TestOpenSharesNothing(t *testing.T) {
	p := Close([]byte{1, 2, 3})
	before := bytes.Clone(p)
	first, _ := Open(p)
	second, _ := Open(p)
	_ = append(first, 7, 7)
	writeOver(first)
	if !bytes.Equal(p, before) || !bytes.Equal(second, []byte{1, 2, 3}) {
		t.Error("what was answered is shared")
	}
	writeOver(p)
	if !bytes.Equal(second, []byte{1, 2, 3}) {
		t.Error("what was handed in is shared")
	}
}

func writeOver(p []byte) {
	for i := range p {
		p[i] = 0xee
	}
}
