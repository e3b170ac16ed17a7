package bits

import (
	"bytes"
	"math"
	"strconv"
	"strings"
	"testing"
)

// pack lays a text of 0 and 1 into bytes, apart from how a Writer does it.
func pack(text string) []byte {
	text += strings.Repeat("0", (8-len(text)%8)%8)
	var p []byte
	for ; text != ""; text = text[8:] {
		n, err := strconv.ParseUint(text[:8], 2, 8)
		if err != nil {
			panic(err)
		}
		p = append(p, byte(n))
	}
	return p
}

// lowest is a text of n's lowest width bits.
func lowest(n uint64, width int) string {
	text := strconv.FormatUint(n, 2)
	return (strings.Repeat("0", 64-len(text)) + text)[64-width:]
}

// counted is the width that counts.
func counted(width int) int {
	if width < 0 {
		return 0
	}
	if width > 64 {
		return 64
	}
	return width
}

var widths = []int{math.MinInt, -64, -1, 0, 1, 2, 3, 7, 8, 9, 15, 16, 17, 31, 32, 33, 63, 64, 65, 72, 128, 1 << 32, math.MaxInt}

var numbers = []uint64{0, 1, 5, 0x80, 0xabc, 1 << 31, 1 << 32, 1 << 63, 1<<63 | 1, 0x0102030405060708, 0xaaaaaaaaaaaaaaaa, math.MaxUint64}

func TestExample(t *testing.T) {
	var w Writer
	if p := w.Put(5, 3).Flag(true).Bytes(); !bytes.Equal(p, []byte{0xb0}) || w.Len() != 4 {
		t.Errorf("%x %d", p, w.Len())
	}
}

func TestPutOfAllWidths(t *testing.T) {
	for before := range 9 {
		for _, n := range numbers {
			for _, width := range widths {
				w := new(Writer)
				for range before {
					w.Flag(true)
				}
				if w.Put(n, width) != w {
					t.Fatal("Put answers another writer")
				}
				text := strings.Repeat("1", before) + lowest(n, counted(width))
				if got := w.Bytes(); w.Len() != len(text) || !bytes.Equal(got, pack(text)) {
					t.Fatalf("behind %d bits: Put(%x, %d): %d bits, %x", before, n, width, w.Len(), got)
				}
			}
		}
	}
}

func TestFlagsOfWriter(t *testing.T) {
	w, text := new(Writer), ""
	for i := range 40 {
		is := i%3 == 0 || i%7 == 0
		if w.Flag(is) != w {
			t.Fatal("Flag answers another writer")
		}
		if is {
			text += "1"
		} else {
			text += "0"
		}
		if got := w.Bytes(); w.Len() != i+1 || !bytes.Equal(got, pack(text)) {
			t.Fatalf("%d: %d %x", i, w.Len(), got)
		}
	}
}

func TestEmptyWriter(t *testing.T) {
	var w Writer
	if w.Len() != 0 || len(w.Bytes()) != 0 {
		t.Error("a new writer has bits")
	}
	if w.Put(math.MaxUint64, 0).Put(math.MaxUint64, -1); w.Len() != 0 || len(w.Bytes()) != 0 {
		t.Error("a width of 0 lays bits")
	}
}

func TestBytesIsACopy(t *testing.T) {
	w := new(Writer).Put(0xf, 4)
	first := w.Bytes()
	w.Put(0xf, 4).Put(1, 8)
	if !bytes.Equal(first, []byte{0xf0}) {
		t.Errorf("a later Put wrote into what was answered: %x", first)
	}
	second := w.Bytes()
	second[0] = 0
	_ = append(second[:1], 9)
	if got := w.Bytes(); !bytes.Equal(got, []byte{0xff, 1}) {
		t.Errorf("what was answered is the writer's own: %x", got)
	}
}

func TestReadBackAllWidths(t *testing.T) {
	for before := range 9 {
		for _, n := range numbers {
			for _, width := range widths {
				w := new(Writer).Put(0, before).Put(n, width).Put(0x2a5, 10)
				r := NewReader(w.Bytes())
				r.Get(before)
				want := uint64(0)
				if k := counted(width); k > 0 {
					want = n << (64 - k) >> (64 - k)
				}
				if got := r.Get(width); got != want {
					t.Fatalf("behind %d bits: Get(%d) = %x, not %x", before, width, got, want)
				}
				if r.Get(10) != 0x2a5 || !r.OK() || !r.End() || r.Left() != len(w.Bytes())*8-w.Len() {
					t.Fatalf("behind %d bits, and %d: the rest is another one", before, width)
				}
			}
		}
	}
}

func TestFlagsOfReader(t *testing.T) {
	r := NewReader([]byte{0xa5, 0x01})
	for i, want := range "1010010100000001" {
		if got := r.Flag(); got != (want == '1') || r.Left() != 15-i || !r.OK() {
			t.Fatalf("%d: %v, %d left", i, got, r.Left())
		}
	}
	if !r.End() {
		t.Error("all is read, but it isn't the end")
	}
	if r.Flag() || r.OK() || r.End() || r.Left() != 0 {
		t.Error("a flag past the end")
	}
}

func TestReadPastTheEnd(t *testing.T) {
	for size := range 10 {
		for read := 0; read <= size*8; read++ {
			for _, width := range widths {
				left := size*8 - read
				r := NewReader(bytes.Repeat([]byte{0xff}, size))
				for range read {
					r.Flag()
				}
				got := r.Get(width)
				if counted(width) <= left {
					if !r.OK() || r.Left() != left-counted(width) || got != uint64(1)<<counted(width)-1 {
						t.Fatalf("%d left, Get(%d) = %x: %v, %d", left, width, got, r.OK(), r.Left())
					}
					continue
				}
				if got != 0 {
					t.Fatalf("%d left, Get(%d) = %x", left, width, got)
				}
				checkFailed(t, r)
			}
		}
	}
}

// checkFailed asks twice, as what failed stays so.
func checkFailed(t *testing.T, r *Reader) {
	t.Helper()
	for range 2 {
		if r.OK() || r.End() || r.Left() != 0 {
			t.Fatalf("it failed: %v %v %d", r.OK(), r.End(), r.Left())
		}
		if r.Get(0) != 0 || r.Get(-1) != 0 || r.Get(1) != 0 || r.Get(64) != 0 || r.Get(99) != 0 || r.Flag() {
			t.Fatal("it failed, but tells bits")
		}
	}
}

func TestNothingIsReadOfNoWidth(t *testing.T) {
	r := NewReader([]byte{0xff})
	if r.Get(0) != 0 || r.Get(-8) != 0 || r.Get(math.MinInt) != 0 || r.Left() != 8 || !r.OK() {
		t.Error("a width of 0 reads bits")
	}
	r.Get(8)
	if r.Get(0) != 0 || r.Get(-8) != 0 || !r.OK() || !r.End() {
		t.Error("at the end, a width of 0 fails")
	}
}

func TestEnd(t *testing.T) {
	for last := range 256 {
		for read := range 17 {
			r := NewReader([]byte{0, byte(last)})
			r.Get(read)
			left := 16 - read
			want := left < 8 && last&(1<<left-1) == 0
			for range 2 {
				if r.End() != want || r.Left() != left || !r.OK() {
					t.Fatalf("%02x, %d left: %v, then %d left", last, left, r.End(), r.Left())
				}
			}
		}
	}
}

func TestReaderOfNothing(t *testing.T) {
	for i, p := range [][]byte{nil, {}} {
		r := NewReader(p)
		if r == nil || !r.OK() || !r.End() || r.Left() != 0 || r.Get(0) != 0 || !r.OK() {
			t.Fatalf("%d: a reader of no bytes is at its end", i)
		}
		if r.Get(1) != 0 {
			t.Fatalf("%d: a bit of nothing", i)
		}
		checkFailed(t, r)
	}
}

func TestReaderKeepsItsOwn(t *testing.T) {
	p := []byte{0x12, 0x34, 0x56}
	r := NewReader(p[:2])
	p[0], p[1], p[2] = 9, 9, 9
	if got := r.Get(16); got != 0x1234 {
		t.Errorf("what was handed in was written over, and %x was read", got)
	}
	q := []byte{0xab, 0xcd}
	s := NewReader(q)
	s.Get(3)
	s.Flag()
	s.Get(64)
	if !bytes.Equal(q, []byte{0xab, 0xcd}) {
		t.Errorf("reading wrote into what was handed in: %x", q)
	}
}

func TestReadersAreApart(t *testing.T) {
	p := []byte{0xf0}
	a, b := NewReader(p), NewReader(p)
	if a.Get(64) != 0 || a.OK() || b.Get(4) != 0xf || b.Left() != 4 {
		t.Error("one reader changed the other")
	}
}

func TestNilWriterAndReader(t *testing.T) {
	var w *Writer
	if w.Put(5, 3) != nil || w.Flag(true) != nil || w.Flag(false) != nil || w.Put(1, -1) != nil {
		t.Error("a nil writer answers one")
	}
	if w.Len() != 0 || len(w.Bytes()) != 0 {
		t.Error("a nil writer has bits")
	}
	if w.Put(5, 3).Flag(true).Put(0, 99).Len() != 0 {
		t.Error("a nil writer's line of calls")
	}
	var r *Reader
	for _, width := range widths {
		if r.Get(width) != 0 {
			t.Errorf("a nil reader's Get(%d)", width)
		}
	}
	if r.Flag() || r.Left() != 0 || r.OK() || r.End() {
		t.Error("a nil reader tells something")
	}
}
