// Package bits is layer 2: numbers, bit by bit, the highest bit of a byte
// first.
package bits

import "slices"

// most is how many bits a number has.
const most = 64

// Writer lays bits one behind the other. Its zero value has none.
type Writer struct {
	laid  []byte
	count int
}

// Put lays n's lowest width bits, the highest of them first.
func (w *Writer) Put(n uint64, width int) *Writer {
	if w == nil {
		return nil
	}
	width = within(width)
	for i := range width {
		w.lay(byte(n>>(width-1-i)) & 1)
	}
	return w
}

// Flag lays one bit.
func (w *Writer) Flag(is bool) *Writer {
	if is {
		return w.Put(1, 1)
	}
	return w.Put(0, 1)
}

// lay keeps the last byte's unused bits 0, so that Bytes need not fill up.
func (w *Writer) lay(bit byte) {
	used := w.count % 8
	if used == 0 {
		w.laid = append(w.laid, 0)
	}
	w.laid[len(w.laid)-1] |= bit << (7 - used)
	w.count++
}

// Len tells how many bits were laid.
func (w *Writer) Len() int {
	if w == nil {
		return 0
	}
	return w.count
}

// Bytes tells all bits so far, and noughts up to a whole byte. It answers a
// copy, as the last byte may still be laid into.
func (w *Writer) Bytes() []byte {
	if w == nil {
		return nil
	}
	return slices.Clone(w.laid)
}

// within is the width that counts.
func within(width int) int {
	return min(max(width, 0), most)
}

// Reader reads what a Writer laid.
type Reader struct {
	bytes  []byte
	read   int
	failed bool
}

// NewReader reads p from the beginning on. It keeps a copy, as p may be
// written over while the reader is used.
func NewReader(p []byte) *Reader {
	return &Reader{bytes: slices.Clone(p)}
}

// Get reads a number of width bits; if fewer are left, the reader fails.
func (r *Reader) Get(width int) uint64 {
	if r == nil {
		return 0
	}
	width = within(width)
	if width > r.Left() {
		r.fail()
		return 0
	}
	var n uint64
	for range width {
		n = n<<1 | uint64(r.bit(r.read))
		r.read++
	}
	return n
}

// Flag reads one bit.
func (r *Reader) Flag() bool {
	return r.Get(1) == 1
}

// fail lets all bytes go, so that nothing is left from then on.
func (r *Reader) fail() {
	*r = Reader{failed: true}
}

func (r *Reader) bit(at int) byte {
	return r.bytes[at/8] >> (7 - at%8) & 1
}

// Left tells how many bits aren't read yet.
func (r *Reader) Left() int {
	if r == nil {
		return 0
	}
	return len(r.bytes)*8 - r.read
}

// OK tells whether the reader hasn't failed.
func (r *Reader) OK() bool {
	return r != nil && !r.failed
}

// End tells whether all is read, but noughts up to a whole byte.
func (r *Reader) End() bool {
	if !r.OK() || r.Left() >= 8 {
		return false
	}
	for i := range r.Left() {
		if r.bit(r.read+i) != 0 {
			return false
		}
	}
	return true
}
