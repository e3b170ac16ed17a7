package detect

import (
	"testing"

	"balise/api"
)

// numbers tells numbers by a rule, so that each run tries the same ones.
type numbers uint32

func (n *numbers) below(m int) int {
	*n = *n*1664525 + 1013904223
	return int(*n>>8) % m
}

// history is a second reckoning: it keeps all that was ever said of each part,
// and counts anew from the end whenever it is asked.
type history struct {
	said [][]int
	stay int64
}

func (h *history) hear(raw []byte) {
	for part := range h.said {
		word := -1
		for i, b := range raw {
			if i == part {
				word = int(b)
			}
		}
		h.said[part] = append(h.said[part], word)
	}
}

func (h *history) count(part int) int64 {
	n := int64(0)
	if part < 0 || part >= len(h.said) {
		return n
	}
	words := h.said[part]
	for i := len(words) - 1; i >= 0 && words[i] == api.Clear && n <= api.MaxTicks; i-- {
		n++
	}
	return n
}

func (h *history) clear(part int) bool {
	n := h.count(part)
	switch {
	case h.stay < 0:
		return n >= 1
	case h.stay > api.MaxTicks:
		return n == api.MaxTicks+1
	}
	return n >= h.stay+1
}

// hold asks the filter and its history the same of all parts, and of some that
// there aren't.
func hold(t *testing.T, f *Filter, h *history, told []bool) {
	t.Helper()
	if len(told) != len(h.said) {
		t.Fatalf("%d parts are told, not %d", len(told), len(h.said))
	}
	for part := -2; part < len(h.said)+3; part++ {
		if f.Count(part) != h.count(part) || f.Clear(part) != h.clear(part) {
			t.Fatalf("part %d: %d, %v, not %d, %v", part, f.Count(part), f.Clear(part), h.count(part), h.clear(part))
		}
	}
	for part, clear := range told {
		if clear != h.clear(part) {
			t.Fatalf("of part %d is told %v", part, clear)
		}
	}
}

// said tells what detectors say: mostly clear, seldom of too many or too few.
func said(n *numbers, parts, often int) []byte {
	size := parts
	if n.below(often) == 0 {
		size = n.below(parts + 4)
	}
	raw := make([]byte, size)
	for i := range raw {
		if n.below(often) == 0 {
			raw[i] = byte(n.below(256))
		}
	}
	return raw
}

func TestAgainstHistory(t *testing.T) {
	n := numbers(8)
	for round := range 300 {
		parts, stay := n.below(22)-2, int64(n.below(12)-3)
		f := New(parts, stay)
		h := &history{said: make([][]int, min(max(parts, 0), api.MaxParts)), stay: stay}
		for range 60 {
			raw := said(&n, len(h.said), 2+round%15)
			h.hear(raw)
			hold(t, f, h, f.Step(raw))
		}
	}
}

func TestAgainstLongHistory(t *testing.T) {
	n := numbers(80)
	for _, stay := range []int64{least, 0, api.MaxTicks / 2, api.MaxTicks - 1, api.MaxTicks, api.MaxTicks + 1, greatest} {
		f, h := New(3, stay), &history{said: make([][]int, 3), stay: stay}
		for range 4 * api.MaxTicks {
			raw := said(&n, 3, api.MaxTicks)
			h.hear(raw)
			hold(t, f, h, f.Step(raw))
		}
	}
}

// Whatever is handed in, a call ends and answers.
func FuzzStep(f *testing.F) {
	f.Add(1, int64(1), []byte{0, 0, 2})
	f.Add(-1, int64(least), []byte{})
	f.Add(99, int64(greatest), []byte{255, 0})
	f.Fuzz(func(t *testing.T, parts int, stay int64, raw []byte) {
		x, h := New(parts, stay), &history{said: make([][]int, min(max(parts, 0), api.MaxParts)), stay: stay}
		for range 3 {
			h.hear(raw)
			hold(t, x, h, x.Step(raw))
		}
	})
}
