package timer

// This file holds the table against a second reckoning: a map, with which all
// is reckoned anew at each call, and numbers of any length.

import (
	"fmt"
	"math"
	"math/big"
	"slices"
	"testing"

	"balise/api"
)

// numbers tells numbers that look like chance, and are the same at each run.
type numbers uint32

func (n *numbers) below(m int) int {
	*n = *n*1664525 + 1013904223
	return int(uint32(*n)>>8) % m
}

// id tells a number of a timer, such that many are told twice.
func (n *numbers) id() int {
	switch n.below(20) {
	case 0:
		return math.MinInt + n.below(2)
	case 1:
		return math.MaxInt - n.below(2)
	}
	return n.below(44) - 22
}

func (n *numbers) tick() int64 {
	switch n.below(12) {
	case 0:
		return math.MinInt64 + int64(n.below(3))
	case 1:
		return math.MaxInt64 - int64(n.below(3))
	case 2:
		return math.MinInt64/2 + int64(n.below(3)) - 1
	case 3:
		return math.MaxInt64/2 + int64(n.below(3)) - 1
	}
	return int64(n.below(30) - 10)
}

type model map[int]int64

func (m model) start(id int, at int64) api.Errno {
	if _, ok := m[id]; !ok && len(m) == 32 {
		return api.ErrFull
	}
	m[id] = at
	return api.OK
}

func (m model) left(id int, now int64) (int64, bool) {
	at, ok := m[id]
	if !ok {
		return 0, false
	}
	d := new(big.Int).Sub(big.NewInt(at), big.NewInt(now))
	switch {
	case d.Sign() < 0:
		return 0, true
	case !d.IsInt64():
		return 1<<63 - 1, true
	}
	return d.Int64(), true
}

// ended takes the least one away, again and again.
func (m model) ended(now int64) []int {
	var ids []int
	for {
		found, best := false, 0
		for id, at := range m {
			if at <= now && (!found || at < m[best] || at == m[best] && id < best) {
				found, best = true, id
			}
		}
		if !found {
			return ids
		}
		ids = append(ids, best)
		delete(m, best)
	}
}

func TestAgainstModel(t *testing.T) {
	seen := map[string]int{}
	for seed := range 300 {
		n := numbers(seed)
		x, m := New(), model{}
		for step := range 200 {
			id, tick := n.id(), n.tick()
			var got, want string
			kind := "start"
			switch n.below(12) {
			case 0:
				kind = "stop"
				_, runs := m[id]
				delete(m, id)
				got, want = fmt.Sprint(x.Stop(id)), fmt.Sprint(runs)
			case 1, 2:
				kind = "left"
				got, want = fmt.Sprint(x.Left(id, tick)), fmt.Sprint(m.left(id, tick))
			case 3:
				if n.below(8) == 0 {
					kind = "ended"
					got, want = fmt.Sprint(x.Ended(tick)), fmt.Sprint(m.ended(tick))
				}
			default:
				got, want = fmt.Sprint(x.Start(id, tick)), fmt.Sprint(m.start(id, tick))
			}
			if got != want || x.Len() != len(m) {
				t.Fatalf("seed %d, step %d: %s(%d, %d) is %s with %d, not %s with %d", seed, step, kind, id, tick, got, x.Len(), want, len(m))
			}
			seen[kind+" "+want]++
		}
		if got, want := x.Ended(math.MaxInt64), m.ended(math.MaxInt64); !slices.Equal(got, want) {
			t.Fatalf("seed %d: at last %v, not %v", seed, got, want)
		}
	}
	for _, k := range []string{"start 0", "start 6", "stop true", "stop false", "left 0 false", "left 0 true", "left 9223372036854775807 true", "ended []"} {
		if seen[k] == 0 {
			t.Errorf("no step was %s", k)
		}
	}
}
