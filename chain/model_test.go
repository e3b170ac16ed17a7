package chain

// This file holds what the package tells against a second reckoning: a train
// that goes on metre by metre, by where the nodes lie.

import (
	"slices"
	"testing"

	"balise/api"
	"balise/graph"
	"balise/train"
	"balise/verify"
)

// row is so many sections one behind the other to the east, every other one of
// them laid to the west.
func row(count int) api.Layout {
	l := api.Layout{Nodes: []complex128{0}, Parts: [][]int{nil}, Speed: 40, Mute: 20, Wait: 10, Cancel: 3}
	for i := range count {
		l.Nodes = append(l.Nodes, complex(float64(100*(i+1)), 0))
		s := api.Section{Len: 100 + i, A: i, B: i + 1}
		if i%2 == 1 {
			s.A, s.B = s.B, s.A
		}
		l.Sections = append(l.Sections, s)
		l.Parts[0] = append(l.Parts[0], i)
	}
	return l
}

// longRow is as many sections as may be, as long as may be, to the east.
func longRow() api.Layout {
	l := api.Layout{Nodes: []complex128{0}, Parts: [][]int{nil}, Speed: api.MaxLen, Mute: 20, Wait: 10, Cancel: 3}
	for i := range api.MaxSections {
		l.Nodes = append(l.Nodes, complex(float64(api.MaxLen*(i+1)), 0))
		l.Sections = append(l.Sections, api.Section{Len: api.MaxLen, A: i, B: i + 1})
		l.Parts[0] = append(l.Parts[0], i)
	}
	return l
}

// fork is a section 0, a stem 1 behind it, and 2 to the left of that, 3 to the
// right.
func fork() api.Layout {
	return api.Layout{
		Nodes:    []complex128{0, 100, 200, 300 + 50i, 300 - 50i},
		Sections: []api.Section{{Len: 100, A: 0, B: 1}, {Len: 100, A: 2, B: 1}, {Len: 120, A: 2, B: 3}, {Len: 130, A: 4, B: 2}},
		Parts:    [][]int{{0}, {1}, {2, 3}},
		Points:   []api.Point{{Node: 2, Stem: 1, Left: 2, Right: 3}},
		Speed:    40, Mute: 20, Wait: 10, Cancel: 3,
	}
}

// loop is a track that parts into two ways, which come together again.
func loop() api.Layout {
	return api.Layout{
		Nodes: []complex128{0, 100, 200 + 50i, 200 - 50i, 300, 400},
		Sections: []api.Section{{Len: 100, A: 0, B: 1}, {Len: 112, A: 1, B: 2}, {Len: 112, A: 4, B: 2},
			{Len: 112, A: 1, B: 3}, {Len: 112, A: 3, B: 4}, {Len: 100, A: 5, B: 4}},
		Parts:  [][]int{{0}, {1, 2}, {3, 4}, {5}},
		Points: []api.Point{{Node: 4, Stem: 5, Left: 4, Right: 2}, {Node: 1, Stem: 0, Left: 1, Right: 3}},
		Speed:  40, Mute: 20, Wait: 10, Cancel: 3,
	}
}

// narrowLoop is one whose two ways are a section each, between the same nodes.
func narrowLoop() api.Layout {
	return api.Layout{
		Nodes:    []complex128{0, 100, 200, 300},
		Sections: []api.Section{{Len: 100, A: 0, B: 1}, {Len: 110, A: 1, B: 2}, {Len: 120, A: 2, B: 1}, {Len: 100, A: 2, B: 3}},
		Parts:    [][]int{{0, 1, 2, 3}},
		Points:   []api.Point{{Node: 1, Stem: 0, Left: 1, Right: 2}, {Node: 2, Stem: 3, Left: 2, Right: 1}},
		Speed:    100, Mute: 1, Wait: 1, Cancel: 1,
	}
}

// ring is a track without an end, of eight sections.
func ring() api.Layout {
	l := api.Layout{
		Nodes: []complex128{0, 100, 200 + 100i, 200 + 200i, 100 + 300i, 300i, -100 + 200i, -100 + 100i},
		Parts: [][]int{{7, 6, 5, 4}, {0, 1, 2, 3}},
		Speed: 40, Mute: 20, Wait: 10, Cancel: 3,
	}
	for i := range l.Nodes {
		s := api.Section{Len: 142, A: i, B: (i + 1) % len(l.Nodes)}
		if i%3 == 2 {
			s.A, s.B = s.B, s.A
		}
		l.Sections = append(l.Sections, s)
	}
	return l
}

// turning is a stem 0 whose left and right are the two ends of one way, by
// which a train comes back the other way round.
func turning() api.Layout {
	return api.Layout{
		Nodes: []complex128{0, 100, 200 + 100i, 300 + 100i, 350, 300 - 100i, 200 - 100i},
		Sections: []api.Section{{Len: 100, A: 0, B: 1}, {Len: 142, A: 1, B: 2}, {Len: 100, A: 3, B: 2}, {Len: 112, A: 3, B: 4},
			{Len: 112, A: 5, B: 4}, {Len: 100, A: 5, B: 6}, {Len: 142, A: 1, B: 6}},
		Parts:  [][]int{{0}, {1, 2, 3, 4, 5, 6}},
		Points: []api.Point{{Node: 1, Stem: 0, Left: 1, Right: 6}},
		Speed:  40, Mute: 20, Wait: 10, Cancel: 3,
	}
}

func layouts() map[string]api.Layout {
	return map[string]api.Layout{"row": row(3), "long row": row(14), "fork": fork(), "loop": loop(), "narrow loop": narrowLoop(), "ring": ring(), "turning": turning(), "longest row": longRow()}
}

func TestLayoutsAreRight(t *testing.T) {
	for name, l := range layouts() {
		if n, at := verify.First(l); n != 0 {
			t.Errorf("%s breaks rule %d at %d", name, n, at)
		}
	}
}

// far tells a section's other node.
func far(s api.Section, node int) int {
	return s.A + s.B - node
}

// straightOn tells whether a section lies straight on where another one ends.
// (In these layouts a point's left doesn't lie so from its right.)
func straightOn(l api.Layout, from, node, to int) bool {
	s, u := l.Sections[from], l.Sections[to]
	if u.A != node && u.B != node || from == to {
		return false
	}
	a, b := l.Nodes[node]-l.Nodes[far(s, node)], l.Nodes[far(u, node)]-l.Nodes[node]
	return real(a)*real(b)+imag(a)*imag(b) > 0
}

// stands tells whether a point at that node, if there is one, joins these.
func stands(l api.Layout, node int, right []bool, a, b int) bool {
	for i, p := range l.Points {
		leg := p.Left
		if i < len(right) && right[i] {
			leg = p.Right
		}
		if p.Node == node && leg != a && leg != b {
			return false
		}
	}
	return true
}

// open tells the sections into which a train may come, as the points stand.
func open(l api.Layout, from, node int, right []bool) []int {
	var all []int
	for to := range l.Sections {
		if straightOn(l, from, node, to) && stands(l, node, right, from, to) {
			all = append(all, to)
		}
	}
	return all
}

// gone is the second reckoning: where a train may be that goes on by so many
// metres, and the end that its foremost section is left at.
func gone(l api.Layout, x train.Train, metres int, right []bool) ([]int, api.End) {
	if len(x.Trail) == 0 {
		return nil, api.End{Section: -1}
	}
	span, left := slices.Clone(x.Trail), x.Ahead
	node := []int{l.Sections[span[0]].A, l.Sections[span[0]].B}[x.Dir]
	for range metres {
		if left == 0 {
			next := open(l, span[0], node, right)
			if len(next) == 0 || slices.Contains(span, next[0]) {
				break
			}
			span = append(next[:1:1], span...)
			node = far(l.Sections[span[0]], node)
			left = l.Sections[span[0]].Len
		}
		left--
	}
	front := api.End{Section: span[0]}
	if l.Sections[span[0]].B == node {
		front.End = 1
	}
	return span, front
}

// numbers tells numbers by a rule, so that each run tries the same ones.
type numbers uint32

func (n *numbers) below(m int) int {
	*n = *n*1664525 + 1013904223
	return int(*n>>8) % m
}

// points tells by chance how points stand, at times of fewer than there are, or
// of more.
func (n *numbers) points() []bool {
	right := make([]bool, n.below(4))
	for i := range right {
		right[i] = n.below(2) == 0
	}
	return right
}

// report tells a Report by chance: it goes back from a section as far as it
// comes, but through no more sections than that.
func (n *numbers) report(l api.Layout, now int64, count int) api.Message {
	at, dir := n.below(len(l.Sections)), n.below(2)
	m := api.Message{Kind: api.Report, Train: 4, Time: now, Dir: dir, Whole: n.below(2) == 0, Trail: []int{at}}
	m.Ahead = []int{0, n.below(l.Sections[at].Len + 1), l.Sections[at].Len}[n.below(3)]
	node := []int{l.Sections[at].B, l.Sections[at].A}[dir]
	for len(m.Trail) < count {
		var back []int
		for to := range l.Sections {
			if straightOn(l, at, node, to) && !slices.Contains(m.Trail, to) {
				back = append(back, to)
			}
		}
		if len(back) == 0 {
			break
		}
		at = back[n.below(len(back))]
		node = far(l.Sections[at], node)
		m.Trail = append(m.Trail, at)
	}
	return m
}

// hold holds Span and Front against the second reckoning, and tells the Span.
func hold(t *testing.T, name string, l api.Layout, g *graph.Graph, x train.Train, now int64, speed int, right []bool) []int {
	t.Helper()
	want, end := gone(l, x, speed*int(now-x.Heard), right)
	got := Span(g, x, now, speed, right)
	if !slices.Equal(got, want) {
		t.Fatalf("%s: %v at tick %d, speed %d, points %v: Span is %v, not %v", name, x, now, speed, right, got, want)
	}
	if front := Front(g, x, now, speed, right); front != end {
		t.Fatalf("%s: %v at tick %d, speed %d, points %v: Front is %v, not %v", name, x, now, speed, right, front, end)
	}
	return got
}

// A train reports now and then, whole or not, while points move: what it may
// have come into is handed on to its next Report, as it is by a center.
func TestAgainstMetres(t *testing.T) {
	for name, l := range layouts() {
		g, spans := graph.New(l), map[int]int{}
		for seed := range 60 {
			n, r := numbers(seed), train.New()
			speed, right := 1+n.below(l.Speed), n.points()
			r.Open(4, 0)
			for now := range int64(60) {
				if n.below(8) == 0 {
					right = n.points()
				}
				x, _ := r.Get(4)
				was := hold(t, name, l, g, x, now, speed, right)
				spans[len(was)]++
				if n.below(6) == 0 || now == 0 {
					if e := r.Note(g, now, n.report(l, now, 1+n.below(api.MaxPath)), was); e != api.OK {
						t.Fatalf("%s: Note is %d", name, e)
					}
					x, _ = r.Get(4)
					hold(t, name, l, g, x, now, speed, right)
				}
			}
		}
		if spans[0] == 0 || spans[1] == 0 || len(spans) < 4 {
			t.Errorf("%s: Spans of so many sections: %v", name, spans)
		}
	}
}

// Each number of metres about the edges between sections, one by one.
func TestEachMetre(t *testing.T) {
	for name, l := range layouts() {
		if name == "longest row" {
			continue
		}
		g := graph.New(l)
		for seed := range 12 {
			n := numbers(seed)
			m, right := n.report(l, 0, 1+n.below(4)), n.points()
			if !train.Fits(g, m) {
				t.Fatalf("%s: %v doesn't fit", name, m)
			}
			x := train.Train{ID: 4, Dir: m.Dir, Ahead: m.Ahead, Trail: m.Trail}
			for metres := range 400 {
				hold(t, name, l, g, x, int64(metres), 1, right)
				hold(t, name, l, g, x, 1, metres, right)
			}
		}
	}
}

func TestMeetsAgainstEachPair(t *testing.T) {
	n, met := numbers(7), map[bool]int{}
	for range 50000 {
		span, sections := make([]int, n.below(7)), make([]int, n.below(7))
		most, want := 1+n.below(20), false
		for _, list := range [][]int{span, sections} {
			for i := range list {
				list[i] = n.below(most+2) - 1
			}
		}
		for _, a := range span {
			for _, b := range sections {
				want = want || a == b
			}
		}
		met[want]++
		if Meets(span, sections) != want {
			t.Fatalf("Meets(%v, %v) is %v", span, sections, !want)
		}
	}
	if met[true] < 1000 || met[false] < 1000 {
		t.Errorf("lists meet so often: %v", met)
	}
}

// Whatever is handed in, a call ends; and it tells of what may be where the
// train may be.
func FuzzSpan(f *testing.F) {
	f.Add(int64(10), int64(12), 5, 1, 5, []byte{0}, byte(0))
	f.Add(int64(0), int64(api.MaxTime), api.MaxLen, 0, 30, []byte{2, 1, 0}, byte(1))
	f.Add(int64(5), int64(5), 0, 1, 0, []byte{5, 4, 3}, byte(3))
	f.Fuzz(func(t *testing.T, heard, now int64, speed, dir, ahead int, sections []byte, points byte) {
		l := loop()
		g, x := graph.New(l), train.Train{Heard: heard, Dir: dir, Ahead: ahead}
		for _, section := range sections {
			x.Trail = append(x.Trail, int(int8(section)))
		}
		right := []bool{points&1 != 0, points&2 != 0}
		span, front := Span(g, x, now, speed, right), Front(g, x, now, speed, right)
		inTime := heard >= 0 && heard <= now && now <= api.MaxTime && speed >= 0 && speed <= api.MaxLen
		if !inTime || !train.Fits(g, api.Message{Dir: dir, Ahead: ahead, Trail: x.Trail}) {
			return
		}
		// No way in this layout is longer than that.
		metres := min(now-heard, int64(2000)) * int64(speed)
		want, end := gone(l, x, int(min(metres, 2000)), right)
		if !slices.Equal(span, want) || front != end {
			t.Fatalf("Span is %v, Front %v, not %v, %v", span, front, want, end)
		}
	})
}
