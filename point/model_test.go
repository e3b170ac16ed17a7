package point

// This file holds what the package tells against second reckonings: the
// chapter's words one by one, for all that a few points and needs may be; trains
// that go where the points lead that were moved for them; and bodies that go
// about tracks that part, under which no point moves.

import (
	"slices"
	"testing"

	"balise/api"
	"balise/graph"
	"balise/own"
	"balise/state"
	"balise/verify"
)

// row is so many sections one behind the other to the east, each of them a
// part, every other one laid to the west.
func row(count int) api.Layout {
	l := api.Layout{Nodes: []complex128{0}, Speed: 40, Mute: 20, Wait: 10, Cancel: 3}
	for i := range count {
		l.Nodes = append(l.Nodes, complex(float64(100*(i+1)), 0))
		s := api.Section{Len: 100, A: i, B: i + 1}
		if i%2 == 1 {
			s.A, s.B = s.B, s.A
		}
		l.Sections = append(l.Sections, s)
		l.Parts = append(l.Parts, []int{i})
	}
	return l
}

// fork is a section 0, a stem 1 behind it, and 2 to the left of that, 3 to the
// right.
func fork() api.Layout {
	return api.Layout{
		Nodes:    []complex128{0, 100, 200, 300 + 50i, 300 - 50i},
		Sections: []api.Section{{Len: 100, A: 0, B: 1}, {Len: 100, A: 2, B: 1}, {Len: 120, A: 2, B: 3}, {Len: 130, A: 4, B: 2}},
		Parts:    [][]int{{0}, {1}, {2, 3}},
		Points:   []api.Point{{Node: 2, Stem: 1, Left: 2, Right: 3}},
		Speed:    40, Mute: 20, Wait: 10, Cancel: 3,
	}
}

// legs is a fork each of whose sections is a part.
func legs() api.Layout {
	l := fork()
	l.Parts = [][]int{{2}, {0}, {3}, {1}}
	return l
}

// loop is a track that parts into two ways, which come together again.
func loop() api.Layout {
	return api.Layout{
		Nodes: []complex128{0, 100, 200 + 50i, 200 - 50i, 300, 400},
		Sections: []api.Section{{Len: 100, A: 0, B: 1}, {Len: 112, A: 1, B: 2}, {Len: 112, A: 4, B: 2},
			{Len: 112, A: 1, B: 3}, {Len: 112, A: 3, B: 4}, {Len: 100, A: 5, B: 4}},
		Parts:  [][]int{{0}, {1, 2}, {3, 4}, {5}},
		Points: []api.Point{{Node: 4, Stem: 5, Left: 4, Right: 2}, {Node: 1, Stem: 0, Left: 1, Right: 3}},
		Speed:  40, Mute: 20, Wait: 10, Cancel: 3,
	}
}

// narrowLoop is one whose two ways are a section each, between the same nodes.
func narrowLoop() api.Layout {
	return api.Layout{
		Nodes:    []complex128{0, 100, 200, 300},
		Sections: []api.Section{{Len: 100, A: 0, B: 1}, {Len: 110, A: 1, B: 2}, {Len: 120, A: 2, B: 1}, {Len: 100, A: 2, B: 3}},
		Parts:    [][]int{{0}, {1, 2}, {3}},
		Points:   []api.Point{{Node: 1, Stem: 0, Left: 1, Right: 2}, {Node: 2, Stem: 3, Left: 2, Right: 1}},
		Speed:    100, Mute: 1, Wait: 1, Cancel: 1,
	}
}

// turning is a stem 0 whose left and right are the two ends of one way, by
// which a train comes back the other way round.
func turning() api.Layout {
	return api.Layout{
		Nodes: []complex128{0, 100, 200 + 100i, 300 + 100i, 350, 300 - 100i, 200 - 100i},
		Sections: []api.Section{{Len: 100, A: 0, B: 1}, {Len: 142, A: 1, B: 2}, {Len: 100, A: 3, B: 2}, {Len: 112, A: 3, B: 4},
			{Len: 112, A: 5, B: 4}, {Len: 100, A: 5, B: 6}, {Len: 142, A: 1, B: 6}},
		Parts:  [][]int{{6, 5}, {0}, {1, 2}, {4, 3}},
		Points: []api.Point{{Node: 1, Stem: 0, Left: 1, Right: 6}},
		Speed:  40, Mute: 20, Wait: 10, Cancel: 3,
	}
}

// parting are layouts that have points.
func parting() map[string]api.Layout {
	return map[string]api.Layout{"fork": fork(), "legs": legs(), "loop": loop(), "narrow loop": narrowLoop(), "turning": turning()}
}

func TestLayoutsAreRight(t *testing.T) {
	all := parting()
	all["row"] = row(3)
	for name, l := range all {
		if n, at := verify.First(l); n != 0 {
			t.Errorf("%s breaks rule %d at %d", name, n, at)
		}
	}
}

// standings are all ways in which so many points at most may stand, told of
// fewer and of all.
func standings(most int) [][]bool {
	all := [][]bool{nil}
	for from := 0; from < len(all); from++ {
		if len(all[from]) < most {
			all = append(all, append(slices.Clone(all[from]), false), append(slices.Clone(all[from]), true))
		}
	}
	return all
}

// lists are all lists of so many of these needs at most.
func lists(of []graph.Need, most int) [][]graph.Need {
	all := [][]graph.Need{nil}
	for from := 0; from < len(all); from++ {
		if len(all[from]) == most {
			continue
		}
		for _, n := range of {
			all = append(all, append(slices.Clone(all[from]), n))
		}
	}
	return all
}

// standing tells which points stand to the right; all others stand to the left.
func standing(right []bool) map[int]bool {
	all := map[int]bool{}
	for point, r := range right {
		if r {
			all[point] = true
		}
	}
	return all
}

// All that four needs of points about both edges of what is told may be.
func TestAgainstWords(t *testing.T) {
	told := map[int]int{}
	for _, all := range lists(needs(left(-1), right(-1), left(0), right(0), right(2), left(2), right(3)), 4) {
		for _, right := range standings(3) {
			to := standing(right)
			var want []graph.Need
			for _, n := range all {
				if to[n.Point] != n.Right {
					want = append(want, n)
				}
			}
			told[len(want)]++
			if got := Moves(all, right); !slices.Equal(got, want) {
				t.Fatalf("Moves(%v, %v) is %v, not %v", all, right, got, want)
			}
			if got := Stands(all, right); got != (want == nil) {
				t.Fatalf("Stands(%v, %v) is %v", all, right, got)
			}
		}
	}
	if len(told) != 5 {
		t.Errorf("so many needs that don't stand are told so often: %v", told)
	}
}

// last tells the last need of a point, if there is one.
func last(all []graph.Need, point int) (graph.Need, bool) {
	var found graph.Need
	ok := false
	for _, n := range all {
		if n.Point == point {
			found, ok = n, true
		}
	}
	return found, ok
}

// Point by point: what Move tells is what the last need of it says, else what
// it was; it is as long as it was, or as the needs ask.
func TestMoveAgainstWords(t *testing.T) {
	n := numbers(3)
	for range 40000 {
		was := make([]bool, n.below(12))
		for i := range was {
			was[i] = n.below(2) == 0
		}
		all := make([]graph.Need, n.below(6))
		length := len(was)
		for i := range all {
			all[i] = graph.Need{Point: n.below(14) - 2, Right: n.below(2) == 0}
			if all[i].Point < api.MaxPoints {
				length = max(length, all[i].Point+1)
			}
		}
		got := Move(was, all)
		if len(got) != length {
			t.Fatalf("Move(%v, %v) tells %d points", was, all, len(got))
		}
		to, is := standing(was), standing(got)
		for point := range length {
			want := to[point]
			if need, ok := last(all, point); ok && point < api.MaxPoints {
				want = need.Right
			}
			if is[point] != want {
				t.Fatalf("Move(%v, %v) is %v: point %d", was, all, got, point)
			}
		}
	}
}

// Behind a Move of what must, all points stand as the needs say, if these may
// be: a Move of all of them is the same, but that it may tell more points.
func TestMoveMakesStand(t *testing.T) {
	for _, all := range lists(needs(left(0), right(1), left(2), right(7), right(4)), 4) {
		for _, right := range standings(4) {
			moved, some := Move(right, all), Move(right, Moves(all, right))
			if !Stands(all, moved) || !Stands(all, some) || len(Moves(all, moved)) != 0 {
				t.Fatalf("%v behind %v: %v, %v", right, all, moved, some)
			}
			if again := Move(moved, all); !slices.Equal(again, moved) {
				t.Fatalf("%v moved twice is %v", moved, again)
			}
			longer := append(some, make([]bool, len(moved)-len(some))...)
			if !slices.Equal(longer, moved) {
				t.Fatalf("%v: all of %v moved is %v, what must is %v", right, all, moved, some)
			}
		}
	}
}

// ways tells all lists of unlike sections of a layout, as far as a train may go
// through them.
func ways(l api.Layout) [][]int {
	g := graph.New(l)
	var all [][]int
	for section := range l.Sections {
		all = append(all, []int{section})
	}
	for from := 0; from < len(all); from++ {
		for next := range l.Sections {
			way := append(slices.Clone(all[from]), next)
			if _, ok := g.Path(way); ok {
				all = append(all, way)
			}
		}
	}
	return all[len(l.Sections):]
}

// goes tells whether a train that leaves the way's first section at an end
// comes through all of them, as the points stand.
func goes(g *graph.Graph, way []int, end int, right []bool) bool {
	e := api.End{Section: way[0], End: end}
	for _, section := range way[1:] {
		next, ok := g.Next(e, right)
		if !ok || next.Section != section {
			return false
		}
		e = api.End{Section: section, End: 1 - next.End}
	}
	return true
}

// A train comes through a way just if the points stand as the way needs, and
// does so when they were moved.
func TestTrainsGoWherePointsLead(t *testing.T) {
	for name, l := range parting() {
		g, stood := graph.New(l), map[bool]int{}
		for _, way := range ways(l) {
			all, _ := g.Path(way)
			for _, right := range standings(len(l.Points) + 1) {
				through := goes(g, way, 0, right) || goes(g, way, 1, right)
				stood[through]++
				if Stands(all, right) != through {
					t.Errorf("%s: way %v, needs %v, points %v: Stands is %v", name, way, all, right, !through)
				}
				moved := Move(right, Moves(all, right))
				if !goes(g, way, 0, moved) && !goes(g, way, 1, moved) {
					t.Errorf("%s: way %v, needs %v: no way through with points %v", name, way, all, moved)
				}
			}
		}
		if stood[true] < 10 || stood[false] < 4 {
			t.Errorf("%s: a train comes through so often: %v", name, stood)
		}
	}
}

// numbers tells numbers by a rule, so that each run tries the same ones.
type numbers uint32

func (n *numbers) below(m int) int {
	*n = *n*1664525 + 1013904223
	return int(*n>>8) % m
}

// some tells a list of so many at most, each by chance.
func some[T any](n *numbers, most int, of ...T) []T {
	var all []T
	for range n.below(most + 1) {
		all = append(all, of[n.below(len(of))])
	}
	return all
}

// why tells all that is in a point's way, by the chapter's words.
func why(l api.Layout, a asked) []string {
	if a.point < 0 || a.point >= len(l.Points) {
		return []string{"no such point"}
	}
	var all []string
	stem := l.Points[a.point].Stem
	if len(a.states) <= stem || a.states[stem] != api.Free {
		all = append(all, "not free")
	}
	for _, v := range a.views {
		for _, section := range v.Span {
			if section == stem {
				all = append(all, "a train")
			}
		}
	}
	for section, is := range a.locked {
		if is && section == stem {
			all = append(all, "locked")
		}
	}
	for point, is := range a.held {
		if is && point == a.point {
			all = append(all, "held")
		}
	}
	return all
}

// Whatever the states, the views, the locks and the held points are: a point
// may move if nothing is in its way.
func TestMayAgainstWords(t *testing.T) {
	for name, l := range parting() {
		n, alone := numbers(len(name)), map[string]int{}
		for range 30000 {
			a := asked{point: n.below(len(l.Points)+2) - 1, states: some[byte](&n, 8, api.Free, api.Free, api.Free, api.Free, api.Taken, api.Ambiguous, api.Dark),
				locked: some(&n, 8, false, false, false, true), held: some(&n, 3, false, false, true)}
			for id := range n.below(4) {
				a.views = append(a.views, own.View{ID: id, Sure: n.below(2) == 0, Span: some(&n, 2, 0, 1, 2, 3, 4, 5, 6)})
			}
			reasons := why(l, a)
			if len(reasons) == 1 {
				alone[reasons[0]]++
			}
			if May(l, a.states, a.views, a.locked, a.held, a.point) != (len(reasons) == 0) {
				t.Fatalf("%s: %+v: in the way is %v", name, a, reasons)
			}
		}
		if len(alone) != 5 {
			t.Errorf("%s: what alone is in the way: %v", name, alone)
		}
	}
}

// body is a vehicle of a metre's length somewhere in a section, which it goes
// through towards an end.
type body struct {
	at    api.End
	ahead int
}

// goes moves a body by so many metres, or as far as the points let it; at times
// it turns about.
func (b body) goes(g *graph.Graph, n *numbers, metres int, right []bool) body {
	if n.below(9) == 0 {
		b = body{api.End{Section: b.at.Section, End: 1 - b.at.End}, g.Len(b.at.Section) - b.ahead}
	}
	for range metres {
		if b.ahead > 0 {
			b.ahead--
			continue
		}
		next, ok := g.Next(b.at, right)
		if !ok {
			break
		}
		b = body{api.End{Section: next.Section, End: 1 - next.End}, g.Len(next.Section) - 1}
	}
	return b
}

// spanOf tells the section in which a body is, and at times others.
func (b body) spanOf(l api.Layout, n *numbers) []int {
	span := []int{b.at.Section}
	for n.below(3) == 0 {
		span = append(span, n.below(len(l.Sections)))
	}
	return span
}

// look tells what detectors and trains say of bodies of which just so many ever
// speak.
func look(l api.Layout, n *numbers, bodies []body, speak int) ([]bool, []own.View) {
	clear := make([]bool, len(l.Parts))
	for part, sections := range l.Parts {
		clear[part] = !slices.ContainsFunc(bodies, func(b body) bool { return slices.Contains(sections, b.at.Section) })
	}
	var views []own.View
	for id, b := range bodies[:speak] {
		if n.below(12) != 0 {
			views = append(views, own.View{ID: id, Sure: n.below(12) != 0, Span: b.spanOf(l, n)})
		}
	}
	return clear, views
}

// Bodies go about tracks that part, no faster than Speed, and each point moves
// that may, one way and the other: none does while a body is in its stem, and
// none stays for ever.
func TestNoPointMovesUnderABody(t *testing.T) {
	for name, l := range parting() {
		g, moved, kept := graph.New(l), 0, 0
		for seed := range 60 {
			n, owners, right := numbers(seed), own.Start(len(l.Parts)), make([]bool, len(l.Points))
			bodies := make([]body, 1+n.below(2))
			for id := range bodies {
				bodies[id].at = api.End{Section: n.below(len(l.Sections)), End: n.below(2)}
			}
			for range 300 {
				for id, b := range bodies {
					bodies[id] = b.goes(g, &n, n.below(l.Speed+1), right)
				}
				clear, views := look(l, &n, bodies, len(bodies)-seed%2)
				owners = own.Next(l, owners, clear, views)
				states := state.Of(l, owners, views)
				for point, p := range l.Points {
					if !May(l, states, views, nil, nil, point) {
						kept++
						continue
					}
					moved++
					if slices.ContainsFunc(bodies, func(b body) bool { return b.at.Section == p.Stem }) {
						t.Fatalf("%s: bodies %v: point %d moves", name, bodies, point)
					}
					right = Move(right, needs(graph.Need{Point: point, Right: n.below(2) == 0}))
				}
			}
		}
		if moved < 1000 || kept < 1000 {
			t.Errorf("%s: points moved %d times, and didn't %d times", name, moved, kept)
		}
	}
}
