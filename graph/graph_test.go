package graph

import (
	"math"
	"slices"
	"testing"

	"balise/api"
)

// row is four sections one behind the other, not all of them laid the same way.
func row() api.Layout {
	return api.Layout{
		Nodes:    []complex128{0, 100, 200, 300, 400},
		Sections: []api.Section{{Len: 101, A: 0, B: 1}, {Len: 102, A: 2, B: 1}, {Len: 103, A: 2, B: 3}, {Len: 104, A: 3, B: 4}},
		Parts:    [][]int{{0, 1}, {2}, {3}},
	}
}

// fork is a section 0, a stem 1 behind it, and 2 to the left of that, 3 to the
// right.
func fork() api.Layout {
	return api.Layout{
		Nodes:    []complex128{0, 100, 200, 300 + 50i, 300 - 50i},
		Sections: []api.Section{{Len: 100, A: 0, B: 1}, {Len: 110, A: 2, B: 1}, {Len: 120, A: 2, B: 3}, {Len: 130, A: 4, B: 2}},
		Parts:    [][]int{{0}, {1}, {2, 3}},
		Points:   []api.Point{{Node: 2, Stem: 1, Left: 2, Right: 3}},
	}
}

// loop is a track 0 that parts into 1 and 2, which come together into 3; what
// is the left of one point is the right of the other one.
func loop() api.Layout {
	return api.Layout{
		Sections: []api.Section{{Len: 10, A: 0, B: 1}, {Len: 20, A: 1, B: 2}, {Len: 30, A: 2, B: 1}, {Len: 40, A: 2, B: 3}},
		Parts:    [][]int{{0}, {2}, {1}, {3}},
		Points:   []api.Point{{Node: 2, Stem: 3, Left: 2, Right: 1}, {Node: 1, Stem: 0, Left: 1, Right: 2}},
	}
}

// ends tells ends by two numbers each.
func ends(numbers ...int) []api.End {
	var all []api.End
	for i := 0; i < len(numbers); i += 2 {
		all = append(all, api.End{Section: numbers[i], End: numbers[i+1]})
	}
	return all
}

func checkEnds(t *testing.T, g *Graph, node int, want ...int) {
	t.Helper()
	if got := g.Ends(node); !slices.Equal(got, ends(want...)) {
		t.Errorf("Ends(%d) = %v, not %v", node, got, ends(want...))
	}
}

func checkAround(t *testing.T, g *Graph, section, end int, want ...int) {
	t.Helper()
	e := api.End{Section: section, End: end}
	if got := g.Around(e); !slices.Equal(got, ends(want...)) {
		t.Errorf("Around(%v) = %v, not %v", e, got, ends(want...))
	}
}

// checkNext wants the end of two numbers, or none.
func checkNext(t *testing.T, g *Graph, section, end int, right []bool, want ...int) {
	t.Helper()
	e := api.End{Section: section, End: end}
	got, ok := g.Next(e, right)
	if len(want) == 0 && (ok || got != api.End{}) {
		t.Errorf("Next(%v, %v) = %v, %v, not none", e, right, got, ok)
	}
	if len(want) == 2 && (!ok || got != ends(want...)[0]) {
		t.Errorf("Next(%v, %v) = %v, %v, not %v", e, right, got, ok, want)
	}
}

func checkNumbers(t *testing.T, what string, got []int, want ...int) {
	t.Helper()
	if !slices.Equal(got, want) {
		t.Errorf("%s = %v, not %v", what, got, want)
	}
}

func checkPath(t *testing.T, g *Graph, l []int, want ...Need) {
	t.Helper()
	if got, ok := g.Path(l); !ok || !slices.Equal(got, want) {
		t.Errorf("Path(%v) = %v, %v, not %v", l, got, ok, want)
	}
}

func checkNoPath(t *testing.T, g *Graph, l ...int) {
	t.Helper()
	if got, ok := g.Path(l); ok || len(got) > 0 {
		t.Errorf("Path(%v) = %v, %v, not none", l, got, ok)
	}
}

func TestTwoSectionsThatJoin(t *testing.T) {
	for turned := range 4 {
		l := api.Layout{Sections: []api.Section{{A: 0, B: 1}, {A: 1, B: 2}}}
		for i := range l.Sections {
			if s := &l.Sections[i]; turned>>i&1 == 1 {
				s.A, s.B = s.B, s.A
			}
		}
		g := New(l)
		checkNumbers(t, "Near(0)", g.Near(0), 1)
		checkNumbers(t, "Near(1)", g.Near(1), 0)
	}
}

func TestRow(t *testing.T) {
	g := New(row())
	checkEnds(t, g, 0, 0, 0)
	checkEnds(t, g, 1, 0, 1, 1, 1)
	checkEnds(t, g, 2, 1, 0, 2, 0)
	checkEnds(t, g, 4, 3, 1)
	checkEnds(t, g, 5)
	checkAround(t, g, 0, 0)
	checkAround(t, g, 0, 1, 1, 1)
	checkAround(t, g, 1, 1, 0, 1)
	checkAround(t, g, 1, 0, 2, 0)
	checkAround(t, g, 2, 0, 1, 0)
	checkAround(t, g, 2, 1, 3, 0)
	checkAround(t, g, 3, 1)
	for _, right := range [][]bool{nil, {true}, {false, true}} {
		checkNext(t, g, 0, 0, right)
		checkNext(t, g, 0, 1, right, 1, 1)
		checkNext(t, g, 2, 0, right, 1, 0)
	}
	checkNumbers(t, "Near(0)", g.Near(0), 1)
	checkNumbers(t, "Near(1)", g.Near(1), 0, 2)
	checkNumbers(t, "Near(3)", g.Near(3), 2)
	for node := range 5 {
		if g.Point(node) != -1 {
			t.Error("a point at", node)
		}
	}
	for i, want := range []int{0, 0, 1, 2, -1} {
		if got := g.Part(i); got != want {
			t.Errorf("Part(%d) = %d", i, got)
		}
	}
	checkNumbers(t, "Beside(0)", g.Beside(0), 1)
	checkNumbers(t, "Beside(1)", g.Beside(1), 0, 2)
	checkNumbers(t, "Beside(2)", g.Beside(2), 1)
	checkPath(t, g, []int{0, 1})
	checkPath(t, g, []int{3, 2, 1, 0})
	checkPath(t, g, []int{1, 2, 3})
	checkNoPath(t, g, 0, 2)
	checkNoPath(t, g, 1, 0, 2)
	checkNoPath(t, g, 0, 1, 3)
}

func TestFork(t *testing.T) {
	g := New(fork())
	checkEnds(t, g, 2, 1, 0, 2, 0, 3, 1)
	checkAround(t, g, 1, 0, 2, 0, 3, 1)
	checkAround(t, g, 2, 0, 1, 0)
	checkAround(t, g, 3, 1, 1, 0)
	checkAround(t, g, 1, 1, 0, 1)
	checkAround(t, g, 2, 1)
	checkAround(t, g, 3, 0)
	left, right := []bool{false, true}, []bool{true, false}
	checkNext(t, g, 1, 0, left, 2, 0)
	checkNext(t, g, 1, 0, right, 3, 1)
	checkNext(t, g, 2, 0, left, 1, 0)
	checkNext(t, g, 2, 0, right)
	checkNext(t, g, 3, 1, left)
	checkNext(t, g, 3, 1, right, 1, 0)
	checkNext(t, g, 0, 1, right, 1, 1)
	checkNumbers(t, "Near(1)", g.Near(1), 0, 2, 3)
	checkNumbers(t, "Near(2)", g.Near(2), 1)
	checkNumbers(t, "Beside(1)", g.Beside(1), 0, 2)
	checkNumbers(t, "Beside(2)", g.Beside(2), 1)
	checkPath(t, g, []int{0, 1, 2}, Need{Point: 0})
	checkPath(t, g, []int{0, 1, 3}, Need{Point: 0, Right: true})
	checkPath(t, g, []int{2, 1, 0}, Need{Point: 0})
	checkPath(t, g, []int{3, 1}, Need{Point: 0, Right: true})
	checkPath(t, g, []int{0, 1})
	checkNoPath(t, g, 2, 3)
	checkNoPath(t, g, 2, 1, 3)
	checkNoPath(t, g, 3, 1, 2)
}

func TestLoop(t *testing.T) {
	g := New(loop())
	if g.Point(1) != 1 || g.Point(2) != 0 || g.Point(0) != -1 {
		t.Error(g.Point(1), g.Point(2), g.Point(0))
	}
	checkAround(t, g, 0, 1, 1, 0, 2, 1)
	checkAround(t, g, 3, 0, 2, 0, 1, 1)
	checkNumbers(t, "Near(1)", g.Near(1), 0, 3)
	checkNumbers(t, "Beside(0)", g.Beside(0), 1, 2)
	checkPath(t, g, []int{0, 1, 3}, Need{Point: 1}, Need{Point: 0, Right: true})
	checkPath(t, g, []int{0, 2, 3}, Need{Point: 1, Right: true}, Need{Point: 0})
	checkPath(t, g, []int{3, 1, 0}, Need{Point: 0, Right: true}, Need{Point: 1})
	checkNoPath(t, g, 0, 1, 2)
	checkNoPath(t, g, 0, 1, 3, 2)
	// A point that right doesn't tell stands to the left.
	checkNext(t, g, 0, 1, []bool{true}, 1, 0)
	checkNext(t, g, 0, 1, []bool{true, true}, 2, 1)
	checkNext(t, g, 0, 1, nil, 1, 0)
	checkNext(t, g, 2, 1, []bool{true})
	checkNext(t, g, 3, 0, []bool{true}, 1, 1)
	checkNext(t, g, 3, 0, []bool{false, true}, 2, 0)
}

func TestThreeEndsWithoutAPoint(t *testing.T) {
	l := fork()
	l.Points = nil
	g := New(l)
	checkEnds(t, g, 2, 1, 0, 2, 0, 3, 1)
	for _, e := range ends(1, 0, 2, 0, 3, 1) {
		checkAround(t, g, e.Section, e.End)
		checkNext(t, g, e.Section, e.End, nil)
	}
	checkNumbers(t, "Near(1)", g.Near(1), 0)
	checkNoPath(t, g, 1, 2)
}

// A section that joins itself is the other end of its own.
func TestRing(t *testing.T) {
	g := New(api.Layout{Sections: []api.Section{{A: 7, B: 7}}, Parts: [][]int{{0}}})
	checkEnds(t, g, 7, 0, 0, 0, 1)
	checkAround(t, g, 0, 0, 0, 1)
	checkAround(t, g, 0, 1, 0, 0)
	checkNext(t, g, 0, 0, nil, 0, 1)
	checkNext(t, g, 0, 1, nil, 0, 0)
	checkNumbers(t, "Near(0)", g.Near(0), 0)
	checkNumbers(t, "Beside(0)", g.Beside(0))
	checkNoPath(t, g, 0, 0)
	g = New(api.Layout{Sections: []api.Section{{A: 7, B: 7}, {A: 6, B: 7}}})
	checkEnds(t, g, 7, 0, 0, 0, 1, 1, 1)
	checkAround(t, g, 0, 0)
	checkAround(t, g, 1, 1)
}

// Of a point's section with both ends at the node the end is 0, from
// whichever of them a train comes.
func TestPointOfRings(t *testing.T) {
	l := api.Layout{
		Sections: []api.Section{{A: 1, B: 1}, {A: 1, B: 1}, {A: 2, B: 1}},
		Points:   []api.Point{{Node: 1, Stem: 0, Left: 1, Right: 2}},
	}
	g := New(l)
	checkEnds(t, g, 1, 0, 0, 0, 1, 1, 0, 1, 1, 2, 1)
	for end := range 2 {
		checkAround(t, g, 0, end, 1, 0, 2, 1)
		checkAround(t, g, 1, end, 0, 0)
		checkNext(t, g, 0, end, nil, 1, 0)
		checkNext(t, g, 0, end, []bool{true}, 2, 1)
		checkNext(t, g, 1, end, nil, 0, 0)
		checkNext(t, g, 1, end, []bool{true})
	}
	checkAround(t, g, 2, 1, 0, 0)
	checkPath(t, g, []int{2, 0, 1}, Need{Point: 0, Right: true}, Need{Point: 0})
	checkPath(t, g, []int{1, 0, 2}, Need{Point: 0}, Need{Point: 0, Right: true})
}

func TestPointWhoseSectionsAreElsewhere(t *testing.T) {
	l := fork()
	l.Points[0].Left = 0 // not at the node
	g := New(l)
	checkAround(t, g, 1, 0, 3, 1)
	checkAround(t, g, 0, 1, 1, 1) // what 0 is to a point elsewhere doesn't matter here
	checkAround(t, g, 2, 0)       // none of the point's
	checkNext(t, g, 1, 0, nil)
	checkNext(t, g, 1, 0, []bool{true}, 3, 1)
	checkNext(t, g, 2, 0, nil)
	checkPath(t, g, []int{1, 3}, Need{Point: 0, Right: true})
	checkNoPath(t, g, 2, 1)
	for _, gone := range []int{4, -1, math.MinInt, math.MaxInt} {
		l = fork()
		l.Points[0].Right = gone
		g = New(l)
		checkAround(t, g, 1, 0, 2, 0)
		checkAround(t, g, 3, 1)
		checkNext(t, g, 1, 0, []bool{true})
		l.Points[0].Right = 3
		l.Points[0].Stem = gone
		g = New(l)
		for _, e := range ends(1, 0, 2, 0, 3, 1) {
			checkAround(t, g, e.Section, e.End)
			checkNext(t, g, e.Section, e.End, nil)
		}
	}
}

// A point at a node of two ends, or of one, is a point still.
func TestPointWhereTheTrackDoesNotPart(t *testing.T) {
	l := row()
	l.Points = []api.Point{{Node: 1, Stem: 3, Left: 2, Right: 2}}
	g := New(l)
	checkAround(t, g, 0, 1)
	checkAround(t, g, 1, 1)
	checkNoPath(t, g, 0, 1)
	l.Points[0] = api.Point{Node: 1, Stem: 0, Left: 3, Right: 1}
	g = New(l)
	checkAround(t, g, 0, 1, 1, 1)
	checkNext(t, g, 0, 1, nil)
	checkNext(t, g, 0, 1, []bool{true}, 1, 1)
	checkNext(t, g, 1, 1, nil)
	checkPath(t, g, []int{2, 1, 0}, Need{Point: 0, Right: true})
}

func TestFirstOfTwoPoints(t *testing.T) {
	l := fork()
	l.Points = []api.Point{{Node: 9, Stem: 0, Left: 1, Right: 2}, l.Points[0], {Node: 2, Stem: 3, Left: 1, Right: 2}}
	g := New(l)
	if g.Point(2) != 1 || g.Point(9) != 0 {
		t.Error(g.Point(2), g.Point(9))
	}
	checkAround(t, g, 1, 0, 2, 0, 3, 1)
	checkAround(t, g, 3, 1, 1, 0)
	checkNext(t, g, 1, 0, []bool{true, false, true}, 2, 0)
	checkNext(t, g, 1, 0, []bool{false, true, false}, 3, 1)
	checkPath(t, g, []int{1, 3}, Need{Point: 1, Right: true})
}

func TestFromNoneOfAPointsSections(t *testing.T) {
	l := fork()
	l.Sections = append(l.Sections, api.Section{Len: 5, A: 2, B: 8})
	g := New(l)
	checkEnds(t, g, 2, 1, 0, 2, 0, 3, 1, 4, 0)
	checkAround(t, g, 4, 0)
	checkNext(t, g, 4, 0, nil)
	checkNext(t, g, 4, 0, []bool{true})
	checkAround(t, g, 1, 0, 2, 0, 3, 1)
	checkNumbers(t, "Near(4)", g.Near(4))
	checkNoPath(t, g, 4, 1)
	checkNoPath(t, g, 1, 4)
}

// A section may be more than one of a point's.
func TestPointWithOneSectionTwice(t *testing.T) {
	l := fork()
	l.Points[0] = api.Point{Node: 2, Stem: 1, Left: 3, Right: 3}
	g := New(l)
	checkAround(t, g, 1, 0, 3, 1, 3, 1)
	checkNumbers(t, "Near(1)", g.Near(1), 0, 3)
	for _, right := range [][]bool{nil, {true}} {
		checkNext(t, g, 1, 0, right, 3, 1)
		checkNext(t, g, 3, 1, right, 1, 0)
	}
	checkPath(t, g, []int{1, 3}, Need{Point: 0})
	checkPath(t, g, []int{3, 1}, Need{Point: 0})
	l.Points[0] = api.Point{Node: 2, Stem: 1, Left: 1, Right: 3}
	g = New(l)
	checkAround(t, g, 1, 0, 1, 0, 3, 1)
	checkNext(t, g, 1, 0, nil, 1, 0)
	checkNext(t, g, 1, 0, []bool{true}, 3, 1)
	checkNext(t, g, 3, 1, nil)
	checkNumbers(t, "Near(1)", g.Near(1), 0, 1, 3)
	checkPath(t, g, []int{1, 3}, Need{Point: 0, Right: true})
	checkPath(t, g, []int{3, 1}, Need{Point: 0, Right: true})
	l.Points[0] = api.Point{Node: 2, Stem: 1, Left: 2, Right: 1}
	g = New(l)
	checkAround(t, g, 1, 0, 2, 0, 1, 0)
	checkPath(t, g, []int{1, 2}, Need{Point: 0})
	checkPath(t, g, []int{2, 1}, Need{Point: 0})
}

// Nodes and sections are known by their numbers alone.
func TestNumbersThatAreNotListed(t *testing.T) {
	g := New(api.Layout{
		Nodes:    []complex128{0},
		Sections: []api.Section{{Len: -7, A: -1, B: math.MaxInt}, {Len: 1 << 40, A: math.MinInt, B: -1}},
		Parts:    [][]int{{-5, 0}, {1, 99}, {-5, -1, math.MinInt}},
		Points:   []api.Point{{Node: math.MaxInt, Stem: 0, Left: 1, Right: 2}, {Node: -3}},
	})
	checkEnds(t, g, -1, 0, 0, 1, 1)
	checkEnds(t, g, math.MinInt, 1, 0)
	checkEnds(t, g, 0)
	checkAround(t, g, 0, 0, 1, 1)
	checkAround(t, g, 0, 1)
	if g.Point(math.MaxInt) != 0 || g.Point(-3) != 1 || g.Point(0) != -1 || g.Point(-1) != -1 {
		t.Error("Point")
	}
	if g.Part(-5) != 0 || g.Part(99) != 1 || g.Part(-1) != 2 || g.Part(math.MinInt) != 2 || g.Part(2) != -1 {
		t.Error("Part")
	}
	if g.Len(0) != -7 || g.Len(1) != 1<<40 || g.Len(2) != 0 || g.Len(-1) != 0 || g.Len(math.MinInt) != 0 || g.Len(math.MaxInt) != 0 {
		t.Error("Len")
	}
	checkPath(t, g, []int{1, 0})
	for _, gone := range []int{-1, 2, -5, 99, math.MinInt, math.MaxInt} {
		checkNumbers(t, "Near", g.Near(gone))
		checkNumbers(t, "Beside", g.Beside(gone+3))
		checkAround(t, g, gone, 0)
		checkNext(t, g, gone, 1, nil)
		checkNoPath(t, g, 0, gone)
		checkNoPath(t, g, gone, 0)
	}
}

func TestEndsThatAreNone(t *testing.T) {
	g := New(fork())
	for _, end := range []int{-1, 2, 3, 1 << 32, math.MinInt, math.MaxInt} {
		for section := -1; section < 5; section++ {
			checkAround(t, g, section, end)
			checkNext(t, g, section, end, []bool{true})
		}
	}
}

func TestPartsThatOverlap(t *testing.T) {
	l := row()
	// 2 stands in two parts, one of them has it twice, and one has a section
	// that isn't there.
	l.Parts = [][]int{{3}, {2, 2, 9}, {1, 2}, nil, {9, 1}}
	g := New(l)
	for section, want := range []int{-1, 2, 1, 0, -1} {
		if got := g.Part(section); got != want {
			t.Errorf("Part(%d) = %d", section, got)
		}
	}
	if g.Part(9) != 1 {
		t.Error(g.Part(9))
	}
	checkNumbers(t, "Beside(0)", g.Beside(0), 1)
	checkNumbers(t, "Beside(1)", g.Beside(1), 0, 2)
	// By 1's neighbours 0 (in none) and 2 (of 1), and by 2's: 1, and 3.
	checkNumbers(t, "Beside(2)", g.Beside(2), 0, 1)
	checkNumbers(t, "Beside(3)", g.Beside(3))
	checkNumbers(t, "Beside(4)", g.Beside(4), 1)
	checkNumbers(t, "Beside(-1)", g.Beside(-1))
	checkNumbers(t, "Beside(5)", g.Beside(5))
	// 0 is of no part: -1 isn't told.
	l.Parts = [][]int{{1}}
	checkNumbers(t, "Beside(0)", New(l).Beside(0))
}

func TestPathThatIsNone(t *testing.T) {
	g := New(fork())
	checkNoPath(t, g)
	for section := -1; section < 5; section++ {
		checkNoPath(t, g, section)
		checkNoPath(t, g, section, section)
	}
	checkNoPath(t, g, 0, 1, 0)
	checkNoPath(t, g, 1, 2, 1)
	long := make([]int, 100000)
	checkNoPath(t, g, long...)
	for i := range long {
		long[i] = i
	}
	checkNoPath(t, g, long...)
}

// A section is left at the end at which it wasn't come into.
func TestPathDoesNotTurnAbout(t *testing.T) {
	g := New(api.Layout{
		Sections: []api.Section{{A: 0, B: 1}, {A: 1, B: 2}, {A: 1, B: 3}},
		Points:   []api.Point{{Node: 1, Stem: 1, Left: 0, Right: 2}},
	})
	checkNoPath(t, g, 0, 1, 2)
	checkPath(t, g, []int{0, 1}, Need{Point: 0})
	checkPath(t, g, []int{1, 2}, Need{Point: 0, Right: true})
}

// Of two ways the one that leaves the first section at its end 0 is told.
func TestPathOfTwoWays(t *testing.T) {
	l := api.Layout{
		Sections: []api.Section{{A: 0, B: 1}, {A: 0, B: 1}},
		Points:   []api.Point{{Node: 1, Stem: 0, Left: 1, Right: 9}, {Node: 0, Stem: 1, Left: 9, Right: 0}},
	}
	checkPath(t, New(l), []int{0, 1}, Need{Point: 1, Right: true})
	l.Sections[0] = api.Section{A: 1, B: 0}
	checkPath(t, New(l), []int{0, 1}, Need{Point: 0})
	l.Points = l.Points[:1]
	checkPath(t, New(l), []int{1, 0})
	checkPath(t, New(l), []int{0, 1}, Need{Point: 0})
	// The way that begins at the end 0 goes two sections far, and no more.
	l = api.Layout{
		Sections: []api.Section{{A: 0, B: 1}, {A: 1, B: 0}, {A: 0, B: 2}},
		Points:   []api.Point{{Node: 0, Stem: 1, Left: 0, Right: 2}},
	}
	checkPath(t, New(l), []int{0, 1}, Need{Point: 0})
	checkPath(t, New(l), []int{0, 1, 2}, Need{Point: 0, Right: true})
}

func TestNilGraph(t *testing.T) {
	var g *Graph
	checkEnds(t, g, 0)
	checkAround(t, g, 0, 0)
	checkNext(t, g, 0, 0, []bool{true})
	checkNumbers(t, "Near", g.Near(0))
	checkNumbers(t, "Beside", g.Beside(0))
	checkNoPath(t, g, 0, 1)
	checkNoPath(t, g)
	if g.Point(0) != -1 || g.Part(0) != -1 || g.Len(0) != 0 {
		t.Error(g.Point(0), g.Part(0), g.Len(0))
	}
}

func TestGraphOfNothing(t *testing.T) {
	g := New(api.Layout{})
	checkEnds(t, g, 0)
	checkAround(t, g, 0, 0)
	checkNext(t, g, 0, 0, nil)
	checkNumbers(t, "Near", g.Near(0))
	checkNumbers(t, "Beside", g.Beside(0))
	checkNoPath(t, g, 0, 1)
	if g.Point(0) != -1 || g.Part(0) != -1 || g.Len(0) != 0 {
		t.Error(g.Point(0), g.Part(0), g.Len(0))
	}
}
