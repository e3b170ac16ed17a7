package verify

import (
	"math"
	"slices"
	"testing"

	"balise/api"
)

// rows is sections of 100 metres, so many one behind the other in each row,
// the rows beside one another, each section in a part with the one ahead of
// it, and every other one laid the other way.
func rows(counts ...int) api.Layout {
	l := api.Layout{Speed: 40, Mute: 20, Wait: 10, Cancel: 3}
	for i, count := range counts {
		north := complex(0, float64(1000*i))
		l.Nodes = append(l.Nodes, north)
		for j := range count {
			at := len(l.Nodes)
			l.Nodes = append(l.Nodes, north+complex(float64(100*(j+1)), 0))
			s := api.Section{Len: 100, A: at - 1, B: at}
			if j%2 == 1 {
				s.A, s.B = s.B, s.A
			}
			l.Sections = append(l.Sections, s)
		}
	}
	for i := range l.Sections {
		if i%2 == 0 {
			l.Parts = append(l.Parts, nil)
		}
		last := len(l.Parts) - 1
		l.Parts[last] = append(l.Parts[last], i)
	}
	return l
}

// forks is so many tracks, each of five nodes, four sections, two parts, two
// routes and a point at the third node.
func forks(count int) api.Layout {
	l := api.Layout{Speed: 40, Mute: 20, Wait: 10, Cancel: 3}
	for i := range count {
		n, s, north := 5*i, 4*i, complex(0, float64(1000*i))
		l.Nodes = append(l.Nodes, north, north+100, north+200, north+300+50i, north+300-50i)
		l.Sections = append(l.Sections,
			api.Section{Len: 100, A: n, B: n + 1}, api.Section{Len: 100, A: n + 2, B: n + 1},
			api.Section{Len: 120, A: n + 2, B: n + 3}, api.Section{Len: 130, A: n + 4, B: n + 2})
		l.Parts = append(l.Parts, []int{s, s + 1}, []int{s + 3, s + 2})
		l.Points = append(l.Points, api.Point{Node: n + 2, Stem: s + 1, Left: s + 2, Right: s + 3})
		l.Routes = append(l.Routes, []int{s, s + 1, s + 2}, []int{s + 3, s + 1, s})
	}
	return l
}

// shortForks is so many tracks of three sections, with a point each.
func shortForks(count int) api.Layout {
	l := api.Layout{Parts: [][]int{nil}, Speed: 40, Mute: 20, Wait: 10, Cancel: 3}
	for i := range count {
		n, s, north := 4*i, 3*i, complex(0, float64(1000*i))
		l.Nodes = append(l.Nodes, north, north+100, north+200+50i, north+200-50i)
		l.Sections = append(l.Sections, api.Section{Len: 100, A: n, B: n + 1},
			api.Section{Len: 120, A: n + 1, B: n + 2}, api.Section{Len: 130, A: n + 3, B: n + 1})
		l.Parts[0] = append(l.Parts[0], s, s+1, s+2)
		l.Points = append(l.Points, api.Point{Node: n + 1, Stem: s, Left: s + 1, Right: s + 2})
	}
	return l
}

// loop is a track that parts into two ways, which come together again.
func loop() api.Layout {
	return api.Layout{
		Nodes: []complex128{0, 100, 200 + 50i, 200 - 50i, 300, 400},
		Sections: []api.Section{{Len: 100, A: 0, B: 1}, {Len: 112, A: 1, B: 2}, {Len: 112, A: 4, B: 2},
			{Len: 112, A: 1, B: 3}, {Len: 112, A: 3, B: 4}, {Len: 100, A: 5, B: 4}},
		Parts:  [][]int{{0}, {1, 2}, {3, 4}, {5}},
		Points: []api.Point{{Node: 4, Stem: 5, Left: 4, Right: 2}, {Node: 1, Stem: 0, Left: 1, Right: 3}},
		Routes: [][]int{{0, 1, 2, 5}, {0, 3, 4, 5}, {5, 2, 1, 0}, {5, 4, 3, 0}},
		Speed:  40, Mute: 20, Wait: 10, Cancel: 3, Stay: 2,
	}
}

// narrowLoop is one whose two ways are a section each, between the same nodes.
func narrowLoop() api.Layout {
	return api.Layout{
		Nodes:    []complex128{0, 100, 200, 300},
		Sections: []api.Section{{Len: 100, A: 0, B: 1}, {Len: 110, A: 1, B: 2}, {Len: 120, A: 2, B: 1}, {Len: 100, A: 2, B: 3}},
		Parts:    [][]int{{0, 1, 2, 3}},
		Points:   []api.Point{{Node: 1, Stem: 0, Left: 1, Right: 2}, {Node: 2, Stem: 3, Left: 2, Right: 1}},
		Routes:   [][]int{{0, 2, 3}, {3, 1, 0}},
		Speed:    100, Mute: 1, Wait: 1, Cancel: 1,
	}
}

// ring is a track of eight sections without an end.
func ring() api.Layout {
	l := api.Layout{
		Nodes: []complex128{0, 100, 200 + 100i, 200 + 200i, 100 + 300i, 300i, -100 + 200i, -100 + 100i},
		Parts: [][]int{{7, 6, 5, 4}, {0, 1, 2, 3}}, Routes: [][]int{{6, 7, 0, 1}},
		Speed: 40, Mute: 20, Wait: 10, Cancel: 3,
	}
	for i := range l.Nodes {
		l.Sections = append(l.Sections, api.Section{Len: 142, A: i, B: (i + 1) % len(l.Nodes)})
	}
	return l
}

func check(t *testing.T, what string, l api.Layout, number, place int) {
	t.Helper()
	n, at := First(l)
	if n != number || at != place {
		t.Errorf("%s: First = %d, %d, not %d, %d", what, n, at, number, place)
	}
	if Right(l) != (number == 0) {
		t.Errorf("%s: Right = %v", what, Right(l))
	}
}

// turned is a layout in which something is turned.
func turned(l api.Layout, turn func(l *api.Layout)) api.Layout {
	turn(&l)
	return l
}

// turn is what becomes of a layout, and what is told of it then.
type turn struct {
	what          string
	turn          func(l *api.Layout)
	number, place int
}

func checkTurns(t *testing.T, start func() api.Layout, turns []turn) {
	t.Helper()
	check(t, "nothing turned", start(), 0, 0)
	for _, c := range turns {
		check(t, c.what, turned(start(), c.turn), c.number, c.place)
	}
}

func row() api.Layout { return rows(3) }

func fork() api.Layout { return forks(1) }

func TestRightLayouts(t *testing.T) {
	for i, l := range []api.Layout{rows(1), rows(2), rows(3), rows(12), rows(1, 1), rows(2, 3, 1),
		forks(1), forks(2), forks(8), shortForks(1), shortForks(8), loop(), narrowLoop(), ring()} {
		if n, at := First(l); n != 0 || at != 0 || !Right(l) {
			t.Errorf("%d: %d, %d", i, n, at)
		}
	}
}

func TestNothingAtAll(t *testing.T) {
	check(t, "nothing", api.Layout{}, 1, 0)
	check(t, "empty lists", api.Layout{Nodes: []complex128{}, Sections: []api.Section{}, Parts: [][]int{}, Points: []api.Point{}, Routes: [][]int{}}, 1, 0)
}

func TestRule1(t *testing.T) {
	check(t, "2 nodes", rows(1), 0, 0)
	check(t, "40 nodes", rows(4, 4, 4, 4, 4, 4, 4, 4), 0, 0)
	check(t, "41 nodes", rows(4, 4, 4, 4, 4, 4, 4, 2, 2), 1, 0)
	check(t, "1 node", api.Layout{Nodes: []complex128{0}}, 1, 0)
	check(t, "1 node of a row", turned(row(), func(l *api.Layout) { l.Nodes = l.Nodes[:1] }), 1, 0)
	check(t, "2 nodes alone", api.Layout{Nodes: []complex128{0, 1}}, 3, 0)
	check(t, "many nodes", api.Layout{Nodes: make([]complex128, 100000)}, 1, 0)
}

// wide is a row whose sections are so long that its nodes may be elsewhere.
func wide() api.Layout {
	l := row()
	for i := range l.Sections {
		l.Sections[i].Len = 1000
	}
	return l
}

func TestRule2(t *testing.T) {
	node := func(at int, z complex128) func(l *api.Layout) {
		return func(l *api.Layout) { l.Nodes[at] = z }
	}
	move := func(by complex128) func(l *api.Layout) {
		return func(l *api.Layout) {
			for i := range l.Nodes {
				l.Nodes[i] += by
			}
		}
	}
	nan, minus := math.NaN(), math.Copysign(0, -1)
	checkTurns(t, wide, []turn{
		{"half a metre to the east", node(2, 200.5), 2, 2},
		{"half a metre to the north", node(0, 0.5i), 2, 0},
		{"no number", node(1, complex(nan, 0)), 2, 1},
		{"no number to the north", node(1, complex(100, nan)), 2, 1},
		{"without an end", node(3, complex(math.Inf(1), 0)), 2, 3},
		{"as far east as may be", move(api.MaxPlace - 300), 0, 0},
		{"further east", move(api.MaxPlace - 299), 2, 3},
		{"as far west as may be", move(-api.MaxPlace), 0, 0},
		{"further west", move(-api.MaxPlace - 1), 2, 0},
		{"as far north as may be", move(api.MaxPlace * 1i), 0, 0},
		{"further north", move((api.MaxPlace + 1) * 1i), 2, 0},
		{"further south", move((-api.MaxPlace - 1) * 1i), 2, 0},
		{"the next one's place", node(0, 100), 2, 1},
		{"a place further ahead", node(3, 0), 2, 3},
		{"a nought with a sign", node(2, complex(minus, minus)), 2, 2},
		{"places of one metre", node(1, 1), 0, 0},
	})
	check(t, "a place of another row", turned(rows(2, 2), func(l *api.Layout) {
		l.Nodes[3] = 0
		l.Nodes[4] = 100 - 1i
		l.Nodes[5] = 200 - 1i
		l.Sections[2].Len = 101
	}), 2, 3)
	check(t, "a metre from it", turned(rows(2, 2), func(l *api.Layout) { l.Nodes[3] = -1i; l.Nodes[4] = 100 - 1i; l.Nodes[5] = 200 - 1i }), 0, 0)
}

func TestRule3(t *testing.T) {
	check(t, "1 section", rows(1), 0, 0)
	check(t, "no section", turned(row(), func(l *api.Layout) { l.Sections = nil }), 3, 0)
	check(t, "32 sections", rows(32), 0, 0)
	// Of 33 sections 17 parts would be another break.
	many := func(count int) api.Layout {
		return turned(rows(count), func(l *api.Layout) { l.Parts = [][]int{slices.Concat(l.Parts...)} })
	}
	check(t, "32 sections in one part", many(32), 0, 0)
	check(t, "33 sections in one part", many(33), 3, 0)
	check(t, "many sections", api.Layout{Nodes: []complex128{0, 1}, Sections: make([]api.Section, 100000)}, 3, 0)
}

func TestRule4(t *testing.T) {
	section := func(at, length, a, b int) func(l *api.Layout) {
		return func(l *api.Layout) { l.Sections[at] = api.Section{Len: length, A: a, B: b} }
	}
	checkTurns(t, row, []turn{
		{"one less than fits", section(0, 99, 0, 1), 4, 0},
		{"one less than fits, the last one", section(2, 99, 2, 3), 4, 2},
		{"the other way", section(0, 100, 1, 0), 0, 0},
		{"the other way, one less", section(0, 99, 1, 0), 4, 0},
		{"as long as may be", section(1, api.MaxLen, 1, 2), 0, 0},
		{"one longer", section(1, api.MaxLen+1, 1, 2), 4, 1},
		{"far longer", section(1, math.MaxInt, 1, 2), 4, 1},
		{"its square is a small number", section(1, 1<<32, 1, 2), 4, 1},
		{"below nought", section(1, -100, 1, 2), 4, 1},
		{"the least number", section(1, math.MinInt, 1, 2), 4, 1},
		{"nought", section(1, 0, 1, 2), 4, 1},
		{"A a node too far", section(2, 1000, 4, 3), 4, 2},
		{"B a node too far", section(2, 1000, 2, 4), 4, 2},
		{"A below nought", section(0, 1000, -1, 1), 4, 0},
		{"B below nought", section(0, 1000, 0, -1), 4, 0},
		{"A the greatest number", section(1, 1000, math.MaxInt, 2), 4, 1},
		{"B the least number", section(1, 1000, 1, math.MinInt), 4, 1},
		{"A as B", section(1, 1000, 1, 1), 4, 1},
	})
	aslant := func(length int) api.Layout {
		return turned(rows(1), func(l *api.Layout) { l.Nodes[1] = 30 + 40i; l.Sections[0].Len = length })
	}
	check(t, "aslant", aslant(50), 0, 0)
	check(t, "aslant, one less", aslant(49), 4, 0)
	far := func(east, north float64) api.Layout {
		return turned(rows(1), func(l *api.Layout) { l.Nodes[1] = complex(east, north); l.Sections[0].Len = api.MaxLen })
	}
	check(t, "as far apart as may be", far(api.MaxLen, 0), 0, 0)
	check(t, "a little further", far(api.MaxLen, 1), 4, 0)
	check(t, "over the whole plane", turned(far(api.MaxPlace, api.MaxPlace), func(l *api.Layout) { l.Nodes[0] = -l.Nodes[1] }), 4, 0)
}

func TestRule5(t *testing.T) {
	speed := func(n int) func(l *api.Layout) {
		return func(l *api.Layout) { l.Speed = n }
	}
	longest := func() api.Layout {
		return turned(row(), func(l *api.Layout) {
			for i := range l.Sections {
				l.Sections[i].Len = api.MaxLen
			}
		})
	}
	checkTurns(t, longest, []turn{
		{"nought", speed(0), 5, 0},
		{"one", speed(1), 0, 0},
		{"below nought", speed(-1), 5, 0},
		{"the least number", speed(math.MinInt), 5, 0},
		{"as fast as may be", speed(api.MaxLen), 0, 0},
		{"one faster", speed(api.MaxLen + 1), 5, 0},
		{"the greatest number", speed(math.MaxInt), 5, 0},
	})
}

func TestRule6(t *testing.T) {
	checkTurns(t, loop, []turn{
		{"a section a tick", func(l *api.Layout) { l.Speed = 100 }, 0, 0},
		{"one faster than the first one", func(l *api.Layout) { l.Speed = 101 }, 6, 0},
		{"one faster than the last one", func(l *api.Layout) { l.Speed = 101; l.Sections[0].Len = 101 }, 6, 5},
		{"as fast as the slowest", func(l *api.Layout) { l.Speed = 112; l.Sections[0].Len = 200; l.Sections[5].Len = 112 }, 0, 0},
		{"one faster than it", func(l *api.Layout) { l.Speed = 113; l.Sections[0].Len = 200; l.Sections[5].Len = 112 }, 6, 1},
	})
}

func TestRule7(t *testing.T) {
	for name, field := range map[string]func(l *api.Layout) *int64{
		"Mute":   func(l *api.Layout) *int64 { return &l.Mute },
		"Wait":   func(l *api.Layout) *int64 { return &l.Wait },
		"Cancel": func(l *api.Layout) *int64 { return &l.Cancel },
		"Stay":   func(l *api.Layout) *int64 { return &l.Stay },
	} {
		for _, c := range []struct {
			n     int64
			right bool
		}{
			{math.MinInt64, false}, {-api.MaxTicks, false}, {-1, false}, {0, name == "Stay"}, {1, true},
			{api.MaxTicks, true}, {api.MaxTicks + 1, false}, {1 << 32, false}, {1<<32 + 1, false}, {math.MaxInt64, false},
		} {
			number := 7
			if c.right {
				number = 0
			}
			check(t, name, turned(fork(), func(l *api.Layout) { *field(l) = c.n }), number, 0)
		}
	}
}

// insertNode makes room for a node at which no end is.
func insertNode(l *api.Layout, at int, z complex128) {
	shift := func(node *int) {
		if *node >= at {
			*node++
		}
	}
	l.Nodes = slices.Insert(l.Nodes, at, z)
	for i := range l.Sections {
		shift(&l.Sections[i].A)
		shift(&l.Sections[i].B)
	}
	for i := range l.Points {
		shift(&l.Points[i].Node)
	}
}

// star is so many sections that have an end at node 1.
func star(count int) api.Layout {
	l := rows(1)
	for i := 1; i < count; i++ {
		l.Nodes = append(l.Nodes, complex(200, float64(i)))
		l.Sections = append(l.Sections, api.Section{Len: 200, A: 1, B: i + 1})
		l.Parts[0] = append(l.Parts[0], i)
	}
	if count == 3 {
		l.Points = []api.Point{{Node: 1, Stem: 0, Left: 1, Right: 2}}
	}
	return l
}

func TestRule8(t *testing.T) {
	for at := range 7 {
		check(t, "a node alone", turned(loop(), func(l *api.Layout) { insertNode(l, at, 5000i) }), 8, at)
	}
	check(t, "one end", star(1), 0, 0)
	check(t, "two ends", star(2), 0, 0)
	check(t, "three ends", star(3), 0, 0)
	check(t, "four ends", star(4), 8, 1)
	check(t, "five ends", star(5), 8, 1)
	check(t, "32 ends", star(32), 8, 1)
	check(t, "four ends and a point", turned(star(4), func(l *api.Layout) { l.Points = star(3).Points }), 8, 1)
}

func TestRule9(t *testing.T) {
	check(t, "no point", row(), 0, 0)
	check(t, "8 points", shortForks(8), 0, 0)
	check(t, "9 points", shortForks(9), 9, 0)
	check(t, "9 points at no node", turned(row(), func(l *api.Layout) { l.Points = make([]api.Point, 9) }), 9, 0)
	check(t, "8 points at no node", turned(row(), func(l *api.Layout) { l.Points = make([]api.Point, 8) }), 10, 0)
	check(t, "many points", turned(row(), func(l *api.Layout) { l.Points = make([]api.Point, 100000) }), 9, 0)
}

func TestRule10(t *testing.T) {
	point := func(node, stem, left, right int) func(l *api.Layout) {
		return func(l *api.Layout) { l.Points[0] = api.Point{Node: node, Stem: stem, Left: left, Right: right} }
	}
	checkTurns(t, fork, []turn{
		{"left and right the other way", point(2, 1, 3, 2), 0, 0},
		{"no such node", point(5, 1, 2, 3), 10, 0},
		{"a node below nought", point(-1, 1, 2, 3), 10, 0},
		{"the greatest node", point(math.MaxInt, 1, 2, 3), 10, 0},
		{"the least node", point(math.MinInt, 1, 2, 3), 10, 0},
		{"a node with two ends", point(1, 0, 1, 2), 10, 0},
		{"a node with two ends, one section twice", point(1, 0, 1, 1), 10, 0},
		{"a node with one end", point(3, 2, 2, 2), 10, 0},
		{"another stem", point(2, 0, 2, 3), 10, 0},
		{"another left", point(2, 1, 0, 3), 10, 0},
		{"another right", point(2, 1, 2, 0), 10, 0},
		{"left as right", point(2, 1, 2, 2), 10, 0},
		{"right as left", point(2, 1, 3, 3), 10, 0},
		{"stem as left", point(2, 1, 1, 3), 10, 0},
		{"stem as right", point(2, 3, 2, 3), 10, 0},
		{"no such section", point(2, 1, 2, 4), 10, 0},
		{"a section below nought", point(2, -1, 2, 3), 10, 0},
		{"the greatest section", point(2, 1, math.MaxInt, 3), 10, 0},
		{"the least section", point(2, 1, 2, math.MinInt), 10, 0},
	})
	for _, p := range []api.Point{{}, {Node: 1, Stem: 0, Left: 1, Right: 1}, {Node: -1}, {Node: 4}} {
		check(t, "a point in a row", turned(row(), func(l *api.Layout) { l.Points = []api.Point{p} }), 10, 0)
	}
	check(t, "the second one", turned(loop(), func(l *api.Layout) { l.Points[1].Stem = 5 }), 10, 1)
	check(t, "the other one's node", turned(loop(), func(l *api.Layout) { l.Points[1].Node = 4 }), 10, 1)
}

func TestRule11(t *testing.T) {
	drop := func(points ...int) func(l *api.Layout) {
		return func(l *api.Layout) {
			for _, i := range slices.Backward(points) {
				l.Points = slices.Delete(l.Points, i, i+1)
			}
			l.Routes = nil
		}
	}
	checkTurns(t, loop, []turn{
		{"none at node 4", drop(0), 11, 4},
		{"none at node 1", drop(1), 11, 1},
		{"none at all", drop(0, 1), 11, 1},
		{"two at node 4", func(l *api.Layout) { l.Points = append(l.Points, l.Points[0]) }, 11, 4},
		{"two at node 1", func(l *api.Layout) { l.Points = append(l.Points, l.Points[1]) }, 11, 1},
		{"two at node 4, unlike ones", func(l *api.Layout) {
			l.Points = append(l.Points, api.Point{Node: 4, Stem: 5, Left: 2, Right: 4})
		}, 11, 4},
		{"two at each", func(l *api.Layout) { l.Points = append(l.Points, l.Points...) }, 11, 1},
		{"all of them at node 4", func(l *api.Layout) { l.Points[1] = l.Points[0]; l.Routes = nil }, 11, 1},
	})
	check(t, "three at one node", turned(fork(), func(l *api.Layout) { l.Points = append(l.Points, l.Points[0], l.Points[0]) }), 11, 2)
}

// corner is two sections, the second one of which goes from 100 by this.
func corner(by complex128) api.Layout {
	return turned(rows(2), func(l *api.Layout) { l.Nodes[2] = l.Nodes[1] + by })
}

// parting is a stem, and behind it sections that go from 100 by these.
func parting(left, right complex128) api.Layout {
	return turned(shortForks(1), func(l *api.Layout) { l.Nodes[2], l.Nodes[3] = 100+left, 100+right })
}

func TestRule12(t *testing.T) {
	for _, c := range []struct {
		by    complex128
		right bool
	}{
		{100, true}, {1, true}, {1 + 99i, true}, {1 - 99i, true}, {1i, false}, {100i, false}, {-100i, false},
		{-1 + 99i, false}, {-1 - 99i, false}, {-99, false}, {-1, false},
	} {
		number := 12
		if c.right {
			number = 0
		}
		place := number / 12
		check(t, "two ends", corner(c.by), number, place)
		check(t, "the left", parting(c.by, 90+1i), number, place)
		check(t, "the right", parting(90+1i, c.by), number, place)
	}
	check(t, "both", parting(-1i, 1i), 12, 1)
	back := api.Layout{Nodes: []complex128{0, 100}, Sections: []api.Section{{Len: 100, A: 0, B: 1}, {Len: 110, A: 0, B: 1}},
		Parts: [][]int{{0, 1}}, Speed: 1, Mute: 1, Wait: 1, Cancel: 1}
	check(t, "two sections between the same nodes", back, 12, 0)
	for _, p := range []api.Point{{Node: 2, Stem: 2, Left: 1, Right: 3}, {Node: 2, Stem: 3, Left: 2, Right: 1}, {Node: 2, Stem: 2, Left: 3, Right: 1}} {
		check(t, "another stem", turned(fork(), func(l *api.Layout) { l.Points[0] = p; l.Routes = nil }), 12, 2)
	}
	check(t, "the point's node ahead of a corner", turned(loop(), func(l *api.Layout) {
		l.Points[1] = api.Point{Node: 1, Stem: 1, Left: 0, Right: 3}
		l.Nodes[2] = 350 + 50i
		l.Sections[1].Len = 1000
	}), 12, 1)
	check(t, "a corner ahead of the point's node", turned(loop(), func(l *api.Layout) {
		l.Points[0] = api.Point{Node: 4, Stem: 2, Left: 4, Right: 5}
		l.Nodes[2] = 350 + 50i
		l.Sections[1].Len = 1000
	}), 12, 2)
}

func TestRule13(t *testing.T) {
	parts := func(parts ...[]int) func(l *api.Layout) {
		return func(l *api.Layout) { l.Parts = parts }
	}
	checkTurns(t, row, []turn{
		{"one part", parts([]int{2, 0, 1}), 0, 0},
		{"no part", parts(), 13, 0},
		{"an empty part", parts([]int{0, 1, 2}, []int{}), 13, 1},
		{"a nil part", parts(nil, []int{0, 1, 2}), 13, 0},
		{"no such section", parts([]int{0}, []int{1, 2, 3}), 13, 1},
		{"no such section, the first one", parts([]int{3, 0, 1, 2}), 13, 0},
		{"a section below nought", parts([]int{0}, []int{1}, []int{2, -1}), 13, 2},
		{"the greatest section", parts([]int{0, math.MaxInt, 1, 2}), 13, 0},
		{"the least section", parts([]int{0, 1, 2}, []int{math.MinInt}), 13, 1},
	})
	// A part of each of 16 sections, and of each of 17.
	each := func(count int) api.Layout {
		return turned(rows(count), func(l *api.Layout) {
			l.Parts = nil
			for i := range count {
				l.Parts = append(l.Parts, []int{i})
			}
		})
	}
	check(t, "16 parts", each(16), 0, 0)
	check(t, "17 parts", each(17), 13, 0)
	check(t, "17 parts, one of them empty", turned(each(16), func(l *api.Layout) { l.Parts = append(l.Parts, nil) }), 13, 0)
	check(t, "16 parts, one of them empty", turned(each(15), func(l *api.Layout) { l.Parts = append(l.Parts, nil) }), 13, 15)
	check(t, "many parts", turned(row(), func(l *api.Layout) { l.Parts = make([][]int, 100000) }), 13, 0)
}

func TestRule14(t *testing.T) {
	parts := func(parts ...[]int) func(l *api.Layout) {
		return func(l *api.Layout) { l.Parts = parts }
	}
	checkTurns(t, row, []turn{
		{"parts in any order", parts([]int{2}, []int{1, 0}), 0, 0},
		{"the first one in none", parts([]int{1}, []int{2}), 14, 0},
		{"the last one in none", parts([]int{1, 0}), 14, 2},
		{"in two", parts([]int{0, 1}, []int{1, 2}), 14, 1},
		{"twice in one", parts([]int{0, 1, 2, 2}), 14, 2},
		{"in all", parts([]int{0, 1}, []int{0}, []int{2, 0}), 14, 0},
		{"many times", parts([]int{0, 1}, slices.Repeat([]int{2}, 100000)), 14, 2},
	})
}

func TestRule15(t *testing.T) {
	routes := func(routes ...[]int) func(l *api.Layout) {
		return func(l *api.Layout) { l.Routes = routes }
	}
	there := []int{0, 1, 2}
	checkTurns(t, fork, []turn{
		{"none", routes(), 0, 0},
		{"two sections", routes([]int{0, 1}), 0, 0},
		{"one section", routes([]int{0}), 15, 0},
		{"no section", routes(there, nil), 15, 1},
		{"twice the same route", routes(there, there), 0, 0},
		{"a section twice", routes(there, there, []int{0, 1, 0}), 15, 2},
		{"back over the point", routes([]int{2, 1, 3}), 15, 0},
		{"from side to side", routes(there, []int{2, 3}), 15, 1},
		{"one is left out", routes([]int{0, 2}), 15, 0},
		{"no such section", routes([]int{0, 1, 4}), 15, 0},
		{"a section below nought", routes(there, []int{-1, 0}), 15, 1},
		{"the greatest section", routes([]int{0, 1, math.MaxInt}), 15, 0},
		{"the least section", routes([]int{math.MinInt, 0, 1}), 15, 0},
		{"16 routes", routes(slices.Repeat([][]int{there}, 16)...), 0, 0},
		{"17 routes", routes(slices.Repeat([][]int{there}, 17)...), 15, 0},
		{"16 routes, one of them none", routes(append(slices.Repeat([][]int{there}, 15), nil)...), 15, 15},
		{"17 routes, one of them none", routes(append(slices.Repeat([][]int{there}, 16), nil)...), 15, 0},
		{"many routes", routes(make([][]int, 100000)...), 15, 0},
	})
	long := make([]int, 14)
	for i := range long {
		long[i] = i
	}
	checkTurns(t, func() api.Layout { return rows(14) }, []turn{
		{"12 sections", routes(long[:12]), 0, 0},
		{"12 sections, further on", routes(long[2:]), 0, 0},
		{"13 sections", routes(long[:13]), 15, 0},
		{"14 sections, behind 12", routes(long[:12], long), 15, 1},
		{"many sections", routes(long[:12], make([]int, 100000)), 15, 1},
	})
	check(t, "all ways round a ring", turned(ring(), routes([]int{0, 1, 2, 3, 4, 5, 6, 7}, []int{0, 7, 6, 5, 4, 3, 2, 1})), 0, 0)
}
