package own

// This file holds what the package tells against second reckonings: the
// chapter's words one by one, with what is beside a part told by where the
// nodes lie; and trains that go on a row, of which it is known who is where.

import (
	"slices"
	"testing"

	"balise/api"
	"balise/graph"
	"balise/verify"
)

// row is so many sections one behind the other to the east, each of them a
// part, every other one laid to the west.
func row(count int) api.Layout {
	l := api.Layout{Nodes: []complex128{0}, Speed: 40, Mute: 20, Wait: 10, Cancel: 3}
	for i := range count {
		l.Nodes = append(l.Nodes, complex(float64(100*(i+1)), 0))
		s := api.Section{Len: 100, A: i, B: i + 1}
		if i%2 == 1 {
			s.A, s.B = s.B, s.A
		}
		l.Sections = append(l.Sections, s)
		l.Parts = append(l.Parts, []int{i})
	}
	return l
}

// fork is a section 0, a stem 1 behind it, and 2 to the left of that, 3 to the
// right.
func fork() api.Layout {
	return api.Layout{
		Nodes:    []complex128{0, 100, 200, 300 + 50i, 300 - 50i},
		Sections: []api.Section{{Len: 100, A: 0, B: 1}, {Len: 100, A: 2, B: 1}, {Len: 120, A: 2, B: 3}, {Len: 130, A: 4, B: 2}},
		Parts:    [][]int{{0}, {1}, {2, 3}},
		Points:   []api.Point{{Node: 2, Stem: 1, Left: 2, Right: 3}},
		Speed:    40, Mute: 20, Wait: 10, Cancel: 3,
	}
}

// loop is a track that parts into two ways, which come together again.
func loop() api.Layout {
	return api.Layout{
		Nodes: []complex128{0, 100, 200 + 50i, 200 - 50i, 300, 400},
		Sections: []api.Section{{Len: 100, A: 0, B: 1}, {Len: 112, A: 1, B: 2}, {Len: 112, A: 4, B: 2},
			{Len: 112, A: 1, B: 3}, {Len: 112, A: 3, B: 4}, {Len: 100, A: 5, B: 4}},
		Parts:  [][]int{{0}, {1, 2}, {3, 4}, {5}},
		Points: []api.Point{{Node: 4, Stem: 5, Left: 4, Right: 2}, {Node: 1, Stem: 0, Left: 1, Right: 3}},
		Speed:  40, Mute: 20, Wait: 10, Cancel: 3,
	}
}

// ring is a track without an end, of eight sections, in parts that meet at
// both their ends.
func ring() api.Layout {
	l := api.Layout{
		Nodes: []complex128{0, 100, 200 + 100i, 200 + 200i, 100 + 300i, 300i, -100 + 200i, -100 + 100i},
		Parts: [][]int{{7, 6}, {0, 1, 2}, {5, 3}, {4}},
		Speed: 40, Mute: 20, Wait: 10, Cancel: 3,
	}
	for i := range l.Nodes {
		s := api.Section{Len: 142, A: i, B: (i + 1) % len(l.Nodes)}
		if i%3 == 2 {
			s.A, s.B = s.B, s.A
		}
		l.Sections = append(l.Sections, s)
	}
	return l
}

// turning is a stem 0 whose left and right are the two ends of one way, by
// which a train comes back the other way round.
func turning() api.Layout {
	return api.Layout{
		Nodes: []complex128{0, 100, 200 + 100i, 300 + 100i, 350, 300 - 100i, 200 - 100i},
		Sections: []api.Section{{Len: 100, A: 0, B: 1}, {Len: 142, A: 1, B: 2}, {Len: 100, A: 3, B: 2}, {Len: 112, A: 3, B: 4},
			{Len: 112, A: 5, B: 4}, {Len: 100, A: 5, B: 6}, {Len: 142, A: 1, B: 6}},
		Parts:  [][]int{{6, 5}, {0}, {1, 2}, {4, 3}},
		Points: []api.Point{{Node: 1, Stem: 0, Left: 1, Right: 6}},
		Speed:  40, Mute: 20, Wait: 10, Cancel: 3,
	}
}

// legs is a fork each of whose sections is a part.
func legs() api.Layout {
	l := fork()
	l.Parts = [][]int{{2}, {0}, {3}, {1}}
	return l
}

// pieces is a row of which each part lies in pieces.
func pieces() api.Layout {
	l := row(7)
	l.Parts = [][]int{{0, 4}, {6, 1}, {2, 5}, {3}}
	return l
}

// small are layouts of so few parts that all that may befall them can be tried.
func small() map[string]api.Layout {
	return map[string]api.Layout{"one": row(1), "two": row(2), "row": row(3), "fork": fork(), "loop": loop(), "ring": ring(), "turning": turning(), "legs": legs(), "pieces": pieces()}
}

func TestLayoutsAreRight(t *testing.T) {
	all := small()
	all["long row"] = row(api.MaxParts)
	for name, l := range all {
		if n, at := verify.First(l); n != 0 {
			t.Errorf("%s breaks rule %d at %d", name, n, at)
		}
	}
}

// far tells a section's other node.
func far(s api.Section, node int) int {
	return s.A + s.B - node
}

// joins tells whether a train may go from a section into another one: they lie
// straight on at a node. (In these layouts a point's left doesn't lie so from
// its right.)
func joins(l api.Layout, from, to int) bool {
	s, u := l.Sections[from], l.Sections[to]
	for _, node := range []int{s.A, s.B} {
		if from == to || u.A != node && u.B != node {
			continue
		}
		a, b := l.Nodes[node]-l.Nodes[far(s, node)], l.Nodes[far(u, node)]-l.Nodes[node]
		if real(a)*real(b)+imag(a)*imag(b) > 0 {
			return true
		}
	}
	return false
}

// border tells whether two parts, unlike ones, have sections that join.
func border(l api.Layout, a, b int) bool {
	for _, from := range l.Parts[a] {
		for _, to := range l.Parts[b] {
			if a != b && joins(l, from, to) {
				return true
			}
		}
	}
	return false
}

// maySay tells whether there is a View of a train by which it may be in a part.
func maySay(l api.Layout, views []View, part, id int) bool {
	for _, v := range views {
		if v.ID != id || !v.Sure {
			continue
		}
		for _, section := range v.Span {
			if slices.Contains(l.Parts[part], section) {
				return true
			}
		}
	}
	return false
}

// whose is the second reckoning of one part: each train in turn is tried.
func whose(l api.Layout, was []int, clear []bool, views []View, part int) int {
	if clear[part] {
		return api.Empty
	}
	var are []int
	for id := range 64 {
		if was[part] != api.Empty && was[part] != id || !maySay(l, views, part, id) {
			continue
		}
		others, mine := false, was[part] == id
		for other := range was {
			if border(l, part, other) {
				mine = mine || was[other] == id
				others = others || was[other] != id && was[other] != api.Empty
			}
		}
		if mine && !others {
			are = append(are, id)
		}
	}
	if len(are) != 1 {
		return api.Unknown
	}
	return are[0]
}

// hold holds Next against the second reckoning, and tells it.
func hold(t *testing.T, name string, l api.Layout, was []int, clear []bool, views []View) []int {
	t.Helper()
	got := Next(l, was, clear, views)
	if len(got) != len(l.Parts) {
		t.Fatalf("%s: Next tells %d parts", name, len(got))
	}
	for part, id := range got {
		if want := whose(l, was, clear, views, part); id != want {
			t.Fatalf("%s: %v, clear %v, views %v: Next is %v, but part %d should be %d", name, was, clear, views, got, part, want)
		}
	}
	return got
}

// viewsOf tells views of two trains, by the bits of a number: whether there are
// such, whether they are sure, and in which sections they may be.
func viewsOf(l api.Layout, n numbers) []View {
	var views []View
	for _, id := range []int{5, 4} {
		v := View{ID: id, Sure: n.below(4) != 0}
		for section := range l.Sections {
			if n.below(3) != 0 {
				v.Span = append(v.Span, section)
			}
		}
		if n.below(5) != 0 {
			views = append(views, v)
		}
	}
	return views
}

// numbers tells numbers by a rule, so that each run tries the same ones.
type numbers uint32

func (n *numbers) below(m int) int {
	*n = *n*1664525 + 1013904223
	return int(*n>>8) % m
}

// All that the parts of small layouts may have been, and be by their detectors.
func TestAgainstEachTrain(t *testing.T) {
	owners := []int{api.Empty, api.Unknown, 4, 5}
	for name, l := range small() {
		seed, told := numbers(0), map[int]int{}
		cases := 1
		for range l.Parts {
			cases *= 2 * len(owners)
		}
		for n := range cases {
			was, clear := make([]int, len(l.Parts)), make([]bool, len(l.Parts))
			for part, left := 0, n; part < len(was); part, left = part+1, left/8 {
				was[part], clear[part] = owners[left%4], left%8 >= 4
			}
			for range 3 {
				seed++
				for _, id := range hold(t, name, l, was, clear, viewsOf(l, seed*77)) {
					told[id]++
				}
			}
		}
		if len(told) != len(owners) {
			t.Errorf("%s: owners are told so often: %v", name, told)
		}
	}
}

// Declare is held against its words, with each part and train.
func TestDeclareAgainstWords(t *testing.T) {
	told := map[api.Errno]int{}
	for name, l := range small() {
		for seed := range 300 {
			n := numbers(seed)
			own, clear := make([]int, len(l.Parts)), make([]bool, len(l.Parts))
			for part := range own {
				own[part], clear[part] = n.below(9)-2, n.below(4) == 0
			}
			views := viewsOf(l, n)
			for part := -2; part < len(l.Parts)+2; part++ {
				for id := range 8 {
					want, e := slices.Clone(own), api.OK
					speaks := slices.ContainsFunc(views, func(v View) bool { return v.ID == id })
					switch {
					case part < 0, part >= len(l.Parts), !speaks:
						e = api.ErrNone
					case clear[part], !maySay(l, views, part, id):
						e = api.ErrState
					default:
						want[part] = id
					}
					told[e]++
					got, is := Declare(l, own, clear, views, part, id)
					if is != e || !slices.Equal(got, want) {
						t.Fatalf("%s: %v, clear %v, views %v: Declare of part %d, train %d is %v, %d, not %v, %d", name, own, clear, views, part, id, got, is, want, e)
					}
				}
			}
		}
	}
	if len(told) != 3 {
		t.Errorf("Declare's errors are told so often: %v", told)
	}
}

// body is a vehicle on a row: where its ends are, in metres from the west.
type body struct{ west, east int }

// sections tells in which sections of 100 metres it is, from west to east.
func (b body) sections() []int {
	var all []int
	for section := b.west / 100; section*100 < b.east; section++ {
		all = append(all, section)
	}
	return all
}

// goes tells where it is a tick later: it goes on by so many metres at most.
func (b body) goes(n *numbers, speed, length int) body {
	by := n.below(2*speed+1) - speed
	by = max(-b.west, min(by, length-b.east))
	return body{b.west + by, b.east + by}
}

// isInPart tells whether it is in a section of a part.
func (b body) isInPart(l api.Layout, part int) bool {
	return slices.ContainsFunc(b.sections(), func(section int) bool { return slices.Contains(l.Parts[part], section) })
}

// look tells what the detectors say, and what the trains do, of bodies of which
// the last one never speaks. A train may be told to be where it isn't: nobody
// else must be taken for it there.
func look(l api.Layout, n *numbers, bodies []body) ([]bool, []View) {
	clear := make([]bool, len(l.Parts))
	for part := range clear {
		clear[part] = !slices.ContainsFunc(bodies, func(b body) bool { return b.isInPart(l, part) })
	}
	var views []View
	for id, b := range bodies[:len(bodies)-1] {
		span := b.sections()
		if n.below(4) == 0 {
			span = append(span, n.below(len(l.Sections)))
		}
		if n.below(12) != 0 {
			views = append(views, View{ID: id, Sure: n.below(12) != 0, Span: span})
		}
	}
	return clear, views
}

// Where bodies go about no faster than Speed, and nobody declares but what is
// so, nobody is in a part that is Empty, and nobody but its owner in another.
func TestNobodyElseIsIn(t *testing.T) {
	for name, l := range map[string]api.Layout{"row": row(9), "pieces": pieces()} {
		length, told := 100*len(l.Sections), map[int]int{}
		for seed := range 80 {
			n, owners := numbers(seed), Start(len(l.Parts))
			l.Speed = []int{100, 99, 40}[seed%3]
			bodies := make([]body, 1+n.below(3))
			for id := range bodies {
				west := n.below(length - 150)
				bodies[id] = body{west, west + 1 + n.below(150)}
			}
			for range 200 {
				for id, b := range bodies {
					bodies[id] = b.goes(&n, l.Speed, length)
				}
				clear, views := look(l, &n, bodies)
				owners = hold(t, name, l, owners, clear, views)
				id := n.below(len(bodies))
				part := graph.New(l).Part(bodies[id].west / 100)
				if isSole(l, bodies, part, id) {
					owners, _ = Declare(l, owners, clear, views, part, id)
				}
				for part, owner := range owners {
					told[owner]++
					if owner != api.Unknown && !isSole(l, bodies, part, owner) {
						t.Fatalf("%s: bodies %v, clear %v: %v, and somebody else is in part %d", name, bodies, clear, owners, part)
					}
				}
			}
		}
		if told[api.Unknown] < 1000 || told[api.Empty] < 1000 || told[0] < 1000 {
			t.Errorf("%s: owners are told so often: %v", name, told)
		}
	}
}

// isSole tells whether nobody but a train is in a part.
func isSole(l api.Layout, bodies []body, part, id int) bool {
	for other, b := range bodies {
		if other != id && b.isInPart(l, part) {
			return false
		}
	}
	return true
}
