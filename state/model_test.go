package state

// This file holds what the package tells against second reckonings: the
// chapter's words section by section, for all that the parts of small layouts
// may be; changes that are carried out anew; and bodies that go about a row, of
// which it is known who is where.

import (
	"slices"
	"strings"
	"testing"

	"balise/api"
	"balise/own"
	"balise/verify"
)

// row is so many sections one behind the other to the east, each of them a
// part, every other one laid to the west.
func row(count int) api.Layout {
	l := api.Layout{Nodes: []complex128{0}, Speed: 40, Mute: 20, Wait: 10, Cancel: 3}
	for i := range count {
		l.Nodes = append(l.Nodes, complex(float64(100*(i+1)), 0))
		s := api.Section{Len: 100, A: i, B: i + 1}
		if i%2 == 1 {
			s.A, s.B = s.B, s.A
		}
		l.Sections = append(l.Sections, s)
		l.Parts = append(l.Parts, []int{i})
	}
	return l
}

// fork is a section 0, a stem 1 behind it, and 2 to the left of that, 3 to the
// right.
func fork() api.Layout {
	return api.Layout{
		Nodes:    []complex128{0, 100, 200, 300 + 50i, 300 - 50i},
		Sections: []api.Section{{Len: 100, A: 0, B: 1}, {Len: 100, A: 2, B: 1}, {Len: 120, A: 2, B: 3}, {Len: 130, A: 4, B: 2}},
		Parts:    [][]int{{0}, {1}, {2, 3}},
		Points:   []api.Point{{Node: 2, Stem: 1, Left: 2, Right: 3}},
		Speed:    40, Mute: 20, Wait: 10, Cancel: 3,
	}
}

// legs is a fork each of whose sections is a part.
func legs() api.Layout {
	l := fork()
	l.Parts = [][]int{{2}, {0}, {3}, {1}}
	return l
}

// pieces is a row of which each part lies in pieces.
func pieces() api.Layout {
	l := row(7)
	l.Parts = [][]int{{0, 4}, {6, 1}, {2, 5}, {3}}
	return l
}

// broad is a row that one detector watches.
func broad() api.Layout {
	l := row(5)
	l.Parts = [][]int{{3, 0, 4, 1, 2}}
	return l
}

// pairs is a row of which one detector watches two sections each.
func pairs() api.Layout {
	l := row(8)
	l.Parts = [][]int{{0, 1}, {3, 2}, {4, 5}, {7, 6}}
	return l
}

// small are layouts of so few parts that all that these may be can be tried.
func small() map[string]api.Layout {
	return map[string]api.Layout{"one": row(1), "row": row(3), "fork": fork(), "legs": legs(), "pieces": pieces(), "broad": broad(), "pairs": pairs()}
}

func TestLayoutsAreRight(t *testing.T) {
	for name, l := range small() {
		if n, at := verify.First(l); n != 0 {
			t.Errorf("%s breaks rule %d at %d", name, n, at)
		}
	}
}

// numbers tells numbers by a rule, so that each run tries the same ones.
type numbers uint32

func (n *numbers) below(m int) int {
	*n = *n*1664525 + 1013904223
	return int(*n>>8) % m
}

// viewsOf tells views of three trains at most, sure and unsure ones, in all
// sections but some.
func viewsOf(l api.Layout, n *numbers) []own.View {
	var views []own.View
	for _, id := range []int{5, 0, 4} {
		v := own.View{ID: id, Sure: n.below(2) == 0}
		for section := range l.Sections {
			if n.below(3) == 0 {
				v.Span = append(v.Span, section)
			}
		}
		if n.below(3) != 0 {
			views = append(views, v)
		}
	}
	return views
}

// whatIs is the second reckoning of a section: who may be in it, then the words
// from the safest one down.
func whatIs(l api.Layout, owners []int, views []own.View, section int) byte {
	var in []int
	for _, v := range views {
		for _, s := range v.Span {
			if s == section {
				in = append(in, v.ID)
			}
		}
	}
	known := []int{}
	for part, sections := range l.Parts {
		if slices.Contains(sections, section) && owners[part] != api.Unknown {
			known = append(known, owners[part])
		}
	}
	switch {
	case len(known) == 0 && len(in) == 0:
		return api.Dark
	case len(known) == 0:
		return api.Ambiguous
	case slices.Contains(in, known[0]):
		return api.Taken
	}
	return api.Free
}

// All that the parts of small layouts may be.
func TestOfAgainstWords(t *testing.T) {
	choices := []int{api.Empty, api.Unknown, 4, 0}
	for name, l := range small() {
		n, told := numbers(len(name)), map[byte]int{}
		for left := range 1 << (2 * len(l.Parts)) {
			owners := make([]int, len(l.Parts))
			for part := range owners {
				owners[part] = choices[left>>(2*part)%4]
			}
			for range 30 {
				views := viewsOf(l, &n)
				got := Of(l, owners, views)
				if len(got) != len(l.Sections) {
					t.Fatalf("%s: Of tells %d sections", name, len(got))
				}
				for section, state := range got {
					told[state]++
					if want := whatIs(l, owners, views, section); state != want {
						t.Fatalf("%s: owners %v, views %v: Of is %v, but section %d should be %d", name, owners, views, got, section, want)
					}
				}
			}
		}
		if len(told) != 4 {
			t.Errorf("%s: states are told so often: %v", name, told)
		}
	}
}

// numbered are the chapter's words for the changes' numbers.
const numbered = `Free to Dark 1, to Taken 2, to Ambiguous 3; Dark to Free 4, to Ambiguous 5, to Taken 12; ` +
	`Taken to Free 6, to Dark 7, to Ambiguous 8; Ambiguous to Free 9, to Dark 10, to Taken 11`

// changeOf tells the two states whose change has a number, as the words say it.
func changeOf(t *testing.T, kind byte) (byte, byte) {
	t.Helper()
	states := map[string]byte{"Free": api.Free, "Dark": api.Dark, "Taken": api.Taken, "Ambiguous": api.Ambiguous}
	for _, group := range strings.Split(numbered, "; ") {
		from, rest, _ := strings.Cut(group, " ")
		for _, one := range strings.Split(rest, ", ") {
			words := strings.Fields(one)
			number := byte(0)
			for _, digit := range []byte(words[2]) {
				number = number*10 + digit - '0'
			}
			if number == kind {
				return states[from], states[words[1]]
			}
		}
	}
	t.Fatalf("no change has the number %d", kind)
	return 0, 0
}

// What Changes tells, carried out on what was, is what is, and tells of each
// section once, rising, what it was.
func TestChangesCarriedOut(t *testing.T) {
	n, told := numbers(7), map[byte]int{}
	for range 3000 {
		was, is := make([]byte, n.below(40)), make([]byte, n.below(40))
		for _, list := range [][]byte{was, is} {
			for section := range list {
				list[section] = byte(n.below(4))
			}
		}
		carried, last := slices.Clone(was), -1
		for _, c := range Changes(was, is) {
			told[c.Kind]++
			from, to := changeOf(t, c.Kind)
			if c.Section <= last || c.Section >= min(len(was), len(is)) || was[c.Section] != from || from == to {
				t.Fatalf("%v to %v: %v behind section %d", was, is, c, last)
			}
			carried[c.Section], last = to, c.Section
		}
		both := min(len(was), len(is))
		if !slices.Equal(carried[:both], is[:both]) {
			t.Fatalf("%v to %v: carried out it is %v", was, is, carried)
		}
	}
	if len(told) != 12 {
		t.Errorf("changes are told so often: %v", told)
	}
}

// body is a vehicle on a row: where its ends are, in metres from the west.
type body struct{ west, east int }

// isIn tells whether it is in a section of 100 metres.
func (b body) isIn(section int) bool {
	return b.west < 100*(section+1) && b.east > 100*section
}

// goes tells where it is a tick later: it goes on by so many metres at most.
func (b body) goes(n *numbers, speed, length int) body {
	by := n.below(2*speed+1) - speed
	by = max(-b.west, min(by, length-b.east))
	return body{b.west + by, b.east + by}
}

// spanOf tells the sections in which a body is, and at times one more.
func spanOf(l api.Layout, n *numbers, b body) []int {
	var span []int
	for section := range l.Sections {
		if b.isIn(section) {
			span = append(span, section)
		}
	}
	if n.below(3) == 0 {
		span = append(span, n.below(len(l.Sections)))
	}
	return span
}

// look tells what the detectors say, and what the trains do, of bodies of which
// just so many ever speak.
func look(l api.Layout, n *numbers, bodies []body, speak int) ([]bool, []own.View) {
	clear := make([]bool, len(l.Parts))
	for part, sections := range l.Parts {
		clear[part] = !slices.ContainsFunc(sections, func(section int) bool {
			return slices.ContainsFunc(bodies, func(b body) bool { return b.isIn(section) })
		})
	}
	var views []own.View
	for id, b := range bodies[:speak] {
		if n.below(12) != 0 {
			views = append(views, own.View{ID: id, Sure: n.below(12) != 0, Span: spanOf(l, n, b)})
		}
	}
	return clear, views
}

// alone tells the part of a body's west end, and whether no other one is in it.
func alone(l api.Layout, bodies []body, id int) (int, bool) {
	part := slices.IndexFunc(l.Parts, func(sections []int) bool {
		return slices.Contains(sections, min(bodies[id].west/100, len(l.Sections)-1))
	})
	for other, b := range bodies {
		if other != id && slices.ContainsFunc(l.Parts[part], b.isIn) {
			return part, false
		}
	}
	return part, true
}

// Where bodies go about no faster than Speed, and nobody declares but what is
// so, no section is Free in which one is, and in one that is Taken just one may
// be: the train that owns its part.
func TestNobodyIsInFree(t *testing.T) {
	for name, l := range map[string]api.Layout{"row": row(9), "pairs": pairs(), "pieces": pieces(), "broad": broad()} {
		length, told := 100*len(l.Sections), map[byte]int{}
		for seed := range 80 {
			n, owners := numbers(seed), own.Start(len(l.Parts))
			l.Speed = []int{100, 99, 40}[seed%3]
			bodies := make([]body, 1+n.below(3))
			for id := range bodies {
				west := n.below(length - 150)
				bodies[id] = body{west, west + 1 + n.below(150)}
			}
			for range 200 {
				for id, b := range bodies {
					bodies[id] = b.goes(&n, l.Speed, length)
				}
				clear, views := look(l, &n, bodies, len(bodies)-seed%2)
				owners = own.Next(l, owners, clear, views)
				id := n.below(len(bodies))
				if part, sole := alone(l, bodies, id); sole {
					owners, _ = own.Declare(l, owners, clear, views, part, id)
				}
				for section, state := range Of(l, owners, views) {
					told[state]++
					holdState(t, name, l, owners, bodies, section, state)
				}
			}
		}
		if len(told) != 4 {
			t.Errorf("%s: states are told so often: %v", name, told)
		}
	}
}

// holdState holds a section's state against who is there.
func holdState(t *testing.T, name string, l api.Layout, owners []int, bodies []body, section int, state byte) {
	t.Helper()
	for id, b := range bodies {
		if !b.isIn(section) {
			continue
		}
		part := slices.IndexFunc(l.Parts, func(sections []int) bool { return slices.Contains(sections, section) })
		if state == api.Free || state == api.Taken && owners[part] != id {
			t.Fatalf("%s: bodies %v, owners %v: section %d is %d, and %d is in it", name, bodies, owners, section, state, id)
		}
	}
}
