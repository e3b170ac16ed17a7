package graph

// This file holds the graph against a second reckoning, which asks all ends
// that there are, and all ways, one by one; and looks at what is shared.

import (
	"fmt"
	"reflect"
	"slices"
	"testing"

	"balise/api"
)

// model is the chapter's words, of a layout.
type model struct {
	l  api.Layout
	at map[api.End]int // the nodes of all ends
}

func newModel(l api.Layout) model {
	m := model{l: l, at: map[api.End]int{}}
	for i, s := range l.Sections {
		m.at[api.End{Section: i, End: 0}] = s.A
		m.at[api.End{Section: i, End: 1}] = s.B
	}
	return m
}

func (m model) ends(node int) []api.End {
	var all []api.End
	for e, n := range m.at {
		if n == node {
			all = append(all, e)
		}
	}
	slices.SortFunc(all, func(a, b api.End) int { return a.Section*2 + a.End - b.Section*2 - b.End })
	return all
}

func (m model) point(node int) int {
	for i := len(m.l.Points) - 1; i >= 0; i-- {
		if m.l.Points[i].Node == node && !slices.ContainsFunc(m.l.Points[:i], func(p api.Point) bool { return p.Node == node }) {
			return i
		}
	}
	return -1
}

// around tells the ends, and of each whether the point leads to it standing to
// the left, and to the right.
func (m model) around(e api.End) (all []api.End, stand [][2]bool) {
	node, ok := m.at[e]
	if !ok {
		return nil, nil
	}
	here := m.ends(node)
	place := m.point(node)
	if place < 0 && len(here) == 2 {
		all = slices.DeleteFunc(here, func(x api.End) bool { return x == e })
		return all, [][2]bool{{true, true}}
	}
	if place < 0 {
		return nil, nil
	}
	p := m.l.Points[place]
	add := func(section int, how [2]bool) {
		for _, x := range here {
			if x.Section == section {
				all, stand = append(all, x), append(stand, how)
				return
			}
		}
	}
	if e.Section == p.Stem {
		add(p.Left, [2]bool{true, false})
		add(p.Right, [2]bool{false, true})
	} else if e.Section == p.Left || e.Section == p.Right {
		add(p.Stem, [2]bool{e.Section == p.Left, e.Section == p.Right})
	}
	return all, stand
}

func (m model) next(e api.End, right []bool) (api.End, bool) {
	how := 0
	if place := m.point(m.at[e]); place >= 0 && place < len(right) && right[place] {
		how = 1
	}
	all, stand := m.around(e)
	for i, x := range all {
		if stand[i][how] {
			return x, true
		}
	}
	return api.End{}, false
}

func (m model) near(section int) []int {
	var all []int
	for other := range m.l.Sections {
		for _, e := range ends(section, 0, section, 1) {
			if l, _ := m.around(e); slices.ContainsFunc(l, func(x api.End) bool { return x.Section == other }) {
				all = append(all, other)
			}
		}
	}
	return slices.Compact(all)
}

func (m model) part(section int) int {
	for i, part := range m.l.Parts {
		if slices.Contains(part, section) {
			return i
		}
	}
	return -1
}

func (m model) beside(part int) []int {
	var all []int
	for other := range m.l.Parts {
		for section := range m.l.Sections {
			if part < 0 || part >= len(m.l.Parts) || part == other || !slices.Contains(m.l.Parts[part], section) {
				continue
			}
			if slices.ContainsFunc(m.near(section), func(n int) bool { return m.part(n) == other }) {
				all = append(all, other)
			}
		}
	}
	return slices.Compact(all)
}

// path tries all ends at which the sections may be left, those with 0 of the
// first one first.
func (m model) path(l []int) ([]Need, bool) {
	for i := range l {
		if slices.Contains(l[:i], l[i]) {
			return nil, false
		}
	}
	if len(l) < 2 {
		return nil, false
	}
	for first := range 2 {
		for rest := range 1 << (len(l) - 1) {
			if needs, ok := m.way(l, first|rest<<1); ok {
				return needs, true
			}
		}
	}
	return nil, false
}

// way leaves each section at the end that its bit of out tells.
func (m model) way(l []int, out int) ([]Need, bool) {
	var needs []Need
	for i := range len(l) - 1 {
		e := api.End{Section: l[i], End: out >> i & 1}
		in := api.End{Section: l[i+1], End: 1 - out>>(i+1)&1}
		all, _ := m.around(e)
		if !slices.Contains(all, in) {
			return nil, false
		}
		if place := m.point(m.at[e]); place >= 0 {
			x, ok := m.next(e, nil)
			needs = append(needs, Need{Point: place, Right: !ok || x != in})
		}
	}
	return needs, true
}

// numbers tells numbers, always the same ones.
type numbers uint32

func (n *numbers) below(limit int) int {
	*n = *n*1664525 + 1013904223
	return int(uint64(*n) * uint64(limit) >> 32)
}

func (n *numbers) list(size, limit int) []int {
	l := make([]int, size)
	for i := range l {
		l[i] = n.below(limit+2) - 1
	}
	return l
}

// layout tells one that may be nearly anything, of so few nodes that much of
// it joins.
func (n *numbers) layout() api.Layout {
	var l api.Layout
	nodes := 1 + n.below(6)
	for range n.below(8) {
		l.Sections = append(l.Sections, api.Section{Len: n.below(1000), A: n.below(nodes) - 1, B: n.below(nodes) - 1})
	}
	for range n.below(5) {
		l.Parts = append(l.Parts, n.list(n.below(4), len(l.Sections)))
	}
	for range n.below(4) {
		l.Points = append(l.Points, n.point(l, n.below(nodes)-1))
	}
	return l
}

// point tells one whose sections are at its node, more often than not.
func (n *numbers) point(l api.Layout, node int) api.Point {
	x := n.list(3, len(l.Sections))
	for i := range x {
		if here := newModel(l).ends(node); len(here) > 0 && n.below(4) > 0 {
			x[i] = here[n.below(len(here))].Section
		}
	}
	return api.Point{Node: node, Stem: x[0], Left: x[1], Right: x[2]}
}

func (n *numbers) rights() []bool {
	right := make([]bool, n.below(5))
	for i := range right {
		right[i] = n.below(2) == 1
	}
	return right
}

func TestAgainstTheModel(t *testing.T) {
	n := numbers(1)
	for range 3000 {
		l := n.layout()
		g, m := New(l), newModel(l)
		for node := -2; node < 7; node++ {
			if !slices.Equal(g.Ends(node), m.ends(node)) || g.Point(node) != m.point(node) {
				t.Fatalf("%+v: node %d: %v, %d", l, node, g.Ends(node), g.Point(node))
			}
		}
		for section := -2; section < 9; section++ {
			if !slices.Equal(g.Near(section), m.near(section)) || g.Part(section) != m.part(section) {
				t.Fatalf("%+v: section %d: %v, %d", l, section, g.Near(section), g.Part(section))
			}
			for end := -1; end < 3; end++ {
				checkAgainst(t, g, m, api.End{Section: section, End: end}, n.rights())
			}
		}
		for part := -2; part < 6; part++ {
			if !slices.Equal(g.Beside(part), m.beside(part)) {
				t.Fatalf("%+v: Beside(%d) = %v, not %v", l, part, g.Beside(part), m.beside(part))
			}
		}
	}
}

func checkAgainst(t *testing.T, g *Graph, m model, e api.End, right []bool) {
	t.Helper()
	around, _ := m.around(e)
	if got := g.Around(e); !slices.Equal(got, around) {
		t.Fatalf("%+v: Around(%v) = %v, not %v", m.l, e, got, around)
	}
	next, there := m.next(e, right)
	if got, ok := g.Next(e, right); got != next || ok != there {
		t.Fatalf("%+v: Next(%v, %v) = %v, %v, not %v, %v", m.l, e, right, got, ok, next, there)
	}
}

func TestPathAgainstTheModel(t *testing.T) {
	n := numbers(2)
	found := map[int]int{}
	for range 20000 {
		l := n.layout()
		g, m := New(l), newModel(l)
		for range 10 {
			way := n.list(n.below(5), len(l.Sections))
			if n.below(3) > 0 {
				way = n.walk(m)
			}
			want, there := m.path(way)
			got, ok := g.Path(way)
			if ok != there || !slices.Equal(got, want) {
				t.Fatalf("%+v: Path(%v) = %v, %v, not %v, %v", l, way, got, ok, want, there)
			}
			if ok {
				found[len(way)]++
			}
		}
	}
	if found[2] < 1000 || found[3] < 1000 || found[4] < 100 {
		t.Error("hardly a path was tried:", found)
	}
}

// walk tells sections through which a train may go, most of them unlike.
func (n *numbers) walk(m model) []int {
	e := api.End{Section: n.below(8), End: n.below(2)}
	way := []int{e.Section}
	for range 1 + n.below(4) {
		if all, _ := m.around(e); len(all) > 0 {
			in := all[n.below(len(all))]
			e = api.End{Section: in.Section, End: 1 - in.End}
			way = append(way, e.Section)
		}
	}
	return way
}

// A train that goes as Path says, by points that stand as it needs them, goes
// by Next.
func TestPathIsGoneByNext(t *testing.T) {
	g := New(loop())
	for _, l := range [][]int{{0, 1, 3}, {0, 2, 3}, {3, 1, 0}, {3, 2, 0}} {
		needs, _ := g.Path(l)
		right := make([]bool, 2)
		for _, need := range needs {
			right[need.Point] = need.Right
		}
		e := api.End{Section: l[0], End: 1}
		if l[0] == 3 {
			e.End = 0
		}
		for _, section := range l[1:] {
			in, ok := g.Next(e, right)
			if !ok || in.Section != section {
				t.Fatalf("%v: Next(%v, %v) = %v, %v", l, e, right, in, ok)
			}
			e = api.End{Section: section, End: 1 - in.End}
		}
	}
}

// told is all that a graph answers of small numbers, as a text.
func told(g *Graph) string {
	s := ""
	for i := -1; i < 8; i++ {
		s += fmt.Sprint(g.Ends(i), g.Point(i), g.Near(i), g.Part(i), g.Beside(i), g.Len(i))
		for end := range 2 {
			e := api.End{Section: i, End: end}
			x, ok := g.Next(e, []bool{true})
			s += fmt.Sprint(g.Around(e), x, ok)
		}
		for j := -1; j < 8; j++ {
			needs, ok := g.Path([]int{i, j})
			s += fmt.Sprint(needs, ok)
		}
	}
	return s
}

// all layouts that stand in these tests by name, and one with odd parts.
func all() []api.Layout {
	odd := loop()
	odd.Parts = [][]int{{3, 1, 1}, {9, 0}, nil}
	return []api.Layout{{}, row(), fork(), loop(), odd}
}

func TestNothingIsWrittenInto(t *testing.T) {
	for i, l := range all() {
		g := New(l)
		told(g)
		if !reflect.DeepEqual(l, all()[i]) {
			t.Errorf("%+v was written into: %+v", all()[i], l)
		}
	}
	g := New(fork())
	way, right := []int{3, 1, 0}, []bool{true, false}
	g.Path(way)
	g.Next(api.End{Section: 1}, right)
	if !slices.Equal(way, []int{3, 1, 0}) || !slices.Equal(right, []bool{true, false}) {
		t.Error(way, right)
	}
}

func TestWhatWasHandedInIsNotKept(t *testing.T) {
	for i, l := range all() {
		g := New(l)
		before := told(g)
		for j := range l.Sections {
			l.Sections[j] = api.Section{Len: 1, A: 2, B: 2}
		}
		for j := range l.Points {
			l.Points[j] = api.Point{Node: 3}
		}
		for j := range l.Parts {
			for k := range l.Parts[j] {
				l.Parts[j][k] = 2
			}
			l.Parts[j] = nil
		}
		if told(g) != before || told(New(all()[i])) != before {
			t.Errorf("%+v is shared", all()[i])
		}
	}
}

// spoil writes over a list, and over the room behind it.
func spoil[T any](list []T, with T) {
	list = list[:cap(list)]
	for i := range list {
		list[i] = with
	}
}

func TestAnswersMayBeWrittenOver(t *testing.T) {
	for _, l := range all() {
		g := New(l)
		before := told(g)
		for i := -1; i < 8; i++ {
			spoil(g.Ends(i), api.End{Section: 7, End: 7})
			spoil(g.Around(api.End{Section: i, End: 0}), api.End{Section: 7, End: 7})
			spoil(g.Around(api.End{Section: i, End: 1}), api.End{Section: 7, End: 7})
			spoil(g.Near(i), 7)
			spoil(g.Beside(i), 7)
			needs, _ := g.Path([]int{i, i + 1})
			spoil(needs, Need{Point: 7, Right: true})
		}
		if told(g) != before {
			t.Errorf("an answer of %+v is shared", l)
		}
	}
}
