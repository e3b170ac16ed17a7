package verify

// This file holds the rules against a second reckoning, which asks all of them
// at all places, whatever is broken already; and looks at what is shared.

import (
	"cmp"
	"fmt"
	"math"
	"math/big"
	"slices"
	"testing"

	"balise/api"
)

// broken is a rule's number, and a place.
type broken struct{ number, place int }

// model is all breaks of a layout, as the chapter's words tell them.
type model struct {
	l   api.Layout
	all []broken
}

func reckon(l api.Layout) broken {
	m := &model{l: l}
	m.reckonCounts()
	for i := range l.Nodes {
		m.reckonNode(i)
	}
	for i := range l.Sections {
		m.reckonSection(i)
	}
	for i := range l.Points {
		m.reckonPoint(i)
	}
	for i := range l.Parts {
		m.reckonPart(i)
	}
	for i, r := range l.Routes {
		m.need(15, i, len(r) <= 12 && m.isPath(r))
	}
	slices.SortFunc(m.all, func(a, b broken) int {
		return cmp.Or(cmp.Compare(a.number, b.number), cmp.Compare(a.place, b.place))
	})
	if len(m.all) == 0 {
		return broken{}
	}
	return m.all[0]
}

func (m *model) need(number, place int, holds bool) {
	if !holds {
		m.all = append(m.all, broken{number, place})
	}
}

func (m *model) reckonCounts() {
	l := m.l
	m.need(1, 0, len(l.Nodes) > 1 && len(l.Nodes) < 41)
	m.need(3, 0, len(l.Sections) > 0 && len(l.Sections) < 33)
	m.need(5, 0, l.Speed > 0 && l.Speed < 10001)
	for _, ticks := range []int64{l.Mute, l.Wait, l.Cancel} {
		m.need(7, 0, ticks > 0 && ticks < 1001)
	}
	m.need(7, 0, l.Stay >= 0 && l.Stay < 1001)
	m.need(9, 0, len(l.Points) < 9)
	m.need(13, 0, len(l.Parts) > 0 && len(l.Parts) < 17)
	m.need(15, 0, len(l.Routes) < 17)
}

// metres tells a place's two parts, and whether it is a place.
func metres(z complex128) (east, north int64, ok bool) {
	for _, x := range []float64{real(z), imag(z)} {
		if !(math.Abs(x) <= 1000000) || math.Floor(x) != x {
			return 0, 0, false
		}
	}
	return int64(real(z)), int64(imag(z)), true
}

// at tells where a node is; false: it isn't there, or is no place.
func (m *model) at(node int) (east, north int64, ok bool) {
	if node < 0 || node >= len(m.l.Nodes) {
		return 0, 0, false
	}
	return metres(m.l.Nodes[node])
}

// others tells, of each end at a node, which section's it is and which node is
// at the section's other end.
func (m *model) others(node int) (sections, nodes []int) {
	for i, s := range m.l.Sections {
		if s.A == node {
			sections, nodes = append(sections, i), append(nodes, s.B)
		}
		if s.B == node {
			sections, nodes = append(sections, i), append(nodes, s.A)
		}
	}
	return sections, nodes
}

func (m *model) reckonNode(i int) {
	x, y, ok := m.at(i)
	m.need(2, i, ok)
	for j := range i {
		u, v, there := m.at(j)
		m.need(2, i, !ok || !there || x != u || y != v)
	}
	sections, nodes := m.others(i)
	m.need(8, i, len(sections) == 1 || len(sections) == 2 || len(sections) == 3)
	var points []api.Point
	for _, p := range m.l.Points {
		if p.Node == i {
			points = append(points, p)
		}
	}
	m.need(11, i, len(points) == len(sections)/3)
	if len(sections) == 2 {
		m.need(12, i, m.ahead(nodes[0], i, nodes[1]))
	}
	for _, p := range points {
		stem, left, right := slices.Index(sections, p.Stem), slices.Index(sections, p.Left), slices.Index(sections, p.Right)
		if stem >= 0 && left >= 0 && right >= 0 {
			m.need(12, i, m.ahead(nodes[stem], i, nodes[left]))
			m.need(12, i, m.ahead(nodes[stem], i, nodes[right]))
		}
	}
}

// ahead goes by the law of cosines: the way across is longer than that round a
// right angle.
func (m *model) ahead(a, b, c int) bool {
	return m.square(a, c).Cmp(new(big.Int).Add(m.square(a, b), m.square(b, c))) > 0
}

// square tells how far apart nodes are, squared; of what isn't a place 0.
func (m *model) square(a, b int) *big.Int {
	x, y, ok := m.at(a)
	u, v, there := m.at(b)
	if !ok || !there {
		return new(big.Int)
	}
	east, north := big.NewInt(x-u), big.NewInt(y-v)
	return east.Add(east.Mul(east, east), north.Mul(north, north))
}

func (m *model) reckonSection(i int) {
	s := m.l.Sections[i]
	_, _, ok := m.at(s.A)
	_, _, there := m.at(s.B)
	long := new(big.Int).Mul(big.NewInt(int64(s.Len)), big.NewInt(int64(s.Len)))
	apart := m.square(s.A, s.B)
	m.need(4, i, ok && there && apart.Sign() > 0 && s.Len > 0 && s.Len < 10001 && long.Cmp(apart) >= 0)
	m.need(6, i, s.Len >= m.l.Speed)
	m.need(14, i, count(slices.Concat(m.l.Parts...), i) == 1)
}

func count(list []int, n int) int {
	times := 0
	for _, x := range list {
		if x == n {
			times++
		}
	}
	return times
}

func (m *model) reckonPoint(i int) {
	p := m.l.Points[i]
	_, _, ok := m.at(p.Node)
	sections, _ := m.others(p.Node)
	three := p.Stem != p.Left && p.Left != p.Right && p.Right != p.Stem
	for _, s := range []int{p.Stem, p.Left, p.Right} {
		three = three && count(sections, s) == 1
	}
	m.need(10, i, ok && len(sections) == 3 && three)
}

func (m *model) reckonPart(i int) {
	m.need(13, i, len(m.l.Parts[i]) > 0)
	for _, s := range m.l.Parts[i] {
		m.need(13, i, s >= 0 && s < len(m.l.Sections))
	}
}

// isPath is of layouts that break no rule ahead of the last one: a node of two
// ends joins them, and one of three joins the Point's stem with its sides.
func (m *model) isPath(route []int) bool {
	for i, s := range route {
		if s < 0 || s >= len(m.l.Sections) || count(route[:i], s) > 0 {
			return false
		}
	}
	if len(route) < 2 {
		return false
	}
	first := m.l.Sections[route[0]]
	return m.goes(route, first.A) || m.goes(route, first.B)
}

// goes tells whether a train may go through a route whose first section it
// leaves at a node.
func (m *model) goes(route []int, node int) bool {
	if len(route) == 1 {
		return true
	}
	from, to := route[0], m.l.Sections[route[1]]
	if to.A != node && to.B != node {
		return false
	}
	for _, p := range m.l.Points {
		if p.Node == node && (from == p.Stem) == (route[1] == p.Stem) {
			return false
		}
	}
	return m.goes(route[1:], to.A+to.B-node)
}

// dice tells numbers, always the same ones.
type dice uint32

func (d *dice) below(limit int) int {
	*d = *d*1664525 + 1013904223
	return int(uint64(*d) * uint64(limit) >> 32)
}

// near tells a number that is n, or not far from it, or far from all.
func (d *dice) near(n int) int {
	if d.below(12) == 0 {
		return []int{math.MinInt, math.MaxInt, 1 << 32, -1 << 32, -1, 0, 1, 1 << 20}[d.below(8)]
	}
	return n + d.below(7) - 3
}

func (d *dice) near64(n int64) int64 { return int64(d.near(int(n))) }

func (d *dice) nearPlace(z complex128) complex128 {
	odd := []float64{math.NaN(), math.Inf(1), math.Inf(-1), 0.5, -1e300, 1e6, 1e6 + 1, -1e6, -1e6 - 1, 0, math.Copysign(0, -1)}
	switch d.below(8) {
	case 0:
		return complex(odd[d.below(len(odd))], imag(z))
	case 1:
		return complex(real(z), odd[d.below(len(odd))])
	}
	return z + complex(float64(d.below(401)-200), float64(d.below(401)-200))
}

// any tells the place of one of so many, if there is one.
func (d *dice) any(size int) (int, bool) {
	if size == 0 {
		return 0, false
	}
	return d.below(size), true
}

// spoil turns one thing of a layout.
func (d *dice) spoil(l *api.Layout) {
	switch d.below(14) {
	case 0:
		if i, ok := d.any(len(l.Nodes)); ok {
			l.Nodes[i] = d.nearPlace(l.Nodes[i])
		}
	case 1:
		if i, ok := d.any(len(l.Nodes)); ok {
			l.Nodes[i] = l.Nodes[d.below(len(l.Nodes))]
		}
	case 2:
		l.Nodes = append(l.Nodes, d.nearPlace(5000))
	case 3, 4:
		if i, ok := d.any(len(l.Sections)); ok {
			s := &l.Sections[i]
			n := []*int{&s.Len, &s.A, &s.B}[d.below(3)]
			*n = d.near(*n)
		}
	case 5:
		n := []*int64{&l.Mute, &l.Wait, &l.Cancel, &l.Stay}[d.below(4)]
		*n = d.near64([]int64{*n, 0, 1000}[d.below(3)])
	case 6:
		l.Speed = d.near([]int{l.Speed, 0, 100, api.MaxLen}[d.below(4)])
	case 7:
		d.spoilPoint(l)
	case 8:
		d.spoilRow(l.Parts)
	case 9, 10:
		d.spoilRow(l.Routes)
	default:
		d.spoilCounts(l)
	}
}

func (d *dice) spoilPoint(l *api.Layout) {
	i, ok := d.any(len(l.Points))
	if !ok {
		l.Points = append(l.Points, api.Point{Node: d.below(5), Left: d.below(4), Right: d.below(4)})
		return
	}
	p := &l.Points[i]
	switch d.below(4) {
	case 0:
		p.Left, p.Right = p.Right, p.Left
	case 1:
		p.Stem, p.Right = p.Right, p.Stem
	default:
		n := []*int{&p.Node, &p.Stem, &p.Left, &p.Right}[d.below(4)]
		*n = d.near(*n)
	}
}

func (d *dice) spoilRow(rows [][]int) {
	i, ok := d.any(len(rows))
	if !ok {
		return
	}
	at, ok := d.any(len(rows[i]))
	switch {
	case !ok:
		rows[i] = []int{d.below(4)}
	case d.below(3) == 0:
		rows[i] = append(rows[i], d.near(rows[i][at]))
	case d.below(3) == 0:
		rows[i] = slices.Delete(rows[i], at, at+1)
	case d.below(2) == 0:
		slices.Reverse(rows[i])
	default:
		rows[i][at] = d.near(rows[i][at])
	}
}

// spoilCounts takes one of a kind away, or adds one.
func (d *dice) spoilCounts(l *api.Layout) {
	switch d.below(6) {
	case 0:
		l.Points = shorter(d, l.Points)
	case 1:
		l.Parts = shorter(d, l.Parts)
	case 2:
		l.Sections = shorter(d, l.Sections)
	case 3:
		l.Nodes = shorter(d, l.Nodes)
	case 4:
		if i, ok := d.any(len(l.Points)); ok {
			l.Points = append(l.Points, l.Points[i])
		}
	case 5:
		if i, ok := d.any(len(l.Routes)); ok {
			l.Routes = append(l.Routes, slices.Clone(l.Routes[i]))
		}
	}
}

func shorter[T any](d *dice, list []T) []T {
	if i, ok := d.any(len(list)); ok {
		return slices.Delete(list, i, i+1)
	}
	return list
}

// somewhere is one of the right layouts, now and then with many routes.
func (d *dice) somewhere() api.Layout {
	switch d.below(9) {
	case 0:
		return rows(1 + d.below(4))
	case 1:
		return rows(1+d.below(6), 1+d.below(6))
	case 2:
		return forks(1 + d.below(8))
	case 3:
		return shortForks(1 + d.below(9))
	case 4:
		return ring()
	case 5:
		return narrowLoop()
	case 6:
		return roomy()
	case 7:
		l := rows(14)
		for i := range 14 {
			l.Routes = append(l.Routes, numbersTo(2 + i%12)[i%2:])
		}
		return l
	}
	return loop()
}

func TestAgainstTheModel(t *testing.T) {
	d := dice(1)
	found := map[int]int{}
	for range 60000 {
		l := d.somewhere()
		for range d.below(4) {
			d.spoil(&l)
		}
		want := reckon(l)
		n, at := First(l)
		if n != want.number || at != want.place || Right(l) != (n == 0) {
			t.Fatalf("%+v: First = %d, %d, not %v", l, n, at, want)
		}
		found[n]++
	}
	for n := range 16 {
		if found[n] < 20 {
			t.Errorf("rule %d was hardly tried: %v", n, found)
		}
	}
}

// junk is a layout of which nothing need be so.
func (d *dice) junk() api.Layout {
	l := api.Layout{Speed: d.near(1), Mute: d.near64(4), Wait: d.near64(4), Cancel: d.near64(4), Stay: d.near64(4)}
	for range d.below(5) {
		l.Nodes = append(l.Nodes, d.nearPlace(0))
	}
	for range d.below(6) {
		l.Sections = append(l.Sections, api.Section{Len: d.near(300), A: d.near(2), B: d.near(2)})
	}
	for range d.below(3) {
		l.Points = append(l.Points, api.Point{Node: d.near(2), Stem: d.near(1), Left: d.near(1), Right: d.near(1)})
	}
	for range d.below(3) {
		l.Parts = append(l.Parts, []int{d.near(1), d.near(1)})
		l.Routes = append(l.Routes, []int{d.near(1), d.near(1), d.near(1)}, nil)
	}
	return l
}

func TestJunk(t *testing.T) {
	d := dice(2)
	for range 60000 {
		l := d.junk()
		want := reckon(l)
		if n, at := First(l); n != want.number || at != want.place {
			t.Fatalf("%+v: First = %d, %d, not %v", l, n, at, want)
		}
	}
}

// TestNothingIsWrittenInto: texts are held against one another, as what is no
// number is unlike itself.
func TestNothingIsWrittenInto(t *testing.T) {
	d := dice(3)
	for range 5000 {
		l := d.somewhere()
		d.spoil(&l)
		before := fmt.Sprint(l)
		n, at := First(l)
		Right(l)
		if after := fmt.Sprint(l); after != before {
			t.Fatalf("%s was written into: %s", before, after)
		}
		if again, place := First(l); again != n || place != at {
			t.Fatalf("%s: %d, %d, and then %d, %d", before, n, at, again, place)
		}
	}
}

// What was handed in may be written over: the next answer is of what stands
// there then.
func TestWhatWasHandedInIsNotKept(t *testing.T) {
	l := fork()
	check(t, "ahead of it", l, 0, 0)
	l.Parts[0][0] = 2
	check(t, "a part written over", l, 14, 0)
	l.Sections[2].Len = 1
	check(t, "a section written over", l, 4, 2)
	l.Nodes[1] = 0.5
	check(t, "a node written over", l, 2, 1)
	check(t, "another one", fork(), 0, 0)
}
