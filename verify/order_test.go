package verify

// This file holds the order in which breaks are told: the lowest number first,
// and of one number the first place.

import (
	"slices"
	"testing"

	"balise/api"
)

// breaks breaks the rule of each number, from 1 on, and none ahead of it,
// whatever of those behind it was broken already; and tells where.
func breaks() []func(l *api.Layout) int {
	return []func(l *api.Layout) int{
		func(l *api.Layout) int { l.Nodes = append(l.Nodes, make([]complex128, 40)...); return 0 },
		func(l *api.Layout) int { l.Nodes[2] += 0.5; return 2 },
		func(l *api.Layout) int { l.Sections = append(l.Sections, make([]api.Section, 40)...); return 0 },
		func(l *api.Layout) int { l.Sections[1].Len = api.MaxLen + 1; return 1 },
		func(l *api.Layout) int { l.Speed = api.MaxLen + 1; return 0 },
		func(l *api.Layout) int { l.Speed = l.Sections[3].Len + 1; return 3 },
		func(l *api.Layout) int { l.Wait = 0; return 0 },
		func(l *api.Layout) int { l.Nodes = append(l.Nodes, 5000i); return len(l.Nodes) - 1 },
		func(l *api.Layout) int { l.Points = append(l.Points, make([]api.Point, 9)...); return 0 },
		func(l *api.Layout) int { l.Points[1].Left = l.Points[1].Stem; return 1 },
		func(l *api.Layout) int { l.Points = append(l.Points, l.Points[0]); return 4 },
		func(l *api.Layout) int { l.Nodes[3] = 301 - 50i; l.Nodes[4] = 300; l.Nodes[5] = 300 + 100i; return 3 },
		func(l *api.Layout) int { l.Parts[2] = append(l.Parts[2], 99); return 2 },
		func(l *api.Layout) int { l.Parts[1] = append(l.Parts[1], 5); return 5 },
		func(l *api.Layout) int { l.Routes[2] = l.Routes[2][:1]; return 2 },
	}
}

// roomy is a loop whose sections are so long that nodes may be elsewhere, but
// for section 3, which is the first one that a high speed is too fast for.
func roomy() api.Layout {
	l := loop()
	for i := range l.Sections {
		l.Sections[i].Len = 2000
	}
	l.Sections[3].Len = 1000
	return l
}

func TestEachBreak(t *testing.T) {
	check(t, "no break", roomy(), 0, 0)
	for i, one := range breaks() {
		l := roomy()
		place := one(&l)
		check(t, "one break", l, i+1, place)
	}
}

func TestTheFirstNumberOfTwo(t *testing.T) {
	for i, one := range breaks() {
		for _, other := range breaks()[i+1:] {
			l := roomy()
			other(&l)
			place := one(&l)
			check(t, "two breaks", l, i+1, place)
		}
	}
}

func TestTheFirstNumberOfMany(t *testing.T) {
	l := roomy()
	for i, one := range slices.Backward(breaks()) {
		place := one(&l)
		check(t, "all breaks from here on", l, i+1, place)
	}
}

// spot breaks a rule at a place of a layout.
type spot struct {
	what   string
	number int
	make   func() api.Layout
	places []int
	at     func(l *api.Layout, place int)
}

func numbersTo(limit int) []int {
	all := make([]int, limit)
	for i := range all {
		all[i] = i
	}
	return all
}

// middles are the nodes of forks at which the points are.
func middles() []int {
	return []int{2, 7, 12, 17, 22, 27, 32, 37}
}

// eightForks is all that there may be of nodes, sections, parts, points and
// routes.
func eightForks() api.Layout { return forks(8) }

func fourForks() api.Layout { return forks(4) }

func spots() []spot {
	return []spot{
		{"no place", 2, eightForks, numbersTo(40), func(l *api.Layout, node int) { l.Nodes[node] += 0.25 }},
		{"a place twice", 2, eightForks, numbersTo(40)[1:], func(l *api.Layout, node int) { l.Nodes[node] = l.Nodes[0] }},
		{"too short to fit", 4, eightForks, numbersTo(32), func(l *api.Layout, section int) { l.Sections[section].Len = 50 }},
		{"no such node", 4, eightForks, numbersTo(32), func(l *api.Layout, section int) { l.Sections[section].B = 40 }},
		{"shorter than Speed", 6, wideEven, numbersTo(12), func(l *api.Layout, section int) { l.Speed = 150; l.Sections[section].Len = 149 }},
		{"a node alone", 8, loop, numbersTo(7), func(l *api.Layout, node int) { insertNode(l, node, complex(float64(node), 5000)) }},
		{"four ends", 8, fourForks, middles()[:4], joinFourth},
		{"not its sections", 10, eightForks, numbersTo(8), func(l *api.Layout, point int) { l.Points[point].Right = l.Points[point].Left }},
		{"no point", 11, eightForks, middles(), dropPoint},
		{"a corner", 12, slope, numbersTo(12)[1:], takeCorner},
		{"a point's corner", 12, eightForks, middles(), turnPoint},
		{"a part of nothing", 13, eightForks, numbersTo(16), func(l *api.Layout, part int) { l.Parts[part] = nil }},
		{"a part of what isn't there", 13, eightForks, numbersTo(16), func(l *api.Layout, part int) { l.Parts[part][1] = 32 }},
		{"in no part", 14, eightForks, numbersTo(31), dropSection},
		{"twice in a part", 14, eightForks, numbersTo(32), func(l *api.Layout, section int) { l.Parts[5] = append(l.Parts[5], section) }},
		{"no path", 15, eightForks, numbersTo(16), func(l *api.Layout, route int) { l.Routes[route] = l.Routes[route][:1] }},
	}
}

// wideEven is a row of sections that are longer than they need to be.
func wideEven() api.Layout {
	l := rows(12)
	for i := range l.Sections {
		l.Sections[i].Len = 150
	}
	return l
}

func dropPoint(l *api.Layout, node int) {
	l.Points = slices.DeleteFunc(l.Points, func(p api.Point) bool { return p.Node == node })
}

func turnPoint(l *api.Layout, node int) {
	p := &l.Points[node/5]
	p.Stem, p.Right = p.Right, p.Stem
}

func dropSection(l *api.Layout, section int) {
	for i := range l.Parts {
		l.Parts[i] = slices.DeleteFunc(l.Parts[i], func(n int) bool { return n == section })
	}
	// Parts of nothing would be another break.
	l.Parts = slices.DeleteFunc(l.Parts, func(part []int) bool { return len(part) == 0 })
}

// slope is a row to the north-east.
func slope() api.Layout {
	l := rows(12)
	for i := range l.Nodes {
		l.Nodes[i] = complex(float64(i), 0) * (40 + 30i)
	}
	return l
}

// takeCorner turns all that is behind a node so that the track goes on across
// there: to the left at even nodes, to the right at odd ones, so that it never
// comes back to where it was.
func takeCorner(l *api.Layout, node int) {
	across := 1i
	if node%2 == 1 {
		across = -1i
	}
	for i := node + 1; i < len(l.Nodes); i++ {
		l.Nodes[i] = l.Nodes[node] + (l.Nodes[i]-l.Nodes[node])*across
	}
}

// joinFourth lays a section between a point's node and that of its left.
func joinFourth(l *api.Layout, node int) {
	l.Sections = append(l.Sections, api.Section{Len: 120, A: node, B: node + 1})
}

func TestTheFirstPlaceOfTwo(t *testing.T) {
	for _, s := range spots() {
		check(t, s.what, s.make(), 0, 0)
		for i, first := range s.places {
			once := s.make()
			s.at(&once, first)
			check(t, s.what, once, s.number, first)
			for _, second := range s.places[i+1:] {
				l := s.make()
				s.at(&l, first)
				s.at(&l, second)
				check(t, s.what+" at two places", l, s.number, first)
			}
		}
	}
}

func TestAllPlaces(t *testing.T) {
	for _, s := range spots() {
		l := s.make()
		for _, place := range s.places {
			s.at(&l, place)
		}
		check(t, s.what+" at all places", l, s.number, s.places[0])
	}
}
