package state

import (
	"math"
	"slices"
	"testing"

	"balise/api"
	"balise/own"
)

// Short names for whose a part is, and for what a section is, so that tables
// can be read.
const (
	none = api.Empty
	dark = api.Unknown

	free      = api.Free
	taken     = api.Taken
	ambiguous = api.Ambiguous
	unknown   = api.Dark
)

// at is a train that is sure, and where it may be.
func at(id int, span ...int) own.View {
	return own.View{ID: id, Sure: true, Span: span}
}

// unsure is a train that isn't sure, and where it may be.
func unsure(id int, span ...int) own.View {
	return own.View{ID: id, Span: span}
}

func wantOf(t *testing.T, l api.Layout, owners []int, views []own.View, want ...byte) {
	t.Helper()
	if got := Of(l, owners, views); !slices.Equal(got, want) {
		t.Errorf("parts %v, owners %v, views %v: Of is %v, not %v", l.Parts, owners, views, got, want)
	}
}

func wantKind(t *testing.T, from, to, want byte) {
	t.Helper()
	if got := Kind(from, to); got != want {
		t.Errorf("Kind(%d, %d) is %d, not %d", from, to, got, want)
	}
}

func wantChanges(t *testing.T, was, is []byte, want ...api.Change) {
	t.Helper()
	if got := Changes(was, is); !slices.Equal(got, want) {
		t.Errorf("Changes(%v, %v) is %v, not %v", was, is, got, want)
	}
}

func TestExample(t *testing.T) {
	wantKind(t, api.Free, api.Taken, 2)
}

// Where nobody is, a section is Free, whatever trains say.
func TestEmpty(t *testing.T) {
	for _, views := range [][]own.View{nil, {}, {at(4, 0)}, {at(4, 0), at(0, 0)}, {unsure(4, 0)}, {at(4)}, {at(4, 1)}, {at(none, 0)}, {at(dark, 0)}} {
		wantOf(t, row(1), []int{none}, views, free)
	}
	wantOf(t, fork(), []int{none, none, none}, []own.View{at(4, 3, 1, 0), at(5, 2)}, free, free, free, free)
}

// Where nobody knows, a section in any View's Span is Ambiguous, whoever it is,
// and whether it is sure; another one is Dark.
func TestUnknown(t *testing.T) {
	for _, c := range []struct {
		views []own.View
		want  byte
	}{
		{nil, unknown}, {[]own.View{}, unknown}, {[]own.View{at(4)}, unknown}, {[]own.View{at(0)}, unknown},
		{[]own.View{at(4, 1)}, unknown}, {[]own.View{at(4, 2, 1)}, unknown}, {[]own.View{at(4, -1, 32, math.MaxInt)}, unknown},
		{[]own.View{at(4, 1), unsure(5, 2)}, unknown},
		{[]own.View{at(4, 0)}, ambiguous}, {[]own.View{at(0, 0)}, ambiguous}, {[]own.View{at(63, 0)}, ambiguous},
		{[]own.View{unsure(4, 0)}, ambiguous}, {[]own.View{unsure(0, 0)}, ambiguous},
		{[]own.View{at(4, 0, 1)}, ambiguous}, {[]own.View{at(4, 1, 0)}, ambiguous}, {[]own.View{at(4, 2, 1, 0)}, ambiguous},
		{[]own.View{at(4, 0), at(5)}, ambiguous}, {[]own.View{at(4), at(5, 0)}, ambiguous},
		{[]own.View{at(4, 1), at(5, 2), unsure(6, 0)}, ambiguous}, {[]own.View{at(4, 0), at(5, 0)}, ambiguous},
	} {
		if got := Of(row(3), []int{dark, none, none}, c.views); got[0] != c.want {
			t.Errorf("owner Unknown, views %v: %d, not %d", c.views, got[0], c.want)
		}
	}
	wantOf(t, fork(), []int{dark, dark, dark}, nil, unknown, unknown, unknown, unknown)
	wantOf(t, fork(), []int{dark, dark, dark}, []own.View{at(4, 1, 0), unsure(0, 3)}, ambiguous, ambiguous, unknown, ambiguous)
}

// Where a train is alone, a section is Taken if it is in that train's Span;
// else it is Free, whoever else may be there.
func TestTrain(t *testing.T) {
	for _, id := range []int{0, 1, 4, 62, 63, 64, 1000, math.MaxInt} {
		other := 5
		for _, c := range []struct {
			views []own.View
			want  byte
		}{
			{nil, free}, {[]own.View{}, free},
			// The train's own View.
			{[]own.View{at(id, 0)}, taken}, {[]own.View{at(id, 0, 1)}, taken}, {[]own.View{at(id, 2, 1, 0)}, taken},
			{[]own.View{unsure(id, 0)}, taken}, {[]own.View{unsure(id, 1, 0)}, taken},
			{[]own.View{at(id)}, free}, {[]own.View{unsure(id)}, free}, {[]own.View{at(id, 1)}, free},
			{[]own.View{unsure(id, 2, 1)}, free}, {[]own.View{at(id, -1, 32, math.MinInt)}, free},
			// Another one's.
			{[]own.View{at(other, 0)}, free}, {[]own.View{unsure(other, 0)}, free}, {[]own.View{at(other, 0), at(6, 0)}, free},
			{[]own.View{at(other)}, free}, {[]own.View{at(other, 1)}, free}, {[]own.View{at(-3, 0), at(dark, 0), at(none, 0)}, free},
			// Both.
			{[]own.View{at(id, 1), at(other, 0)}, free}, {[]own.View{at(other, 0), at(id, 1)}, free},
			{[]own.View{at(other, 0), at(id)}, free}, {[]own.View{at(id), unsure(other, 0)}, free},
			{[]own.View{at(id, 0), at(other, 0)}, taken}, {[]own.View{at(other, 0), at(id, 0)}, taken},
			{[]own.View{at(id, 0), at(other, 1)}, taken}, {[]own.View{at(other, 1), at(6), at(id, 0)}, taken},
		} {
			if got := Of(row(3), []int{id, none, none}, c.views); got[0] != c.want {
				t.Errorf("owner %d, views %v: %d, not %d", id, c.views, got[0], c.want)
			}
		}
	}
}

// A train that owns a part and has no View is in none of its sections, also if
// it is the train 0.
func TestTrainWithoutView(t *testing.T) {
	views := []own.View{at(4, 0, 1, 2, 3), unsure(5, 3, 1)}
	for _, id := range []int{0, 3, 6, 63} {
		wantOf(t, fork(), []int{id, id, id}, views, free, free, free, free)
		wantOf(t, fork(), []int{id, id, id}, nil, free, free, free, free)
		wantOf(t, fork(), []int{4, id, dark}, views, taken, free, ambiguous, ambiguous)
	}
}

// What a section is hangs on its own part's owner alone, and is told section
// by section.
func TestEachSection(t *testing.T) {
	views := []own.View{at(4, 2, 1), unsure(5, 3)}
	wantOf(t, fork(), []int{4, none, dark}, views, free, free, ambiguous, ambiguous)
	wantOf(t, fork(), []int{none, 4, 4}, views, free, taken, taken, free)
	wantOf(t, fork(), []int{dark, 4, 5}, views, unknown, taken, free, taken)
	wantOf(t, fork(), []int{5, 5, 4}, views, free, free, taken, free)
	wantOf(t, fork(), []int{none, dark, none}, views, free, ambiguous, free, free)
	// Parts in another order than their sections, and in pieces.
	wantOf(t, pieces(), []int{4, none, 5, dark}, []own.View{at(4, 4, 5, 6), at(5, 3, 2, 0)},
		free, free, taken, ambiguous, taken, free, free)
	wantOf(t, legs(), []int{none, dark, 4, 5}, []own.View{at(4, 3, 1)}, unknown, free, free, taken)
	// As many sections, parts and trains as there may be.
	l, owners := row(api.MaxSections), make([]int, api.MaxParts)
	l.Parts = make([][]int, api.MaxParts)
	var all []own.View
	want := make([]byte, api.MaxSections)
	for section := range want {
		part := (section + 5) % api.MaxParts
		l.Parts[part] = append(l.Parts[part], section)
		owners[part] = part - 2
		want[section] = []byte{free, ambiguous, free, taken, taken, taken}[min(part, 5)]
		if part >= 2+api.MaxTrains {
			want[section] = free
		}
	}
	for id := range api.MaxTrains {
		all = append(all, unsure(id, allSections()...))
	}
	all[0].Span = nil
	wantOf(t, l, owners, all, want...)
}

func allSections() []int {
	var all []int
	for section := range api.MaxSections {
		all = append(all, section)
	}
	return all
}

// A section of which no part is told is Unknown's; of two parts the first one
// counts. (A layout that is Right has none of these.)
func TestOfNoPart(t *testing.T) {
	l := row(3)
	l.Parts = [][]int{{1}}
	wantOf(t, l, []int{none}, nil, unknown, free, unknown)
	wantOf(t, l, []int{4}, []own.View{at(4, 2, 1)}, unknown, taken, ambiguous)
	l.Parts = nil
	wantOf(t, l, []int{none, none, none}, []own.View{at(4, 2, 1)}, unknown, ambiguous, ambiguous)
	l.Parts = [][]int{{0, 1}, {2, 1}}
	wantOf(t, l, []int{none, dark}, nil, free, free, unknown)
	// Owners that the list doesn't tell.
	wantOf(t, row(3), nil, []own.View{at(4, 2)}, unknown, unknown, ambiguous)
	wantOf(t, row(3), []int{none, 4}, []own.View{at(4, 2, 1)}, free, taken, ambiguous)
	wantOf(t, row(3), []int{none, none, dark, 4, none}, nil, free, free, unknown)
}

func TestOfNothing(t *testing.T) {
	wantOf(t, api.Layout{}, nil, nil)
	wantOf(t, api.Layout{}, []int{4}, []own.View{at(4, 0)})
	wantOf(t, api.Layout{Parts: [][]int{{0}}}, []int{4}, []own.View{at(4, 0)})
}

func TestKind(t *testing.T) {
	for _, c := range []struct{ from, to, want byte }{
		{api.Free, api.Free, 0}, {api.Free, api.Dark, 1}, {api.Free, api.Taken, 2}, {api.Free, api.Ambiguous, 3},
		{api.Dark, api.Dark, 0}, {api.Dark, api.Free, 4}, {api.Dark, api.Ambiguous, 5}, {api.Dark, api.Taken, 12},
		{api.Taken, api.Taken, 0}, {api.Taken, api.Free, 6}, {api.Taken, api.Dark, 7}, {api.Taken, api.Ambiguous, 8},
		{api.Ambiguous, api.Ambiguous, 0}, {api.Ambiguous, api.Free, 9}, {api.Ambiguous, api.Dark, 10}, {api.Ambiguous, api.Taken, 11},
	} {
		wantKind(t, c.from, c.to, c.want)
	}
}

// Of what is no state on either side, or on both, there is no change.
func TestKindOfNoState(t *testing.T) {
	for from := range 256 {
		for to := range 256 {
			if from > api.Dark || to > api.Dark {
				wantKind(t, byte(from), byte(to), 0)
			}
		}
	}
}

func TestChanges(t *testing.T) {
	was, is := []byte{free, taken, ambiguous, unknown, free}, []byte{taken, taken, free, unknown, unknown}
	wantChanges(t, was, is, api.Change{Section: 0, Kind: 2}, api.Change{Section: 2, Kind: 9}, api.Change{Section: 4, Kind: 1})
	wantChanges(t, is, was, api.Change{Section: 0, Kind: 6}, api.Change{Section: 2, Kind: 3}, api.Change{Section: 4, Kind: 4})
	// Alike.
	for _, l := range [][]byte{nil, {}, {free}, {unknown}, was, is, {free, taken, ambiguous, unknown}, {9, 255, 4}} {
		wantChanges(t, l, slices.Clone(l))
	}
	// None.
	wantChanges(t, nil, nil)
	wantChanges(t, nil, was)
	wantChanges(t, was, nil)
	wantChanges(t, []byte{}, nil)
	wantChanges(t, was, []byte{})
}

// Each section changes: all are told, rising, of lists as long as they are.
func TestChangesOfAll(t *testing.T) {
	for _, count := range []int{1, 2, 3, 12, api.MaxSections, api.MaxSections + 1, 300} {
		was, is := make([]byte, count), make([]byte, count)
		var want []api.Change
		for section := range count {
			was[section] = byte(section % 4)
			is[section] = byte((section%4 + 1 + section/4%3) % 4)
			want = append(want, api.Change{Section: section, Kind: Kind(was[section], is[section])})
		}
		wantChanges(t, was, is, want...)
		// Of unlike lengths, either way, as far as both go.
		for _, more := range []int{1, 2, 50} {
			longer := make([]byte, more)
			for i := range longer {
				longer[i] = byte(i%3 + 1)
			}
			wantChanges(t, slices.Concat(was, longer), is, want...)
			wantChanges(t, was, slices.Concat(is, longer), want...)
			fewer := max(0, count-more)
			wantChanges(t, was[:fewer], is, want[:fewer]...)
			wantChanges(t, was, is[:fewer], want[:fewer]...)
		}
	}
}

// What is no state is no change, and the sections behind it are told as ever.
func TestChangesOfNoState(t *testing.T) {
	wantChanges(t, []byte{4, free, 255, taken, free}, []byte{free, 4, 77, unknown, 255}, api.Change{Section: 3, Kind: 7})
	wantChanges(t, []byte{100, unknown, 4}, []byte{unknown, taken, 5}, api.Change{Section: 1, Kind: 12})
}

// spoil writes over a list, and over the room behind it.
func spoil[T any](list []T, with T) {
	for i := range list[:cap(list)] {
		list[:cap(list)][i] = with
	}
}

// roomy tells a list that has room behind it.
func roomy[T any](list ...T) []T {
	return append(make([]T, 0, len(list)+3), list...)
}

// whole tells a list with the room behind it.
func whole[T any](list []T) []T {
	return list[:cap(list)]
}

// handed is what calls are handed, with room behind each list.
type handed struct {
	l       api.Layout
	owners  []int
	views   []own.View
	was, is []byte
}

func hand() handed {
	h := handed{l: fork(), owners: roomy(4, none, dark), was: roomy[byte](free, taken, unknown, unknown), is: roomy[byte](taken, free, ambiguous, unknown)}
	h.views = roomy(at(4, roomy(1, 0)...), unsure(5, roomy(3)...))
	return h
}

// spoil writes over all that was handed in.
func (h handed) spoil() {
	for _, v := range h.views {
		spoil(v.Span, 2)
	}
	spoil(h.views, own.View{ID: 4})
	spoil(h.owners, 5)
	spoil(h.was, 2)
	spoil(h.is, 0)
	for _, part := range h.l.Parts {
		spoil(part, 3)
	}
	spoil(h.l.Parts, nil)
	spoil(h.l.Sections, api.Section{})
	spoil(h.l.Points, api.Point{})
	spoil(h.l.Nodes, 9)
}

// isWhole tells whether nothing was written into what was handed in, nor into
// the room behind.
func (h handed) isWhole() bool {
	as := hand()
	for i, v := range whole(h.views) {
		w := whole(as.views)[i]
		if v.ID != w.ID || v.Sure != w.Sure || !slices.Equal(whole(v.Span), whole(w.Span)) {
			return false
		}
	}
	return len(h.views) == len(as.views) && slices.Equal(whole(h.owners), whole(as.owners)) &&
		slices.Equal(whole(h.was), whole(as.was)) && slices.Equal(whole(h.is), whole(as.is)) &&
		slices.Equal(h.l.Nodes, as.l.Nodes) && slices.Equal(h.l.Sections, as.l.Sections) &&
		slices.Equal(h.l.Points, as.l.Points) && slices.EqualFunc(h.l.Parts, as.l.Parts, slices.Equal[[]int])
}

var changed = []api.Change{{Section: 0, Kind: 2}, {Section: 1, Kind: 6}, {Section: 2, Kind: 5}}

func TestNothingIsWritten(t *testing.T) {
	h := hand()
	for range 2 {
		wantOf(t, h.l, h.owners, h.views, taken, free, unknown, ambiguous)
		wantChanges(t, h.was, h.is, changed...)
		spoil(Of(h.l, h.owners, h.views), 77)
		spoil(Changes(h.was, h.is), api.Change{Section: 77, Kind: 77})
		if !h.isWhole() {
			t.Fatalf("written over: %v", h)
		}
	}
	for from := range byte(4) {
		for to := range byte(4) {
			if kind := Kind(from, to); (kind == 0) != (from == to) || kind > 12 {
				t.Errorf("Kind(%d, %d) is %d behind answers being written over", from, to, kind)
			}
		}
	}
}

func TestNothingIsShared(t *testing.T) {
	h := hand()
	states, second := Of(h.l, h.owners, h.views), Of(h.l, h.owners, h.views)
	changes, again := Changes(h.was, h.is), Changes(h.was, h.is)
	h.spoil()
	spoil(second, 77)
	spoil(again, api.Change{Section: 77, Kind: 77})
	if !slices.Equal(states, []byte{taken, free, unknown, ambiguous}) {
		t.Errorf("Of is %v behind all being written over", states)
	}
	if !slices.Equal(changes, changed) {
		t.Errorf("Changes is %v behind all being written over", changes)
	}
	h = hand()
	wantOf(t, h.l, h.owners, h.views, taken, free, unknown, ambiguous)
	wantChanges(t, h.was, h.is, changed...)
}

// odd is a layout that may not be: sections from a node to itself, and to nodes
// that aren't listed, parts of sections that there aren't, and of one twice.
func odd() api.Layout {
	return api.Layout{
		Nodes:    []complex128{0, 1},
		Sections: []api.Section{{Len: 5, A: 7, B: 7}, {Len: 0, A: 0, B: 1}, {Len: -9, A: 1, B: 0}},
		Parts:    [][]int{{0, 9, -1}, nil, {1, 1}, {2, 0, math.MaxInt, math.MinInt}},
		Points:   []api.Point{{Node: 0, Stem: 1, Left: 2, Right: 1}},
	}
}

// What isn't promised ends and doesn't panic either: lists too short, or too
// long, layouts that may not be, numbers that are no owner's, two Views of one
// train.
func TestEndsAndDoesNotPanic(t *testing.T) {
	extremes := []int{math.MinInt, -3, -2, -1, 0, 1, 4, 31, 32, math.MaxInt}
	for _, l := range []api.Layout{{}, {Parts: [][]int{{0}, {}}}, {Sections: make([]api.Section, 300)}, row(1), fork(), pieces(), odd()} {
		for length := range 7 {
			for _, x := range extremes {
				views := []own.View{at(x, x, 0), unsure(4, x), at(4, 1, 2), at(dark, 0, 1), at(none, 2, 3)}
				for _, owners := range [][]int{slices.Repeat([]int{x}, length), slices.Repeat([]int{4, x}, length)} {
					got := Of(l, owners, views)
					if len(got) != len(l.Sections) {
						t.Errorf("Of tells %d of %d sections", len(got), len(l.Sections))
					}
					if slices.ContainsFunc(got, func(state byte) bool { return state > unknown }) {
						t.Errorf("Of tells no states: %v", got)
					}
					Changes(got, Of(l, nil, views))
				}
			}
		}
	}
}
