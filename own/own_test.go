package own

import (
	"math"
	"slices"
	"testing"

	"balise/api"
)

// Short names for whose a part is, so that tables can be read.
const (
	none = api.Empty
	dark = api.Unknown
)

// at is a train that is sure, and where it may be.
func at(id int, span ...int) View {
	return View{ID: id, Sure: true, Span: span}
}

// unsure is a train that isn't sure, and where it may be.
func unsure(id int, span ...int) View {
	return View{ID: id, Span: span}
}

// busy tells what is clear of so many parts, of which just these aren't.
func busy(parts int, these ...int) []bool {
	clear := make([]bool, parts)
	for part := range clear {
		clear[part] = !slices.Contains(these, part)
	}
	return clear
}

func wantNext(t *testing.T, l api.Layout, was []int, clear []bool, views []View, want ...int) {
	t.Helper()
	if got := Next(l, was, clear, views); !slices.Equal(got, want) {
		t.Errorf("%v, clear %v, views %v: Next is %v, not %v", was, clear, views, got, want)
	}
}

func wantDeclare(t *testing.T, l api.Layout, own []int, clear []bool, views []View, part, id int, e api.Errno, want ...int) {
	t.Helper()
	got, told := Declare(l, own, clear, views, part, id)
	if told != e || !slices.Equal(got, want) {
		t.Errorf("%v, clear %v, views %v: Declare of part %d, train %d is %v, %d, not %v, %d", own, clear, views, part, id, got, told, want, e)
	}
}

func TestExample(t *testing.T) {
	wantNext(t, row(2), []int{3, none}, busy(2, 0, 1), []View{at(3, 1, 0)}, 3, 3)
}

func TestStart(t *testing.T) {
	for _, parts := range []int{0, 1, 2, 3, api.MaxParts, api.MaxParts + 1, 255, 100000} {
		owners := Start(parts)
		if len(owners) != parts {
			t.Errorf("Start(%d) tells %d", parts, len(owners))
		}
		for part, owner := range owners {
			if owner != api.Unknown {
				t.Fatalf("Start(%d): part %d is %d", parts, part, owner)
			}
		}
	}
}

func TestStartOfNoSuchNumber(t *testing.T) {
	for _, parts := range []int{-1, -2, -api.MaxParts, math.MinInt32, math.MinInt, math.MinInt + 1, math.MaxInt, math.MaxInt - 1, 1 << 31, 1 << 62} {
		if owners := Start(parts); len(owners) != 0 {
			t.Errorf("Start(%d) tells %d", parts, len(owners))
		}
	}
}

func TestFind(t *testing.T) {
	views := []View{at(4, 1, 0), unsure(9, 2), at(0), at(63, 5)}
	for _, c := range []struct {
		views []View
		id    int
		place int
	}{
		{nil, 4, -1}, {[]View{}, 0, -1}, {views, 4, 0}, {views, 9, 1}, {views, 0, 2}, {views, 63, 3},
		{views, 1, -1}, {views, 5, -1}, {views, 3, -1}, {views, -1, -1}, {views, -2, -1}, {views, 64, -1},
		{views, math.MinInt, -1}, {views, math.MaxInt, -1}, {views[:3], 63, -1}, {views[1:], 4, -1},
		{views[:1], 4, 0}, {views[:1], 0, -1}, {nil, 0, -1},
	} {
		var want View
		if c.place >= 0 {
			want = c.views[c.place]
		}
		got, ok := Find(c.views, c.id)
		if ok != (c.place >= 0) || got.ID != want.ID || got.Sure != want.Sure || !slices.Equal(got.Span, want.Span) {
			t.Errorf("Find(%v, %d) is %v, %v", c.views, c.id, got, ok)
		}
	}
}

func TestFindIsTheFirst(t *testing.T) {
	views := []View{at(3, 1), unsure(4, 2), at(4, 5, 6), at(4, 7), at(5)}
	if got, ok := Find(views, 4); !ok || got.Sure || !slices.Equal(got.Span, []int{2}) {
		t.Errorf("Find of one of three is %v, %v", got, ok)
	}
}

// A part that is clear is nobody's, whoever was in it, whoever was beside it,
// and whatever a train says.
func TestClear(t *testing.T) {
	owners := []int{none, dark, 0, 4, 5}
	for _, views := range [][]View{nil, {at(4, 0, 1, 2)}, {at(4, 1), at(5, 1), at(0, 1)}} {
		for _, was := range owners {
			for _, left := range owners {
				for _, right := range owners {
					if got := Next(row(3), []int{left, was, right}, busy(3, 0, 2), views); got[1] != api.Empty {
						t.Errorf("a clear part that was %d, between %d and %d: %d", was, left, right, got[1])
					}
					wantNext(t, row(3), []int{left, was, right}, busy(3), views, none, none, none)
				}
			}
		}
	}
}

// Of one that isn't clear, and was Unknown, nobody knows any more, whoever is
// beside it.
func TestWasUnknown(t *testing.T) {
	views := []View{at(4, 0, 1, 2), at(0, 0, 1, 2)}
	for _, left := range []int{none, dark, 0, 4} {
		for _, right := range []int{none, dark, 0, 4} {
			for _, v := range [][]View{nil, views} {
				if got := Next(row(3), []int{left, dark, right}, busy(3, 0, 1, 2), v); got[1] != api.Unknown {
					t.Errorf("an Unknown part between %d and %d: %d", left, right, got[1])
				}
			}
		}
	}
	wantNext(t, row(1), []int{dark}, busy(1, 0), []View{at(4, 0)}, dark)
}

// The middle one of three parts, whose each of them was, and whose it is then:
// all that speak are sure, and may be in each of them.
func TestBeside(t *testing.T) {
	views := []View{at(4, 0, 1, 2), at(5, 2, 1, 0), at(0, 1, 2, 0)}
	for _, c := range []struct{ left, was, right, want int }{
		// Nobody was in it, nor beside it: then it is nobody's that speaks.
		{none, none, none, dark},
		{4, none, none, 4}, {none, none, 4, 4}, {4, none, 4, 4},
		{0, none, none, 0}, {none, none, 0, 0}, {0, none, 0, 0},
		{4, none, 5, dark}, {5, none, 4, dark}, {0, none, 4, dark}, {4, none, 0, dark},
		{dark, none, none, dark}, {none, none, dark, dark}, {dark, none, dark, dark},
		{4, none, dark, dark}, {dark, none, 4, dark}, {0, none, dark, dark}, {dark, none, 0, dark},
		// A train was in it.
		{none, 4, none, 4}, {4, 4, none, 4}, {none, 4, 4, 4}, {4, 4, 4, 4},
		{none, 0, none, 0}, {0, 0, none, 0}, {none, 0, 0, 0}, {0, 0, 0, 0},
		{5, 4, none, dark}, {none, 4, 5, dark}, {5, 4, 5, dark}, {5, 4, 4, dark}, {4, 4, 5, dark},
		{0, 4, none, dark}, {none, 4, 0, dark}, {4, 0, none, dark}, {none, 0, 4, dark},
		{5, 4, 0, dark}, {0, 4, 5, dark},
		{dark, 4, none, dark}, {none, 4, dark, dark}, {dark, 4, 4, dark}, {4, 4, dark, dark}, {dark, 4, dark, dark},
		{dark, 4, 5, dark}, {5, 4, dark, dark},
		// Nobody knew of it.
		{none, dark, none, dark}, {4, dark, none, dark}, {none, dark, 4, dark}, {4, dark, 4, dark}, {dark, dark, dark, dark},
	} {
		was := []int{c.left, c.was, c.right}
		// What the detectors say of the parts beside it doesn't count, but
		// whose they were.
		for _, clear := range [][]bool{busy(3, 1), busy(3, 0, 1), busy(3, 1, 2), busy(3, 0, 1, 2)} {
			if got := Next(row(3), was, clear, views); got[1] != c.want {
				t.Errorf("%v, clear %v: Next is %v, and the middle one should be %d", was, clear, got, c.want)
			}
		}
	}
}

// Parts further off don't count.
func TestFurtherOff(t *testing.T) {
	views := []View{at(4, 2, 1), at(5, 4, 3)}
	for _, far := range []int{none, dark, 5, 4} {
		wantNext(t, row(5), []int{far, none, 4, none, far}, busy(5, 2), views, none, none, 4, none, none)
	}
	wantNext(t, row(5), []int{dark, none, 4, none, 5}, busy(5, 2), views, none, none, 4, none, none)
	wantNext(t, row(5), []int{none, none, 4, none, 5}, busy(5, 1, 2, 3), views, none, 4, 4, dark, none)
	wantNext(t, row(5), []int{none, none, 4, none, dark}, busy(5, 1, 2, 3), views, none, 4, 4, dark, none)
	wantNext(t, row(5), []int{5, none, 4, none, none}, busy(5, 2), views, none, none, 4, none, none)
	wantNext(t, row(5), []int{none, 4, none, none, none}, busy(5, 2, 3), []View{at(4, 3, 2, 1)}, none, none, 4, dark, none)
}

// All parts' owners are told by whose all were: of none by whose another one
// just got.
func TestAllAtOnce(t *testing.T) {
	views := []View{at(4, 3, 2, 1, 0)}
	all := busy(4, 0, 1, 2, 3)
	wantNext(t, row(4), []int{4, none, none, none}, all, views, 4, 4, dark, dark)
	wantNext(t, row(4), []int{none, none, none, 4}, all, views, dark, dark, 4, 4)
	wantNext(t, row(4), []int{dark, 4, none, none}, all, views, dark, dark, 4, dark)
	wantNext(t, row(4), []int{dark, 4, none, none}, busy(4, 1, 2), views, none, dark, 4, none)
	// It was somebody else's just now, though it is clear.
	wantNext(t, row(4), []int{5, 4, none, none}, busy(4, 1), views, none, dark, none, none)
	wantNext(t, row(4), []int{4, 5, none, none}, busy(4, 0), views, dark, none, none, none)
	wantNext(t, row(4), []int{none, 5, none, 4}, busy(4, 2, 3), views, none, none, dark, 4)
}

// A train that goes through a row is followed from part to part.
func TestTrainGoesOn(t *testing.T) {
	l, owners := row(4), []int{4, none, none, none}
	for _, c := range []struct {
		clear []bool
		span  []int
		want  []int
	}{
		{busy(4, 0), []int{0}, []int{4, none, none, none}},
		{busy(4, 0), []int{1, 0}, []int{4, none, none, none}},
		{busy(4, 0, 1), []int{1, 0}, []int{4, 4, none, none}},
		{busy(4, 1), []int{2, 1}, []int{none, 4, none, none}},
		{busy(4, 1, 2), []int{2, 1}, []int{none, 4, 4, none}},
		{busy(4, 2), []int{2}, []int{none, none, 4, none}},
		{busy(4, 0, 2), []int{2}, []int{dark, none, 4, none}},
		{busy(4, 0, 1, 2), []int{2}, []int{dark, dark, 4, none}},
		{busy(4, 0, 1, 2), []int{2}, []int{dark, dark, dark, none}},
		{busy(4), []int{2}, []int{none, none, none, none}},
		{busy(4, 2), []int{2}, []int{none, none, dark, none}},
	} {
		got := Next(l, owners, c.clear, []View{at(4, c.span...)})
		if !slices.Equal(got, c.want) {
			t.Errorf("behind %v, clear %v, Span %v: %v, not %v", owners, c.clear, c.span, got, c.want)
		}
		owners = got
	}
}

// A part is a train's only if that speaks, is sure, and may be in the part.
func TestViews(t *testing.T) {
	l := row(3)
	for _, c := range []struct {
		views []View
		is    bool
	}{
		{nil, false},
		{[]View{}, false},
		{[]View{at(5, 1)}, false},
		{[]View{at(5, 1), at(3, 1), at(6, 1)}, false},
		{[]View{unsure(4, 1)}, false},
		{[]View{unsure(4, 0, 1, 2)}, false},
		{[]View{unsure(4)}, false},
		{[]View{at(4)}, false},
		{[]View{at(4, 0)}, false},
		{[]View{at(4, 2)}, false},
		{[]View{at(4, 2, 0)}, false},
		{[]View{at(4, 3)}, false},
		{[]View{unsure(4, 1), at(5, 1)}, false},
		{[]View{at(4, 0, 2), at(5, 1)}, false},
		{[]View{at(4, 1)}, true},
		{[]View{at(4, 1, 0)}, true},
		{[]View{at(4, 2, 1)}, true},
		{[]View{at(4, 0, 2, 1)}, true},
		{[]View{at(5, 1), at(4, 1)}, true},
		{[]View{unsure(5, 1), at(4, 1)}, true},
		{[]View{at(4, 1), unsure(5)}, true},
		{[]View{at(0), unsure(6, 1), at(5), at(4, 1), at(7, 2)}, true},
	} {
		want := api.Unknown
		if c.is {
			want = 4
		}
		// It was the train's; or it was nobody's, and the train was beside it.
		for _, was := range [][]int{{none, 4, none}, {4, 4, 4}, {4, none, none}, {none, none, 4}, {4, none, 4}} {
			if got := Next(l, was, busy(3, 1), c.views); got[1] != want {
				t.Errorf("%v, views %v: Next is %v, and the middle one should be %d", was, c.views, got, want)
			}
		}
	}
}

// Of a part with many sections one is enough; those of other parts don't do.
func TestPartOfManySections(t *testing.T) {
	l := row(6)
	l.Parts = [][]int{{4, 2, 3}, {1, 0}, {5}}
	was := []int{4, none, none}
	for section := range 6 {
		want := []int{dark, none, none}
		if section >= 2 && section <= 4 {
			want[0] = 4
		}
		wantNext(t, l, was, busy(3, 0), []View{at(4, section)}, want...)
	}
	wantNext(t, l, was, busy(3, 0, 1, 2), []View{at(4, 1, 2)}, 4, 4, dark)
	wantNext(t, l, was, busy(3, 0, 1, 2), []View{at(4, 0, 1)}, dark, 4, dark)
	wantNext(t, l, was, busy(3, 0, 1, 2), []View{at(4, 5, 4, 3)}, 4, dark, 4)
}

// A part may lie in pieces, far from one another: what joins one of them is
// beside it.
func TestPartInPieces(t *testing.T) {
	l := row(5)
	l.Parts = [][]int{{0, 4}, {1}, {2}, {3}}
	views := []View{at(4, 0, 1, 2, 3, 4), at(5, 0, 1, 2, 3, 4)}
	wantNext(t, l, []int{none, 4, none, none}, busy(4, 0), views, 4, none, none, none)
	wantNext(t, l, []int{none, none, none, 4}, busy(4, 0), views, 4, none, none, none)
	wantNext(t, l, []int{none, 4, none, 5}, busy(4, 0), views, dark, none, none, none)
	wantNext(t, l, []int{4, none, none, 5}, busy(4, 0), views, dark, none, none, none)
	wantNext(t, l, []int{4, 5, none, none}, busy(4, 3), views, none, none, none, 4)
	wantNext(t, l, []int{none, none, 4, none}, busy(4, 0), views, dark, none, none, none)
}

// Both legs of a point are beside its stem, however it stands, and neither leg
// is beside the other one.
func TestPoint(t *testing.T) {
	l := fork()
	l.Parts = [][]int{{0}, {1}, {2}, {3}}
	views := []View{at(4, 0, 1, 2, 3), at(5, 0, 1, 2, 3)}
	wantNext(t, l, []int{none, none, 4, none}, busy(4, 1), views, none, 4, none, none)
	wantNext(t, l, []int{none, none, none, 4}, busy(4, 1), views, none, 4, none, none)
	wantNext(t, l, []int{none, none, 4, 4}, busy(4, 1), views, none, 4, none, none)
	wantNext(t, l, []int{none, none, 4, 5}, busy(4, 1), views, none, dark, none, none)
	wantNext(t, l, []int{4, none, none, 5}, busy(4, 1), views, none, dark, none, none)
	wantNext(t, l, []int{none, 4, none, dark}, busy(4, 1), views, none, dark, none, none)
	wantNext(t, l, []int{none, none, 4, 5}, busy(4, 2, 3), views, none, none, 4, 5)
	wantNext(t, l, []int{none, none, 4, dark}, busy(4, 2), views, none, none, 4, none)
	wantNext(t, l, []int{none, none, 4, none}, busy(4, 3), views, none, none, none, dark)
	wantNext(t, l, []int{none, 4, none, none}, busy(4, 0, 2, 3), views, 4, none, 4, 4)
}

// A track all of which is one part has no part beside it, not even itself.
func TestOnePart(t *testing.T) {
	l := row(3)
	l.Parts = [][]int{{0, 1, 2}}
	views := []View{at(4, 1), unsure(5, 1)}
	wantNext(t, l, []int{4}, busy(1, 0), views, 4)
	wantNext(t, l, []int{5}, busy(1, 0), views, dark)
	wantNext(t, l, []int{none}, busy(1, 0), views, dark)
	wantNext(t, l, []int{dark}, busy(1, 0), views, dark)
	wantNext(t, l, []int{4}, busy(1), views, none)
}

// As many parts, and trains, as may be.
func TestMany(t *testing.T) {
	l := row(api.MaxParts)
	was, clear, want, views := make([]int, api.MaxParts), make([]bool, api.MaxParts), make([]int, api.MaxParts), []View{}
	for part := range was {
		// Two parts of each train's, and a clear one between.
		was[part], clear[part] = part/3, part%3 == 2
		want[part] = part / 3
		if clear[part] {
			was[part], want[part] = none, none
		}
	}
	for id := range api.MaxTrains {
		views = append(views, at(id, 3*id, 3*id+1))
	}
	wantNext(t, l, was, clear, views, want...)
	wantNext(t, l, Start(api.MaxParts), make([]bool, api.MaxParts), views, Start(api.MaxParts)...)
}

func TestDeclare(t *testing.T) {
	l := row(3)
	views := []View{at(4, 1, 0), at(0, 2), unsure(6, 0, 1, 2)}
	own := []int{dark, none, 5}
	all := busy(3, 0, 1, 2)
	wantDeclare(t, l, own, all, views, 0, 4, api.OK, 4, none, 5)
	wantDeclare(t, l, own, all, views, 1, 4, api.OK, dark, 4, 5)
	wantDeclare(t, l, own, all, views, 2, 0, api.OK, dark, none, 0)
	wantDeclare(t, l, own, busy(3, 0), views, 0, 4, api.OK, 4, none, 5)
	wantDeclare(t, l, own, busy(3, 2), views, 2, 0, api.OK, dark, none, 0)
	// Whoever it was, and whoever is beside it, also if it is the train's.
	for _, was := range []int{none, dark, 0, 4, 5, 6} {
		for _, beside := range []int{none, dark, 0, 4, 5, 6} {
			wantDeclare(t, l, []int{beside, was, beside}, all, views, 1, 4, api.OK, beside, 4, beside)
		}
	}
	// A part with many sections, of which the Span has one.
	l.Parts = [][]int{{2, 1, 0}}
	wantDeclare(t, l, []int{dark}, busy(1, 0), []View{at(4, 0)}, 0, 4, api.OK, 4)
	wantDeclare(t, l, []int{dark}, busy(1, 0), []View{at(4, 2, 1)}, 0, 4, api.OK, 4)
}

func TestDeclareNoPart(t *testing.T) {
	views := []View{at(4, 0, 1, 2)}
	for _, part := range []int{3, 4, 16, 1000, math.MaxInt32, math.MaxInt, -1, -2, -3, math.MinInt32, math.MinInt} {
		wantDeclare(t, row(3), []int{dark, none, 5}, busy(3, 0, 1, 2), views, part, 4, api.ErrNone, dark, none, 5)
		// Nor is there a View of the train, or is one that isn't sure; or all
		// is clear.
		wantDeclare(t, row(3), []int{dark, none, 5}, busy(3, 0, 1, 2), views, part, 5, api.ErrNone, dark, none, 5)
		wantDeclare(t, row(3), []int{dark, none, 5}, busy(3, 0, 1, 2), []View{unsure(4, 0)}, part, 4, api.ErrNone, dark, none, 5)
		wantDeclare(t, row(3), []int{dark, none, 5}, busy(3), views, part, 4, api.ErrNone, dark, none, 5)
	}
	wantDeclare(t, api.Layout{}, nil, nil, views, 0, 4, api.ErrNone)
}

func TestDeclareNoView(t *testing.T) {
	for _, views := range [][]View{nil, {}, {at(5, 0)}, {at(5, 0), at(3, 0), unsure(0, 1)}} {
		for _, id := range []int{4, 6, -1, -2, math.MinInt, math.MaxInt} {
			for part := range 3 {
				wantDeclare(t, row(3), []int{dark, none, 5}, busy(3, 0, 1, 2), views, part, id, api.ErrNone, dark, none, 5)
				// And the part is clear.
				wantDeclare(t, row(3), []int{dark, none, 5}, busy(3), views, part, id, api.ErrNone, dark, none, 5)
			}
		}
	}
}

func TestDeclareNotInState(t *testing.T) {
	l := row(3)
	own := []int{dark, none, 4}
	everywhere := []int{0, 1, 2}
	for part := range 3 {
		elsewhere := slices.DeleteFunc([]int{2, 1, 0}, func(section int) bool { return section == part })
		others := slices.DeleteFunc([]int{0, 1, 2}, func(other int) bool { return other == part })
		for _, c := range []struct {
			clear []bool
			views []View
		}{
			// The part is clear; the train isn't sure; it is elsewhere.
			{busy(3, others...), []View{at(4, everywhere...)}},
			{busy(3), []View{at(4, part)}},
			{busy(3, 0, 1, 2), []View{unsure(4, everywhere...)}},
			{busy(3, part), []View{unsure(4, part), at(5, part)}},
			{busy(3, 0, 1, 2), []View{at(4, elsewhere...)}},
			{busy(3, part), []View{at(4, elsewhere...), at(5, part)}},
			{busy(3, part), []View{at(4)}},
			{busy(3, part), []View{at(4, 3, 4, -1)}},
			// Two of these, or all.
			{busy(3, others...), []View{unsure(4, part)}},
			{busy(3, others...), []View{at(4, elsewhere...)}},
			{busy(3, 0, 1, 2), []View{unsure(4, elsewhere...)}},
			{busy(3, 0, 1, 2), []View{unsure(4)}},
			{busy(3), []View{unsure(4, elsewhere...)}},
		} {
			wantDeclare(t, l, own, c.clear, c.views, part, 4, api.ErrState, own...)
		}
	}
}

// What an operator declares is gone again where somebody else may come in, and
// goes on with the train where nobody may.
func TestNextBehindDeclare(t *testing.T) {
	l, views := row(3), []View{at(4, 1)}
	own, e := Declare(l, Start(3), busy(3, 1), views, 1, 4)
	if e != api.OK {
		t.Fatal(e)
	}
	wantNext(t, l, own, busy(3, 1), views, none, dark, none)
	own = Next(l, Start(3), busy(3, 1), views)
	wantNext(t, l, own, busy(3, 1), views, none, dark, none)
	own, e = Declare(l, own, busy(3, 1), views, 1, 4)
	if e != api.OK {
		t.Fatal(e)
	}
	wantNext(t, l, own, busy(3, 1, 2), []View{at(4, 2, 1)}, none, 4, 4)
}

// spoil writes over a list, and over the room behind it.
func spoil[T any](list []T, with T) {
	for i := range list[:cap(list)] {
		list[:cap(list)][i] = with
	}
}

// roomy tells a list that has room behind it.
func roomy[T any](list ...T) []T {
	return append(make([]T, 0, len(list)+3), list...)
}

// handed is what calls are handed, with room behind each list.
type handed struct {
	l     api.Layout
	own   []int
	clear []bool
	views []View
}

func hand() handed {
	h := handed{l: fork(), own: roomy(4, none, none), clear: roomy(busy(3, 0, 1)...)}
	h.views = roomy(at(4, roomy(1, 0)...), unsure(5, roomy(3)...))
	return h
}

// spoil writes over all that was handed in.
func (h handed) spoil() {
	for _, v := range h.views {
		spoil(v.Span, 2)
	}
	spoil(h.views, View{ID: 4})
	spoil(h.own, 5)
	spoil(h.clear, true)
	for _, part := range h.l.Parts {
		spoil(part, 3)
	}
	spoil(h.l.Parts, nil)
	spoil(h.l.Sections, api.Section{})
	spoil(h.l.Points, api.Point{})
	spoil(h.l.Nodes, 9)
}

// isWhole tells whether nothing was written into what was handed in, nor into
// the room behind.
func (h handed) isWhole() bool {
	as := hand()
	for i, v := range h.views[:cap(h.views)] {
		w := as.views[:cap(as.views)][i]
		if v.ID != w.ID || v.Sure != w.Sure || !slices.Equal(v.Span[:cap(v.Span)], w.Span[:cap(w.Span)]) {
			return false
		}
	}
	return len(h.views) == len(as.views) && slices.Equal(h.own[:cap(h.own)], as.own[:cap(as.own)]) &&
		slices.Equal(h.clear[:cap(h.clear)], as.clear[:cap(as.clear)]) && slices.Equal(h.l.Nodes, as.l.Nodes) &&
		slices.Equal(h.l.Sections, as.l.Sections) && slices.Equal(h.l.Points, as.l.Points) &&
		slices.EqualFunc(h.l.Parts, as.l.Parts, slices.Equal[[]int])
}

func TestNothingIsWritten(t *testing.T) {
	h := hand()
	for part := -1; part < 4; part++ {
		for id := 3; id < 7; id++ {
			spoilt, _ := Declare(h.l, h.own, h.clear, h.views, part, id)
			spoil(spoilt, 77)
			v, _ := Find(h.views, id)
			spoil(v.Span, 77)
			spoil(Next(h.l, h.own, h.clear, h.views), 77)
			if !h.isWhole() {
				t.Fatalf("written over by what was answered for part %d, train %d: %v", part, id, h)
			}
		}
	}
	spoil(Start(5), 77)
	if owners := Start(5); !slices.Equal(owners, []int{dark, dark, dark, dark, dark}) {
		t.Errorf("Start(5) is %v behind another one's answer being written over", owners)
	}
}

func TestNothingIsShared(t *testing.T) {
	h := hand()
	next := Next(h.l, h.own, h.clear, h.views)
	declared, e := Declare(h.l, h.own, h.clear, h.views, 1, 4)
	noPart, e1 := Declare(h.l, h.own, h.clear, h.views, 3, 4)
	noView, e2 := Declare(h.l, h.own, h.clear, h.views, 0, 6)
	noState, e3 := Declare(h.l, h.own, h.clear, h.views, 2, 5)
	v, ok := Find(h.views, 4)
	h.spoil()
	if !slices.Equal(next, []int{4, 4, none}) {
		t.Errorf("Next is %v behind all being written over", next)
	}
	if e != api.OK || !slices.Equal(declared, []int{4, 4, none}) {
		t.Errorf("Declare is %v, %d behind all being written over", declared, e)
	}
	if e1 != api.ErrNone || e2 != api.ErrNone || e3 != api.ErrState {
		t.Errorf("Declare's errors are %d, %d, %d", e1, e2, e3)
	}
	for _, own := range [][]int{noPart, noView, noState} {
		if !slices.Equal(own, []int{4, none, none}) {
			t.Errorf("Declare with an error is %v behind all being written over", own)
		}
	}
	if !ok || v.ID != 4 || !v.Sure || !slices.Equal(v.Span, []int{1, 0}) {
		t.Errorf("Find is %v behind all being written over", v)
	}
	wantNext(t, fork(), []int{4, none, none}, busy(3, 0, 1), []View{at(4, 1, 0)}, 4, 4, none)
}

// odd is a layout that may not be: sections from a node to itself, and to nodes
// that aren't listed, parts of sections that there aren't, and of one twice.
func odd() api.Layout {
	return api.Layout{
		Nodes:    []complex128{0, 1},
		Sections: []api.Section{{Len: 5, A: 7, B: 7}, {Len: 0, A: 0, B: 1}, {Len: -9, A: 1, B: 0}},
		Parts:    [][]int{{0, 9, -1}, nil, {1, 1}, {2, 0, math.MaxInt, math.MinInt}},
		Points:   []api.Point{{Node: 0, Stem: 1, Left: 2, Right: 1}},
	}
}

// What isn't promised ends and doesn't panic either: lists too short, or too
// long, layouts that may not be, numbers that are no owner's.
func TestEndsAndDoesNotPanic(t *testing.T) {
	extremes := []int{math.MinInt, -3, -2, -1, 0, 1, 4, 31, 32, math.MaxInt}
	for _, l := range []api.Layout{{}, {Parts: [][]int{{0}, {}}}, row(1), fork(), ring(), odd()} {
		for length := range 7 {
			for _, x := range extremes {
				was, clear := slices.Repeat([]int{x, 4}, length), make([]bool, 6-length)
				views := []View{at(x, x, 0), unsure(4, x), at(4, 1, 2), at(-1, 0, 1), at(-2, 2, 3)}
				if got := Next(l, was, clear, views); len(got) != len(l.Parts) {
					t.Errorf("Next tells %d of %d parts", len(got), len(l.Parts))
				}
				for _, y := range extremes {
					if got, _ := Declare(l, was, clear, views, x, y); len(got) != len(was) {
						t.Errorf("Declare tells %d of %d parts", len(got), len(was))
					}
					Declare(l, was, clear, views, y, 4)
				}
				Find(views, x)
			}
		}
	}
}

// What no list tells is safe: nobody knows, and no detector has said anything.
func TestShortLists(t *testing.T) {
	views := []View{at(4, 0, 1, 2)}
	wantNext(t, row(3), []int{4, 4}, nil, views, 4, dark, dark)
	wantNext(t, row(3), nil, []bool{true}, views, none, dark, dark)
	wantDeclare(t, row(3), []int{dark, dark}, busy(3, 0, 1, 2), views, 2, 4, api.ErrNone, dark, dark)
	wantDeclare(t, row(2), []int{dark, dark, dark}, busy(3, 0, 1, 2), views, 2, 4, api.ErrNone, dark, dark, dark)
	wantDeclare(t, row(3), []int{dark, dark, dark}, []bool{true}, views, 2, 4, api.OK, dark, dark, 4)
}

// A View of Empty's number, or of Unknown's, is no train's: nobody's part, and
// one of which nobody knows, don't become its.
func TestViewOfNoTrain(t *testing.T) {
	views := []View{at(api.Empty, 0, 1, 2), at(api.Unknown, 0, 1, 2)}
	wantNext(t, row(3), []int{none, none, none}, busy(3, 1), views, none, dark, none)
	wantNext(t, row(3), []int{none, dark, none}, busy(3, 0, 1, 2), views, dark, dark, dark)
}
