package point

import (
	"math"
	"slices"
	"testing"

	"balise/api"
	"balise/graph"
	"balise/own"
)

// left is a need that a point stands to the left.
func left(point int) graph.Need {
	return graph.Need{Point: point}
}

// right is a need that a point stands to the right.
func right(point int) graph.Need {
	return graph.Need{Point: point, Right: true}
}

func needs(all ...graph.Need) []graph.Need {
	return all
}

// points reads how points stand: L to the left, R to the right.
func points(letters string) []bool {
	var all []bool
	for _, letter := range letters {
		all = append(all, letter == 'R')
	}
	return all
}

// letters tells how points stand.
func letters(right []bool) string {
	var text []byte
	for _, r := range right {
		if r {
			text = append(text, 'R')
		} else {
			text = append(text, 'L')
		}
	}
	return string(text)
}

// sure is a train that is sure, and where it may be.
func sure(id int, span ...int) own.View {
	return own.View{ID: id, Sure: true, Span: span}
}

// unsure is a train that isn't sure, and where it may be.
func unsure(id int, span ...int) own.View {
	return own.View{ID: id, Span: span}
}

// wantMoves holds Moves, and with it Stands: all stand where none must move.
func wantMoves(t *testing.T, all []graph.Need, stand string, want ...graph.Need) {
	t.Helper()
	if got := Moves(all, points(stand)); !slices.Equal(got, want) {
		t.Errorf("Moves(%v, %q) is %v, not %v", all, stand, got, want)
	}
	if got := Stands(all, points(stand)); got != (len(want) == 0) {
		t.Errorf("Stands(%v, %q) is %v", all, stand, got)
	}
}

func wantMove(t *testing.T, stand string, all []graph.Need, want string) {
	t.Helper()
	if got := Move(points(stand), all); letters(got) != want {
		t.Errorf("Move(%q, %v) is %q, not %q", stand, all, letters(got), want)
	}
}

func TestExample(t *testing.T) {
	if got := Move(nil, needs(right(1))); !slices.Equal(got, []bool{false, true}) {
		t.Errorf("Move(none, point 1 to the right) is %v", got)
	}
}

func TestNoNeeds(t *testing.T) {
	for _, stand := range []string{"", "L", "R", "LR", "RLRLRLRL", "LRLRLRLRLRLR"} {
		wantMoves(t, nil, stand)
		wantMoves(t, needs(), stand)
		wantMove(t, stand, nil, stand)
		wantMove(t, stand, needs(), stand)
	}
	if !Stands(nil, nil) || len(Moves(nil, nil)) != 0 || len(Move(nil, nil)) != 0 {
		t.Error("of nothing something is told")
	}
}

func TestNeeds(t *testing.T) {
	wantMoves(t, needs(left(0)), "L")
	wantMoves(t, needs(right(0)), "R")
	wantMoves(t, needs(left(0)), "R", left(0))
	wantMoves(t, needs(right(0)), "L", right(0))
	// Several: those that don't, in the order of the needs.
	wantMoves(t, needs(left(0), right(1), left(2)), "LRL")
	wantMoves(t, needs(left(2), right(1), left(0)), "LRL")
	wantMoves(t, needs(left(0), right(1), left(2)), "RRL", left(0))
	wantMoves(t, needs(left(0), right(1), left(2)), "LLL", right(1))
	wantMoves(t, needs(left(0), right(1), left(2)), "LRR", left(2))
	wantMoves(t, needs(right(2), left(0), right(1)), "RRL", right(2), left(0))
	wantMoves(t, needs(right(2), left(1), right(0)), "LRL", right(2), left(1), right(0))
	// Not all points are needed.
	wantMoves(t, needs(right(2)), "LLR")
	wantMoves(t, needs(left(1)), "RLR")
	wantMoves(t, needs(right(7), left(3)), "LLLRLLLR", left(3))
	// Two needs of one point, each by itself.
	wantMoves(t, needs(left(1), left(1)), "LL")
	wantMoves(t, needs(left(1), left(1)), "LR", left(1), left(1))
	wantMoves(t, needs(left(1), right(1)), "LL", right(1))
	wantMoves(t, needs(left(1), right(1)), "LR", left(1))
	wantMoves(t, needs(right(1), right(0), left(1)), "RR", left(1))
}

// A point that the list doesn't tell stands to the left, whatever its number
// is; of one that it tells, it is as it says, also from MaxPoints on.
func TestNeedsThatAreNotTold(t *testing.T) {
	for _, number := range []int{math.MinInt, -api.MaxPoints, -2, -1, 3, api.MaxPoints - 1, api.MaxPoints, api.MaxPoints + 1, 100, math.MaxInt} {
		for _, stand := range []string{"", "R", "RR", "RRR", "LLL"} {
			wantMoves(t, needs(left(number)), stand)
			wantMoves(t, needs(right(number)), stand, right(number))
			wantMoves(t, needs(left(number), right(number), left(number)), stand, right(number))
		}
		wantMoves(t, needs(right(0), right(number), right(1), left(number)), "RL", right(number), right(1))
	}
	wantMoves(t, needs(right(1)), "R", right(1))
	wantMoves(t, needs(left(1)), "R")
	wantMoves(t, needs(right(8), left(9), right(10)), "LLLLLLLLRRR", left(9))
	wantMoves(t, needs(left(8), right(9), left(10)), "LLLLLLLLRRR", left(8), left(10))
	wantMoves(t, needs(right(11), left(11)), "RRRRRRRRRRR", right(11))
}

func TestMove(t *testing.T) {
	wantMove(t, "L", needs(right(0)), "R")
	wantMove(t, "L", needs(left(0)), "L")
	wantMove(t, "R", needs(left(0)), "L")
	wantMove(t, "R", needs(right(0)), "R")
	wantMove(t, "LRL", needs(right(0)), "RRL")
	wantMove(t, "LRL", needs(left(1)), "LLL")
	wantMove(t, "LRL", needs(right(2)), "LRR")
	wantMove(t, "LRLR", needs(left(3), right(2), right(0)), "RRRL")
	wantMove(t, "LLLLLLLL", needs(right(7), right(0)), "RLLLLLLR")
	// Of two needs of one point the last one counts.
	wantMove(t, "LL", needs(right(1), left(1)), "LL")
	wantMove(t, "RR", needs(right(1), left(1)), "RL")
	wantMove(t, "RR", needs(left(1), right(1)), "RR")
	wantMove(t, "LL", needs(left(1), right(1)), "LR")
	wantMove(t, "LL", needs(right(0), right(1), left(0), left(1), right(0)), "RL")
	wantMove(t, "", needs(right(2), right(0), left(2)), "RLL")
}

// It grows as far as the needs go, to the left or to the right, and no further.
func TestMoveGrows(t *testing.T) {
	wantMove(t, "", needs(left(0)), "L")
	wantMove(t, "", needs(right(0)), "R")
	wantMove(t, "", needs(left(2)), "LLL")
	wantMove(t, "", needs(right(2)), "LLR")
	wantMove(t, "R", needs(right(2)), "RLR")
	wantMove(t, "R", needs(left(2)), "RLL")
	wantMove(t, "RR", needs(right(3), right(2)), "RRRR")
	wantMove(t, "RR", needs(right(2), left(4)), "RRRLL")
	wantMove(t, "RR", needs(right(4), right(2), left(0)), "LRRLR")
	wantMove(t, "LR", needs(right(0)), "RR")
	for number := range api.MaxPoints {
		for told := range api.MaxPoints + 1 {
			was := "RRRRRRRR"[:told]
			want := []byte("RRRRRRRR"[:max(told, number+1)])
			for i := told; i < number; i++ {
				want[i] = 'L'
			}
			wantMove(t, was, needs(right(number)), string(want))
			want[number] = 'L'
			wantMove(t, was, needs(left(number)), string(want))
		}
	}
}

// Below 0, and from MaxPoints on, nothing is done, also if the list tells such
// a point; the needs beside it are.
func TestMoveOfNoPoint(t *testing.T) {
	for _, number := range []int{math.MinInt, math.MinInt32, -api.MaxPoints, -2, -1, api.MaxPoints, api.MaxPoints + 1, 10, 11, 12, 100, math.MaxInt32, math.MaxInt} {
		for _, stand := range []string{"", "L", "RL", "LLLLLLLL", "RRRRRRRRR", "LRLRLRLRLRL", "RLRLRLRLRLRL"} {
			wantMove(t, stand, needs(right(number)), stand)
			wantMove(t, stand, needs(left(number)), stand)
			wantMove(t, stand, needs(left(number), right(number), left(number)), stand)
		}
		wantMove(t, "LR", needs(right(number), right(0), left(number), left(1), right(number)), "RL")
		wantMove(t, "R", needs(left(number), right(api.MaxPoints-1), right(number)), "RLLLLLLR")
	}
	wantMove(t, "LLLLLLLLL", needs(right(8), right(7)), "LLLLLLLRL")
	wantMove(t, "", needs(right(8), right(7)), "LLLLLLLR")
}

// asked is all that May is asked of; the point 0 of a fork, whose stem is the
// section 1, may move.
type asked struct {
	states       []byte
	views        []own.View
	locked, held []bool
	point        int
}

func (a asked) may() bool {
	return May(fork(), a.states, a.views, a.locked, a.held, a.point)
}

func wantMay(t *testing.T, a asked, want bool) {
	t.Helper()
	if got := a.may(); got != want {
		t.Errorf("of %+v May is %v", a, got)
	}
}

// allFree are the states of a fork in which nobody is.
var allFree = []byte{api.Free, api.Free, api.Free, api.Free}

func TestMayByState(t *testing.T) {
	wantMay(t, asked{states: allFree}, true)
	for state := range 256 {
		for _, other := range []byte{api.Free, api.Taken, api.Ambiguous, api.Dark, 255} {
			wantMay(t, asked{states: []byte{other, byte(state), other, other}}, state == api.Free)
		}
	}
	// As far as the list goes.
	wantMay(t, asked{states: []byte{api.Free, api.Free}}, true)
	wantMay(t, asked{states: []byte{api.Taken, api.Free}}, true)
	wantMay(t, asked{states: []byte{api.Free, api.Free, api.Free, api.Free, api.Dark, api.Dark}}, true)
	wantMay(t, asked{states: []byte{api.Free, api.Taken, api.Free}}, false)
	wantMay(t, asked{states: []byte{api.Free}}, false)
	wantMay(t, asked{states: []byte{}}, false)
	wantMay(t, asked{}, false)
}

// A train that may be in the stem holds the point, whoever it is, and whether
// it is sure; one that is elsewhere doesn't.
func TestMayByViews(t *testing.T) {
	for _, id := range []int{0, 1, 63, api.Empty, api.Unknown, math.MinInt, math.MaxInt} {
		for _, of := range []func(int, ...int) own.View{sure, unsure} {
			for _, span := range [][]int{{1}, {1, 0}, {0, 1}, {2, 1, 0}, {3, 1}, {0, 2, 3, 1}, {1, 1}} {
				wantMay(t, asked{states: allFree, views: []own.View{of(id, span...)}}, false)
				wantMay(t, asked{states: allFree, views: []own.View{sure(4, 0, 2), of(id, span...)}}, false)
				wantMay(t, asked{states: allFree, views: []own.View{of(id, span...), unsure(4, 0, 2)}}, false)
			}
			for _, span := range [][]int{nil, {}, {0}, {2}, {3}, {3, 2, 0}, {-1}, {4, 5}, {math.MinInt, math.MaxInt}, {0, 0}} {
				wantMay(t, asked{states: allFree, views: []own.View{of(id, span...)}}, true)
				wantMay(t, asked{states: allFree, views: []own.View{of(id, span...), sure(4, 0, 3), unsure(5, 2)}}, true)
			}
		}
	}
	wantMay(t, asked{states: allFree, views: []own.View{}}, true)
	wantMay(t, asked{states: allFree, views: []own.View{sure(1), sure(2, 0), sure(3, 2), sure(4, 3), unsure(5, 3), unsure(6, 0)}}, true)
	wantMay(t, asked{states: allFree, views: []own.View{sure(1), sure(2, 0), sure(3, 2), sure(4, 3), unsure(5, 3), unsure(6, 0, 1)}}, false)
}

// What is locked is a section, what is held is a point.
func TestMayByLocks(t *testing.T) {
	for _, locked := range [][]bool{nil, {}, {false}, {true}, {false, false}, {true, false}, {true, false, true, true}, {false, false, true, true, true}} {
		wantMay(t, asked{states: allFree, locked: locked}, true)
	}
	for _, locked := range [][]bool{{false, true}, {true, true}, {false, true, false, false}, {true, true, true, true}} {
		wantMay(t, asked{states: allFree, locked: locked}, false)
	}
	for _, held := range [][]bool{nil, {}, {false}, {false, true}, {false, true, true, true}} {
		wantMay(t, asked{states: allFree, held: held}, true)
	}
	for _, held := range [][]bool{{true}, {true, false}, {true, true, true}} {
		wantMay(t, asked{states: allFree, held: held}, false)
	}
}

func TestMayOfNoPoint(t *testing.T) {
	for _, number := range []int{math.MinInt, -2, -1, 1, 2, 3, api.MaxPoints, math.MaxInt} {
		wantMay(t, asked{states: allFree, point: number}, false)
		wantMay(t, asked{states: allFree, locked: []bool{false, false, false, false}, held: make([]bool, 4), point: number}, false)
	}
	if May(row(3), allFree, nil, nil, nil, 0) || May(api.Layout{}, allFree, nil, nil, nil, 0) {
		t.Error("where there are no points one may move")
	}
}

// Each point of a layout hangs on its own stem, and on its own being held.
func TestMayOfEachPoint(t *testing.T) {
	l, states := loop(), make([]byte, 6)
	l.Points = append(l.Points, api.Point{Node: 2, Stem: 2, Left: 1, Right: 1})
	ask := func(a asked) string {
		var may []bool
		for point := range 4 {
			may = append(may, May(l, a.states, a.views, a.locked, a.held, point))
		}
		return letters(may)
	}
	for _, c := range []struct {
		a    asked
		want string
	}{
		{asked{states: states}, "RRRL"},
		{asked{states: []byte{0, 0, 1}}, "LRLL"}, {asked{states: []byte{0, 2, 0, 3, 1, 2}}, "LRRL"}, {asked{states: []byte{3, 2, 3, 3, 1, 0}}, "RLLL"},
		{asked{states: states, views: []own.View{sure(4, 4, 5)}}, "LRRL"}, {asked{states: states, views: []own.View{unsure(4, 0), sure(5, 2)}}, "RLLL"},
		{asked{states: states, locked: []bool{true}}, "RLRL"}, {asked{states: states, locked: []bool{false, true, true, true, true, false}}, "RRLL"},
		{asked{states: states, held: []bool{true}}, "LRRL"}, {asked{states: states, held: []bool{false, true}}, "RLRL"},
		{asked{states: states, held: []bool{false, false, true, true}}, "RRLL"},
		{asked{states: states, views: []own.View{sure(4, 5)}, locked: []bool{true}, held: []bool{false, false, true}}, "LLLL"},
	} {
		if got := ask(c.a); got != c.want {
			t.Errorf("of %+v the points may move so: %s, not %s", c.a, got, c.want)
		}
	}
}

// As many points as there may be, on as many sections as there may be.
func TestMayOfAllPoints(t *testing.T) {
	l := row(api.MaxSections)
	for point := range api.MaxPoints {
		l.Points = append(l.Points, api.Point{Node: 4*point + 4, Stem: 4*point + 3, Left: 4*point + 2, Right: 4 * point})
	}
	for point, p := range l.Points {
		for section := range api.MaxSections {
			states, locked := make([]byte, api.MaxSections), make([]bool, api.MaxSections)
			states[section], locked[section] = api.Taken, true
			want := section != p.Stem
			if May(l, states, nil, nil, nil, point) != want || May(l, make([]byte, api.MaxSections), nil, locked, nil, point) != want ||
				May(l, make([]byte, api.MaxSections), []own.View{unsure(4, section)}, nil, nil, point) != want {
				t.Errorf("point %d, whose stem is %d: section %d", point, p.Stem, section)
			}
		}
		for other := range api.MaxPoints {
			held := make([]bool, api.MaxPoints)
			held[other] = true
			if May(l, make([]byte, api.MaxSections), nil, nil, held, point) != (other != point) {
				t.Errorf("point %d: %d is held", point, other)
			}
		}
	}
}

// spoil writes over a list, and over the room behind it.
func spoil[T any](list []T, with T) {
	for i := range list[:cap(list)] {
		list[:cap(list)][i] = with
	}
}

// roomy tells a list that has room behind it.
func roomy[T any](list ...T) []T {
	return append(make([]T, 0, len(list)+12), list...)
}

// whole tells a list with the room behind it.
func whole[T any](list []T) []T {
	return list[:cap(list)]
}

// handed is what calls are handed, with room behind each list.
type handed struct {
	l            api.Layout
	needs        []graph.Need
	right        []bool
	states       []byte
	views        []own.View
	locked, held []bool
}

func hand() handed {
	h := handed{l: fork(), needs: roomy(right(0), left(1), right(3), right(-1), right(8)), right: roomy(false, true), states: roomy[byte](0, 0, 1)}
	h.views = roomy(sure(4, roomy(0, 3)...), unsure(5, roomy(2)...))
	h.locked, h.held = roomy(true, false), roomy(false, true)
	return h
}

// spoil writes over all that was handed in.
func (h handed) spoil() {
	for _, v := range h.views {
		spoil(v.Span, 1)
	}
	spoil(h.views, own.View{ID: 4, Span: []int{1}})
	spoil(h.needs, left(5))
	spoil(h.right, true)
	spoil(h.states, 3)
	spoil(h.locked, true)
	spoil(h.held, true)
	for _, part := range h.l.Parts {
		spoil(part, 3)
	}
	spoil(h.l.Parts, nil)
	spoil(h.l.Sections, api.Section{})
	spoil(h.l.Points, api.Point{})
	spoil(h.l.Nodes, 9)
}

// isWhole tells whether nothing was written into what was handed in, nor into
// the room behind.
func (h handed) isWhole() bool {
	as := hand()
	for i, v := range whole(h.views) {
		w := whole(as.views)[i]
		if v.ID != w.ID || v.Sure != w.Sure || !slices.Equal(whole(v.Span), whole(w.Span)) {
			return false
		}
	}
	return len(h.views) == len(as.views) && slices.Equal(whole(h.needs), whole(as.needs)) && slices.Equal(whole(h.right), whole(as.right)) &&
		slices.Equal(whole(h.states), whole(as.states)) && slices.Equal(whole(h.locked), whole(as.locked)) && slices.Equal(whole(h.held), whole(as.held)) &&
		slices.Equal(h.l.Nodes, as.l.Nodes) && slices.Equal(h.l.Sections, as.l.Sections) &&
		slices.Equal(h.l.Points, as.l.Points) && slices.EqualFunc(h.l.Parts, as.l.Parts, slices.Equal[[]int])
}

// What calls tell of all that is handed in.
const handedMoved = "RLLR"

var handedMoves = []graph.Need{{Point: 0, Right: true}, {Point: 1}, {Point: 3, Right: true}, {Point: -1, Right: true}, {Point: 8, Right: true}}

func wantHanded(t *testing.T, h handed) {
	t.Helper()
	if got := Moves(h.needs, h.right); !slices.Equal(got, handedMoves) {
		t.Errorf("Moves is %v", got)
	}
	if got := Move(h.right, h.needs); letters(got) != handedMoved {
		t.Errorf("Move is %v", got)
	}
	if Stands(h.needs, h.right) || !May(h.l, h.states, h.views, h.locked, h.held, 0) {
		t.Error("Stands, or May, is another one")
	}
}

func TestNothingIsWritten(t *testing.T) {
	h := hand()
	for range 2 {
		wantHanded(t, h)
		spoil(Moves(h.needs, h.right), left(7))
		spoil(Move(h.right, h.needs), true)
		spoil(Move(h.right, nil), true)
		spoil(Move(h.right[:0], nil), true)
		spoil(Move(h.right[:1], needs(right(3))), true)
		if !h.isWhole() {
			t.Fatalf("written over: %v", h)
		}
	}
}

func TestNothingIsShared(t *testing.T) {
	h := hand()
	moves, moved, same := Moves(h.needs, h.right), Move(h.right, h.needs), Move(h.right, needs(left(0)))
	h.spoil()
	spoil(Moves(hand().needs, hand().right), left(7))
	if !slices.Equal(moves, handedMoves) || letters(moved) != handedMoved || letters(same) != "LR" {
		t.Errorf("Moves is %v, Move is %v, and %v, behind all being written over", moves, moved, same)
	}
	spoil(moved, true)
	spoil(moves, right(2))
	if letters(same) != "LR" {
		t.Errorf("Move is %v behind another answer being written over", same)
	}
	wantHanded(t, hand())
}

// What isn't promised ends and doesn't panic either: points whose stems aren't
// there, lists too short, or too long, numbers that are nothing's.
func TestEndsAndDoesNotPanic(t *testing.T) {
	extremes := []int{math.MinInt, math.MinInt32, -9, -2, -1, 0, 1, 7, 8, 9, 31, 32, 40, math.MaxInt32, math.MaxInt}
	for _, x := range extremes {
		odd := api.Layout{Points: []api.Point{{Node: x, Stem: x, Left: x, Right: x}, {Stem: -x}, {Stem: 0}}}
		for _, l := range []api.Layout{{}, odd, fork(), loop(), row(2)} {
			for length := range 10 {
				states, flags := slices.Repeat([]byte{byte(x)}, length), slices.Repeat([]bool{x%2 == 0}, length)
				views := []own.View{sure(x, x, 0), unsure(4, -x), sure(4, 1, 2)}[:length%4]
				for _, number := range extremes {
					if May(l, states, views, flags, flags, number) && (number < 0 || number >= len(l.Points)) {
						t.Errorf("there is no point %d", number)
					}
					May(l, states, nil, nil, flags, number)
					May(l, states, nil, flags, nil, number)
					all := needs(right(x), left(number), right(number), left(x))
					if got := Move(flags, all); len(got) > max(len(flags), api.MaxPoints) || len(got) < len(flags) {
						t.Errorf("of %d points, and %v, %d are told", len(flags), all, len(got))
					}
					if Stands(all, flags) || len(Moves(all, flags)) != 2 {
						t.Errorf("of %v, one to the left and one to the right each, %v stand", all, flags)
					}
				}
			}
		}
	}
	// A stem that no list can tell.
	for _, stem := range []int{-1, math.MinInt, math.MaxInt} {
		l := api.Layout{Points: []api.Point{{Stem: stem}}}
		if May(l, allFree, nil, nil, nil, 0) {
			t.Errorf("a point whose stem is %d may move", stem)
		}
	}
}
