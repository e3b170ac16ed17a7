package chain

import (
	"math"
	"slices"
	"testing"

	"balise/api"
	"balise/graph"
	"balise/train"
)

// at is a train that was heard at tick 10, in a trail.
func at(dir, ahead int, trail ...int) train.Train {
	return train.Train{ID: 4, Heard: 10, Sure: 10, Dir: dir, Ahead: ahead, Trail: trail}
}

// toRight tells how points stand of which just these stand to the right.
func toRight(places ...int) []bool {
	right := make([]bool, api.MaxPoints)
	for _, place := range places {
		right[place] = true
	}
	return right
}

func wantSpan(t *testing.T, g *graph.Graph, x train.Train, now int64, speed int, right []bool, want ...int) {
	t.Helper()
	if got := Span(g, x, now, speed, right); !slices.Equal(got, want) {
		t.Errorf("%v at tick %d, speed %d, points %v: Span is %v, not %v", x, now, speed, right, got, want)
	}
}

func wantFront(t *testing.T, g *graph.Graph, x train.Train, now int64, speed int, right []bool, section, end int) {
	t.Helper()
	want := api.End{Section: section, End: end}
	if got := Front(g, x, now, speed, right); got != want {
		t.Errorf("%v at tick %d, speed %d, points %v: Front is %v, not %v", x, now, speed, right, got, want)
	}
}

// wantBoth holds Span against sections, and Front against that end of the
// first one of them.
func wantBoth(t *testing.T, g *graph.Graph, x train.Train, now int64, speed int, right []bool, end int, span ...int) {
	t.Helper()
	wantSpan(t, g, x, now, speed, right, span...)
	wantFront(t, g, x, now, speed, right, span[0], end)
}

func TestExample(t *testing.T) {
	g := graph.New(row(3))
	wantSpan(t, g, at(1, 5, 0), 11, 5, nil, 0)
	wantSpan(t, g, at(1, 5, 0), 12, 5, nil, 1, 0)
}

func TestWithoutTrail(t *testing.T) {
	g := graph.New(row(3))
	for _, trail := range [][]int{nil, {}} {
		for _, now := range []int64{10, 11, api.MaxTime} {
			for _, speed := range []int{0, 40, api.MaxLen} {
				x := at(1, 0, trail...)
				wantSpan(t, g, x, now, speed, nil)
				wantFront(t, g, x, now, speed, nil, -1, 0)
				wantSpan(t, nil, x, now, speed, toRight(0))
				wantFront(t, nil, x, now, speed, toRight(0), -1, 0)
			}
		}
	}
	// What a train has beside its Trail doesn't tell where it is.
	wantFront(t, g, train.Train{Heard: 3, Sure: 3, Dir: 1, Ahead: 9}, 50, 40, nil, -1, 0)
}

// A train of a register that was opened, and didn't report yet, is nowhere.
func TestOpened(t *testing.T) {
	g, r := graph.New(row(3)), train.New()
	r.Open(4, 10)
	x, _ := r.Get(4)
	wantSpan(t, g, x, 500, 40, nil)
	wantFront(t, g, x, 500, 40, nil, -1, 0)
	r.Note(g, 500, api.Message{Kind: api.Report, Train: 4, Time: 500, Dir: 1, Ahead: 5, Trail: []int{1, 2}}, nil)
	x, _ = r.Get(4)
	wantBoth(t, g, x, 500, 40, nil, 1, 1, 2)
	wantBoth(t, g, x, 501, 40, nil, 0, 0, 1, 2)
}

// At the tick at which it was heard, it is where it says, however near the end
// it is, and however fast.
func TestAtHeard(t *testing.T) {
	g := graph.New(row(3))
	for _, ahead := range []int{0, 1, 100} {
		for _, speed := range []int{0, 1, 40, api.MaxLen} {
			for _, heard := range []int64{0, 10, api.MaxTime} {
				x := at(1, ahead, 0)
				x.Heard = heard
				wantBoth(t, g, x, heard, speed, nil, 1, 0)
			}
		}
	}
}

// One that may not go at all stays where it is for ever.
func TestNoSpeed(t *testing.T) {
	g := graph.New(row(3))
	for _, now := range []int64{10, 11, api.MaxTime} {
		wantBoth(t, g, at(1, 0, 0), now, 0, nil, 1, 0)
		wantBoth(t, g, at(1, 7, 0), now, 0, nil, 1, 0)
	}
}

// The sections of the row are 100, 101, 102, .. metres long, so that with an
// Ahead of 30 the second one is left behind 131 metres, the third one behind
// 233.
func TestMetres(t *testing.T) {
	g := graph.New(row(5))
	for _, c := range []struct {
		metres, front, end int
		span               []int
	}{
		{1, 0, 1, []int{0}},
		{29, 0, 1, []int{0}},
		{30, 0, 1, []int{0}},
		{31, 1, 0, []int{1, 0}},
		{130, 1, 0, []int{1, 0}},
		{131, 1, 0, []int{1, 0}},
		{132, 2, 1, []int{2, 1, 0}},
		{233, 2, 1, []int{2, 1, 0}},
		{234, 3, 0, []int{3, 2, 1, 0}},
		{336, 3, 0, []int{3, 2, 1, 0}},
		{337, 4, 1, []int{4, 3, 2, 1, 0}},
		{441, 4, 1, []int{4, 3, 2, 1, 0}},
		{442, 4, 1, []int{4, 3, 2, 1, 0}},
	} {
		// So many metres within a tick, and so many ticks of one metre.
		wantBoth(t, g, at(1, 30, 0), 11, c.metres, nil, c.end, c.span...)
		wantBoth(t, g, at(1, 30, 0), 10+int64(c.metres), 1, nil, c.end, c.span...)
	}
}

func TestMetresAreSpeedTimesTicks(t *testing.T) {
	g := graph.New(row(5))
	// 6 times 5 is 30, just the Ahead; 19 times 7 is 133, two more than 131.
	wantBoth(t, g, at(1, 30, 0), 15, 6, nil, 1, 0)
	wantBoth(t, g, at(1, 30, 0), 16, 6, nil, 0, 1, 0)
	wantBoth(t, g, at(1, 30, 0), 28, 7, nil, 0, 1, 0)
	wantBoth(t, g, at(1, 30, 0), 29, 7, nil, 1, 2, 1, 0)
}

func TestAhead(t *testing.T) {
	g := graph.New(row(3))
	for _, ahead := range []int{0, 1, 50, 99, 100} {
		wantBoth(t, g, at(1, ahead, 0), 11, ahead, nil, 1, 0)
		wantBoth(t, g, at(1, ahead, 0), 11, ahead+1, nil, 0, 1, 0)
	}
}

// It goes on where its Dir says, and from the first one of its Trail, whatever
// is behind it.
func TestDir(t *testing.T) {
	g := graph.New(row(5))
	wantBoth(t, g, at(0, 30, 2), 11, 30, nil, 0, 2)
	wantBoth(t, g, at(1, 30, 2), 11, 30, nil, 1, 2)
	wantBoth(t, g, at(0, 30, 2), 11, 31, nil, 1, 1, 2)
	wantBoth(t, g, at(1, 30, 2), 11, 31, nil, 0, 3, 2)
	wantBoth(t, g, at(1, 30, 3), 11, 31, nil, 0, 2, 3)
	wantBoth(t, g, at(0, 30, 3), 11, 31, nil, 1, 4, 3)
	wantBoth(t, g, at(1, 30, 2, 1, 0), 11, 31, nil, 0, 3, 2, 1, 0)
	wantBoth(t, g, at(0, 30, 2, 3, 4), 11, 31, nil, 1, 1, 2, 3, 4)
}

func TestEndOfTrack(t *testing.T) {
	g := graph.New(row(3))
	for _, now := range []int64{10, 11, 13, 14, 16, 17, 99, api.MaxTime} {
		wantBoth(t, g, at(1, 0, 2), now, 40, nil, 1, 2)
		wantBoth(t, g, at(1, 100, 2, 1, 0), now, 40, nil, 1, 2, 1, 0)
		wantBoth(t, g, at(0, 0, 0, 1, 2), now, 40, nil, 0, 0, 1, 2)
	}
	wantBoth(t, g, at(1, 0, 0), api.MaxTime, api.MaxLen, nil, 1, 2, 1, 0)
	wantBoth(t, g, at(0, 0, 2), api.MaxTime, api.MaxLen, nil, 0, 0, 1, 2)
}

func TestPointFromStem(t *testing.T) {
	g := graph.New(fork())
	for _, right := range [][]bool{nil, {}, {false}, {false, true}} {
		wantBoth(t, g, at(0, 30, 1, 0), 11, 30, right, 0, 1, 0)
		wantBoth(t, g, at(0, 30, 1, 0), 11, 31, right, 1, 2, 1, 0)
	}
	for _, right := range [][]bool{{true}, {true, false}, toRight(0, 1, 2, 3)} {
		wantBoth(t, g, at(0, 30, 1, 0), 11, 30, right, 0, 1, 0)
		wantBoth(t, g, at(0, 30, 1, 0), 11, 31, right, 0, 3, 1, 0)
	}
}

// From a leg it comes over the point only if that stands to it; else it may be
// no further than at it.
func TestPointFromLegs(t *testing.T) {
	g := graph.New(fork())
	for _, now := range []int64{11, 12, 99, api.MaxTime} {
		wantBoth(t, g, at(0, 0, 2), now, 40, toRight(0), 0, 2)
		wantBoth(t, g, at(1, 0, 3), now, 40, nil, 1, 3)
		wantBoth(t, g, at(1, 0, 3), now, 40, toRight(1), 1, 3)
	}
	for _, right := range [][]bool{nil, toRight(), toRight(1)} {
		wantBoth(t, g, at(0, 0, 2), 10, 40, right, 0, 2)
		wantBoth(t, g, at(0, 0, 2), 11, 40, right, 1, 1, 2)
		wantBoth(t, g, at(0, 0, 2), 13, 40, right, 0, 0, 1, 2)
	}
	wantBoth(t, g, at(1, 30, 3), 11, 30, toRight(0), 1, 3)
	wantBoth(t, g, at(1, 30, 3), 11, 31, toRight(0), 1, 1, 3)
	wantBoth(t, g, at(1, 30, 3), 11, 130, toRight(0), 1, 1, 3)
	wantBoth(t, g, at(1, 30, 3), 11, 131, toRight(0), 0, 0, 1, 3)
}

// The points count as they stand now, though it was heard when they stood
// otherwise, and its Trail lies over the other leg.
func TestPointBehind(t *testing.T) {
	g := graph.New(fork())
	for _, right := range [][]bool{nil, toRight(0)} {
		wantBoth(t, g, at(1, 0, 1, 2), 11, 40, right, 0, 0, 1, 2)
		wantBoth(t, g, at(1, 0, 1, 3), 11, 40, right, 0, 0, 1, 3)
		wantBoth(t, g, at(1, 0, 2, 1), 11, 40, right, 1, 2, 1)
	}
}

// Each point on its way counts by itself: from 0 over point 1, by 1 and 2 or by
// 3 and 4, to point 0, and into 5.
func TestTwoPoints(t *testing.T) {
	g := graph.New(loop())
	wantBoth(t, g, at(1, 0, 0), 99, 40, toRight(), 0, 2, 1, 0)
	wantBoth(t, g, at(1, 0, 0), 99, 40, toRight(0), 0, 5, 2, 1, 0)
	wantBoth(t, g, at(1, 0, 0), 99, 40, toRight(1), 0, 5, 4, 3, 0)
	wantBoth(t, g, at(1, 0, 0), 99, 40, toRight(0, 1), 1, 4, 3, 0)
	wantBoth(t, g, at(1, 0, 5), 99, 40, toRight(), 0, 3, 4, 5)
	wantBoth(t, g, at(1, 0, 5), 99, 40, toRight(1), 0, 0, 3, 4, 5)
	wantBoth(t, g, at(1, 0, 5), 99, 40, toRight(0), 0, 0, 1, 2, 5)
	wantBoth(t, g, at(1, 0, 5), 99, 40, toRight(0, 1), 0, 1, 2, 5)
}

// On a ring it comes round to what is in the Span already, and no further.
func TestRing(t *testing.T) {
	g := graph.New(ring())
	for _, now := range []int64{35, 99, api.MaxTime} {
		wantBoth(t, g, at(1, 0, 0), now, 40, nil, 1, 7, 6, 5, 4, 3, 2, 1, 0)
		wantBoth(t, g, at(0, 0, 0), now, 40, nil, 0, 1, 2, 3, 4, 5, 6, 7, 0)
		wantBoth(t, g, at(1, 0, 1, 0, 7), now, 40, nil, 1, 6, 5, 4, 3, 2, 1, 0, 7)
	}
	// Seven sections of 142 metres are 994: the last of them is come into behind
	// 852.
	wantBoth(t, g, at(1, 30, 0), 11, 882, nil, 1, 6, 5, 4, 3, 2, 1, 0)
	wantBoth(t, g, at(1, 30, 0), 11, 883, nil, 1, 7, 6, 5, 4, 3, 2, 1, 0)
	wantBoth(t, g, at(1, 30, 0), 11, 1100, nil, 1, 7, 6, 5, 4, 3, 2, 1, 0)
}

func TestRingIsFull(t *testing.T) {
	g := graph.New(ring())
	for _, now := range []int64{10, 11, 99, api.MaxTime} {
		wantBoth(t, g, at(1, 0, 4, 3, 2, 1, 0, 7, 6, 5), now, 40, nil, 1, 4, 3, 2, 1, 0, 7, 6, 5)
		wantBoth(t, g, at(0, 0, 4, 5, 6, 7, 0, 1, 2, 3), now, 40, nil, 0, 4, 5, 6, 7, 0, 1, 2, 3)
	}
}

// What a train that isn't whole may have left counts as being in the Span, too:
// of 0 it said nothing, but was in it.
func TestRingWithWhatIsBehind(t *testing.T) {
	g, r := graph.New(ring()), train.New()
	r.Open(4, 0)
	r.Note(g, 0, api.Message{Kind: api.Report, Train: 4, Dir: 1, Trail: []int{0, 7, 6}, Whole: true}, nil)
	r.Note(g, 9, api.Message{Kind: api.Report, Train: 4, Time: 9, Trail: []int{2, 1}}, []int{2, 1, 0, 7, 6})
	x, _ := r.Get(4)
	wantBoth(t, g, x, 9, 40, nil, 0, 2, 1, 0, 7, 6)
	wantBoth(t, g, x, 10, 40, nil, 1, 3, 2, 1, 0, 7, 6)
	wantBoth(t, g, x, 99, 40, nil, 0, 5, 4, 3, 2, 1, 0, 7, 6)
}

// By the turning track a train comes back to the point at its other leg, and
// over it only if the point moved meanwhile; where it was is in the Span
// already.
func TestTurning(t *testing.T) {
	g := graph.New(turning())
	wantBoth(t, g, at(1, 0, 0), 99, 40, nil, 0, 6, 5, 4, 3, 2, 1, 0)
	wantBoth(t, g, at(1, 0, 0), 99, 40, toRight(0), 0, 1, 2, 3, 4, 5, 6, 0)
	wantBoth(t, g, at(0, 0, 6, 5, 4, 3, 2, 1, 0), 99, 40, toRight(0), 0, 6, 5, 4, 3, 2, 1, 0)
	wantBoth(t, g, at(0, 30, 6, 5), 11, 30, toRight(0), 0, 6, 5)
	wantBoth(t, g, at(0, 30, 6, 5), 11, 31, toRight(0), 0, 0, 6, 5)
	wantBoth(t, g, at(0, 0, 6, 5), 99, 40, toRight(0), 0, 0, 6, 5)
	wantBoth(t, g, at(0, 0, 6, 5), 99, 40, nil, 0, 6, 5)
}

// The most that may be: sections of MaxLen, each left behind a tick, and a
// track gone through at the last tick.
func TestGreatest(t *testing.T) {
	g := graph.New(longRow())
	var whole []int
	for i := range api.MaxSections {
		whole = slices.Insert(whole, 0, i)
	}
	x := at(1, api.MaxLen, 0)
	x.Heard = 0
	for now := range int64(api.MaxSections) {
		want := whole[max(0, len(whole)-int(max(now, 1))):]
		wantBoth(t, g, x, now, api.MaxLen, nil, 1, want...)
		wantBoth(t, g, x, now*api.MaxLen, 1, nil, 1, want...)
	}
	wantBoth(t, g, x, api.MaxSections, api.MaxLen, nil, 1, whole...)
	wantBoth(t, g, x, api.MaxTime, api.MaxLen, nil, 1, whole...)
	wantBoth(t, g, x, api.MaxTime, 1, nil, 1, whole...)
	wantBoth(t, g, x, api.MaxTime, 0, nil, 1, 0)
	// So many metres that they don't fit into 32 bits.
	for _, speed := range []int{127, 128, 129, 255, 256, 257, 384, 9999} {
		wantBoth(t, g, x, api.MaxTime, speed, nil, 1, whole...)
	}
	x.Heard = api.MaxTime - 1
	wantBoth(t, g, x, api.MaxTime, api.MaxLen, nil, 1, 0)
	x.Ahead--
	wantBoth(t, g, x, api.MaxTime, api.MaxLen, nil, 1, 1, 0)
	x.Heard = api.MaxTime
	wantBoth(t, g, x, api.MaxTime, api.MaxLen, nil, 1, 0)
}

func TestNilGraph(t *testing.T) {
	for _, g := range []*graph.Graph{nil, graph.New(api.Layout{})} {
		for _, now := range []int64{10, 11, api.MaxTime} {
			wantBoth(t, g, at(1, 0, 0), now, 40, nil, 1, 0)
			wantBoth(t, g, at(0, 0, 5, 6, 7), now, 40, toRight(0), 0, 5, 6, 7)
		}
	}
}

// What isn't promised ends and doesn't panic either.
func TestEndsAndDoesNotPanic(t *testing.T) {
	extremes := []int{math.MinInt, -api.MaxLen, -1, 0, 1, 2, 7, 40, api.MaxLen, math.MaxInt}
	graphs := []*graph.Graph{nil, graph.New(ring()), graph.New(loop()), graph.New(odd())}
	for _, a := range extremes {
		for _, b := range extremes {
			for _, c := range extremes {
				for _, g := range graphs {
					x := train.Train{Heard: int64(a), Dir: c, Ahead: b, Trail: []int{c}}
					if len(Span(g, x, int64(b), c, nil)) < 1 {
						t.Error("a Span without the Trail")
					}
					Front(g, x, int64(c), a, toRight(0))
					x.Dir, x.Trail = 1, []int{0, c, b, 0}
					Span(g, x, int64(c), b, toRight(1))
					Front(g, x, int64(b), c, nil)
				}
			}
			Meets([]int{a}, []int{b})
		}
	}
}

// On a track that may not be a train comes into no section twice either: into a
// noose, behind which it would come back into the section ahead of that.
func TestNoose(t *testing.T) {
	g := graph.New(api.Layout{
		Sections: []api.Section{{Len: 100, A: 0, B: 1}, {Len: 100, A: 1, B: 2}, {Len: 100, A: 2, B: 2}},
		Points:   []api.Point{{Node: 2, Stem: 1, Left: 2, Right: -1}},
	})
	wantBoth(t, g, at(1, 0, 0), 99, 40, nil, 1, 2, 1, 0)
}

// odd is a layout that may not be: a section from a node to itself, and a pair
// of no metres, and fewer, that goes round.
func odd() api.Layout {
	return api.Layout{
		Nodes:    []complex128{0, 1},
		Sections: []api.Section{{Len: 5, A: 7, B: 7}, {Len: 0, A: 0, B: 1}, {Len: -9, A: 1, B: 0}},
		Points:   []api.Point{{Node: 0, Stem: 1, Left: 2, Right: 1}},
	}
}

func TestMeets(t *testing.T) {
	for _, c := range []struct {
		span, sections []int
		want           bool
	}{
		{nil, nil, false},
		{nil, []int{}, false},
		{nil, []int{0}, false},
		{[]int{0}, nil, false},
		{[]int{}, []int{1, 2}, false},
		{[]int{0}, []int{0}, true},
		{[]int{1}, []int{2}, false},
		{[]int{0, 1, 2}, []int{3, 4, 5}, false},
		{[]int{0, 1, 2}, []int{0, 4, 5}, true},
		{[]int{0, 1, 2}, []int{3, 4, 0}, true},
		{[]int{0, 1, 2}, []int{2, 4, 5}, true},
		{[]int{0, 1, 2}, []int{3, 4, 2}, true},
		{[]int{0, 1, 2}, []int{3, 1, 5}, true},
		{[]int{0, 1, 2}, []int{2, 1, 0}, true},
		{[]int{5}, []int{1, 2, 3, 4}, false},
		{[]int{1, 1, 1}, []int{2, 2}, false},
		{[]int{1, 1, 1}, []int{2, 1}, true},
		{[]int{-1, math.MinInt}, []int{1, math.MaxInt}, false},
		{[]int{-1, math.MinInt}, []int{math.MinInt}, true},
	} {
		if got := Meets(c.span, c.sections); got != c.want {
			t.Errorf("Meets(%v, %v) is %v", c.span, c.sections, got)
		}
		if got := Meets(c.sections, c.span); got != c.want {
			t.Errorf("Meets(%v, %v) is %v", c.sections, c.span, got)
		}
	}
}

// Long lists are held against one another in no more steps than they are long.
func TestMeetsOfLongLists(t *testing.T) {
	const many = 200000
	span, sections := make([]int, many), make([]int, many)
	for i := range many {
		span[i], sections[i] = i, many+i
	}
	if Meets(span, sections) {
		t.Error("Meets of lists that have none in common")
	}
	sections[many-1] = many - 1
	if !Meets(span, sections) {
		t.Error("Meets doesn't tell of the last ones of long lists")
	}
}

// spoil writes over a list, and over the room behind it.
func spoil[T any](list []T, with T) {
	for i := range list[:cap(list)] {
		list[:cap(list)][i] = with
	}
}

func TestNothingIsWritten(t *testing.T) {
	g := graph.New(fork())
	trail := []int{1, 0, 77, 78, 79, 80}
	right := []bool{true, false, true}
	x := at(0, 0, trail[:2]...)
	x.Trail = trail[:2]
	for now := int64(10); now < 16; now++ {
		spoil(Span(g, x, now, 40, right[:1]), 99)
		Front(g, x, now, 40, right[:1])
		Meets(trail[:2], trail[2:4])
	}
	if !slices.Equal(trail, []int{1, 0, 77, 78, 79, 80}) || !slices.Equal(right, []bool{true, false, true}) {
		t.Errorf("behind the calls the Trail is %v, right %v", trail, right)
	}
	if x.Heard != 10 || x.Sure != 10 || x.Dir != 0 || x.Ahead != 0 || x.ID != 4 || len(x.Trail) != 2 {
		t.Errorf("behind the calls the train is %v", x)
	}
}

func TestNothingIsShared(t *testing.T) {
	l := fork()
	g := graph.New(l)
	for _, c := range []struct {
		now  int64
		want []int
	}{{10, []int{1, 0}}, {11, []int{3, 1, 0}}, {99, []int{3, 1, 0}}} {
		x, right := at(0, 0, 1, 0), toRight(0)
		got, front := Span(g, x, c.now, 40, right), Front(g, x, c.now, 40, right)
		other := Span(g, x, c.now, 40, right)
		spoil(other, 99)
		wantSpan(t, g, x, c.now, 40, right, c.want...)
		spoil(x.Trail, 99)
		spoil(right, false)
		if !slices.Equal(got, c.want) {
			t.Errorf("what was answered is %v behind all being written over, not %v", got, c.want)
		}
		if front.Section != c.want[0] {
			t.Errorf("Front is %v", front)
		}
		wantSpan(t, g, at(0, 0, 1, 0), c.now, 40, toRight(0), c.want...)
	}
	none := Span(g, at(0, 0), 99, 40, nil)
	spoil(append(none, 1), 99)
	wantSpan(t, g, at(0, 0), 99, 40, nil)
}
