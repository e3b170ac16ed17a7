package train

import (
	"math"
	"math/big"
	"slices"
	"testing"

	"balise/api"
	"balise/graph"
)

const (
	least    = math.MinInt64
	greatest = math.MaxInt64
)

// report is a Report of train 4 that is whole.
func report(time int64, dir, ahead int, trail ...int) api.Message {
	return api.Message{Kind: api.Report, Train: 4, Time: time, Dir: dir, Ahead: ahead, Whole: true, Trail: trail}
}

// broken is the same Report of a train that isn't whole.
func broken(m api.Message) api.Message {
	m.Whole = false
	return m
}

// opened makes a register in which trains have sessions, each since the tick of
// ten times its number.
func opened(t *testing.T, ids ...int) *Register {
	t.Helper()
	r := New()
	for _, id := range ids {
		if e := r.Open(id, int64(10*id)); e != api.OK {
			t.Fatalf("Open(%d) is %d", id, e)
		}
	}
	return r
}

func wantAll(t *testing.T, r *Register, want ...int) {
	t.Helper()
	if got := r.All(); !slices.Equal(got, want) {
		t.Errorf("All is %v, not %v", got, want)
	}
}

func wantTrain(t *testing.T, r *Register, want Train) {
	t.Helper()
	got, ok := r.Get(want.ID)
	if !ok || !alike(got, want) {
		t.Errorf("Get(%d) is %v, %v, not %v", want.ID, got, ok, want)
	}
}

func alike(a, b Train) bool {
	return a.ID == b.ID && a.Heard == b.Heard && a.Sure == b.Sure && a.Dir == b.Dir && a.Ahead == b.Ahead && slices.Equal(a.Trail, b.Trail)
}

func wantNone(t *testing.T, r *Register, id int) {
	t.Helper()
	if got, ok := r.Get(id); ok || !alike(got, Train{}) {
		t.Errorf("Get(%d) is %v, %v, of one that has no session", id, got, ok)
	}
}

func wantNumbers(t *testing.T, what string, got []int, want ...int) {
	t.Helper()
	if !slices.Equal(got, want) {
		t.Errorf("%s is %v, not %v", what, got, want)
	}
}

func wantNote(t *testing.T, r *Register, g *graph.Graph, now int64, m api.Message, was []int, want api.Errno) {
	t.Helper()
	if got := r.Note(g, now, m, was); got != want {
		t.Errorf("Note(%d, %v, %v) is %d, not %d", now, m, was, got, want)
	}
}

func TestNew(t *testing.T) {
	r, other := New(), New()
	if r == nil {
		t.Fatal("New is none")
	}
	wantAll(t, r)
	for _, id := range []int{math.MinInt, -1, 0, 1, math.MaxInt} {
		wantNone(t, r, id)
		if r.Close(id) {
			t.Errorf("Close(%d) of none", id)
		}
	}
	r.Open(1, 2)
	wantAll(t, other)
	wantNone(t, other, 1)
}

func TestOpen(t *testing.T) {
	for _, id := range []int{math.MinInt, -7, -1, 0, 1, 63, 64, math.MaxInt} {
		for _, now := range []int64{0, 1, 77, api.MaxTime} {
			r := New()
			if e := r.Open(id, now); e != api.OK {
				t.Errorf("Open(%d, %d) is %d", id, now, e)
			}
			wantTrain(t, r, Train{ID: id, Heard: now, Sure: -1})
			wantAll(t, r, id)
			for _, later := range []int64{0, now, now + 1} {
				if e := r.Open(id, later); e != api.ErrState {
					t.Errorf("Open(%d, %d) again is %d", id, later, e)
				}
			}
			wantTrain(t, r, Train{ID: id, Heard: now, Sure: -1})
			wantAll(t, r, id)
		}
	}
}

func TestFull(t *testing.T) {
	r := New()
	ids := []int{9, -3, 0, math.MaxInt, math.MinInt, 4}
	if len(ids) != api.MaxTrains {
		t.Fatal("these aren't as many as may be")
	}
	for i, id := range ids {
		if e := r.Open(id, int64(i)); e != api.OK {
			t.Errorf("Open(%d) is %d", id, e)
		}
		sorted := slices.Clone(ids[:i+1])
		slices.Sort(sorted)
		wantAll(t, r, sorted...)
	}
	for _, id := range []int{1, 5, -1, 99} {
		if e := r.Open(id, 50); e != api.ErrFull {
			t.Errorf("Open(%d) is %d in a full register", id, e)
		}
		wantNone(t, r, id)
	}
	// That it has one already is told ahead of there being no room.
	for i, id := range ids {
		if e := r.Open(id, 50); e != api.ErrState {
			t.Errorf("Open(%d) again is %d in a full register", id, e)
		}
		wantTrain(t, r, Train{ID: id, Heard: int64(i), Sure: -1})
	}
	wantAll(t, r, math.MinInt, -3, 0, 4, 9, math.MaxInt)
	if r.Close(1) || r.Open(1, 50) != api.ErrFull {
		t.Error("a Close of none made room")
	}
	if !r.Close(0) || r.Open(1, 50) != api.OK || r.Open(0, 50) != api.ErrFull {
		t.Error("a Close doesn't make room for just one")
	}
	wantAll(t, r, math.MinInt, -3, 1, 4, 9, math.MaxInt)
}

func TestClose(t *testing.T) {
	r := opened(t, 5, 2, 8)
	for _, id := range []int{0, -5, 3, 20, 50} {
		if r.Close(id) {
			t.Errorf("Close(%d) of none", id)
		}
	}
	wantAll(t, r, 2, 5, 8)
	if !r.Close(5) || r.Close(5) {
		t.Error("5 isn't closed once")
	}
	wantNone(t, r, 5)
	wantAll(t, r, 2, 8)
	wantTrain(t, r, Train{ID: 2, Heard: 20, Sure: -1})
	if !r.Close(2) || !r.Close(8) {
		t.Error("2 and 8 aren't closed")
	}
	wantAll(t, r)
}

// Of a session that ended nothing is left in one that begins.
func TestOpenAgain(t *testing.T) {
	g := graph.New(fork())
	r := opened(t, 4)
	wantNote(t, r, g, 40, report(40, 0, 7, 1, 0), nil, api.OK)
	wantTrain(t, r, Train{ID: 4, Heard: 40, Sure: 40, Ahead: 7, Trail: []int{1, 0}})
	r.Close(4)
	if e := r.Open(4, 50); e != api.OK {
		t.Errorf("Open is %d", e)
	}
	wantTrain(t, r, Train{ID: 4, Heard: 50, Sure: -1})
	wantNote(t, r, g, 60, report(55, 0, 7, 1, 0), nil, api.ErrState)
	wantNote(t, r, g, 60, report(60, 1, 3, 0), nil, api.OK)
	wantTrain(t, r, Train{ID: 4, Heard: 60, Sure: 60, Dir: 1, Ahead: 3, Trail: []int{0}})
}

func TestFitsAlone(t *testing.T) {
	l := fork()
	g := graph.New(l)
	for section, s := range l.Sections {
		for ahead := -2; ahead <= s.Len+2; ahead++ {
			for dir := -2; dir <= 3; dir++ {
				want := ahead >= 0 && ahead <= s.Len && (dir == 0 || dir == 1)
				if got := Fits(g, report(0, dir, ahead, section)); got != want {
					t.Errorf("section %d, Dir %d, Ahead %d: %v", section, dir, ahead, got)
				}
			}
		}
		for _, ahead := range []int{math.MinInt, math.MaxInt} {
			if Fits(g, report(0, 0, ahead, section)) {
				t.Errorf("section %d, Ahead %d", section, ahead)
			}
		}
		for _, dir := range []int{math.MinInt, math.MaxInt} {
			if Fits(g, report(0, dir, 0, section)) {
				t.Errorf("section %d, Dir %d", section, dir)
			}
		}
	}
	for _, section := range []int{math.MinInt, -1, 4, 9, 31, 32, math.MaxInt} {
		for dir := range 2 {
			if Fits(g, report(0, dir, 0, section)) {
				t.Errorf("section %d, that there isn't", section)
			}
		}
	}
}

func TestFitsTrail(t *testing.T) {
	g := graph.New(fork())
	for i, c := range []struct {
		trail       []int
		none, first bool // leaving the first one at its end 0, or at its end 1
	}{
		{nil, false, false},
		{[]int{}, false, false},
		{[]int{1, 0}, true, false},
		{[]int{0, 1}, true, false},
		{[]int{2, 1}, false, true},
		{[]int{2, 1, 0}, false, true},
		{[]int{3, 1}, true, false},
		{[]int{3, 1, 0}, true, false},
		{[]int{1, 2}, false, true},
		{[]int{1, 3}, false, true},
		{[]int{0, 1, 2}, true, false},
		{[]int{0, 1, 3}, true, false},
		{[]int{2, 3}, false, false},
		{[]int{3, 2}, false, false},
		{[]int{2, 1, 3}, false, false},
		{[]int{0, 2}, false, false},
		{[]int{0, 3, 1}, false, false},
		{[]int{0, 0}, false, false},
		{[]int{1, 1}, false, false},
		{[]int{1, 0, 1}, false, false},
		{[]int{0, 1, 0}, false, false},
		{[]int{2, 1, 0, 1}, false, false},
		{[]int{4, 0}, false, false},
		{[]int{0, 4}, false, false},
		{[]int{1, 0, 4}, false, false},
		{[]int{-1, 0}, false, false},
		{[]int{0, -1}, false, false},
		{[]int{1, 0, -1}, false, false},
		{[]int{1, 0, math.MaxInt}, false, false},
		{[]int{1, 0, math.MinInt}, false, false},
	} {
		for dir, want := range []bool{c.none, c.first} {
			if got := Fits(g, report(0, dir, 0, c.trail...)); got != want {
				t.Errorf("%d: %v left at %d: %v", i, c.trail, dir, got)
			}
		}
		for _, dir := range []int{-1, 2} {
			if Fits(g, report(0, dir, 0, c.trail...)) {
				t.Errorf("%d: %v left at %d", i, c.trail, dir)
			}
		}
	}
}

// Ahead is held against the first section's Len, whatever stands behind it.
func TestFitsAheadOfTheFirst(t *testing.T) {
	g := graph.New(fork())
	for _, c := range []struct {
		dir, length int
		trail       []int
	}{{0, 100, []int{1, 0}}, {1, 120, []int{2, 1, 0}}, {0, 130, []int{3, 1}}, {1, 100, []int{1, 3}}} {
		for ahead, want := range map[int]bool{-1: false, 0: true, 1: true, c.length - 1: true, c.length: true, c.length + 1: false} {
			if got := Fits(g, report(0, c.dir, ahead, c.trail...)); got != want {
				t.Errorf("%v, Ahead %d: %v", c.trail, ahead, got)
			}
		}
	}
}

func TestFitsLongTrails(t *testing.T) {
	l := row(20)
	g := graph.New(l)
	for count := 1; count <= 20; count++ {
		var up, down []int
		for i := range count {
			up, down = append(up, 19-i), append(down, i)
		}
		want := count <= api.MaxPath
		if got := Fits(g, report(0, sideEnd(l, up[0], east), 0, up...)); got != want {
			t.Errorf("%d sections to the east: %v", count, got)
		}
		if got := Fits(g, report(0, sideEnd(l, down[0], west), 0, down...)); got != want {
			t.Errorf("%d sections to the west: %v", count, got)
		}
		turned := Fits(g, report(0, sideEnd(l, up[0], west), 0, up...))
		if turned != (count == 1) {
			t.Errorf("%d sections, left at the other end: %v", count, turned)
		}
	}
	if Fits(g, report(0, 0, 0, make([]int, 100000)...)) {
		t.Error("one section very often")
	}
}

// Of a message no more is asked than where its train is.
func TestFitsAsksNoMore(t *testing.T) {
	g := graph.New(fork())
	for kind := range 256 {
		m := api.Message{Kind: byte(kind), Train: -kind, Time: -5, Whole: kind%2 == 0, Trail: []int{1, 0}}
		if !Fits(g, m) {
			t.Errorf("%v doesn't fit", m)
		}
	}
	if Fits(nil, report(0, 0, 0, 0)) || Fits(nil, report(0, 0, 0, 1, 0)) || Fits(nil, api.Message{}) {
		t.Error("something fits no graph")
	}
}

func TestJoin(t *testing.T) {
	for _, c := range []struct{ trail, was, want []int }{
		{[]int{8, 7}, []int{8, 7, 6, 5}, []int{8, 7, 6, 5}},
		{[]int{8, 7}, []int{6, 5}, []int{8, 7, 6, 5}},
		// None.
		{nil, nil, nil},
		{[]int{}, []int{}, nil},
		{nil, []int{1, 2}, []int{1, 2}},
		{nil, []int{2, 1, 2, 1, 3}, []int{2, 1, 3}},
		{[]int{1}, nil, []int{1}},
		{[]int{3, 1, 2}, nil, []int{3, 1, 2}},
		// The last section is in was, or isn't, or is twice.
		{[]int{8, 7}, []int{9, 8, 7, 6}, []int{8, 7, 6}},
		{[]int{8, 7}, []int{9, 7}, []int{8, 7}},
		{[]int{8, 7}, []int{7}, []int{8, 7}},
		{[]int{8, 7}, []int{7, 9}, []int{8, 7, 9}},
		{[]int{8, 7}, []int{9, 10}, []int{8, 7, 9, 10}},
		{[]int{8, 7}, []int{10, 9}, []int{8, 7, 10, 9}},
		{[]int{8, 7}, []int{6, 7, 5, 7, 4}, []int{8, 7, 5, 4}},
		{[]int{8, 7}, []int{7, 7}, []int{8, 7}},
		{[]int{8, 7}, []int{5, 7, 7, 5}, []int{8, 7, 5}},
		// Just the last one counts: not another one of trail.
		{[]int{8, 7}, []int{6, 8, 5}, []int{8, 7, 6, 5}},
		{[]int{8, 7}, []int{8}, []int{8, 7}},
		{[]int{8, 7, 6}, []int{5, 7, 4, 8, 3}, []int{8, 7, 6, 5, 4, 3}},
		// Each once.
		{[]int{1}, []int{2, 2, 3, 2, 3, 3}, []int{1, 2, 3}},
		{[]int{1}, []int{5, 1, 4, 3, 4, 4, 2, 3}, []int{1, 4, 3, 2}},
		{[]int{1}, []int{4, 4, 1, 4}, []int{1, 4}},
		// None that is in trail.
		{[]int{3, 2}, []int{2, 3, 1, 1}, []int{3, 2, 1}},
		{[]int{3, 2, 1}, []int{1, 2, 3}, []int{3, 2, 1}},
		{[]int{3, 2, 1}, []int{3, 2, 4}, []int{3, 2, 1, 4}},
		// Trail stays as it is, whatever it is.
		{[]int{5, 5}, []int{5, 6, 5, 6}, []int{5, 5, 6}},
		{[]int{-1, math.MaxInt}, []int{math.MaxInt, math.MinInt, -1, 0}, []int{-1, math.MaxInt, math.MinInt, 0}},
	} {
		trail, was := slices.Clone(c.trail), slices.Clone(c.was)
		if got := Join(c.trail, c.was); !slices.Equal(got, c.want) {
			t.Errorf("Join(%v, %v) is %v, not %v", c.trail, c.was, got, c.want)
		}
		if !slices.Equal(trail, c.trail) || !slices.Equal(was, c.was) {
			t.Errorf("Join wrote: %v, %v", c.trail, c.was)
		}
	}
}

// Many sections take no longer than there are.
func TestJoinOfMany(t *testing.T) {
	const many = 1000000
	trail, was := make([]int, many), make([]int, many)
	for i := range many {
		trail[i], was[i] = i, many+i
	}
	got := Join(trail, was)
	if len(got) != 2*many || got[many-1] != many-1 || got[many] != many || got[2*many-1] != 2*many-1 {
		t.Errorf("%d sections are %d", 2*many, len(got))
	}
}

func TestNoteFirst(t *testing.T) {
	g := graph.New(fork())
	for _, c := range []struct {
		time, now int64
		want      api.Errno
	}{
		{40, 40, api.OK}, {39, 40, api.ErrState}, {41, 40, api.ErrState}, {0, 40, api.ErrState}, {api.MaxTime, 40, api.ErrState},
		{50, 50, api.OK}, {40, 50, api.ErrState}, {45, 50, api.ErrState}, {51, 50, api.ErrState},
		{api.MaxTime, api.MaxTime, api.OK},
		// It asks for now alone, not for when the session was opened.
		{30, 30, api.OK}, {0, 0, api.OK},
	} {
		for _, m := range []api.Message{report(c.time, 1, 9, 2, 1), broken(report(c.time, 1, 9, 2, 1))} {
			r := opened(t, 4)
			wantNote(t, r, g, c.now, m, nil, c.want)
			want := Train{ID: 4, Heard: 40, Sure: -1}
			if c.want == api.OK {
				want = Train{ID: 4, Heard: c.time, Sure: -1, Dir: 1, Ahead: 9, Trail: []int{2, 1}}
			}
			if c.want == api.OK && m.Whole {
				want.Sure = c.time
			}
			wantTrain(t, r, want)
		}
	}
}

func TestNoteLater(t *testing.T) {
	g := graph.New(fork())
	for _, c := range []struct {
		time, now int64
		want      api.Errno
	}{
		{41, 50, api.OK}, {49, 50, api.OK}, {50, 50, api.OK}, {51, 50, api.ErrState}, {greatest, 50, api.ErrState},
		{40, 50, api.ErrState}, {39, 50, api.ErrState}, {0, 50, api.ErrState}, {least, 50, api.ErrState},
		{40, 40, api.ErrState}, {41, 40, api.ErrState}, {41, 41, api.OK}, {39, 39, api.ErrState}, {41, 39, api.ErrState},
		{api.MaxTime, api.MaxTime, api.OK},
	} {
		for _, first := range []api.Message{report(40, 0, 7, 0), broken(report(40, 0, 7, 0))} {
			for _, m := range []api.Message{report(c.time, 1, 9, 2, 1), broken(report(c.time, 1, 9, 2, 1))} {
				r := opened(t, 4)
				wantNote(t, r, g, 40, first, nil, api.OK)
				want, _ := r.Get(4)
				wantNote(t, r, g, c.now, m, []int{1, 0}, c.want)
				if c.want == api.OK {
					want = Train{ID: 4, Heard: c.time, Sure: want.Sure, Dir: 1, Ahead: 9, Trail: []int{2, 1, 0}}
				}
				if c.want == api.OK && m.Whole {
					want.Sure, want.Trail = c.time, []int{2, 1}
				}
				wantTrain(t, r, want)
			}
		}
	}
}

// Each error hides those behind it.
func TestNoteOrderOfErrors(t *testing.T) {
	g := graph.New(fork())
	spoil := map[string]func(*api.Message){
		"kind":  func(m *api.Message) { m.Kind = api.Move },
		"trail": func(m *api.Message) { m.Trail = nil },
		"dir":   func(m *api.Message) { m.Dir = 2 },
		"ahead": func(m *api.Message) { m.Ahead = 101 },
		"time":  func(m *api.Message) { m.Time = 99 },
		"train": func(m *api.Message) { m.Train = 5 },
	}
	for a, first := range spoil {
		for b, second := range spoil {
			r := opened(t, 4)
			m := report(40, 0, 7, 1, 0)
			first(&m)
			second(&m)
			want := api.ErrArg
			if a == "time" && b == "time" {
				want = api.ErrState
			}
			if a == "train" || b == "train" {
				want = api.ErrNone
			}
			wantNote(t, r, g, 40, m, []int{3}, want)
			wantTrain(t, r, Train{ID: 4, Heard: 40, Sure: -1})
			wantAll(t, r, 4)
			wantNone(t, r, 5)
		}
	}
}

func TestNoteOtherKinds(t *testing.T) {
	g := graph.New(fork())
	for kind := range 256 {
		r := opened(t, 4)
		m := report(40, 0, 7, 1, 0)
		m.Kind = byte(kind)
		want := api.ErrArg
		if kind == api.Report {
			want = api.OK
		}
		wantNote(t, r, g, 40, m, nil, want)
		wantNote(t, r, nil, 40, m, nil, api.ErrArg)
	}
}

func TestNoteOfOthers(t *testing.T) {
	g := graph.New(fork())
	r := opened(t, 3, 4, 5)
	for _, id := range []int{0, -4, 6, 68, math.MinInt, math.MaxInt} {
		m := report(40, 0, 7, 1, 0)
		m.Train = id
		wantNote(t, r, g, 40, m, nil, api.ErrNone)
		wantNone(t, r, id)
	}
	wantNote(t, r, g, 40, report(40, 0, 7, 1, 0), nil, api.OK)
	wantTrain(t, r, Train{ID: 3, Heard: 30, Sure: -1})
	wantTrain(t, r, Train{ID: 4, Heard: 40, Sure: 40, Ahead: 7, Trail: []int{1, 0}})
	wantTrain(t, r, Train{ID: 5, Heard: 50, Sure: -1})
	wantAll(t, r, 3, 4, 5)
	r.Close(4)
	wantNote(t, r, g, 41, report(41, 0, 7, 1, 0), nil, api.ErrNone)
}

// A train that isn't whole may have left something behind; one that is has not.
func TestNoteOneBehindTheOther(t *testing.T) {
	g := graph.New(fork())
	r := opened(t, 4)
	for _, c := range []struct {
		m    api.Message
		was  []int
		sure int64
		want []int
	}{
		{broken(report(41, 1, 50, 0)), nil, -1, []int{0}},
		{broken(report(42, 0, 50, 1)), []int{0}, -1, []int{1, 0}},
		{broken(report(43, 1, 50, 2)), []int{2, 1, 0}, -1, []int{2, 1, 0}},
		{report(44, 1, 40, 2, 1), []int{2, 1, 0}, 44, []int{2, 1}},
		{broken(report(45, 1, 30, 2)), []int{3, 2, 1}, 44, []int{2, 1}},
		{broken(report(46, 1, 20, 2)), nil, 44, []int{2}},
		{broken(report(47, 1, 10, 2)), []int{9, -1, 9}, 44, []int{2, 9, -1}},
		{report(48, 0, 0, 0), []int{2, 1, 0}, 48, []int{0}},
		{report(49, 0, 100, 0), nil, 49, []int{0}},
	} {
		wantNote(t, r, g, c.m.Time, c.m, c.was, api.OK)
		wantTrain(t, r, Train{ID: 4, Heard: c.m.Time, Sure: c.sure, Dir: c.m.Dir, Ahead: c.m.Ahead, Trail: c.want})
	}
}

func TestMute(t *testing.T) {
	for _, most := range []int64{0, 1, 20, api.MaxTicks, api.MaxTime} {
		r := opened(t, 4)
		for _, now := range []int64{0, 39, 40, 40 + most - 1, 40 + most} {
			wantNumbers(t, "Mute just at most", r.Mute(now, most))
		}
		wantTrain(t, r, Train{ID: 4, Heard: 40, Sure: -1})
		wantNumbers(t, "Mute behind most", r.Mute(40+most+1, most), 4)
		wantNone(t, r, 4)
		wantAll(t, r)
		wantNumbers(t, "Mute again", r.Mute(40+most+1, most))
		if r.Close(4) || r.Open(4, 1) != api.OK {
			t.Error("4 still has a session")
		}
	}
}

// A Report, whole or not, is heard: what counts is its Time, not when it came.
func TestMuteBehindReports(t *testing.T) {
	g := graph.New(fork())
	r := opened(t, 4)
	wantNote(t, r, g, 45, broken(report(45, 0, 7, 1, 0)), nil, api.OK)
	wantNumbers(t, "Mute", r.Mute(55, 10))
	wantNote(t, r, g, 55, broken(report(50, 0, 7, 1, 0)), nil, api.OK)
	wantNote(t, r, g, 57, report(57, 0, 7, 1, 9), nil, api.ErrArg)
	wantNumbers(t, "Mute", r.Mute(60, 10))
	wantNumbers(t, "Mute", r.Mute(61, 10), 4)
}

func TestMuteOfMany(t *testing.T) {
	r := opened(t, 6, 2, 4, 1, 5, 3)
	wantNumbers(t, "Mute", r.Mute(40, 10), 1, 2)
	wantAll(t, r, 3, 4, 5, 6)
	r.Open(-1, 0)
	r.Open(7, 0)
	wantNumbers(t, "Mute", r.Mute(50, 10), -1, 3, 7)
	wantAll(t, r, 4, 5, 6)
	wantNumbers(t, "Mute", r.Mute(1000, 10), 4, 5, 6)
	wantAll(t, r)
	wantNumbers(t, "Mute", r.Mute(1000, 10))
}

func TestDoubt(t *testing.T) {
	g := graph.New(fork())
	for _, most := range []int64{0, 1, 20, api.MaxTicks, api.MaxTime} {
		r := opened(t, 4)
		wantNote(t, r, g, 40, report(40, 0, 7, 1, 0), nil, api.OK)
		want := Train{ID: 4, Heard: 40, Sure: 40, Ahead: 7, Trail: []int{1, 0}}
		for _, now := range []int64{0, 39, 40, 40 + most - 1, 40 + most} {
			wantNumbers(t, "Doubt just at most", r.Doubt(now, most))
			wantTrain(t, r, want)
		}
		wantNumbers(t, "Doubt behind most", r.Doubt(40+most+1, most), 4)
		want.Sure = -1
		wantTrain(t, r, want)
		wantNumbers(t, "Doubt again", r.Doubt(api.MaxTime, 0))
		wantTrain(t, r, want)
		wantAll(t, r, 4)
	}
}

// A train of Sure 0 is sure.
func TestDoubtOfTheFirstTick(t *testing.T) {
	g := graph.New(fork())
	r := New()
	r.Open(4, 0)
	wantNote(t, r, g, 0, report(0, 0, 7, 1, 0), nil, api.OK)
	wantTrain(t, r, Train{ID: 4, Sure: 0, Ahead: 7, Trail: []int{1, 0}})
	wantNumbers(t, "Doubt", r.Doubt(0, 0))
	wantNumbers(t, "Doubt", r.Doubt(1, 0), 4)
	wantTrain(t, r, Train{ID: 4, Sure: -1, Ahead: 7, Trail: []int{1, 0}})
}

// One that wasn't ever sure isn't in doubt, and a Report that isn't whole
// makes nobody sure.
func TestDoubtBehindReports(t *testing.T) {
	g := graph.New(fork())
	r := opened(t, 4)
	wantNumbers(t, "Doubt of none", r.Doubt(api.MaxTime, 0))
	wantNote(t, r, g, 45, broken(report(45, 0, 7, 1, 0)), nil, api.OK)
	wantNumbers(t, "Doubt of none", r.Doubt(api.MaxTime, 0))
	wantNote(t, r, g, 46, report(46, 0, 7, 1, 0), nil, api.OK)
	wantNote(t, r, g, 50, broken(report(50, 0, 7, 1, 0)), nil, api.OK)
	wantNumbers(t, "Doubt", r.Doubt(56, 10))
	wantNumbers(t, "Doubt", r.Doubt(57, 10), 4)
	wantNote(t, r, g, 58, broken(report(58, 0, 7, 1, 0)), nil, api.OK)
	wantTrain(t, r, Train{ID: 4, Heard: 58, Sure: -1, Ahead: 7, Trail: []int{1, 0}})
	// A late Report counts by its Time: it may be in doubt at once.
	wantNote(t, r, g, 80, report(59, 0, 7, 1, 0), nil, api.OK)
	wantTrain(t, r, Train{ID: 4, Heard: 59, Sure: 59, Ahead: 7, Trail: []int{1, 0}})
	wantNumbers(t, "Doubt", r.Doubt(80, 10), 4)
}

func TestDoubtOfMany(t *testing.T) {
	g := graph.New(fork())
	r := opened(t, 6, 2, 4, 1, 5, 3)
	for id := 1; id <= 5; id++ {
		m := report(int64(10*id), 0, 7, 1, 0)
		m.Train = id
		wantNote(t, r, g, m.Time, m, nil, api.OK)
	}
	wantNumbers(t, "Doubt", r.Doubt(40, 10), 1, 2)
	wantNumbers(t, "Doubt", r.Doubt(40, 10))
	wantNumbers(t, "Doubt", r.Doubt(1000, 10), 3, 4, 5)
	wantAll(t, r, 1, 2, 3, 4, 5, 6)
	wantTrain(t, r, Train{ID: 5, Heard: 50, Sure: -1, Ahead: 7, Trail: []int{1, 0}})
	wantTrain(t, r, Train{ID: 6, Heard: 60, Sure: -1})
}

// edges is ticks at which numbers of 64 bits begin and end to wrap round.
func edges() []int64 {
	var all []int64
	for _, at := range []int64{least, least / 2, -api.MaxTime, 0, 40, api.MaxTime, greatest / 2, greatest} {
		for _, n := range []int64{at - 1, at, at + 1} {
			if !slices.Contains(all, n) {
				all = append(all, n)
			}
		}
	}
	return all
}

// At whatever ticks they are asked, Mute and Doubt tell those that are late.
func TestMuteAndDoubtAtAnyTicks(t *testing.T) {
	g := graph.New(fork())
	for _, at := range edges() {
		for _, now := range edges() {
			for _, most := range edges() {
				apart := new(big.Int).Sub(big.NewInt(now), big.NewInt(at))
				late := apart.Cmp(big.NewInt(most)) > 0
				r := New()
				r.Open(4, at)
				wantNote(t, r, g, at, report(at, 0, 7, 1, 0), nil, api.OK)
				if got := r.Doubt(now, most); (len(got) == 1) != (late && at != -1) {
					t.Errorf("Sure %d, Doubt(%d, %d) is %v", at, now, most, got)
				}
				if got := r.Mute(now, most); (len(got) == 1) != late {
					t.Errorf("Heard %d, Mute(%d, %d) is %v", at, now, most, got)
				}
			}
		}
	}
}

func TestNil(t *testing.T) {
	var r *Register
	g := graph.New(fork())
	for _, id := range []int{math.MinInt, -1, 0, 4, math.MaxInt} {
		for _, now := range []int64{least, -1, 0, 1, greatest} {
			if e := r.Open(id, now); e != api.ErrNone {
				t.Errorf("Open is %d", e)
			}
			if r.Close(id) {
				t.Error("Close")
			}
			wantNone(t, r, id)
			m := report(now, 0, 7, 1, 0)
			m.Train = id
			wantNote(t, r, g, now, m, []int{1}, api.ErrNone)
			wantNote(t, r, nil, now, api.Message{}, nil, api.ErrNone)
			wantNumbers(t, "Mute", r.Mute(now, int64(id)))
			wantNumbers(t, "Doubt", r.Doubt(now, int64(id)))
			wantAll(t, r)
		}
	}
}

// spoil writes over a list, and over the room behind it.
func spoil(list []int) {
	for i := range list[:cap(list)] {
		list[:cap(list)][i] = 99
	}
}

func TestNothingIsWritten(t *testing.T) {
	g := graph.New(fork())
	r := opened(t, 4)
	for time := int64(40); time < 44; time++ {
		m := report(time, 0, 7, 1, 0, 77, 78)
		m.Trail, m.Whole = m.Trail[:2], time%2 == 0
		was := []int{1, 0, 2, 2, 3, 76}
		wantNote(t, r, g, time, m, was[:5], api.OK)
		Fits(g, m)
		wantNumbers(t, "behind a Note a Trail", m.Trail[:4], 1, 0, 77, 78)
		wantNumbers(t, "behind a Note was", was, 1, 0, 2, 2, 3, 76)
	}
}

func TestNothingIsSharedByNote(t *testing.T) {
	g := graph.New(fork())
	for _, whole := range []bool{true, false} {
		r := opened(t, 4)
		m, was := report(40, 0, 7, 1, 0), []int{0, 2, 3}
		m.Whole = whole
		wantNote(t, r, g, 40, m, was, api.OK)
		spoil(m.Trail)
		spoil(was)
		want := Train{ID: 4, Heard: 40, Sure: -1, Ahead: 7, Trail: []int{1, 0, 2, 3}}
		if whole {
			want.Sure, want.Trail = 40, []int{1, 0}
		}
		wantTrain(t, r, want)
		got, _ := r.Get(4)
		spoil(got.Trail)
		wantTrain(t, r, want)
		kept, _ := r.Get(4)
		wantNote(t, r, g, 41, report(41, 1, 7, 2), kept.Trail, api.OK)
		wantNote(t, r, g, 42, broken(report(42, 1, 7, 2)), kept.Trail, api.OK)
		if !alike(kept, want) {
			t.Errorf("the next Note wrote into what was answered: %v", kept)
		}
	}
}

func TestNothingIsSharedByLists(t *testing.T) {
	g := graph.New(fork())
	r := opened(t, 1, 2, 3, 4, 5)
	wantNote(t, r, g, 40, report(40, 0, 7, 1, 0), nil, api.OK)
	spoil(r.All())
	wantAll(t, r, 1, 2, 3, 4, 5)
	doubted, muted := r.Doubt(51, 10), r.Mute(31, 10)
	kept := slices.Clone(muted)
	wantNumbers(t, "Doubt", doubted, 4)
	wantNumbers(t, "Mute", muted, 1, 2)
	spoil(doubted)
	wantNumbers(t, "Mute", muted, kept...)
	spoil(muted)
	wantAll(t, r, 3, 4, 5)
	wantTrain(t, r, Train{ID: 4, Heard: 40, Sure: -1, Ahead: 7, Trail: []int{1, 0}})
	wantTrain(t, r, Train{ID: 3, Heard: 30, Sure: -1})
}

func TestNothingIsSharedByJoin(t *testing.T) {
	for _, c := range []struct{ trail, was, want []int }{
		{[]int{8, 7, 70, 71}[:2], []int{7, 6, 5, 72}[:3], []int{8, 7, 6, 5}},
		{[]int{8, 7, 70, 71}[:2], nil, []int{8, 7}},
		{[]int{8, 7}, []int{7, 8}, []int{8, 7}},
		{nil, []int{1, 2}, []int{1, 2}},
		{[]int{9}[:0], []int{1, 2}, []int{1, 2}},
	} {
		trail, was := slices.Clone(c.trail[:cap(c.trail)]), slices.Clone(c.was[:cap(c.was)])
		got := Join(c.trail, c.was)
		spoil(Join(c.trail, c.was))
		wantNumbers(t, "behind a Join trail", c.trail[:cap(c.trail)], trail...)
		wantNumbers(t, "behind a Join was", c.was[:cap(c.was)], was...)
		spoil(c.trail)
		spoil(c.was)
		wantNumbers(t, "a Join", got, c.want...)
	}
}
