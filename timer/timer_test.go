package timer

import (
	"math"
	"slices"
	"testing"

	"balise/api"
)

const (
	least    = math.MinInt64
	greatest = math.MaxInt64
)

// start makes a table of timers, each an id and its tick.
func start(t *testing.T, rows ...[2]int64) *Table {
	t.Helper()
	x := New()
	for _, r := range rows {
		if e := x.Start(int(r[0]), r[1]); e != api.OK {
			t.Fatalf("Start(%d, %d) is %d", r[0], r[1], e)
		}
	}
	return x
}

// full makes a table in which as many run as may: 1 to MaxTimers, the timer i
// till the tick 10 * i.
func full(t *testing.T) *Table {
	t.Helper()
	x := New()
	for i := 1; i <= api.MaxTimers; i++ {
		if e := x.Start(i, int64(10*i)); e != api.OK {
			t.Fatalf("Start(%d) is %d", i, e)
		}
		if x.Len() != i {
			t.Fatalf("behind %d starts Len is %d", i, x.Len())
		}
	}
	return x
}

func wantEnded(t *testing.T, x *Table, now int64, want ...int) {
	t.Helper()
	before := x.Len()
	if got := x.Ended(now); !slices.Equal(got, want) {
		t.Errorf("Ended(%d) is %v, not %v", now, got, want)
	}
	if got := x.Len(); got != before-len(want) {
		t.Errorf("behind Ended(%d) Len is %d, not %d", now, got, before-len(want))
	}
}

func wantLeft(t *testing.T, x *Table, id int, now, want int64) {
	t.Helper()
	if got, ok := x.Left(id, now); got != want || !ok {
		t.Errorf("Left(%d, %d) is %d, %v, not %d", id, now, got, ok, want)
	}
}

func wantIdle(t *testing.T, x *Table, id int) {
	t.Helper()
	for _, now := range []int64{least, -1, 0, 1, greatest} {
		if got, ok := x.Left(id, now); got != 0 || ok {
			t.Errorf("Left(%d, %d) is %d, %v of one that doesn't run", id, now, got, ok)
		}
	}
}

func TestExample(t *testing.T) {
	x := start(t, [2]int64{5, 9}, [2]int64{3, 9}, [2]int64{7, 2})
	wantEnded(t, x, 9, 7, 3, 5)
}

func TestNew(t *testing.T) {
	x := New()
	if x == nil || x.Len() != 0 || x.Stop(0) {
		t.Error("a new table isn't one in which none runs")
	}
	wantIdle(t, x, 0)
	wantEnded(t, x, greatest)
	y := New()
	x.Start(1, 1)
	if y.Len() != 0 {
		t.Error("two tables are one")
	}
}

func TestStartAnew(t *testing.T) {
	rows := [][2]int64{{1, 10}, {2, 20}, {3, 30}}
	for _, c := range []struct {
		at   int64
		want []int
	}{
		{20, []int{1, 2, 3}},
		{5, []int{2, 1, 3}},
		{10, []int{1, 2, 3}},
		{9, []int{2, 1, 3}},
		{30, []int{1, 2, 3}},
		{31, []int{1, 3, 2}},
		{least, []int{2, 1, 3}},
		{greatest, []int{1, 3, 2}},
	} {
		x := start(t, rows...)
		if e := x.Start(2, c.at); e != api.OK || x.Len() != 3 {
			t.Errorf("anew at %d: %d, and %d run", c.at, e, x.Len())
		}
		wantLeft(t, x, 2, c.at-1, map[bool]int64{true: 0, false: 1}[c.at == least])
		wantEnded(t, x, greatest, c.want...)
	}
}

func TestAnewTheOldTickIsGone(t *testing.T) {
	later := start(t, [2]int64{4, 10})
	later.Start(4, 20)
	wantEnded(t, later, 10)
	wantEnded(t, later, 19)
	wantEnded(t, later, 20, 4)
	sooner := start(t, [2]int64{4, 20})
	sooner.Start(4, 10)
	wantEnded(t, sooner, 9)
	wantEnded(t, sooner, 10, 4)
	wantEnded(t, sooner, 20)
}

func TestStop(t *testing.T) {
	x := start(t, [2]int64{1, 10}, [2]int64{2, 10}, [2]int64{3, 5})
	if x.Stop(4) || x.Stop(0) || x.Stop(-1) || x.Stop(10) || x.Len() != 3 {
		t.Error("one was stopped that didn't run")
	}
	if !x.Stop(2) || x.Len() != 2 {
		t.Error("2 wasn't stopped")
	}
	if x.Stop(2) || x.Len() != 2 {
		t.Error("2 was stopped twice")
	}
	wantIdle(t, x, 2)
	wantLeft(t, x, 1, 0, 10)
	wantLeft(t, x, 3, 0, 5)
	if e := x.Start(2, 1); e != api.OK {
		t.Error(e)
	}
	wantEnded(t, x, 10, 2, 3, 1)
	if x.Stop(1) || x.Stop(2) || x.Stop(3) {
		t.Error("one that has ended was stopped")
	}
}

func TestFull(t *testing.T) {
	x := full(t)
	for _, id := range []int{0, -1, api.MaxTimers + 1, math.MinInt, math.MaxInt} {
		if e := x.Start(id, 1); e != api.ErrFull {
			t.Errorf("Start(%d) is %d in a full table", id, e)
		}
		wantIdle(t, x, id)
	}
	if x.Len() != api.MaxTimers {
		t.Errorf("%d run", x.Len())
	}
	for i := 1; i <= api.MaxTimers; i++ {
		wantLeft(t, x, i, 0, int64(10*i))
	}
}

func TestFullAndAnew(t *testing.T) {
	x := full(t)
	if x.Start(2, 1000) != api.OK || x.Start(api.MaxTimers, 1) != api.OK || x.Start(5, 50) != api.OK {
		t.Error("one that runs isn't started anew in a full table")
	}
	if x.Len() != api.MaxTimers || x.Start(0, 1) != api.ErrFull {
		t.Errorf("%d run", x.Len())
	}
	wantEnded(t, x, 10, api.MaxTimers, 1)
	wantLeft(t, x, 2, 0, 1000)
	wantLeft(t, x, 5, 0, 50)
}

func TestRoomBehindStop(t *testing.T) {
	x := full(t)
	if x.Stop(0) || x.Start(0, 7) != api.ErrFull {
		t.Error("a Stop of none made room")
	}
	if !x.Stop(9) || x.Start(0, 7) != api.OK || x.Start(9, 7) != api.ErrFull || x.Len() != api.MaxTimers {
		t.Error("a Stop doesn't make room for just one")
	}
	wantLeft(t, x, 0, 0, 7)
	wantIdle(t, x, 9)
}

func TestRoomBehindEnded(t *testing.T) {
	x := full(t)
	wantEnded(t, x, 9)
	if x.Start(0, 7) != api.ErrFull {
		t.Error("an Ended of none made room")
	}
	wantEnded(t, x, 20, 1, 2)
	if x.Start(-1, 7) != api.OK || x.Start(-2, 7) != api.OK || x.Start(-3, 7) != api.ErrFull {
		t.Error("an Ended of two doesn't make room for just two")
	}
	wantEnded(t, x, 30, -2, -1, 3)
	x.Ended(greatest)
	for i := range api.MaxTimers {
		if e := x.Start(100+i, 0); e != api.OK {
			t.Errorf("%d of a table that is empty again is %d", i, e)
		}
	}
	if x.Start(0, 0) != api.ErrFull {
		t.Error("more run than may")
	}
}

func TestLeft(t *testing.T) {
	x := start(t, [2]int64{1, 10}, [2]int64{2, -10}, [2]int64{3, 0}, [2]int64{4, least}, [2]int64{5, greatest}, [2]int64{6, 10})
	for _, c := range []struct {
		id        int
		now, want int64
	}{
		{1, 0, 10}, {1, 9, 1}, {1, 10, 0}, {1, 11, 0}, {1, -5, 15}, {1, greatest, 0},
		{1, 10 - greatest, greatest}, {1, 11 - greatest, greatest - 1}, {1, 9 - greatest, greatest}, {1, least, greatest},
		{2, -11, 1}, {2, -10, 0}, {2, -9, 0}, {2, 0, 0}, {2, least, greatest - 9}, {2, least + 1, greatest - 10},
		{3, -1, 1}, {3, 0, 0}, {3, -greatest, greatest}, {3, least, greatest}, {3, least + 2, greatest - 1},
		{4, least, 0}, {4, least + 1, 0}, {4, 0, 0}, {4, greatest, 0},
		{5, greatest, 0}, {5, greatest - 1, 1}, {5, 0, greatest}, {5, 1, greatest - 1}, {5, -1, greatest}, {5, least, greatest},
		{6, 4, 6},
	} {
		wantLeft(t, x, c.id, c.now, c.want)
	}
	if x.Len() != 6 {
		t.Error("Left stopped one")
	}
}

func TestEndedOrder(t *testing.T) {
	for _, c := range []struct {
		now  int64
		rows [][2]int64
		want []int
	}{
		{9, [][2]int64{{5, 9}, {4, 9}, {3, 9}, {2, 9}}, []int{2, 3, 4, 5}},
		{9, [][2]int64{{2, 9}, {3, 9}, {4, 9}, {5, 9}}, []int{2, 3, 4, 5}},
		{9, [][2]int64{{1, 9}, {2, 8}, {3, 7}, {4, 10}}, []int{3, 2, 1}},
		{0, [][2]int64{{0, 0}, {-1, 0}, {1, 0}, {-7, 0}}, []int{-7, -1, 0, 1}},
		{0, [][2]int64{{1, -1}, {2, -2}, {3, 0}, {4, 1}}, []int{2, 1, 3}},
		{-2, [][2]int64{{1, -1}, {2, -2}, {3, -3}, {-4, -2}}, []int{3, -4, 2}},
		{least, [][2]int64{{1, least}, {2, least + 1}, {-3, least}}, []int{-3, 1}},
		{greatest, [][2]int64{{1, greatest}, {2, least}, {3, 0}, {-1, greatest}}, []int{2, 3, -1, 1}},
		{greatest - 1, [][2]int64{{1, greatest}, {2, greatest - 1}}, []int{2}},
		{5, [][2]int64{{math.MaxInt, 5}, {0, 5}, {math.MinInt, 5}}, []int{math.MinInt, 0, math.MaxInt}},
	} {
		x := start(t, c.rows...)
		wantEnded(t, x, c.now, c.want...)
		wantEnded(t, x, c.now)
		for _, id := range c.want {
			wantIdle(t, x, id)
		}
	}
}

func TestEndedAgain(t *testing.T) {
	x := start(t, [2]int64{1, 5}, [2]int64{2, 6}, [2]int64{3, 7})
	wantEnded(t, x, 4)
	wantEnded(t, x, 6, 1, 2)
	wantEnded(t, x, 6)
	wantEnded(t, x, 5)
	x.Start(1, 3)
	wantEnded(t, x, 2)
	wantEnded(t, x, 7, 1, 3)
	wantEnded(t, x, greatest)
}

func TestNil(t *testing.T) {
	var x *Table
	for _, id := range []int{0, 1, -1, math.MinInt, math.MaxInt} {
		for _, tick := range []int64{0, 1, -1, least, greatest} {
			if e := x.Start(id, tick); e != api.ErrNone {
				t.Errorf("Start is %d", e)
			}
			if x.Stop(id) {
				t.Error("Stop")
			}
			if n, ok := x.Left(id, tick); n != 0 || ok {
				t.Error("Left", n, ok)
			}
			if l := x.Ended(tick); len(l) != 0 {
				t.Error("Ended", l)
			}
			if x.Len() != 0 {
				t.Error("Len", x.Len())
			}
		}
	}
}

func TestNothingIsShared(t *testing.T) {
	x := start(t, [2]int64{1, 5}, [2]int64{2, 6}, [2]int64{3, 7}, [2]int64{4, 8})
	first := x.Ended(6)
	for i := range first {
		first[i] = 99
	}
	_ = append(first[:0], 98, 97, 96)
	wantLeft(t, x, 3, 0, 7)
	wantLeft(t, x, 4, 0, 8)
	wantIdle(t, x, 99)
	second := x.Ended(8)
	x.Start(50, 1)
	x.Start(51, 2)
	third := x.Ended(2)
	if !slices.Equal(second, []int{3, 4}) || !slices.Equal(third, []int{50, 51}) || first[0] == second[0] {
		t.Errorf("answers are %v, %v", second, third)
	}
}
