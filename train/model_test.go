package train

// This file holds what the package tells against a second reckoning: of Fits by
// where the nodes lie, walked from the front backwards, and of a register by
// all that ever happened to it, reckoned anew at each call.

import (
	"fmt"
	"slices"
	"testing"

	"balise/api"
	"balise/graph"
	"balise/verify"
)

// The sides to which a row's sections go.
const (
	west = false
	east = true
)

// row is so many sections one behind the other to the east, every other one of
// them laid to the west.
func row(count int) api.Layout {
	l := api.Layout{Nodes: []complex128{0}, Parts: [][]int{nil}, Speed: 40, Mute: 20, Wait: 10, Cancel: 3}
	for i := range count {
		l.Nodes = append(l.Nodes, complex(float64(100*(i+1)), 0))
		s := api.Section{Len: 100 + i, A: i, B: i + 1}
		if i%2 == 1 {
			s.A, s.B = s.B, s.A
		}
		l.Sections = append(l.Sections, s)
		l.Parts[0] = append(l.Parts[0], i)
	}
	return l
}

// sideEnd tells the end of a row's section that is on that side of it.
func sideEnd(l api.Layout, section int, side bool) int {
	if s := l.Sections[section]; (s.B > s.A) == side {
		return 1
	}
	return 0
}

// fork is a section 0, a stem 1 behind it, and 2 to the left of that, 3 to the
// right.
func fork() api.Layout {
	return api.Layout{
		Nodes:    []complex128{0, 100, 200, 300 + 50i, 300 - 50i},
		Sections: []api.Section{{Len: 100, A: 0, B: 1}, {Len: 100, A: 2, B: 1}, {Len: 120, A: 2, B: 3}, {Len: 130, A: 4, B: 2}},
		Parts:    [][]int{{0}, {1}, {2, 3}},
		Points:   []api.Point{{Node: 2, Stem: 1, Left: 2, Right: 3}},
		Speed:    40, Mute: 20, Wait: 10, Cancel: 3,
	}
}

// loop is a track that parts into two ways, which come together again.
func loop() api.Layout {
	return api.Layout{
		Nodes: []complex128{0, 100, 200 + 50i, 200 - 50i, 300, 400},
		Sections: []api.Section{{Len: 100, A: 0, B: 1}, {Len: 112, A: 1, B: 2}, {Len: 112, A: 4, B: 2},
			{Len: 112, A: 1, B: 3}, {Len: 112, A: 3, B: 4}, {Len: 100, A: 5, B: 4}},
		Parts:  [][]int{{0}, {1, 2}, {3, 4}, {5}},
		Points: []api.Point{{Node: 4, Stem: 5, Left: 4, Right: 2}, {Node: 1, Stem: 0, Left: 1, Right: 3}},
		Speed:  40, Mute: 20, Wait: 10, Cancel: 3,
	}
}

// narrowLoop is one whose two ways are a section each, between the same nodes.
func narrowLoop() api.Layout {
	return api.Layout{
		Nodes:    []complex128{0, 100, 200, 300},
		Sections: []api.Section{{Len: 100, A: 0, B: 1}, {Len: 110, A: 1, B: 2}, {Len: 120, A: 2, B: 1}, {Len: 100, A: 2, B: 3}},
		Parts:    [][]int{{0, 1, 2, 3}},
		Points:   []api.Point{{Node: 1, Stem: 0, Left: 1, Right: 2}, {Node: 2, Stem: 3, Left: 2, Right: 1}},
		Speed:    100, Mute: 1, Wait: 1, Cancel: 1,
	}
}

// ring is a track without an end, of eight sections.
func ring() api.Layout {
	l := api.Layout{
		Nodes: []complex128{0, 100, 200 + 100i, 200 + 200i, 100 + 300i, 300i, -100 + 200i, -100 + 100i},
		Parts: [][]int{{7, 6, 5, 4}, {0, 1, 2, 3}},
		Speed: 40, Mute: 20, Wait: 10, Cancel: 3,
	}
	for i := range l.Nodes {
		s := api.Section{Len: 142, A: i, B: (i + 1) % len(l.Nodes)}
		if i%3 == 2 {
			s.A, s.B = s.B, s.A
		}
		l.Sections = append(l.Sections, s)
	}
	return l
}

// turning is a stem 0 whose left and right are the two ends of one way, by
// which a train comes back the other way round.
func turning() api.Layout {
	return api.Layout{
		Nodes: []complex128{0, 100, 200 + 100i, 300 + 100i, 350, 300 - 100i, 200 - 100i},
		Sections: []api.Section{{Len: 100, A: 0, B: 1}, {Len: 142, A: 1, B: 2}, {Len: 100, A: 3, B: 2}, {Len: 112, A: 3, B: 4},
			{Len: 112, A: 5, B: 4}, {Len: 100, A: 5, B: 6}, {Len: 142, A: 1, B: 6}},
		Parts:  [][]int{{0}, {1, 2, 3, 4, 5, 6}},
		Points: []api.Point{{Node: 1, Stem: 0, Left: 1, Right: 6}},
		Speed:  40, Mute: 20, Wait: 10, Cancel: 3,
	}
}

func layouts() map[string]api.Layout {
	return map[string]api.Layout{"row": row(3), "long row": row(14), "fork": fork(), "loop": loop(), "narrow loop": narrowLoop(), "ring": ring(), "turning": turning()}
}

func TestLayoutsAreRight(t *testing.T) {
	for name, l := range layouts() {
		if n, at := verify.First(l); n != 0 {
			t.Errorf("%s breaks rule %d at %d", name, n, at)
		}
	}
}

// far tells a section's other node.
func far(s api.Section, node int) int {
	return s.A + s.B - node
}

// goesBack tells whether a train that stands with its end in a section's node
// may have come there out of another section: if it lies straight on. (In these
// layouts a point's left doesn't lie straight on from its right.)
func goesBack(l api.Layout, from, node, to int) bool {
	s, u := l.Sections[from], l.Sections[to]
	if u.A != node && u.B != node || from == to {
		return false
	}
	a, b := l.Nodes[node]-l.Nodes[far(s, node)], l.Nodes[far(u, node)]-l.Nodes[node]
	return real(a)*real(b)+imag(a)*imag(b) > 0
}

// mayBe is the second reckoning of Fits.
func mayBe(l api.Layout, m api.Message) bool {
	if len(m.Trail) < 1 || len(m.Trail) > 12 || m.Dir>>1 != 0 || m.Ahead < 0 {
		return false
	}
	for i, section := range m.Trail {
		if section < 0 || section >= len(l.Sections) || slices.Index(m.Trail, section) != i {
			return false
		}
	}
	first := l.Sections[m.Trail[0]]
	node := []int{first.B, first.A}[m.Dir]
	for i, to := range m.Trail[1:] {
		if !goesBack(l, m.Trail[i], node, to) {
			return false
		}
		node = far(l.Sections[to], node)
	}
	return m.Ahead <= first.Len
}

// hold asks Fits of a trail with each Dir and with Aheads about the edges, and
// tells how many of them fit.
func hold(t *testing.T, name string, l api.Layout, g *graph.Graph, trail []int) int {
	t.Helper()
	length, fit := 100, 0
	if len(trail) > 0 && trail[0] >= 0 && trail[0] < len(l.Sections) {
		length = l.Sections[trail[0]].Len
	}
	for dir := -1; dir <= 2; dir++ {
		for _, ahead := range []int{-1, 0, length / 2, length, length + 1} {
			m := report(0, dir, ahead, trail...)
			want := mayBe(l, m)
			if got := Fits(g, m); got != want {
				t.Fatalf("%s: %v, Dir %d, Ahead %d: %v", name, trail, dir, ahead, got)
			}
			if want {
				fit++
			}
		}
	}
	return fit
}

// each handles each list of so many numbers from -1 to most.
func each(count, most int, handle func([]int)) {
	list := make([]int, count)
	var from func(int)
	from = func(place int) {
		if place == count {
			handle(list)
			return
		}
		for n := -1; n <= most; n++ {
			list[place] = n
			from(place + 1)
		}
	}
	from(0)
}

func TestFitsAgainstPlaces(t *testing.T) {
	for name, l := range layouts() {
		g, fit := graph.New(l), 0
		for count := range 5 {
			if count == 4 && len(l.Sections) > 8 {
				break
			}
			each(count, len(l.Sections), func(trail []int) { fit += hold(t, name, l, g, trail) })
		}
		if fit == 0 {
			t.Errorf("%s: nothing fits", name)
		}
	}
}

// numbers tells numbers by a rule, so that each run tries the same ones.
type numbers uint32

func (n *numbers) below(m int) int {
	*n = *n*1664525 + 1013904223
	return int(*n>>8) % m
}

// way goes back from a section by chance, as far as it comes, but no further
// than that.
func way(n *numbers, l api.Layout, count int) ([]int, int) {
	at, dir := n.below(len(l.Sections)), n.below(2)
	trail := []int{at}
	node := []int{l.Sections[at].B, l.Sections[at].A}[dir]
	for len(trail) < count {
		var open []int
		for to := range l.Sections {
			if goesBack(l, at, node, to) {
				open = append(open, to)
			}
		}
		if len(open) == 0 {
			break
		}
		at = open[n.below(len(open))]
		node = far(l.Sections[at], node)
		trail = append(trail, at)
	}
	return trail, dir
}

// Long trails, and such of which one section is another one, or is gone.
func TestFitsAgainstPlacesOnLongTrails(t *testing.T) {
	for name, l := range layouts() {
		n, g := numbers(len(name)), graph.New(l)
		for range 3000 {
			trail, dir := way(&n, l, 1+n.below(14))
			m := report(0, dir, 0, trail...)
			if mayBe(l, m) != Fits(g, m) {
				t.Fatalf("%s: %v, Dir %d: %v", name, trail, dir, Fits(g, m))
			}
			hold(t, name, l, g, trail)
			place := n.below(len(trail))
			spoilt := slices.Clone(trail)
			spoilt[place] = n.below(len(l.Sections)+2) - 1
			hold(t, name, l, g, spoilt)
			hold(t, name, l, g, slices.Delete(trail, place, place+1))
		}
	}
}

// happened is what befell a session: a Report, with what was handed in with it,
// or a doubt.
type happened struct {
	doubt bool
	m     api.Message
	was   []int
}

type session struct {
	since int64
	all   []happened
}

// model is the second reckoning of a register.
type model map[int]*session

func (s *session) reports() []happened {
	return slices.DeleteFunc(slices.Clone(s.all), func(h happened) bool { return h.doubt })
}

func (s *session) heard() int64 {
	at := s.since
	for _, h := range s.reports() {
		at = h.m.Time
	}
	return at
}

func (s *session) sure() int64 {
	for i := len(s.all) - 1; i >= 0; i-- {
		if s.all[i].doubt {
			return -1
		}
		if s.all[i].m.Whole {
			return s.all[i].m.Time
		}
	}
	return -1
}

func (s *session) trail() []int {
	all := s.reports()
	if len(all) == 0 {
		return nil
	}
	if last := all[len(all)-1]; !last.m.Whole {
		return joined(last.m.Trail, last.was)
	}
	return all[len(all)-1].m.Trail
}

// joined asks of each place of was by itself whether it is told.
func joined(trail, was []int) []int {
	all := append([]int(nil), trail...)
	from := 0
	for i := len(was) - 1; i >= 0 && len(trail) > 0; i-- {
		if was[i] == trail[len(trail)-1] {
			from = i + 1
		}
	}
	for i := from; i < len(was); i++ {
		if !slices.Contains(trail, was[i]) && !slices.Contains(was[from:i], was[i]) {
			all = append(all, was[i])
		}
	}
	return all
}

func (m model) train(id int) (Train, bool) {
	s := m[id]
	if s == nil {
		return Train{}, false
	}
	x := Train{ID: id, Heard: s.heard(), Sure: s.sure(), Trail: s.trail()}
	for _, h := range s.reports() {
		x.Dir, x.Ahead = h.m.Dir, h.m.Ahead
	}
	return x, true
}

func (m model) open(id int, now int64) api.Errno {
	switch {
	case m[id] != nil:
		return api.ErrState
	case len(m) == 6:
		return api.ErrFull
	}
	m[id] = &session{since: now}
	return api.OK
}

func (m model) note(l api.Layout, now int64, said api.Message, was []int) api.Errno {
	s := m[said.Train]
	switch {
	case s == nil:
		return api.ErrNone
	case said.Kind != api.Report || !mayBe(l, said):
		return api.ErrArg
	case len(s.reports()) == 0 && said.Time != now:
		return api.ErrState
	case len(s.reports()) > 0 && (said.Time > now || said.Time <= s.heard()):
		return api.ErrState
	}
	said.Trail = slices.Clone(said.Trail)
	s.all = append(s.all, happened{m: said, was: slices.Clone(was)})
	return api.OK
}

// told tells those of which it is so, rising.
func (m model) told(isSo func(*session) bool) []int {
	var all []int
	for id := -9; id <= 9; id++ {
		if s := m[id]; s != nil && isSo(s) {
			all = append(all, id)
		}
	}
	return all
}

func (m model) mute(now, most int64) []int {
	all := m.told(func(s *session) bool { return s.heard()+most < now })
	for _, id := range all {
		delete(m, id)
	}
	return all
}

func (m model) doubt(now, most int64) []int {
	all := m.told(func(s *session) bool { return s.sure() >= 0 && s.sure()+most < now })
	for _, id := range all {
		m[id].all = append(m[id].all, happened{doubt: true})
	}
	return all
}

// message tells a Report by chance, mostly one that may be.
func (n *numbers) message(l api.Layout, now int64) api.Message {
	trail, dir := way(n, l, 1+n.below(5))
	m := api.Message{Kind: api.Report, Train: n.below(11) - 5, Time: now - int64(n.below(4)), Dir: dir, Ahead: n.below(100), Whole: n.below(2) == 0, Trail: trail}
	switch n.below(20) {
	case 0:
		m.Kind = byte(n.below(8))
	case 1:
		m.Ahead = n.below(300) - 100
	case 2:
		m.Dir = 1 - m.Dir
	case 3:
		m.Time += int64(n.below(9))
	}
	return m
}

func (n *numbers) list(most int) []int {
	all := make([]int, n.below(8))
	for i := range all {
		all[i] = n.below(most+2) - 1
	}
	return all
}

// step calls one of the register's functions, and the model's, and tells what
// both answered.
func step(n *numbers, l api.Layout, g *graph.Graph, r *Register, m model, now int64) (kind, got, want string) {
	id, most := n.below(11)-5, int64(n.below(8))
	switch n.below(16) {
	case 0:
		_, open := m[id]
		delete(m, id)
		return "close", fmt.Sprint(r.Close(id)), fmt.Sprint(open)
	case 1:
		return "mute", fmt.Sprint(r.Mute(now, 5+most)), fmt.Sprint(m.mute(now, 5+most))
	case 2, 3:
		return "doubt", fmt.Sprint(r.Doubt(now, most)), fmt.Sprint(m.doubt(now, most))
	case 4, 5, 6:
		return "open", fmt.Sprint(r.Open(id, now)), fmt.Sprint(m.open(id, now))
	}
	said, was := n.message(l, now), n.list(len(l.Sections))
	want = fmt.Sprint(m.note(l, now, said, was))
	got = fmt.Sprint(r.Note(g, now, said, was))
	spoil(said.Trail)
	spoil(was)
	return "note", got, want
}

func TestAgainstModel(t *testing.T) {
	seen := map[string]int{}
	for name, l := range layouts() {
		g := graph.New(l)
		for seed := range 30 {
			n, r, m := numbers(seed), New(), model{}
			for now := range int64(150) {
				for range n.below(4) {
					kind, got, want := step(&n, l, g, r, m, now)
					if got != want {
						t.Fatalf("%s, seed %d, tick %d: %s is %s, not %s", name, seed, now, kind, got, want)
					}
					seen[kind+" "+want]++
					agree(t, r, m)
				}
			}
		}
	}
	for _, k := range []string{"close true", "close false", "mute []", "doubt []", "open 0", "open 6", "open 8", "note 0", "note 1", "note 7", "note 8"} {
		if seen[k] == 0 {
			t.Errorf("no step was %s", k)
		}
	}
}

// agree holds all that a register tells against its model.
func agree(t *testing.T, r *Register, m model) {
	t.Helper()
	if got, want := r.All(), m.told(func(*session) bool { return true }); !slices.Equal(got, want) {
		t.Fatalf("All is %v, not %v", got, want)
	}
	for id := -6; id <= 6; id++ {
		got, ok := r.Get(id)
		if want, is := m.train(id); ok != is || !alike(got, want) {
			t.Fatalf("Get(%d) is %v, %v, not %v, %v", id, got, ok, want, is)
		}
	}
}

func TestJoinAgainstModel(t *testing.T) {
	n := numbers(9)
	for range 100000 {
		most := 1 + n.below(9)
		trail, was := n.list(most), n.list(most)
		if got, want := Join(trail, was), joined(trail, was); !slices.Equal(got, want) {
			t.Fatalf("Join(%v, %v) is %v, not %v", trail, was, got, want)
		}
	}
}

// Whatever is handed in, a call ends and answers.
func FuzzNote(f *testing.F) {
	f.Add(4, int64(40), int64(40), 1, 7, true, []byte{2, 1}, []byte{1, 0})
	f.Add(-1, int64(least), int64(greatest), -1, -1, false, []byte{}, []byte{})
	f.Add(4, int64(40), int64(40), 0, 0, false, []byte{1, 1, 255}, []byte{9, 9})
	f.Fuzz(func(t *testing.T, id int, now, time int64, dir, ahead int, whole bool, trail, was []byte) {
		l := loop()
		g, r, m := graph.New(l), New(), model{}
		r.Open(id, now)
		m.open(id, now)
		said := api.Message{Kind: api.Report, Train: 4, Time: time, Dir: dir, Ahead: ahead, Whole: whole, Trail: sections(trail)}
		for range 2 {
			if got, want := r.Note(g, now, said, sections(was)), m.note(l, now, said, sections(was)); got != want {
				t.Fatalf("Note is %d, not %d", got, want)
			}
			got, _ := r.Get(id)
			if want, _ := m.train(id); !alike(got, want) {
				t.Fatalf("Get is %v, not %v", got, want)
			}
		}
		r.Mute(time, now)
		r.Doubt(now, time)
	})
}

func sections(p []byte) []int {
	var all []int
	for _, b := range p {
		all = append(all, int(int8(b)))
	}
	return all
}
