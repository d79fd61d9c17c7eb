package scan_test

import (
	"math"
	"slices"
	"testing"

	"detent/api"
	"detent/mask"
	"detent/scan"
	"detent/sect"
)

// section is one that a reader began: told apart from its others by being another thing, not by a stamp.
type section struct {
	deep int
}

// room is sections told in another way than by stamps: who is inside has a section, which is his no more when it has ended.
type room struct {
	in    map[int]*section
	began int
}

func (m *room) enter(r int) {
	if m.in[r] == nil {
		m.in[r] = &section{}
		m.began++
	}
	m.in[r].deep++
}

func (m *room) exit(r int) {
	m.in[r].deep--
	if m.in[r].deep == 0 {
		delete(m.in, r)
	}
}

// watch is a scan told in another way than the package does it: it keeps the very sections that were open when it began, and a poll walks over all 64 readers.
type watch struct {
	room  *room
	began int
	open  map[int]*section // those of the holdouts that are left
	place int
}

func newWatch(m *room) *watch {
	w := &watch{room: m, began: m.began, open: map[int]*section{}}
	for r, s := range m.in {
		w.open[r] = s
	}
	return w
}

// look tells whether a reader was a holdout, and is none any more.
func (w *watch) look(r int) bool {
	s := w.open[r]
	if s == nil || s.deep > 0 {
		return false
	}
	delete(w.open, r)
	return true
}

func (w *watch) poll(n int) int {
	looked := 0
	from := w.place
	for i := range 64 {
		r := (from + i) % 64
		if w.open[r] == nil || looked >= n {
			continue
		}
		w.look(r)
		looked++
		w.place = (r + 1) % 64
	}
	return len(w.open)
}

func (w *watch) quiet(l ...int) int {
	n := 0
	for _, r := range l {
		if w.look(r) {
			n++
		}
	}
	return n
}

func (w *watch) left() mask.Mask {
	var m mask.Mask
	for r := range w.open {
		m |= 1 << r
	}
	return m
}

// pair is sections beside their room, and scans of them, each beside its watch: each of its methods does the same with both, looks at all that the scans tell then, and ends the test if they part.
type pair struct {
	t       *testing.T
	s       *sect.Sections
	room    *room
	scans   []*scan.Scan
	watches []*watch
}

func newPair(t *testing.T, l ...int) *pair {
	t.Helper()
	p := &pair{t: t, s: new(sect.Sections), room: &room{in: map[int]*section{}}}
	p.enter(l...)
	return p
}

func (p *pair) enter(l ...int) {
	p.t.Helper()
	for _, r := range l {
		if p.s.Enter(r) == api.OK {
			p.room.enter(r)
		}
	}
	p.look()
}

func (p *pair) exit(l ...int) {
	p.t.Helper()
	for _, r := range l {
		if _, e := p.s.Exit(r); e == api.OK {
			p.room.exit(r)
		}
	}
	p.look()
}

// leave is out of a section, however deep.
func (p *pair) leave(l ...int) {
	p.t.Helper()
	for _, r := range l {
		for p.s.Depth(r) > 0 {
			p.exit(r)
		}
	}
}

// scan begins one, and tells its number.
func (p *pair) scan() int {
	p.t.Helper()
	was := *p.s
	p.scans = append(p.scans, scan.New(p.s))
	p.watches = append(p.watches, newWatch(p.room))
	p.same(was)
	p.look()
	return len(p.scans) - 1
}

func (p *pair) poll(i, n int) int {
	p.t.Helper()
	was := *p.s
	want := p.watches[i].poll(n)
	if left := p.scans[i].Poll(n); left != want {
		p.t.Fatalf("Poll(%d): %d, not %d", n, left, want)
	}
	p.same(was)
	p.look()
	return want
}

func (p *pair) quiet(i int, l ...int) int {
	p.t.Helper()
	was := *p.s
	want := p.watches[i].quiet(l...)
	if n := p.scans[i].Quiet(l...); n != want {
		p.t.Fatalf("Quiet(%v): %d, not %d", l, n, want)
	}
	p.same(was)
	p.look()
	return want
}

// same: no scan changes the sections.
func (p *pair) same(was sect.Sections) {
	p.t.Helper()
	if *p.s != was {
		p.t.Fatalf("the sections were changed: in are %v, not %v", p.s.In().List(), was.In().List())
	}
}

// look holds all that the scans tell against their watches.
func (p *pair) look() {
	p.t.Helper()
	for i, x := range p.scans {
		w := p.watches[i]
		if m := x.Left(); m != w.left() {
			p.t.Fatalf("Left: %v, not %v", m.List(), w.left().List())
		}
		if is := x.Done(); is != (len(w.open) == 0) {
			p.t.Fatalf("Done: %v, with %d left", is, len(w.open))
		}
		if n := x.Began(); n != w.began {
			p.t.Fatalf("Began: %d, not %d", n, w.began)
		}
		if n := x.Place(); n != w.place {
			p.t.Fatalf("Place: %d, not %d", n, w.place)
		}
	}
}

// of is sections in which these have entered, one behind the other.
func of(t *testing.T, l ...int) *sect.Sections {
	t.Helper()
	s := new(sect.Sections)
	enter(t, s, l...)
	return s
}

func enter(t *testing.T, s *sect.Sections, l ...int) {
	t.Helper()
	if e := s.Enter(l...); e != api.OK {
		t.Fatalf("Enter(%v): %d", l, e)
	}
}

func exit(t *testing.T, s *sect.Sections, l ...int) {
	t.Helper()
	for _, r := range l {
		if _, e := s.Exit(r); e != api.OK {
			t.Fatalf("Exit(%d): %d", r, e)
		}
	}
}

func wantPoll(t *testing.T, x *scan.Scan, n, left, place int) {
	t.Helper()
	if got := x.Poll(n); got != left || x.Place() != place {
		t.Errorf("Poll(%d): %d, place %d, not %d, place %d", n, got, x.Place(), left, place)
	}
}

func wantQuiet(t *testing.T, x *scan.Scan, want int, l ...int) {
	t.Helper()
	place := x.Place()
	if n := x.Quiet(l...); n != want {
		t.Errorf("Quiet(%v): %d, not %d", l, n, want)
	}
	if x.Place() != place {
		t.Errorf("Quiet(%v): place %d, not %d", l, x.Place(), place)
	}
}

func wantLeft(t *testing.T, x *scan.Scan, l ...int) {
	t.Helper()
	if m := x.Left(); m != mask.Of(l...) {
		t.Errorf("Left: %v, not %v", m.List(), l)
	}
	if is := x.Done(); is != (len(l) == 0) {
		t.Errorf("Done: %v, of %v", is, l)
	}
}

func wantBegan(t *testing.T, x *scan.Scan, want int) {
	t.Helper()
	if n := x.Began(); n != want {
		t.Errorf("Began: %d, not %d", n, want)
	}
}

func wantPlace(t *testing.T, x *scan.Scan, want int) {
	t.Helper()
	if n := x.Place(); n != want {
		t.Errorf("Place: %d, not %d", n, want)
	}
}

// all are the numbers of all readers.
func all() []int {
	return mask.Full(64).List()
}

// noReaders are numbers of none.
func noReaders() []int {
	return []int{math.MinInt, math.MinInt + 1, -1 << 32, -64, -63, -2, -1, 64, 65, 67, 127, 128, 256, 1 << 32, 1<<32 + 1, math.MaxInt - 1, math.MaxInt}
}

// numbers gives numbers that look like chance, and are the same each time.
func numbers(seed uint64) func(below uint64) uint64 {
	x := seed
	return func(below uint64) uint64 {
		x = x*6364136223846793005 + 1442695040888963407
		return (x ^ x>>29) >> 7 % below
	}
}

// P10.1

func TestNew(t *testing.T) {
	for _, x := range []struct {
		in, left []int
		began    int
	}{
		{nil, nil, 0},
		{[]int{7}, []int{7}, 1},
		{[]int{0}, []int{0}, 1},
		{[]int{63}, []int{63}, 1},
		{[]int{63, 0}, []int{0, 63}, 2},
		{[]int{5, 3}, []int{3, 5}, 2},
		{[]int{9, 9, 9}, []int{9}, 1},
		{slices.Repeat([]int{9}, 8), []int{9}, 1},
		{[]int{9, 4, 9, 4}, []int{4, 9}, 2},
		{all(), all(), 64},
	} {
		s := of(t, x.in...)
		was := *s
		y := scan.New(s)
		wantLeft(t, y, x.left...)
		wantBegan(t, y, x.began)
		wantPlace(t, y, 0)
		if *s != was {
			t.Errorf("of %v: the sections were changed", x.in)
		}
	}
}

// TestNewOfWhoStays: a holdout is who is inside when the scan begins, not who was before.
func TestNewOfWhoStays(t *testing.T) {
	s := of(t, 1, 2, 2, 3, 4)
	exit(t, s, 1, 2, 3)
	enter(t, s, 3)
	x := scan.New(s)
	wantLeft(t, x, 2, 3, 4)
	wantBegan(t, x, 5)
	exit(t, s, 2, 3, 4)
	y := scan.New(s)
	wantLeft(t, y)
	wantBegan(t, y, 5)
	wantLeft(t, x, 2, 3, 4)
	wantPoll(t, x, 3, 0, 5)
	wantPoll(t, y, 3, 0, 0)
}

// TestNewOfNil: one without holdouts, that never has any.
func TestNewOfNil(t *testing.T) {
	x := scan.New(nil)
	if x == nil {
		t.Fatal("no scan")
	}
	for range 2 {
		wantLeft(t, x)
		wantBegan(t, x, 0)
		wantPlace(t, x, 0)
		for _, n := range []int{math.MinInt, -1, 0, 1, 64, math.MaxInt} {
			wantPoll(t, x, n, 0, 0)
		}
		wantQuiet(t, x, 0)
		wantQuiet(t, x, 0, all()...)
		wantQuiet(t, x, 0, noReaders()...)
	}
}

func TestNewOfZeroSections(t *testing.T) {
	var s sect.Sections
	x := scan.New(&s)
	wantLeft(t, x)
	wantBegan(t, x, 0)
	enter(t, &s, 0, 5)
	wantPoll(t, x, 64, 0, 0)
	wantQuiet(t, x, 0, 0, 5)
	wantLeft(t, x)
	wantBegan(t, x, 0)
}

// TestPollOfSoMany: no holdout has left, so that each poll tells by its place alone how many it looked at.
func TestPollOfSoMany(t *testing.T) {
	for _, x := range []struct{ n, place int }{
		{math.MinInt, 0}, {math.MinInt + 1, 0}, {-1 << 32, 0}, {-64, 0}, {-1, 0}, {0, 0},
		{1, 4}, {2, 6}, {3, 41},
		{4, 41}, {5, 41}, {6, 41}, {63, 41}, {64, 41}, {65, 41}, {1 << 32, 41}, {math.MaxInt - 1, 41}, {math.MaxInt, 41},
	} {
		y := scan.New(of(t, 5, 40, 3))
		wantPoll(t, y, x.n, 3, x.place)
		wantLeft(t, y, 3, 5, 40)
	}
}

// TestPollTakesOutSoMany: all have left, and of them a poll takes out as many as it looks at.
func TestPollTakesOutSoMany(t *testing.T) {
	for _, x := range []struct {
		n, place int
		left     []int
	}{
		{math.MinInt, 0, []int{3, 5, 40}}, {-1, 0, []int{3, 5, 40}}, {0, 0, []int{3, 5, 40}},
		{1, 4, []int{5, 40}}, {2, 6, []int{40}}, {3, 41, nil},
		{4, 41, nil}, {64, 41, nil}, {math.MaxInt, 41, nil},
	} {
		s := of(t, 5, 40, 3)
		y := scan.New(s)
		exit(t, s, 3, 5, 40)
		wantPoll(t, y, x.n, len(x.left), x.place)
		wantLeft(t, y, x.left...)
		wantBegan(t, y, 3)
	}
}

// TestPollLooksOnce: a poll of more than there are goes around once, and not on to those that it looked at already, though they are left.
func TestPollLooksOnce(t *testing.T) {
	for _, n := range []int{4, 5, 7, 64, 1000, math.MaxInt} {
		s := of(t, 2, 10, 20, 60)
		x := scan.New(s)
		exit(t, s, 20)
		wantPoll(t, x, 2, 4, 11)
		wantPoll(t, x, n, 3, 11) // 20, 60, 2, 10
		wantLeft(t, x, 2, 10, 60)
		exit(t, s, 2)
		wantPoll(t, x, n, 2, 11) // 60, 2, 10
		wantPoll(t, x, n, 2, 11) // 60, 10
		exit(t, s, 10)
		wantPoll(t, x, n, 1, 11) // 60, 10
		wantPoll(t, x, n, 1, 61) // 60
		wantLeft(t, x, 60)
	}
}

// TestPollsInTurn: from the place on, rising and around, each behind the one before.
func TestPollsInTurn(t *testing.T) {
	x := scan.New(of(t, 3, 5, 40))
	for range 3 {
		for _, place := range []int{4, 6, 41} {
			wantPoll(t, x, 1, 3, place)
		}
	}
	for range 3 {
		for _, place := range []int{6, 4, 41} { // 3 and 5; 40 and 3; 5 and 40
			wantPoll(t, x, 2, 3, place)
		}
	}
	wantLeft(t, x, 3, 5, 40)
}

// TestPollGoesAround: behind 63 it is 0 again, within a poll and from one to the next.
func TestPollGoesAround(t *testing.T) {
	s := of(t, 0, 1, 62, 63)
	x := scan.New(s)
	wantPoll(t, x, 3, 4, 63)
	wantPoll(t, x, 1, 4, 0) // 63
	wantPoll(t, x, 1, 4, 1) // 0
	wantPoll(t, x, 2, 4, 63)
	wantPoll(t, x, 2, 4, 1) // 63 and 0
	wantPoll(t, x, 4, 4, 1) // 1, 62, 63 and 0
	wantPoll(t, x, 3, 4, 0) // 1, 62 and 63
	wantPoll(t, x, 4, 4, 0)
	exit(t, s, 0, 63)
	wantPoll(t, x, 3, 3, 63) // 0 is gone
	wantPoll(t, x, 1, 2, 0)  // so is 63
	wantPoll(t, x, 2, 2, 63) // 1 and 62
	wantPoll(t, x, 1, 2, 2)  // around, to 1
	wantLeft(t, x, 1, 62)
}

// TestPlaceIsBehindTheLast: that it looked at, whether that is left or not, and whatever stands behind it.
func TestPlaceIsBehindTheLast(t *testing.T) {
	for r := range 64 {
		behind := (r + 1) % 64
		s := of(t, r)
		x := scan.New(s)
		wantPoll(t, x, 0, 1, 0)
		wantPoll(t, x, 1, 1, behind)
		wantPoll(t, x, -5, 1, behind) // none is looked at
		wantPoll(t, x, 5, 1, behind)
		exit(t, s, r)
		wantPoll(t, x, 0, 1, behind)
		wantPoll(t, x, 1, 0, behind)
		for _, n := range []int{math.MinInt, 0, 1, 64, math.MaxInt} { // it is done
			wantPoll(t, x, n, 0, behind)
		}
	}
}

// TestPlaceOfOneThatWasOut: a poll of holdouts of which the last one is gone leaves the place behind it, too.
func TestPlaceOfOneThatWasOut(t *testing.T) {
	s := of(t, 3, 5, 40)
	x := scan.New(s)
	exit(t, s, 40, 5)
	wantPoll(t, x, 3, 1, 41)
	wantLeft(t, x, 3)
	wantPoll(t, x, 1, 1, 4)
}

// TestPollsUntilDone: in each poll some leave; behind the last one polls tell 0, and leave the place.
func TestPollsUntilDone(t *testing.T) {
	s := of(t, 63, 0, 8, 33, 34)
	x := scan.New(s)
	wantPoll(t, x, 2, 5, 9)
	exit(t, s, 33)
	wantPoll(t, x, 2, 4, 35)
	wantLeft(t, x, 0, 8, 34, 63)
	exit(t, s, 0, 63)
	wantPoll(t, x, 2, 2, 1)
	wantLeft(t, x, 8, 34)
	exit(t, s, 34)
	wantPoll(t, x, 1, 2, 9)
	wantPoll(t, x, 1, 1, 35)
	wantPoll(t, x, 1, 1, 9)
	exit(t, s, 8)
	wantPoll(t, x, 1, 0, 9)
	for range 3 {
		wantLeft(t, x)
		wantPoll(t, x, 1, 0, 9)
		wantPoll(t, x, math.MaxInt, 0, 9)
		wantQuiet(t, x, 0, all()...)
	}
	wantBegan(t, x, 5)
}

// looks are how a poll and a Quiet look at the reader 7: how many holdouts it took out.
func looks() map[string]func(x *scan.Scan) int {
	return map[string]func(x *scan.Scan) int{
		"Poll": func(x *scan.Scan) int {
			was := x.Left().Len()
			return was - x.Poll(64)
		},
		"Quiet": func(x *scan.Scan) int { return x.Quiet(7) },
	}
}

// TestLook is at a holdout that did this or that since the scan began.
func TestLook(t *testing.T) {
	for name, look := range looks() {
		for _, x := range []struct {
			deep  int   // how deep it was
			moves []int // 1 in, -1 out
			ended bool
		}{
			{1, nil, false},                               // still in its section
			{1, []int{1}, false},                          // deeper
			{1, []int{1, -1}, false},                      // so, and out of that
			{2, nil, false},                               // nested
			{2, []int{-1}, false},                         // nested, and left once
			{8, []int{-1, -1, -1, -1, -1, -1, -1}, false}, // left but once
			{2, []int{-1, 1, -1, 1, -1}, false},           // never quite out
			{1, []int{-1}, true},                          // outside
			{2, []int{-1, -1}, true},
			{8, []int{-1, -1, -1, -1, -1, -1, -1, -1}, true},
			{1, []int{-1, 1}, true}, // in another one
			{1, []int{-1, 1, 1}, true},
			{2, []int{-1, -1, 1}, true},
			{2, []int{-1, -1, 1, 1}, true},
			{1, []int{-1, 1, -1}, true},
			{1, []int{-1, 1, -1, 1, -1, 1, -1, 1}, true}, // so, several times
			{1, []int{-1, 1, -1, 1, -1, 1, -1}, true},
		} {
			s := of(t, 2)
			enter(t, s, slices.Repeat([]int{7}, x.deep)...)
			y := scan.New(s)
			for _, way := range x.moves {
				if way > 0 {
					enter(t, s, 7)
				} else {
					exit(t, s, 7)
				}
			}
			n, left := 0, []int{2, 7}
			if x.ended {
				n, left = 1, []int{2}
			}
			if got := look(y); got != n {
				t.Errorf("%s of one %d deep, %v: %d, not %d", name, x.deep, x.moves, got, n)
			}
			wantLeft(t, y, left...)
			wantBegan(t, y, 2)
			if got := look(y); got != 0 { // nothing happened since
				t.Errorf("%s again: %d", name, got)
			}
			wantLeft(t, y, left...)
		}
	}
}

// TestLookByTheStampAlone: who enters first behind the scan has just one stamp more than it.
func TestLookByTheStampAlone(t *testing.T) {
	for name, look := range looks() {
		s := of(t, 7)
		x := scan.New(s)
		exit(t, s, 7)
		enter(t, s, 7)
		if s.Since(7) != x.Began()+1 {
			t.Errorf("%d behind %d", s.Since(7), x.Began())
		}
		if n := look(x); n != 1 || !x.Done() {
			t.Errorf("%s: %d", name, n)
		}
		y := scan.New(s) // its own stamp is that of the one who is inside
		if n := look(y); n != 0 || y.Done() {
			t.Errorf("%s: %d", name, n)
		}
	}
}

// TestSeenAtTheLookAlone: nothing of what readers do shows until they are looked at.
func TestSeenAtTheLookAlone(t *testing.T) {
	s := of(t, 3, 5)
	x := scan.New(s)
	exit(t, s, 3, 5)
	wantLeft(t, x, 3, 5)
	wantPoll(t, x, 0, 2, 0)
	wantLeft(t, x, 3, 5)
	enter(t, s, 5)
	wantPoll(t, x, 1, 1, 4)
	wantLeft(t, x, 5)
	exit(t, s, 5)
	enter(t, s, 3, 5) // 3 is none any more, though it is inside
	wantLeft(t, x, 5)
	wantPoll(t, x, 1, 0, 6)
}

// TestLooksAgainAtEachPoll: the sections as they are then.
func TestLooksAgainAtEachPoll(t *testing.T) {
	s := of(t, 3, 3, 5)
	x := scan.New(s)
	wantPoll(t, x, 64, 2, 6)
	exit(t, s, 3)
	wantPoll(t, x, 64, 2, 6)
	wantQuiet(t, x, 0, 3, 5)
	exit(t, s, 5)
	wantPoll(t, x, 64, 1, 6)
	wantPoll(t, x, 64, 1, 4)
	exit(t, s, 3)
	wantPoll(t, x, 64, 0, 4)
}

func TestQuiet(t *testing.T) {
	for _, x := range []struct {
		l    []int
		want int
		left []int
	}{
		{nil, 0, []int{0, 4, 9, 20, 63}},
		{[]int{}, 0, []int{0, 4, 9, 20, 63}},
		{[]int{4}, 1, []int{0, 9, 20, 63}},
		{[]int{0}, 1, []int{4, 9, 20, 63}},
		{[]int{63}, 1, []int{0, 4, 9, 20}},
		{[]int{0, 63}, 2, []int{4, 9, 20}},
		{[]int{4, 0}, 2, []int{9, 20, 63}},
		{[]int{63, 4, 0}, 3, []int{9, 20}},
		{[]int{4, 4}, 1, []int{0, 9, 20, 63}}, // the second time it is none any more
		{[]int{4, 0, 4, 0, 4}, 2, []int{9, 20, 63}},
		{[]int{9}, 0, []int{0, 4, 9, 20, 63}},  // in its section still
		{[]int{20}, 0, []int{0, 4, 9, 20, 63}}, // so, nested
		{[]int{1}, 0, []int{0, 4, 9, 20, 63}},  // inside, but never a holdout
		{[]int{2}, 0, []int{0, 4, 9, 20, 63}},  // outside, and never one
		{[]int{9, 1, 4, 2}, 1, []int{0, 9, 20, 63}},
		{all(), 3, []int{9, 20}},
		{noReaders(), 0, []int{0, 4, 9, 20, 63}},
		{[]int{-1, 4, 64, 0, math.MaxInt}, 2, []int{9, 20, 63}},
		{[]int{64 + 4, 4 - 64}, 0, []int{0, 4, 9, 20, 63}}, // not taken mod 64
	} {
		s := of(t, 0, 4, 9, 20, 20, 63)
		y := scan.New(s)
		wantPoll(t, y, 2, 5, 5)
		exit(t, s, 0, 4, 20, 63)
		enter(t, s, 1, 63) // 63 in another one
		was := *s
		wantQuiet(t, y, x.want, x.l...)
		wantLeft(t, y, x.left...)
		wantPlace(t, y, 5)
		wantBegan(t, y, 5)
		if *s != was {
			t.Errorf("Quiet(%v): the sections were changed", x.l)
		}
	}
}

// TestQuietOfOneThatIsNoneAnyMore: whether a poll or a Quiet found it, and whatever it does since.
func TestQuietOfOneThatIsNoneAnyMore(t *testing.T) {
	s := of(t, 3, 5, 7)
	x := scan.New(s)
	exit(t, s, 3, 5)
	wantPoll(t, x, 1, 2, 4)
	wantQuiet(t, x, 0, 3)
	wantQuiet(t, x, 1, 5)
	wantQuiet(t, x, 0, 5)
	enter(t, s, 3, 5)
	wantQuiet(t, x, 0, 3, 5)
	exit(t, s, 3, 5)
	wantQuiet(t, x, 0, 3, 5)
	wantLeft(t, x, 7)
	wantPlace(t, x, 4)
}

// TestQuietLeavesThePlace: also where it stands right at the one that is looked at, or behind it, and when the scan is done by it.
func TestQuietLeavesThePlace(t *testing.T) {
	for place := range 64 {
		s := of(t, all()...)
		x := scan.New(s)
		wantPoll(t, x, place, 64, place)
		for r := range 64 {
			exit(t, s, r)
			wantQuiet(t, x, 1, r)
			wantPlace(t, x, place)
		}
		wantLeft(t, x)
		wantPoll(t, x, 64, 0, place)
	}
}

// TestQuietBetweenPolls: who is taken out by it is passed over by the next poll, which looks at one that stands behind.
func TestQuietBetweenPolls(t *testing.T) {
	s := of(t, 3, 5, 40, 41)
	x := scan.New(s)
	wantPoll(t, x, 1, 4, 4)
	exit(t, s, 5)
	wantQuiet(t, x, 1, 5)
	wantPoll(t, x, 1, 3, 41)
	exit(t, s, 3, 40, 41)
	wantQuiet(t, x, 2, 41, 3)
	wantPoll(t, x, 1, 0, 41)
}

// P10.2

// TestTells: what it is behind each step of a scan.
func TestTells(t *testing.T) {
	p := newPair(t, 3, 5, 9, 9)
	i := p.scan()
	x := p.scans[i]
	tell := func(began, place int, left ...int) {
		t.Helper()
		wantLeft(t, x, left...)
		wantBegan(t, x, began)
		wantPlace(t, x, place)
	}
	tell(3, 0, 3, 5, 9)
	p.poll(i, 1)
	tell(3, 4, 3, 5, 9)
	p.exit(5)
	tell(3, 4, 3, 5, 9)
	p.quiet(i, 5)
	tell(3, 4, 3, 9)
	p.enter(5, 6)
	tell(3, 4, 3, 9)
	p.poll(i, 1)
	tell(3, 10, 3, 9)
	p.exit(3, 9)
	p.poll(i, 0)
	tell(3, 10, 3, 9)
	p.poll(i, 2)
	tell(3, 10, 9)
	p.exit(9)
	p.quiet(i, 9)
	tell(3, 10)
	p.enter(9)
	p.poll(i, 9)
	p.quiet(i, 9)
	tell(3, 10)
}

// TestBeganStays: while the sections' stamp grows, before and behind its being done.
func TestBeganStays(t *testing.T) {
	s := of(t, 3, 5)
	exit(t, s, 3)
	enter(t, s, 3, 8)
	x := scan.New(s)
	for i := range 200 {
		wantBegan(t, x, 4)
		if s.Stamp() != 4+i {
			t.Fatalf("%d", s.Stamp())
		}
		enter(t, s, 50)
		exit(t, s, 50)
		x.Poll(i % 3)
		if i == 100 {
			exit(t, s, 3, 5, 8)
			wantQuiet(t, x, 3, 3, 5, 8)
		}
	}
	wantBegan(t, scan.New(s), 204)
	wantBegan(t, x, 4)
}

// TestAskingChangesNothing: what is told stays, however often it is asked.
func TestAskingChangesNothing(t *testing.T) {
	s := of(t, 3, 5)
	x := scan.New(s)
	exit(t, s, 3)
	wantPoll(t, x, 1, 1, 4)
	exit(t, s, 5)
	for range 5 {
		wantLeft(t, x, 5)
		wantBegan(t, x, 2)
		wantPlace(t, x, 4)
	}
	wantPoll(t, x, 1, 0, 6)
}

// P10.3

// TestDoneMeansEnded: when a scan is done, no section that was open when it began is open, though others are; whoever is in such a one is left.
func TestDoneMeansEnded(t *testing.T) {
	for seed := range uint64(60) {
		next := numbers(seed)
		var s sect.Sections
		for range 1 + next(150) {
			s.Enter(int(next(64)))
		}
		x := scan.New(&s)
		began := s.Stamp()
		for range 20000 {
			if x.Done() {
				break
			}
			r := int(next(64))
			for range next(4) {
				s.Exit(r)
			}
			s.Enter(int(next(64)))
			x.Poll(int(next(4)))
			open := s.Open(began)
			if x.Done() && open != 0 {
				t.Fatalf("it is done, and %v are inside", open.List())
			}
			if open&^x.Left() != 0 {
				t.Fatalf("%v are inside, and %v are left", open.List(), x.Left().List())
			}
		}
		if !x.Done() || s.In() == 0 {
			t.Errorf("%d: left are %v, in are %v", seed, x.Left().List(), s.In().List())
		}
	}
}

// TestNewcomersAreNotWaitedFor: be they readers who were outside when it began, or inside.
func TestNewcomersAreNotWaitedFor(t *testing.T) {
	s := of(t, 3, 5)
	x := scan.New(s)
	enter(t, s, 0, 4, 63)
	for range 5 {
		wantQuiet(t, x, 0, 0, 4, 63)
		x.Poll(1)
		wantLeft(t, x, 3, 5)
	}
	exit(t, s, 3, 5)
	enter(t, s, 3, 5)
	x.Poll(2)
	wantLeft(t, x)
	if s.In() != mask.Of(0, 3, 4, 5, 63) {
		t.Error(s.In().List())
	}
	y := scan.New(s) // of a new one they are holdouts
	wantLeft(t, y, 0, 3, 4, 5, 63)
	wantLeft(t, x)
	none := scan.New(of(t))
	wantLeft(t, none)
}

// TestBeganWithNobodyInside: a scan that was done when it began stays so.
func TestBeganWithNobodyInside(t *testing.T) {
	s := of(t)
	x := scan.New(s)
	enter(t, s, all()...)
	wantLeft(t, x)
	wantPoll(t, x, 64, 0, 0)
	wantQuiet(t, x, 0, all()...)
	wantBegan(t, x, 0)
}

// TestEnoughPolls: as many as it takes to look at all holdouts once, from any place, if their sections have ended; no fewer are.
func TestEnoughPolls(t *testing.T) {
	for _, in := range [][]int{{0}, {63}, {3, 5}, {0, 63}, {0, 1, 2, 61, 62, 63}, mask.Full(17).List(), all()} {
		for ahead := range len(in) { // polls before they leave move the place
			for _, n := range []int{1, 2, 3, 7, 16, 63, 64, 65, math.MaxInt} {
				s := of(t, in...)
				x := scan.New(s)
				x.Poll(ahead)
				exit(t, s, in...)
				enter(t, s, in[ahead:]...)
				polls := 0
				for left := len(in); left > 0; polls++ {
					left -= min(n, left)
					if got := x.Poll(n); got != left {
						t.Fatalf("%v: Poll(%d) behind %d polls: %d, not %d", in, n, polls, got, left)
					}
				}
				if !x.Done() {
					t.Errorf("%v: %d polls of %d aren't enough", in, polls, n)
				}
			}
		}
	}
}

// TestEnoughPollsOfSome: each holdout whose section has ended is out behind as many polls as it takes to look at all that there were, though others stay.
func TestEnoughPollsOfSome(t *testing.T) {
	for seed := range uint64(40) {
		next := numbers(seed)
		for _, n := range []int{1, 2, 5, 16, 64} {
			p := newPair(t, all()...)
			i := p.scan()
			p.poll(i, int(next(64)))
			var gone mask.Mask
			for range 1 + next(63) {
				gone = gone.With(int(next(64)))
			}
			p.leave(gone.List()...)
			for looked := 0; looked < 64; looked += n {
				p.poll(i, n)
			}
			if left := p.scans[i].Left(); left&gone != 0 || left|gone != mask.Full(64) {
				t.Fatalf("polls of %d: left are %v, gone are %v", n, left.List(), gone.List())
			}
		}
	}
}

// TestTwoScans of the same sections: each has its own holdouts, stamp and place.
func TestTwoScans(t *testing.T) {
	s := of(t, 3, 5)
	x := scan.New(s)
	exit(t, s, 3)
	enter(t, s, 3, 9)
	y := scan.New(s)
	wantPoll(t, x, 1, 1, 4) // 3 is in another one than that of x
	wantPoll(t, y, 1, 3, 4)
	wantPoll(t, y, 1, 3, 6)
	wantPlace(t, x, 4)
	exit(t, s, 5)
	wantQuiet(t, y, 1, 5)
	wantLeft(t, y, 3, 9)
	wantLeft(t, x, 5)
	wantPoll(t, x, 1, 0, 6)
	wantLeft(t, y, 3, 9)
	wantBegan(t, x, 2)
	wantBegan(t, y, 4)
	exit(t, s, 3, 9)
	wantLeft(t, y, 3, 9)
	wantPoll(t, y, 5, 0, 4) // 9, then 3
}

// TestScansOfOtherSections: each looks at its own.
func TestScansOfOtherSections(t *testing.T) {
	a, b := of(t, 3, 5), of(t, 3, 5)
	x, y := scan.New(a), scan.New(b)
	exit(t, a, 3, 5)
	wantPoll(t, y, 2, 2, 6)
	wantPoll(t, x, 2, 0, 6)
	exit(t, b, 5)
	wantQuiet(t, y, 1, 5)
	wantLeft(t, y, 3)
}

// TestAllWays goes through all rows of some steps of few readers, in each of which a scan begins first.
func TestAllWays(t *testing.T) {
	readers := []int{0, 31, 63}
	steps := []func(p *pair){
		func(p *pair) { p.poll(0, 1) },
		func(p *pair) { p.poll(0, 2) },
		func(p *pair) { p.poll(0, 3) },
		func(p *pair) { p.quiet(0, 31) },
	}
	for _, r := range readers {
		steps = append(steps, func(p *pair) { p.enter(r) }, func(p *pair) { p.exit(r) })
	}
	rows := 1
	for range 5 {
		rows *= len(steps)
	}
	for row := range rows {
		p := newPair(t, 0, 63, 63)
		if row%2 == 0 {
			p.enter(31)
		}
		p.scan()
		rest := row
		for range 5 {
			steps[rest%len(steps)](p)
			rest /= len(steps)
		}
	}
}

// TestLikeTheWatch does many things one behind the other, of few readers and of all, with several scans at once.
func TestLikeTheWatch(t *testing.T) {
	for _, readers := range []uint64{1, 3, 10, 64} {
		for seed := range uint64(20) {
			p := newPair(t)
			next := numbers(readers + 100*seed)
			for range 600 {
				some := func() []int {
					var l []int
					for range next(6) {
						l = append(l, 63-int(next(readers+2))+1) // one more than there are at each end
					}
					return l
				}
				if len(p.scans) == 0 || next(40) == 0 && len(p.scans) < 6 {
					p.scan()
				}
				i := int(next(uint64(len(p.scans))))
				switch next(6) {
				case 0, 1:
					p.enter(some()...)
				case 2, 3:
					p.exit(some()...)
				case 4:
					p.poll(i, int(next(7))-1)
				default:
					p.quiet(i, some()...)
				}
			}
		}
	}
}

func TestNil(t *testing.T) {
	var x *scan.Scan
	for _, n := range []int{math.MinInt, -1, 0, 1, 16, 64, math.MaxInt} {
		if left := x.Poll(n); left != 0 {
			t.Errorf("Poll(%d): %d", n, left)
		}
	}
	wantQuiet(t, x, 0)
	wantQuiet(t, x, 0, all()...)
	wantQuiet(t, x, 0, noReaders()...)
	wantLeft(t, x)
	wantBegan(t, x, 0)
	wantPlace(t, x, 0)
	if !x.Done() {
		t.Error("it isn't done")
	}
}

// TestZero: a scan that New did not make is one of nil sections.
func TestZero(t *testing.T) {
	var x scan.Scan
	wantLeft(t, &x)
	wantBegan(t, &x, 0)
	wantPoll(t, &x, 64, 0, 0)
	wantQuiet(t, &x, 0, all()...)
}

// The rules of all layers, and the ways.

func TestListsAreLeftAsTheyAre(t *testing.T) {
	s := of(t, 3, 5, 7)
	x := scan.New(s)
	exit(t, s, 3, 7)
	l := []int{7, 3, 7, 63, -1, 64, 5}
	was := slices.Clone(l)
	wantQuiet(t, x, 2, l...)
	if !slices.Equal(l, was) {
		t.Error(l)
	}
	clear(l)
	wantLeft(t, x, 5)
}

// TestCopyIsApart: a copy has holdouts and a place of its own, and looks at the same sections.
func TestCopyIsApart(t *testing.T) {
	s := of(t, 3, 5)
	x := scan.New(s)
	wantPoll(t, x, 1, 2, 4)
	c := *x
	exit(t, s, 3, 5)
	wantPoll(t, &c, 2, 0, 4)
	wantLeft(t, x, 3, 5)
	wantPoll(t, x, 1, 1, 6)
	wantPlace(t, &c, 4)
}

// TestSectionsAreEmbedded: their methods are the scan's, too.
func TestSectionsAreEmbedded(t *testing.T) {
	s := of(t, 3, 5)
	x := scan.New(s)
	enter(t, s, 9, 3)
	if x.In() != s.In() || x.Stamp() != 3 || x.Depth(3) != 2 || x.Since(9) != 3 || x.Open(x.Began()) != mask.Of(3, 5) {
		t.Error(x.In(), x.Stamp(), x.Depth(3), x.Since(9), x.Open(x.Began()))
	}
}

// P2

func TestSameAgain(t *testing.T) {
	run := func() []int {
		next := numbers(30)
		var s sect.Sections
		var l []int
		for range 50 {
			s.Enter(int(next(64)), int(next(64)), int(next(64)))
			x := scan.New(&s)
			for range 100 {
				s.Exit(int(next(64)))
				s.Enter(int(next(66)) - 1)
				l = append(l, x.Poll(int(next(5))), x.Quiet(int(next(64)), int(next(64))), int(x.Left()), x.Began(), x.Place())
			}
		}
		return l
	}
	if !slices.Equal(run(), run()) {
		t.Error("another time, other answers")
	}
}

func TestExamples(t *testing.T) {
	s := of(t, 3, 5)
	x := scan.New(s)
	wantLeft(t, x, 3, 5)
	exit(t, s, 3)
	enter(t, s, 3)
	wantPoll(t, x, 1, 1, 4)
	wantPoll(t, x, 1, 1, 6)
	wantLeft(t, x, 5)
}
