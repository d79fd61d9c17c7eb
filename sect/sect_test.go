package sect_test

import (
	"math"
	"slices"
	"testing"

	"detent/api"
	"detent/mask"
	"detent/sect"
)

// step is one that a reader took: in or out.
type step struct {
	r  int
	in bool
}

// book is sections told in another way than the package does it: one row of all steps that were taken, gone through from the first one on each time. What sections answer is held against it.
type book struct {
	row []step
}

// told is what a row of steps comes to.
type told struct {
	deep, since [64]int
	began       int
}

func (b *book) told() told {
	var x told
	for _, s := range b.row {
		if !s.in {
			x.deep[s.r]--
			continue
		}
		x.deep[s.r]++
		if x.deep[s.r] == 1 {
			x.began++
			x.since[s.r] = x.began
		}
	}
	for r, d := range x.deep {
		if d == 0 {
			x.since[r] = 0
		}
	}
	return x
}

func (x told) open(such func(since int) bool) mask.Mask {
	var m mask.Mask
	for r, since := range x.since {
		if since != 0 && such(since) {
			m |= 1 << r
		}
	}
	return m
}

func isReader(r int) bool {
	return r >= 0 && r <= 63
}

func (b *book) enter(l ...int) api.Errno {
	for _, r := range l {
		if !isReader(r) {
			return api.ErrRange
		}
		if b.told().deep[r] == 8 {
			return api.ErrFull
		}
		b.row = append(b.row, step{r, true})
	}
	return api.OK
}

func (b *book) exit(r int) (bool, api.Errno) {
	if !isReader(r) {
		return false, api.ErrRange
	}
	deep := b.told().deep[r]
	if deep == 0 {
		return false, api.ErrState
	}
	b.row = append(b.row, step{r, false})
	return deep == 1, api.OK
}

// pair is sections beside their book: each of its methods does the same with both, looks at all that they tell then, and ends the test if they part.
type pair struct {
	t *testing.T
	s *sect.Sections
	b *book
}

func newPair(t *testing.T) *pair {
	t.Helper()
	p := &pair{t: t, s: new(sect.Sections), b: new(book)}
	p.look()
	return p
}

func (p *pair) enter(l ...int) {
	p.t.Helper()
	want := p.b.enter(l...)
	if e := p.s.Enter(l...); e != want {
		p.t.Fatalf("Enter(%v): %d, not %d", l, e, want)
	}
	p.look()
}

func (p *pair) exit(r int) {
	p.t.Helper()
	ended, wrong := p.b.exit(r)
	if is, e := p.s.Exit(r); is != ended || e != wrong {
		p.t.Fatalf("Exit(%d): %v, %d, not %v, %d", r, is, e, ended, wrong)
	}
	p.look()
}

// look holds all that the sections tell against the book.
func (p *pair) look() {
	p.t.Helper()
	x := p.b.told()
	if n := p.s.Stamp(); n != x.began {
		p.t.Fatalf("Stamp: %d, not %d", n, x.began)
	}
	if m, want := p.s.In(), x.open(func(int) bool { return true }); m != want {
		p.t.Fatalf("In: %v, not %v", m.List(), want.List())
	}
	for _, stamp := range append(someStamps(), x.began-1, x.began, x.began+1) {
		want := x.open(func(since int) bool { return since <= stamp })
		if m := p.s.Open(stamp); m != want {
			p.t.Fatalf("Open(%d): %v, not %v", stamp, m.List(), want.List())
		}
	}
	for r := range 64 {
		if n := p.s.Depth(r); n != x.deep[r] {
			p.t.Fatalf("Depth(%d): %d, not %d", r, n, x.deep[r])
		}
		if n := p.s.Since(r); n != x.since[r] {
			p.t.Fatalf("Since(%d): %d, not %d", r, n, x.since[r])
		}
	}
	for _, r := range noReaders() {
		if d, since := p.s.Depth(r), p.s.Since(r); d != 0 || since != 0 {
			p.t.Fatalf("of no reader %d: %d deep since %d", r, d, since)
		}
	}
}

// noReaders are numbers of none.
func noReaders() []int {
	return []int{math.MinInt, math.MinInt + 1, -1 << 32, -64, -63, -2, -1, 64, 65, 127, 128, 256, 1 << 32, 1<<32 + 1, math.MaxInt - 1, math.MaxInt}
}

func someStamps() []int {
	return []int{math.MinInt, -1 << 32, -2, -1, 0, 1, 2, 3, 7, 8, 64, 65, 1000, 1 << 32, math.MaxInt - 1, math.MaxInt}
}

// all are the numbers of all readers.
func all() []int {
	return mask.Full(64).List()
}

// numbers gives numbers that look like chance, and are the same each time.
func numbers(seed uint64) func(below uint64) uint64 {
	x := seed
	return func(below uint64) uint64 {
		x = x*6364136223846793005 + 1442695040888963407
		return (x ^ x>>29) >> 7 % below
	}
}

func wantEnter(t *testing.T, s *sect.Sections, want api.Errno, l ...int) {
	t.Helper()
	if e := s.Enter(l...); e != want {
		t.Errorf("Enter(%v): %d, not %d", l, e, want)
	}
}

func wantExit(t *testing.T, s *sect.Sections, r int, ended bool, want api.Errno) {
	t.Helper()
	if is, e := s.Exit(r); is != ended || e != want {
		t.Errorf("Exit(%d): %v, %d, not %v, %d", r, is, e, ended, want)
	}
}

func wantReader(t *testing.T, s *sect.Sections, r, depth, since int) {
	t.Helper()
	if d, n := s.Depth(r), s.Since(r); d != depth || n != since {
		t.Errorf("%d: %d deep since %d, not %d since %d", r, d, n, depth, since)
	}
}

func wantIn(t *testing.T, s *sect.Sections, l ...int) {
	t.Helper()
	if m := s.In(); m != mask.Of(l...) {
		t.Errorf("In: %v, not %v", m.List(), l)
	}
}

func wantOpen(t *testing.T, s *sect.Sections, stamp int, l ...int) {
	t.Helper()
	if m := s.Open(stamp); m != mask.Of(l...) {
		t.Errorf("Open(%d): %v, not %v", stamp, m.List(), l)
	}
}

func wantStamp(t *testing.T, s *sect.Sections, want int) {
	t.Helper()
	if n := s.Stamp(); n != want {
		t.Errorf("Stamp: %d, not %d", n, want)
	}
}

func TestConstant(t *testing.T) {
	if sect.MaxNest != 8 {
		t.Error(sect.MaxNest)
	}
}

// P9.1

func TestEnter(t *testing.T) {
	for _, x := range []struct {
		l    []int
		deep map[int]int
	}{
		{nil, nil},
		{[]int{}, nil},
		{[]int{7}, map[int]int{7: 1}},
		{[]int{0}, map[int]int{0: 1}},
		{[]int{63}, map[int]int{63: 1}},
		{[]int{63, 0}, map[int]int{0: 1, 63: 1}},
		{[]int{1, 2, 3}, map[int]int{1: 1, 2: 1, 3: 1}},
		{[]int{4, 4}, map[int]int{4: 2}},
		{[]int{4, 9, 4, 1}, map[int]int{4: 2, 9: 1, 1: 1}},
		{slices.Repeat([]int{5}, 7), map[int]int{5: 7}},
		{slices.Repeat([]int{5}, 8), map[int]int{5: 8}},
		{slices.Repeat([]int{0, 63}, 8), map[int]int{0: 8, 63: 8}},
	} {
		var s sect.Sections
		wantEnter(t, &s, api.OK, x.l...)
		for r := range 64 {
			if d := s.Depth(r); d != x.deep[r] {
				t.Errorf("Enter(%v): %d is %d deep, not %d", x.l, r, d, x.deep[r])
			}
		}
		wantStamp(t, &s, len(x.deep))
	}
}

// TestEnterDeeper: each is one deeper up to 8, and no deeper; so it is when all of them are.
func TestEnterDeeper(t *testing.T) {
	var s sect.Sections
	for deep := 1; deep <= 8; deep++ {
		for r := range 64 {
			wantEnter(t, &s, api.OK, r)
			wantReader(t, &s, r, deep, r+1)
		}
	}
	for r := range 64 {
		wantEnter(t, &s, api.ErrFull, r)
		wantEnter(t, &s, api.ErrFull, r, r)
		wantReader(t, &s, r, 8, r+1)
	}
	wantEnter(t, &s, api.OK)
	for r := range 64 {
		wantExit(t, &s, r, false, api.OK)
		wantEnter(t, &s, api.OK, r) // it was 7 deep
		wantEnter(t, &s, api.ErrFull, r)
		wantReader(t, &s, r, 8, r+1)
	}
	wantStamp(t, &s, 64)
}

func TestEnterOfNoReader(t *testing.T) {
	p := newPair(t)
	for range 2 {
		for _, r := range noReaders() {
			wantEnter(t, p.s, api.ErrRange, r)
			p.enter(r)
			p.enter(r, r)
			p.enter(r, 5)
		}
		p.enter(0, 1, 5, 62, 63)
	}
}

// TestEnterEndsAtTheFirstError: what is named ahead of it stays entered, and what is named behind it isn't; the error is that of the first reader who has one.
func TestEnterEndsAtTheFirstError(t *testing.T) {
	full := slices.Repeat([]int{8}, 8)
	for _, x := range []struct {
		l    []int
		want api.Errno
		in   []int // who is one deeper then
	}{
		{[]int{64}, api.ErrRange, nil},
		{[]int{8}, api.ErrFull, nil},
		{[]int{-1, 1, 2}, api.ErrRange, nil},
		{[]int{8, 1, 2}, api.ErrFull, nil},
		{[]int{1, 64, 2}, api.ErrRange, []int{1}},
		{[]int{1, 8, 2}, api.ErrFull, []int{1}},
		{[]int{1, 2, 3, -1, 4, 5}, api.ErrRange, []int{1, 2, 3}},
		{[]int{1, 2, 3, 8, 4, 5}, api.ErrFull, []int{1, 2, 3}},
		{[]int{3, 1, 64}, api.ErrRange, []int{3, 1}},
		{[]int{3, 1, 8}, api.ErrFull, []int{3, 1}},
		{[]int{1, 1, 8, 1}, api.ErrFull, []int{1, 1}},
		{[]int{1, 64, 8, 2}, api.ErrRange, []int{1}}, // both apply, of which the first one named is told
		{[]int{1, 8, 64, 2}, api.ErrFull, []int{1}},
		{[]int{64, 8}, api.ErrRange, nil},
		{[]int{8, 64}, api.ErrFull, nil},
		{[]int{8, -1, math.MaxInt}, api.ErrFull, nil},
		{[]int{math.MinInt, 8}, api.ErrRange, nil},
		{slices.Repeat([]int{2}, 9), api.ErrFull, slices.Repeat([]int{2}, 8)}, // full by the call itself
		{append(slices.Repeat([]int{2}, 9), 3), api.ErrFull, slices.Repeat([]int{2}, 8)},
		{append(slices.Repeat([]int{2}, 9), 64), api.ErrFull, slices.Repeat([]int{2}, 8)},
		{append(slices.Repeat([]int{2}, 8), 64, 2), api.ErrRange, slices.Repeat([]int{2}, 8)},
		{[]int{0, 63, 64, 62}, api.ErrRange, []int{0, 63}},
	} {
		p := newPair(t)
		p.enter(full...)
		wantEnter(t, p.s, x.want, x.l...)
		if e := p.b.enter(x.in...); e != api.OK {
			t.Fatal(e)
		}
		p.look()
	}
}

// TestEnterLeavesNothingOfAnError: who wasn't entered begins no section, so that the next one has the stamp that it would have had.
func TestEnterLeavesNothingOfAnError(t *testing.T) {
	var s sect.Sections
	wantEnter(t, &s, api.ErrRange, 64, 1)
	wantStamp(t, &s, 0)
	wantEnter(t, &s, api.ErrRange, 2, -1, 1)
	wantStamp(t, &s, 1)
	wantEnter(t, &s, api.OK, 1)
	wantReader(t, &s, 1, 1, 2)
	wantEnter(t, &s, api.ErrFull, slices.Repeat([]int{3}, 20)...)
	wantStamp(t, &s, 3)
	wantEnter(t, &s, api.ErrFull, 3, 4)
	wantStamp(t, &s, 3)
	wantReader(t, &s, 3, 8, 3)
	wantIn(t, &s, 1, 2, 3)
}

func TestExit(t *testing.T) {
	for _, r := range []int{0, 1, 31, 32, 62, 63} {
		for deep := 1; deep <= 8; deep++ {
			var s sect.Sections
			wantExit(t, &s, r, false, api.ErrState) // it is outside, and was never inside
			wantEnter(t, &s, api.OK, slices.Repeat([]int{r}, deep)...)
			wantEnter(t, &s, api.OK, 63-r) // another one, who stays
			for left := deep - 1; left > 0; left-- {
				wantExit(t, &s, r, false, api.OK)
				wantReader(t, &s, r, left, 1)
				wantIn(t, &s, r, 63-r)
			}
			wantExit(t, &s, r, true, api.OK)
			wantReader(t, &s, r, 0, 0)
			wantIn(t, &s, 63-r)
			for range 3 { // it has left already
				wantExit(t, &s, r, false, api.ErrState)
				wantReader(t, &s, r, 0, 0)
			}
			wantReader(t, &s, 63-r, 1, 2)
			wantStamp(t, &s, 2)
			wantEnter(t, &s, api.OK, r)
			wantReader(t, &s, r, 1, 3)
			wantExit(t, &s, r, true, api.OK)
		}
	}
}

func TestExitOfNoReader(t *testing.T) {
	p := newPair(t)
	for range 2 {
		for _, r := range noReaders() {
			wantExit(t, p.s, r, false, api.ErrRange)
			p.exit(r)
		}
		p.enter(all()...)
	}
}

// P9.2

func TestTellsOfReaders(t *testing.T) {
	var s sect.Sections
	for _, r := range append(all(), noReaders()...) {
		wantReader(t, &s, r, 0, 0)
	}
	wantEnter(t, &s, api.OK, 5, 0, 63, 5, 5, 0)
	wantReader(t, &s, 5, 3, 1)
	wantReader(t, &s, 0, 2, 2)
	wantReader(t, &s, 63, 1, 3)
	wantReader(t, &s, 1, 0, 0)
	wantReader(t, &s, 62, 0, 0)
	wantExit(t, &s, 5, false, api.OK)
	wantReader(t, &s, 5, 2, 1)
	wantExit(t, &s, 63, true, api.OK)
	wantReader(t, &s, 63, 0, 0)
	for _, r := range noReaders() {
		wantReader(t, &s, r, 0, 0)
	}
}

// TestSinceStays: while it goes deeper and out again, and others begin and end theirs.
func TestSinceStays(t *testing.T) {
	var s sect.Sections
	wantEnter(t, &s, api.OK, 1, 2, 3)
	wantEnter(t, &s, api.OK, 9)
	began := 4
	for range 5 {
		for deep := 2; deep <= 8; deep++ {
			wantEnter(t, &s, api.OK, 9)
			wantReader(t, &s, 9, deep, 4)
			wantEnter(t, &s, api.OK, 10)
			began++
			wantReader(t, &s, 9, deep, 4)
			wantReader(t, &s, 10, 1, began)
			wantExit(t, &s, 10, true, api.OK)
		}
		wantEnter(t, &s, api.ErrFull, 9)
		wantReader(t, &s, 9, 8, 4)
		for deep := 7; deep >= 1; deep-- {
			wantExit(t, &s, 9, false, api.OK)
			wantReader(t, &s, 9, deep, 4)
		}
	}
	wantStamp(t, &s, began)
	wantExit(t, &s, 9, true, api.OK)
	wantReader(t, &s, 9, 0, 0)
}

// TestStampGrows: by one with each section that begins, and by nothing else.
func TestStampGrows(t *testing.T) {
	var s sect.Sections
	wantStamp(t, &s, 0)
	for _, x := range []struct {
		l    []int
		e    api.Errno
		want int
	}{
		{nil, api.OK, 0},
		{[]int{7}, api.OK, 1},
		{[]int{7}, api.OK, 1}, // nested
		{[]int{7, 7, 7}, api.OK, 1},
		{[]int{8, 7, 8}, api.OK, 2},
		{[]int{1, 2, 3}, api.OK, 5},
		{[]int{64}, api.ErrRange, 5},
		{[]int{-1, 40}, api.ErrRange, 5},
		{[]int{40, -1, 41}, api.ErrRange, 6},
		{[]int{7, 7, 7}, api.ErrFull, 6}, // it was 6 deep
		{[]int{7, 42}, api.ErrFull, 6},
		{[]int{42, 7, 43}, api.ErrFull, 7},
		{[]int{0, 63}, api.OK, 9},
	} {
		wantEnter(t, &s, x.e, x.l...)
		wantStamp(t, &s, x.want)
	}
	for _, r := range []int{7, 7, 8, 8, 1, 0, 63, 63, 64, -1} {
		s.Exit(r)
		wantStamp(t, &s, 9)
	}
	s.In()
	s.Open(3)
	s.Since(7)
	s.Depth(7)
	wantStamp(t, &s, 9)
	for i := range 1000 {
		wantEnter(t, &s, api.OK, 50)
		wantStamp(t, &s, 10+i)
		wantReader(t, &s, 50, 1, 10+i)
		wantExit(t, &s, 50, true, api.OK)
	}
}

func TestIn(t *testing.T) {
	var s sect.Sections
	wantIn(t, &s)
	wantEnter(t, &s, api.OK, 0)
	wantIn(t, &s, 0)
	wantEnter(t, &s, api.OK, 63)
	wantIn(t, &s, 0, 63)
	wantEnter(t, &s, api.OK, 0, 63)
	wantIn(t, &s, 0, 63)
	wantExit(t, &s, 0, false, api.OK)
	wantIn(t, &s, 0, 63)
	wantExit(t, &s, 0, true, api.OK)
	wantIn(t, &s, 63)
	wantEnter(t, &s, api.ErrRange, 64, 5)
	wantIn(t, &s, 63)
	wantEnter(t, &s, api.OK, all()...)
	wantIn(t, &s, all()...)
	for r := range 63 {
		wantExit(t, &s, r, true, api.OK)
	}
	wantIn(t, &s, 63)
	wantExit(t, &s, 63, false, api.OK) // it was 3 deep
	wantExit(t, &s, 63, false, api.OK)
	wantExit(t, &s, 63, true, api.OK)
	wantIn(t, &s)
}

func TestOpen(t *testing.T) {
	var s sect.Sections
	for _, stamp := range someStamps() {
		wantOpen(t, &s, stamp)
	}
	wantEnter(t, &s, api.OK, 40, 0, 7, 63) // 1, 2, 3, 4
	wantEnter(t, &s, api.OK, 40, 7)        // nested
	wantExit(t, &s, 0, true, api.OK)
	wantEnter(t, &s, api.OK, 0) // 5
	for _, x := range []struct {
		stamp int
		want  []int
	}{
		{math.MinInt, nil},
		{-1, nil},
		{0, nil},
		{1, []int{40}},
		{2, []int{40}},
		{3, []int{7, 40}},
		{4, []int{7, 40, 63}},
		{5, []int{0, 7, 40, 63}},
		{6, []int{0, 7, 40, 63}},
		{1 << 32, []int{0, 7, 40, 63}},
		{math.MaxInt, []int{0, 7, 40, 63}},
	} {
		wantOpen(t, &s, x.stamp, x.want...)
	}
	wantExit(t, &s, 7, false, api.OK)
	wantOpen(t, &s, 2, 40)
	wantOpen(t, &s, 3, 7, 40)
	wantExit(t, &s, 7, true, api.OK)
	wantOpen(t, &s, 3, 40)
	wantOpen(t, &s, math.MaxInt, 0, 40, 63)
}

// TestOpenOfAll: just those whose stamps are reached, when all are inside, in whatever order they came.
func TestOpenOfAll(t *testing.T) {
	for _, turn := range []int{1, 5, 63} {
		var s sect.Sections
		var order []int
		for i := range 64 {
			order = append(order, (i+1)*turn%64)
		}
		wantEnter(t, &s, api.OK, order...)
		for stamp := range 65 {
			wantOpen(t, &s, stamp, order[:stamp]...)
		}
		wantOpen(t, &s, 65, order...)
		wantOpen(t, &s, s.Stamp(), order...)
	}
}

// P9.3

// TestStaysOpenTillItEnds: whatever other readers do.
func TestStaysOpenTillItEnds(t *testing.T) {
	for _, r := range []int{0, 5, 63} {
		var s sect.Sections
		next := numbers(uint64(r))
		wantEnter(t, &s, api.OK, (r+1)%64, (r+2)%64)
		wantEnter(t, &s, api.OK, r, r)
		for range 3000 {
			other := (r + 1 + int(next(63))) % 64
			if next(2) == 0 {
				s.Enter(other, other)
			} else {
				s.Exit(other)
			}
			if !s.Open(3).Has(r) || s.Open(2).Has(r) || !s.In().Has(r) || s.Since(r) != 3 {
				t.Fatalf("%d is since %d in %v", r, s.Since(r), s.In().List())
			}
		}
		wantExit(t, &s, r, false, api.OK)
		if !s.Open(3).Has(r) {
			t.Error("it is left but once")
		}
		wantExit(t, &s, r, true, api.OK)
		if s.Open(math.MaxInt).Has(r) {
			t.Error("it has ended")
		}
	}
}

// TestEntersAgain: in another section, of a greater stamp, even if nobody else was there in between; so it isn't open at the stamp of the one before.
func TestEntersAgain(t *testing.T) {
	next := numbers(3)
	for _, r := range []int{0, 9, 63} {
		var s sect.Sections
		was := 0
		for range 300 {
			for range next(3) {
				s.Enter((r + 1 + int(next(63))) % 64)
			}
			shown := s.Stamp()
			deep := int(1 + next(8))
			wantEnter(t, &s, api.OK, slices.Repeat([]int{r}, deep)...)
			since := s.Since(r)
			if since <= was || since != shown+1 {
				t.Fatalf("%d: since %d, behind %d at %d", r, since, was, shown)
			}
			if s.Open(was).Has(r) || s.Open(shown).Has(r) || !s.Open(since).Has(r) {
				t.Fatalf("%d: open at %v", r, s.Open(was).List())
			}
			for range deep {
				s.Exit(r)
			}
			if s.Open(since).Has(r) || s.Since(r) != 0 {
				t.Fatalf("%d: open still", r)
			}
			was = since
		}
	}
}

// TestLikeTheBook does many things one behind the other, of few readers and of all.
func TestLikeTheBook(t *testing.T) {
	for _, readers := range []uint64{1, 3, 66} {
		p := newPair(t)
		next := numbers(readers)
		for range 600 {
			r := int(next(readers+2)) - 1
			switch next(5) {
			case 0, 1:
				p.enter(r)
			case 2:
				var l []int
				for range next(6) {
					l = append(l, int(next(readers+1)))
				}
				p.enter(l...)
			default:
				p.exit(r)
			}
		}
	}
}

func TestZero(t *testing.T) {
	var s sect.Sections
	wantIn(t, &s)
	wantOpen(t, &s, math.MaxInt)
	wantStamp(t, &s, 0)
	for _, r := range append(all(), noReaders()...) {
		wantReader(t, &s, r, 0, 0)
	}
	wantExit(t, &s, 0, false, api.ErrState)
	wantExit(t, &s, 64, false, api.ErrRange)
	wantEnter(t, &s, api.OK, 3)
	wantReader(t, &s, 3, 1, 1)
}

func TestNil(t *testing.T) {
	var s *sect.Sections
	wantEnter(t, s, api.ErrState)
	wantEnter(t, s, api.ErrState, all()...)
	for _, r := range append(all(), noReaders()...) {
		wantEnter(t, s, api.ErrState, r)
		wantExit(t, s, r, false, api.ErrState)
		wantReader(t, s, r, 0, 0)
	}
	for _, stamp := range someStamps() {
		wantOpen(t, s, stamp)
	}
	wantIn(t, s)
	wantStamp(t, s, 0)
}

// The rules of all layers: nothing handed in is kept or changed, and sections change themselves alone.

func TestListsAreLeftAsTheyAre(t *testing.T) {
	p := newPair(t)
	l := []int{7, 3, 7, 63, 0, 64, 5}
	was := slices.Clone(l)
	p.enter(l...)
	if !slices.Equal(l, was) {
		t.Error(l)
	}
	clear(l)
	p.look()
}

func TestSectionsAreApart(t *testing.T) {
	a, b := newPair(t), newPair(t)
	a.enter(3, 4, 3)
	b.look()
	b.enter(4)
	a.look()
	a.exit(4)
	b.look()
	b.exit(4)
	a.look()
}

// TestCopyIsApart: sections are a value, of which a copy has all.
func TestCopyIsApart(t *testing.T) {
	p := newPair(t)
	p.enter(3, 4, 3)
	c := *p.s
	wantEnter(t, &c, api.OK, 3, 5)
	wantExit(t, &c, 4, true, api.OK)
	p.look()
	wantReader(t, &c, 3, 3, 1)
	wantReader(t, &c, 5, 1, 3)
	wantIn(t, &c, 3, 5)
	p.exit(3)
	p.exit(3)
	wantReader(t, &c, 3, 3, 1)
}

// P2

func TestSameAgain(t *testing.T) {
	run := func() []int {
		next := numbers(29)
		var s sect.Sections
		var l []int
		for range 3000 {
			e := s.Enter(int(next(66))-1, int(next(64)))
			r := int(next(64))
			_, wrong := s.Exit(r)
			l = append(l, int(e), int(wrong), s.Depth(r), s.Since(r), int(s.In()), int(s.Open(int(next(3000)))), s.Stamp())
		}
		return l
	}
	if !slices.Equal(run(), run()) {
		t.Error("another time, other answers")
	}
}

func TestExamples(t *testing.T) {
	var s sect.Sections
	wantEnter(t, &s, api.OK, 4, 4)
	wantEnter(t, &s, api.OK, 9)
	wantReader(t, &s, 4, 2, 1)
	wantReader(t, &s, 9, 1, 2)
	wantOpen(t, &s, 1, 4)
	wantExit(t, &s, 4, false, api.OK)
	wantExit(t, &s, 4, true, api.OK)
	wantEnter(t, &s, api.OK, 4)
	wantReader(t, &s, 4, 1, 3)
	wantOpen(t, &s, 2, 9)
}
