package clock_test

import (
	"math"
	"math/big"
	"slices"
	"testing"

	"detent/api"
	"detent/clock"
)

// last is the last tick, told otherwise than the package does it.
const last = math.MaxUint64

// line is a tick on a line that has no end: there no sum is ever cut. What the package answers is held against sums on that line.
func line(tick uint64) *big.Int {
	return new(big.Int).SetUint64(tick)
}

func sum(l ...uint64) *big.Int {
	x := new(big.Int)
	for _, tick := range l {
		x.Add(x, line(tick))
	}
	return x
}

// cut is the tick for a place on the line, and whether the place is one of a tick.
func cut(x *big.Int) (uint64, bool) {
	if x.Cmp(line(last)) > 0 {
		return last, false
	}
	return x.Uint64(), true
}

func greater(a, b *big.Int) *big.Int {
	if a.Cmp(b) > 0 {
		return a
	}
	return b
}

func lesser(a, b *big.Int) *big.Int {
	if a.Cmp(b) < 0 {
		return a
	}
	return b
}

func wantLeft(now, at uint64) uint64 {
	x := new(big.Int).Sub(line(at), line(now))
	if x.Sign() < 0 {
		return 0
	}
	return x.Uint64()
}

func wantDeadline(now, d uint64, abs bool) (uint64, api.Errno) {
	if now == last {
		return 0, api.ErrClock
	}
	at := sum(now, d)
	if abs {
		at = greater(line(d), line(now))
	}
	if at.Cmp(line(last)) >= 0 {
		return 0, api.ErrClock
	}
	return at.Uint64(), api.OK
}

func wantClamp(from, at, horizon uint64) uint64 {
	least := lesser(sum(from, 1), line(last))
	most := lesser(sum(from, horizon), line(last))
	return lesser(greater(line(at), least), most).Uint64()
}

func wantDue(now uint64, l ...uint64) int {
	n := 0
	for _, at := range l {
		if line(at).Cmp(line(now)) <= 0 {
			n++
		}
	}
	return n
}

// pair is a clock beside the sum of all it was told, uncut: each of its methods does the same with both, and tells if they part.
type pair struct {
	t   *testing.T
	c   *clock.Clock
	sum *big.Int
}

func newPair(t *testing.T, now uint64) *pair {
	t.Helper()
	c := clock.At(now)
	if c == nil {
		t.Fatalf("At(%d): nil", now)
	}
	p := &pair{t: t, c: c, sum: line(now)}
	p.look()
	return p
}

func (p *pair) step(l ...uint64) {
	p.t.Helper()
	before := p.c.Now()
	p.sum.Add(p.sum, sum(l...))
	want, _ := cut(p.sum)
	if now := p.c.Step(l...); now != want {
		p.t.Fatalf("at %d: Step(%d): %d, not %d", before, l, now, want)
	}
	p.look()
}

// look holds all that the clock tells against the sum.
func (p *pair) look() {
	p.t.Helper()
	now, _ := cut(p.sum)
	if p.c.Now() != now || p.c.Stopped() != (now == last) {
		p.t.Fatalf("Now: %d, %v, not %d", p.c.Now(), p.c.Stopped(), now)
	}
	l := append(around(now), 0, 1, 1<<63, last-1, last)
	for _, at := range l {
		if n := p.c.Due(at); n != wantDue(now, at) {
			p.t.Fatalf("at %d: Due(%d): %d", now, at, n)
		}
	}
	if n := p.c.Due(l...); n != wantDue(now, l...) {
		p.t.Fatalf("at %d: Due(%d): %d, not %d", now, l, n, wantDue(now, l...))
	}
}

// someTicks are the ticks of most tests: the first ones, those at which a shorter number would end, and the last ones.
func someTicks() []uint64 {
	return []uint64{
		0, 1, 2, 3, 7, 10, 63, 64, 100, 255, 256,
		1<<31 - 1, 1 << 31, 1<<32 - 1, 1 << 32, 1<<32 + 1, 1 << 53, 1<<53 + 1,
		1 << 62, 1<<63 - 1, 1 << 63, 1<<63 + 1,
		last - 1<<32, last - 256, last - 100, last - 64, last - 10, last - 3, last - 2, last - 1, last,
	}
}

// around are a tick and those next to it, as far as there are such.
func around(tick uint64) []uint64 {
	l := []uint64{tick}
	if tick > 0 {
		l = append(l, tick-1)
	}
	if tick < last {
		l = append(l, tick+1)
	}
	return l
}

// numbers gives numbers that look like chance, and are the same each time: some short, some long.
func numbers(seed uint64) func() uint64 {
	x := seed
	next := func() uint64 {
		x = x*6364136223846793005 + 1442695040888963407
		return x ^ x>>29
	}
	return func() uint64 {
		short := next() >> 33 % 64
		n := next() >> short
		if next()>>40%4 == 0 {
			return last - n
		}
		return n
	}
}

func TestLimits(t *testing.T) {
	if m, is := any(clock.Max).(uint64); !is || m != 18446744073709551615 {
		t.Error(m, is)
	}
}

// P5.1

func TestAdd(t *testing.T) {
	for _, x := range []struct {
		now, d, sum uint64
		whole       bool
	}{
		{0, 0, 0, true},
		{0, 1, 1, true},
		{7, 3, 10, true},
		{7, 0, 7, true},
		{1<<32 - 1, 1, 1 << 32, true},
		{1 << 63, 1<<63 - 2, last - 1, true},
		{1 << 63, 1<<63 - 1, last, true},
		{1 << 63, 1 << 63, last, false},
		{1 << 63, 1<<63 + 1, last, false},
		{last - 2, 1, last - 1, true},
		{last - 2, 2, last, true},
		{last - 2, 3, last, false},
		{last - 1, 0, last - 1, true},
		{last - 1, 1, last, true},
		{last - 1, 2, last, false},
		{last - 1, 5, last, false},
		{last - 1, last, last, false},
		{last, 0, last, true},
		{last, 1, last, false},
		{last, last, last, false},
		{0, last - 1, last - 1, true},
		{0, last, last, true},
		{1, last, last, false},
	} {
		if s, whole := clock.Add(x.now, x.d); s != x.sum || whole != x.whole {
			t.Errorf("Add(%d, %d): %d, %v", x.now, x.d, s, whole)
		}
	}
}

// TestAddUpToTheLast: of each tick the sum just below the last, the last itself, and those above it.
func TestAddUpToTheLast(t *testing.T) {
	for _, now := range someTicks() {
		for _, d := range append(around(last-now), someTicks()...) {
			want, whole := cut(sum(now, d))
			if s, is := clock.Add(now, d); s != want || is != whole {
				t.Errorf("Add(%d, %d): %d, %v, not %d, %v", now, d, s, is, want, whole)
			}
		}
	}
}

func TestLeft(t *testing.T) {
	for _, x := range []struct{ now, at, left uint64 }{
		{0, 0, 0},
		{0, 1, 1},
		{1, 0, 0},
		{7, 10, 3},
		{7, 8, 1},
		{7, 7, 0},
		{7, 6, 0},
		{7, 0, 0},
		{10, 7, 0},
		{0, last, last},
		{1, last, last - 1},
		{1 << 63, last, 1<<63 - 1},
		{last - 1, last, 1},
		{last, last, 0},
		{last, last - 1, 0},
		{last, 1, 0},
		{last, 0, 0},
	} {
		if n := clock.Left(x.now, x.at); n != x.left {
			t.Errorf("Left(%d, %d): %d", x.now, x.at, n)
		}
	}
	for _, now := range someTicks() {
		for _, at := range append(around(now), someTicks()...) {
			if n := clock.Left(now, at); n != wantLeft(now, at) {
				t.Errorf("Left(%d, %d): %d, not %d", now, at, n, wantLeft(now, at))
			}
		}
	}
}

func TestDeadline(t *testing.T) {
	for _, x := range []struct {
		now, d uint64
		abs    bool
		at     uint64
		wrong  api.Errno
	}{
		{7, 3, false, 10, api.OK},
		{7, 0, false, 7, api.OK},
		{7, 6, false, 13, api.OK},
		{7, 7, false, 14, api.OK},
		{7, 8, false, 15, api.OK},
		{0, 0, false, 0, api.OK},
		{0, 5, false, 5, api.OK},
		{0, last - 1, false, last - 1, api.OK},
		{0, last, false, 0, api.ErrClock},
		{7, last - 8, false, last - 1, api.OK},
		{7, last - 7, false, 0, api.ErrClock},
		{7, last - 6, false, 0, api.ErrClock},
		{7, last, false, 0, api.ErrClock},
		{1 << 63, 1<<63 - 2, false, last - 1, api.OK},
		{1 << 63, 1<<63 - 1, false, 0, api.ErrClock},
		{1 << 63, 1 << 63, false, 0, api.ErrClock},
		{last - 1, 0, false, last - 1, api.OK},
		{last - 1, 1, false, 0, api.ErrClock},
		{last - 1, 2, false, 0, api.ErrClock},
		{last - 1, last, false, 0, api.ErrClock},
		{last, 0, false, 0, api.ErrClock},
		{last, 1, false, 0, api.ErrClock},
		{last, last, false, 0, api.ErrClock},

		{7, 3, true, 7, api.OK},
		{7, 0, true, 7, api.OK},
		{7, 6, true, 7, api.OK},
		{7, 7, true, 7, api.OK},
		{7, 8, true, 8, api.OK},
		{7, 100, true, 100, api.OK},
		{0, 0, true, 0, api.OK},
		{0, 1, true, 1, api.OK},
		{7, last - 1, true, last - 1, api.OK},
		{7, last, true, 0, api.ErrClock},
		{last - 1, 0, true, last - 1, api.OK},
		{last - 1, last - 2, true, last - 1, api.OK},
		{last - 1, last - 1, true, last - 1, api.OK},
		{last - 1, last, true, 0, api.ErrClock},
		{last, 0, true, 0, api.ErrClock},
		{last, 7, true, 0, api.ErrClock},
		{last, last, true, 0, api.ErrClock},
	} {
		if at, e := clock.Deadline(x.now, x.d, x.abs); at != x.at || e != x.wrong {
			t.Errorf("Deadline(%d, %d, %v): %d, %d", x.now, x.d, x.abs, at, e)
		}
	}
}

// TestDeadlineOfSomeTicks: among them of 0, of less than now, of now and of more, and of sums just below the last tick, of it and above it.
func TestDeadlineOfSomeTicks(t *testing.T) {
	for _, abs := range []bool{false, true} {
		for _, now := range someTicks() {
			l := append(around(now), around(last-now)...)
			for _, d := range append(l, someTicks()...) {
				want, wrong := wantDeadline(now, d, abs)
				if at, e := clock.Deadline(now, d, abs); at != want || e != wrong {
					t.Errorf("Deadline(%d, %d, %v): %d, %d, not %d, %d", now, d, abs, at, e, want, wrong)
				}
			}
		}
	}
}

// TestDeadlineIsLeft: a deadline is never behind now, and what was told as a number of ticks is left of it.
func TestDeadlineIsLeft(t *testing.T) {
	for _, now := range someTicks() {
		for _, d := range someTicks() {
			if at, e := clock.Deadline(now, d, false); e == api.OK && (at < now || clock.Left(now, at) != d) {
				t.Errorf("Deadline(%d, %d, false): %d", now, d, at)
			}
			if at, e := clock.Deadline(now, d, true); e == api.OK && (at < now || clock.Left(now, at) != clock.Left(now, d)) {
				t.Errorf("Deadline(%d, %d, true): %d", now, d, at)
			}
		}
	}
}

func TestClamp(t *testing.T) {
	for _, x := range []struct{ from, at, horizon, want uint64 }{
		{10, 3, 100, 11},
		{10, 0, 100, 11},
		{10, 9, 100, 11},
		{10, 10, 100, 11},
		{10, 11, 100, 11},
		{10, 12, 100, 12},
		{10, 50, 100, 50},
		{10, 109, 100, 109},
		{10, 110, 100, 110},
		{10, 111, 100, 110},
		{10, 500, 100, 110},
		{10, last, 100, 110},

		{10, 500, 0, 10},
		{10, 0, 0, 10},
		{10, 10, 0, 10},
		{10, 11, 0, 10},
		{0, 0, 0, 0},
		{0, last, 0, 0},
		{last, 0, 0, last},
		{last - 1, last, 0, last - 1},

		{10, 3, 1, 11},
		{10, 11, 1, 11},
		{10, 12, 1, 11},
		{0, 0, 1, 1},
		{0, 0, 2, 1},

		{last - 5, 0, 5, last - 4},
		{last - 5, last - 1, 5, last - 1},
		{last - 5, last, 5, last},
		{last - 5, last, 4, last - 1},
		{last - 5, last, 6, last},
		{last - 5, last - 2, 100, last - 2},
		{last - 5, 3, last, last - 4},
		{last - 1, 0, 1, last},
		{last - 1, 0, 100, last},
		{last - 1, last - 1, last, last},
		{last, 0, 1, last},
		{last, 0, last, last},
		{last, last, 100, last},
		{10, last, last, last},
		{0, 5, last, 5},
		{0, last, last - 1, last - 1},
		{1, last, last - 1, last},
	} {
		if at := clock.Clamp(x.from, x.at, x.horizon); at != x.want {
			t.Errorf("Clamp(%d, %d, %d): %d, not %d", x.from, x.at, x.horizon, at, x.want)
		}
	}
}

// TestClampOfSomeTicks: among them those next to the least and to the greatest that there may be, and horizons that just reach the last tick.
func TestClampOfSomeTicks(t *testing.T) {
	for _, from := range someTicks() {
		for _, horizon := range append(around(last-from), someTicks()...) {
			most, _ := cut(sum(from, horizon))
			l := append(around(from), around(most)...)
			for _, at := range append(l, someTicks()...) {
				want := wantClamp(from, at, horizon)
				if got := clock.Clamp(from, at, horizon); got != want {
					t.Errorf("Clamp(%d, %d, %d): %d, not %d", from, at, horizon, got, want)
				}
			}
		}
	}
}

func TestLongSums(t *testing.T) {
	next := numbers(5)
	for range 20000 {
		a, b, c := next(), next(), next()
		want, whole := cut(sum(a, b))
		if s, is := clock.Add(a, b); s != want || is != whole {
			t.Fatalf("Add(%d, %d): %d, %v", a, b, s, is)
		}
		if n := clock.Left(a, b); n != wantLeft(a, b) {
			t.Fatalf("Left(%d, %d): %d", a, b, n)
		}
		for _, abs := range []bool{false, true} {
			want, wrong := wantDeadline(a, b, abs)
			if at, e := clock.Deadline(a, b, abs); at != want || e != wrong {
				t.Fatalf("Deadline(%d, %d, %v): %d, %d", a, b, abs, at, e)
			}
		}
		if at := clock.Clamp(a, b, c); at != wantClamp(a, b, c) {
			t.Fatalf("Clamp(%d, %d, %d): %d", a, b, c, at)
		}
	}
}

// P5.2

func TestAt(t *testing.T) {
	for _, now := range someTicks() {
		newPair(t, now)
		c := clock.At(now)
		for range 3 {
			if c.Now() != now || c.Stopped() != (now == last) {
				t.Errorf("At(%d): %d, %v", now, c.Now(), c.Stopped())
			}
		}
	}
}

func TestStep(t *testing.T) {
	for _, x := range []struct {
		now     uint64
		l       []uint64
		want    uint64
		stopped bool
	}{
		{0, nil, 0, false},
		{0, []uint64{}, 0, false},
		{7, nil, 7, false},
		{last, nil, last, true},
		{0, []uint64{0}, 0, false},
		{0, []uint64{1}, 1, false},
		{7, []uint64{3}, 10, false},
		{7, []uint64{3, 0, 5}, 15, false},
		{7, []uint64{1, 1, 1, 1}, 11, false},
		{last - 3, []uint64{2}, last - 1, false},
		{last - 3, []uint64{3}, last, true},
		{last - 3, []uint64{4}, last, true},
		{last - 3, []uint64{1, 1}, last - 1, false},
		{last - 3, []uint64{1, 2}, last, true},
		{last - 3, []uint64{2, 2}, last, true},
		{last - 3, []uint64{4, 1, 0, 7}, last, true},
		{last - 3, []uint64{last, last}, last, true},
		{1 << 63, []uint64{1 << 63, 1 << 63}, last, true},
		{0, []uint64{last}, last, true},
		{0, []uint64{last - 1}, last - 1, false},
		{0, []uint64{last - 1, 1}, last, true},
		{0, []uint64{1, last}, last, true},
		{last, []uint64{0}, last, true},
		{last, []uint64{1}, last, true},
		{last, []uint64{last}, last, true},
		{last, []uint64{1, last, 5}, last, true},
	} {
		c := clock.At(x.now)
		if now := c.Step(x.l...); now != x.want || c.Now() != x.want || c.Stopped() != x.stopped {
			t.Errorf("at %d: Step(%d): %d, then %d, %v", x.now, x.l, now, c.Now(), c.Stopped())
		}
	}
}

func TestStepUpToTheLast(t *testing.T) {
	for _, now := range someTicks() {
		for _, d := range append(around(last-now), someTicks()...) {
			p := newPair(t, now)
			p.step(d)
			p.step()
			p.step(0)
			p.step(1, d, 2)
		}
	}
}

// TestStepOneBehindTheOther: what is told at once comes to the same as what is told one by one.
func TestStepOneBehindTheOther(t *testing.T) {
	for _, l := range [][]uint64{nil, {0}, {5}, {5, 6, 7}, {last, 1}, {last - 1, 1, 1}, {1 << 63, 1 << 62, 1 << 62, 1}, slices.Repeat([]uint64{3}, 1000)} {
		for _, now := range someTicks() {
			p, q := newPair(t, now), newPair(t, now)
			p.step(l...)
			for _, d := range l {
				q.step(d)
			}
			if p.c.Now() != q.c.Now() {
				t.Errorf("at %d: Step(%d): %d, not %d", now, l, p.c.Now(), q.c.Now())
			}
		}
	}
}

func TestStopped(t *testing.T) {
	for _, now := range someTicks() {
		if c := clock.At(now); c.Stopped() != (now == 18446744073709551615) {
			t.Errorf("at %d: %v", now, c.Stopped())
		}
	}
	c := clock.At(last - 1)
	if c.Stopped() {
		t.Error("stopped ahead of the last tick")
	}
	for range 3 {
		if c.Step(1); !c.Stopped() || c.Now() != last {
			t.Error(c.Now(), c.Stopped())
		}
	}
}

func TestDue(t *testing.T) {
	for _, x := range []struct {
		now uint64
		l   []uint64
		n   int
	}{
		{0, nil, 0},
		{0, []uint64{}, 0},
		{7, nil, 0},
		{last, nil, 0},
		{0, []uint64{0}, 1},
		{0, []uint64{1}, 0},
		{0, []uint64{last}, 0},
		{7, []uint64{6}, 1},
		{7, []uint64{7}, 1},
		{7, []uint64{8}, 0},
		{7, []uint64{0}, 1},
		{7, []uint64{6, 7, 8}, 2},
		{7, []uint64{8, 7, 6, 9, 0}, 3},
		{7, []uint64{8, 9, last}, 0},
		{7, []uint64{7, 7, 7, 7}, 4},
		{7, []uint64{8, 8, 7, 8}, 1},
		{1 << 63, []uint64{1<<63 - 1, 1 << 63, 1<<63 + 1, 0, last}, 3},
		{last - 1, []uint64{last - 2, last - 1, last}, 2},
		{last, []uint64{0, 1, last - 1, last, last}, 5},
	} {
		if n := clock.At(x.now).Due(x.l...); n != x.n {
			t.Errorf("at %d: Due(%d): %d, not %d", x.now, x.l, n, x.n)
		}
	}
	for _, now := range someTicks() {
		c := clock.At(now)
		for _, l := range [][]uint64{someTicks(), around(now), slices.Repeat([]uint64{now}, 3000)} {
			if n := c.Due(l...); n != wantDue(now, l...) {
				t.Errorf("at %d: Due(%d): %d, not %d", now, l, n, wantDue(now, l...))
			}
		}
	}
}

// TestDueBehindSteps: what is due hangs on what the clock shows now, not on where it began.
func TestDueBehindSteps(t *testing.T) {
	c := clock.At(5)
	l := []uint64{4, 5, 6, 9, 10, 11, last}
	for _, x := range []struct {
		d uint64
		n int
	}{{0, 2}, {1, 3}, {3, 4}, {1, 5}, {1, 6}, {1 << 62, 6}, {last, 7}, {1, 7}} {
		c.Step(x.d)
		if n := c.Due(l...); n != x.n {
			t.Errorf("at %d: Due(%d): %d, not %d", c.Now(), l, n, x.n)
		}
	}
}

// TestAskingChangesNothing: a clock goes on by Step alone.
func TestAskingChangesNothing(t *testing.T) {
	for _, now := range someTicks() {
		c := clock.At(now)
		for range 3 {
			c.Due(someTicks()...)
			c.Stopped()
			c.Step()
			c.Step(0, 0)
			if c.Now() != now {
				t.Errorf("at %d: then %d", now, c.Now())
			}
		}
	}
}

func TestClocksAreApart(t *testing.T) {
	a, b := clock.At(5), clock.At(5)
	if a == b {
		t.Fatal("one clock for two")
	}
	a.Step(3)
	if a.Now() != 8 || b.Now() != 5 || b.Due(6) != 0 || a.Due(6) != 1 {
		t.Error(a.Now(), b.Now())
	}
	b.Step(last)
	if a.Now() != 8 || a.Stopped() || !b.Stopped() || clock.At(5).Now() != 5 {
		t.Error(a.Now(), b.Now())
	}
}

func TestListsAreLeftAsTheyAre(t *testing.T) {
	c := clock.At(5)
	l := []uint64{9, 2, last, 2}
	if n := c.Due(l...); n != 2 || !slices.Equal(l, []uint64{9, 2, last, 2}) {
		t.Error(n, l)
	}
	steps := []uint64{4, 1, 3}
	if now := c.Step(steps...); now != 13 || !slices.Equal(steps, []uint64{4, 1, 3}) {
		t.Error(now, steps)
	}
	steps[0], l[0] = 100, 0
	if c.Now() != 13 || c.Due(13, 14) != 1 {
		t.Error(c.Now())
	}
}

// P5.3

func TestNeverGoesBack(t *testing.T) {
	next := numbers(7)
	for range 200 {
		p := newPair(t, next())
		for range 60 {
			before := p.c.Now()
			if next()%3 == 0 {
				p.step(next(), next()>>1, next()>>40)
			} else {
				p.step(next() >> 8)
			}
			if p.c.Now() < before {
				t.Fatalf("from %d back to %d", before, p.c.Now())
			}
		}
	}
}

// TestOnceStopped: at the last tick a clock stays, whatever it is told.
func TestOnceStopped(t *testing.T) {
	p := newPair(t, last)
	for _, d := range someTicks() {
		p.step(d)
		p.step(d, d, 1)
		if p.c.Now() != last || !p.c.Stopped() {
			t.Fatalf("Step(%d): %d", d, p.c.Now())
		}
	}
}

func TestOnceDue(t *testing.T) {
	next := numbers(11)
	for range 100 {
		c := clock.At(next() >> 4)
		l := append(someTicks(), next(), next(), next(), c.Now())
		was := make([]int, len(l))
		all := 0
		for range 40 {
			for i, at := range l {
				is := c.Due(at)
				if is < was[i] || is > 1 {
					t.Fatalf("at %d: Due(%d): %d, was %d", c.Now(), at, is, was[i])
				}
				was[i] = is
			}
			n := c.Due(l...)
			if n < all {
				t.Fatalf("at %d: Due(%d): %d, were %d", c.Now(), l, n, all)
			}
			all = n
			c.Step(next() >> 6)
		}
	}
}

// TestDueAtItsDeadline: what has a deadline is due when the clock has gone on by what was left, and not one tick sooner.
func TestDueAtItsDeadline(t *testing.T) {
	for _, now := range someTicks() {
		for _, d := range someTicks() {
			for _, abs := range []bool{false, true} {
				at, e := clock.Deadline(now, d, abs)
				if e != api.OK {
					continue
				}
				c := clock.At(now)
				if left := clock.Left(c.Now(), at); left > 0 {
					if c.Step(left - 1); c.Due(at) != 0 {
						t.Errorf("at %d: %d is due", c.Now(), at)
					}
				}
				if c.Step(clock.Left(c.Now(), at)); c.Due(at) != 1 || c.Now() != at {
					t.Errorf("at %d: %d isn't due", c.Now(), at)
				}
			}
		}
	}
}

func TestNilClock(t *testing.T) {
	var c *clock.Clock
	for range 2 {
		if c.Now() != 0 || c.Stopped() {
			t.Error(c.Now(), c.Stopped())
		}
		if c.Step() != 0 || c.Step(5) != 0 || c.Step(last, 1) != 0 || c.Step(nil...) != 0 {
			t.Error("a nil clock goes on")
		}
		if c.Due() != 0 || c.Due(0) != 0 || c.Due(0, 1, last) != 0 || c.Due(nil...) != 0 {
			t.Error("something is due by a nil clock")
		}
	}
}

// TestClockThatAtDidNotMake: it shows 0, as one of At(0).
func TestClockThatAtDidNotMake(t *testing.T) {
	var c clock.Clock
	if c.Now() != 0 || c.Stopped() || c.Due(0, 0, 1) != 2 || c.Step(3, 4) != 7 || c.Due(0, 7, 8) != 2 {
		t.Error(c.Now())
	}
}

// P2

func TestSameAgain(t *testing.T) {
	run := func() []uint64 {
		next := numbers(13)
		c := clock.At(next() >> 8)
		var l []uint64
		for range 300 {
			l = append(l, c.Step(next()>>20, next()>>50), uint64(c.Due(next(), next())), clock.Clamp(next(), next(), next()))
			at, e := clock.Deadline(c.Now(), next(), next()%2 == 0)
			l = append(l, at, uint64(e), clock.Left(c.Now(), next()))
		}
		return l
	}
	if !slices.Equal(run(), run()) {
		t.Error("another time, other answers")
	}
}

func TestExamples(t *testing.T) {
	if s, whole := clock.Add(1<<64-2, 5); s != clock.Max || whole {
		t.Error(s, whole)
	}
	if at, e := clock.Deadline(7, 3, false); at != 10 || e != api.OK {
		t.Error(at, e)
	}
	if at, e := clock.Deadline(7, 3, true); at != 7 || e != api.OK {
		t.Error(at, e)
	}
	if at, e := clock.Deadline(7, 1<<64-1, true); at != 0 || e != 12 {
		t.Error(at, e)
	}
	if at := clock.Clamp(10, 3, 100); at != 11 {
		t.Error(at)
	}
	if at := clock.Clamp(10, 500, 100); at != 110 {
		t.Error(at)
	}
	if at := clock.Clamp(10, 500, 0); at != 10 {
		t.Error(at)
	}
}
