package wheel_test

import (
	"math"
	"slices"
	"testing"

	"detent/api"
	"detent/level"
	"detent/wheel"
)

// last is the last tick, and farthest the horizon, told otherwise than the packages do it.
const (
	last     = math.MaxUint64
	farthest = 63*8*8*8*8*8*8*8 - 1
)

// entry is a timer in a book.
type entry struct {
	id   int
	spot level.Spot
}

// book is a wheel told in another way than the package does it: a row of timers in the order in which they were put, gone through from end to end each time. What a wheel answers is held against it.
type book struct {
	now uint64
	row []entry
}

func (b *book) at(id int) (int, bool) {
	i := slices.IndexFunc(b.row, func(x entry) bool { return x.id == id })
	return i, i >= 0
}

func (b *book) put(id int, at uint64) (level.Spot, api.Errno) {
	if id < 0 || id > 255 {
		return level.Spot{}, api.ErrRange
	}
	if _, is := b.at(id); is {
		return level.Spot{}, api.ErrTwice
	}
	s, e := level.Place(b.now, at)
	if e == api.OK {
		b.row = append(b.row, entry{id, s})
	}
	return s, e
}

func (b *book) del(l ...int) int {
	n := 0
	for _, id := range l {
		if i, is := b.at(id); is {
			b.row = slices.Delete(b.row, i, i+1)
			n++
		}
	}
	return n
}

// to looks again and again for the one that is due soonest, and of these the one that was put first.
func (b *book) to(now uint64) []int {
	if now <= b.now {
		return nil
	}
	b.now = now
	var l []int
	for {
		soonest := -1
		for i, x := range b.row {
			if x.spot.Due <= now && (soonest < 0 || x.spot.Due < b.row[soonest].spot.Due) {
				soonest = i
			}
		}
		if soonest < 0 {
			return l
		}
		l = append(l, b.row[soonest].id)
		b.row = slices.Delete(b.row, soonest, soonest+1)
	}
}

func (b *book) next() (uint64, bool) {
	var ticks []uint64
	for _, x := range b.row {
		ticks = append(ticks, x.spot.Due)
	}
	if len(ticks) == 0 {
		return 0, false
	}
	return slices.Min(ticks), true
}

func (b *book) find(id int) (level.Spot, bool) {
	if i, is := b.at(id); is {
		return b.row[i].spot, true
	}
	return level.Spot{}, false
}

func (b *book) ids() []int {
	var l []int
	for id := range 256 {
		if _, is := b.at(id); is {
			l = append(l, id)
		}
	}
	return l
}

// pair is a wheel beside its book: each of its methods does the same with both, looks at all that they tell then, and ends the test if they part.
type pair struct {
	t *testing.T
	w *wheel.Wheel
	b *book
}

func newPair(t *testing.T, now uint64) *pair {
	t.Helper()
	p := &pair{t: t, w: wheel.New(now), b: &book{now: now}}
	p.look()
	return p
}

func (p *pair) put(id int, at uint64) {
	p.t.Helper()
	want, wrong := p.b.put(id, at)
	if s, e := p.w.Put(id, at); s != want || e != wrong {
		p.t.Fatalf("at %d: Put(%d, %d): %v, %d, not %v, %d", p.b.now, id, at, s, e, want, wrong)
	}
	p.look()
}

func (p *pair) del(l ...int) {
	p.t.Helper()
	want := p.b.del(l...)
	if n := p.w.Del(l...); n != want {
		p.t.Fatalf("at %d: Del(%v): %d, not %d", p.b.now, l, n, want)
	}
	p.look()
}

func (p *pair) to(now uint64) []int {
	p.t.Helper()
	was := p.b.now
	want := p.b.to(now)
	l := p.w.To(now)
	if !slices.Equal(l, want) {
		p.t.Fatalf("at %d: To(%d): %v, not %v", was, now, l, want)
	}
	p.look()
	return l
}

func (p *pair) look() {
	p.t.Helper()
	if now := p.w.Now(); now != p.b.now {
		p.t.Fatalf("Now: %d, not %d", now, p.b.now)
	}
	if n := p.w.Len(); n != len(p.b.row) {
		p.t.Fatalf("at %d: Len: %d, not %d", p.b.now, n, len(p.b.row))
	}
	if l, want := p.w.Ids(), p.b.ids(); !slices.Equal(l, want) {
		p.t.Fatalf("at %d: Ids: %v, not %v", p.b.now, l, want)
	}
	want, some := p.b.next()
	if at, is := p.w.Next(); at != want || is != some {
		p.t.Fatalf("at %d: Next: %d, %v, not %d, %v", p.b.now, at, is, want, some)
	}
	for id := -2; id < 259; id++ {
		p.find(id)
	}
	for _, id := range noTimers() {
		p.find(id)
	}
}

func (p *pair) find(id int) {
	p.t.Helper()
	want, held := p.b.find(id)
	if s, is := p.w.Find(id); s != want || is != held {
		p.t.Fatalf("at %d: Find(%d): %v, %v, not %v, %v", p.b.now, id, s, is, want, held)
	}
}

func noTimers() []int {
	return []int{math.MinInt, math.MinInt + 1, -1 << 32, -257, -256, -255, -2, -1, 256, 257, 511, 512, 1 << 16, 1 << 32, 1<<32 + 5, math.MaxInt - 1, math.MaxInt}
}

// someTicks are ticks of all lengths, and those next to the last one.
func someTicks() []uint64 {
	l := []uint64{0, 1, 2, 7, 8, 62, 63, 64, 100, 503, 504, 511, 512, 1000, 4095, farthest - 1, farthest, farthest + 1, farthest + 2}
	for _, x := range []uint64{1 << 32, 1 << 53, 1 << 63, 1<<63 + 12345} {
		l = append(l, x-1, x, x+1)
	}
	for _, x := range []uint64{0, 1, 2, 7, 8, 61, 62, 63, 64, 503, 504, 4096, farthest, farthest + 1} {
		l = append(l, last-x)
	}
	return l
}

// distances are those at which a level ends, those next to them, and those at which the horizon does.
func distances() []uint64 {
	l := []uint64{0, 1, 2, 7, 8, 9, 33, 61}
	for n := range 8 {
		d := uint64(63) << (3 * n)
		l = append(l, d-1, d, d+1, d+1<<(3*n))
	}
	return l
}

// numbers gives numbers that look like chance, and are the same each time.
func numbers(seed uint64) func(below uint64) uint64 {
	x := seed
	return func(below uint64) uint64 {
		x = x*6364136223846793005 + 1442695040888963407
		return (x ^ x>>29) >> 7 % below
	}
}

// all are the numbers of all timers.
func all() []int {
	var l []int
	for id := range 256 {
		l = append(l, id)
	}
	return l
}

func putOK(t *testing.T, w *wheel.Wheel, id int, at uint64) level.Spot {
	t.Helper()
	s, e := w.Put(id, at)
	if e != api.OK {
		t.Fatalf("at %d: Put(%d, %d): %d", w.Now(), id, at, e)
	}
	return s
}

func wantTo(t *testing.T, w *wheel.Wheel, now uint64, want ...int) {
	t.Helper()
	was := w.Now()
	if l := w.To(now); !slices.Equal(l, want) {
		t.Errorf("at %d: To(%d): %v, not %v", was, now, l, want)
	}
	if shown := w.Now(); shown != max(was, now) {
		t.Errorf("at %d: To(%d): it shows %d", was, now, shown)
	}
}

func wantNext(t *testing.T, w *wheel.Wheel, want uint64, some bool) {
	t.Helper()
	if at, is := w.Next(); at != want || is != some {
		t.Errorf("at %d: Next: %d, %v, not %d, %v", w.Now(), at, is, want, some)
	}
}

func wantEmpty(t *testing.T, w *wheel.Wheel) {
	t.Helper()
	wantNext(t, w, 0, false)
	if l := w.Ids(); len(l) != 0 || w.Len() != 0 {
		t.Errorf("at %d: %v, %d, not nothing", w.Now(), l, w.Len())
	}
	for _, id := range append(all(), noTimers()...) {
		if s, is := w.Find(id); s != (level.Spot{}) || is {
			t.Errorf("at %d: Find(%d): %v, %v", w.Now(), id, s, is)
		}
	}
}

// P7.1

func TestNew(t *testing.T) {
	for _, now := range someTicks() {
		w := wheel.New(now)
		if w == nil {
			t.Fatalf("New(%d): nil", now)
		}
		if w.Now() != now {
			t.Errorf("New(%d): it shows %d", now, w.Now())
		}
		wantEmpty(t, w)
	}
}

func TestPut(t *testing.T) {
	for _, x := range []struct {
		now, at uint64
		spot    level.Spot
	}{
		// Behind the wheel's tick, at it, and one behind it.
		{0, 0, level.Spot{Level: 0, Slot: 1, At: 1, Due: 1}},
		{0, 1, level.Spot{Level: 0, Slot: 1, At: 1, Due: 1}},
		{100, 0, level.Spot{Level: 0, Slot: 37, At: 101, Due: 101}},
		{100, 99, level.Spot{Level: 0, Slot: 37, At: 101, Due: 101}},
		{100, 100, level.Spot{Level: 0, Slot: 37, At: 101, Due: 101}},
		{100, 101, level.Spot{Level: 0, Slot: 37, At: 101, Due: 101}},
		{100, 102, level.Spot{Level: 0, Slot: 38, At: 102, Due: 102}},

		// At several levels.
		{0, 62, level.Spot{Level: 0, Slot: 62, At: 62, Due: 62}},
		{0, 63, level.Spot{Level: 1, Slot: 8, At: 63, Due: 64}},
		{0, 100, level.Spot{Level: 1, Slot: 13, At: 100, Due: 104}},
		{2, 505, level.Spot{Level: 1, Slot: 0, At: 505, Due: 512}},
		{0, 504, level.Spot{Level: 2, Slot: 8, At: 504, Due: 512}},
		{0, 1000000, level.Spot{Level: 5, Slot: 31, At: 1000000, Due: 1015808}},

		// At the horizon and above it.
		{0, 132120575, level.Spot{Level: 7, Slot: 63, At: 132120575, Due: 132120576}},
		{0, 132120576, level.Spot{Level: 7, Slot: 63, At: 132120575, Due: 132120576}},
		{0, last, level.Spot{Level: 7, Slot: 63, At: 132120575, Due: 132120576}},
		{2, last, level.Spot{Level: 7, Slot: 0, At: 132120577, Due: 134217728}},

		// Just below the last tick.
		{last - 1, 0, level.Spot{Level: 0, Slot: 63, At: last, Due: last}},
		{last - 1, last, level.Spot{Level: 0, Slot: 63, At: last, Due: last}},
		{last - 2, 5, level.Spot{Level: 0, Slot: 62, At: last - 1, Due: last - 1}},
		{last - 70, last, level.Spot{Level: 1, Slot: 0, At: last, Due: last}},
		{last - 504, last, level.Spot{Level: 2, Slot: 0, At: last, Due: last}},
	} {
		for _, id := range []int{0, 1, 7, 100, 254, 255} {
			w := wheel.New(x.now)
			if s, e := w.Put(id, x.at); s != x.spot || e != api.OK {
				t.Errorf("at %d: Put(%d, %d): %v, %d, not %v", x.now, id, x.at, s, e, x.spot)
			}
			if s, is := w.Find(id); s != x.spot || !is {
				t.Errorf("at %d: Find(%d): %v, %v, not %v", x.now, id, s, is, x.spot)
			}
			wantNext(t, w, x.spot.Due, true)
			if l := w.Ids(); !slices.Equal(l, []int{id}) || w.Len() != 1 || w.Now() != x.now {
				t.Errorf("at %d: %v, %d, behind Put(%d, %d)", w.Now(), l, w.Len(), id, x.at)
			}
		}
	}
}

// TestPutIsPlaces: from ticks of all lengths, and at the bounds of each level, the spot is that of layer 6.
func TestPutIsPlaces(t *testing.T) {
	for _, now := range someTicks() {
		p := newPair(t, now)
		for id, d := range distances() {
			p.put(2*id, now+d)
			p.put(2*id+1, now-d)
		}
	}
}

func TestPutOfNoTimer(t *testing.T) {
	for _, now := range []uint64{0, 100, last - 1, last} { // at the last tick, too: that there is no such timer is told first
		w := wheel.New(now)
		for _, id := range noTimers() {
			for _, at := range []uint64{0, now, now + 5, last} {
				if s, e := w.Put(id, at); s != (level.Spot{}) || e != api.ErrRange {
					t.Errorf("at %d: Put(%d, %d): %v, %d", now, id, at, s, e)
				}
			}
		}
		wantEmpty(t, w)
	}
}

// TestPutTwice: it stays where it stood, and keeps its turn among those of its tick.
func TestPutTwice(t *testing.T) {
	for _, id := range []int{0, 9, 255} {
		for _, at := range []uint64{0, 5, 7, 50, 100, last} {
			w := wheel.New(0)
			was := putOK(t, w, id, 7)
			putOK(t, w, 33, 7)
			if s, e := w.Put(id, at); s != (level.Spot{}) || e != api.ErrTwice {
				t.Errorf("Put(%d, %d): %v, %d", id, at, s, e)
			}
			if s, is := w.Find(id); s != was || !is || w.Len() != 2 {
				t.Errorf("behind Put(%d, %d): %v, %v, not %v", id, at, s, is, was)
			}
			wantNext(t, w, 7, true)
			wantTo(t, w, 6)
			if _, e := w.Put(id, at); e != api.ErrTwice { // still, at the tick ahead of Due
				t.Errorf("Put(%d, %d): %d", id, at, e)
			}
			wantTo(t, w, 7, id, 33)
			wantEmpty(t, w)
		}
	}
}

func TestPutAgain(t *testing.T) {
	p := newPair(t, 0)
	p.put(9, 5)
	p.put(1, 5)
	p.to(5)
	p.put(9, 5) // came out before: seen from 5 on now
	p.put(1, 9)
	p.to(6)
	p.put(9, 80)
	p.del(9)
	p.put(9, 9) // was taken out before: behind 1 now
	p.put(2, 9)
	p.del(1)
	p.put(1, 9)
	if l := p.to(9); !slices.Equal(l, []int{9, 2, 1}) {
		t.Error(l)
	}
	p.put(1, 9)
	p.put(2, 9)
	p.put(9, 9)
	p.del(1, 2, 9)
	p.put(9, 9)
	p.put(2, 9)
	p.put(1, 9)
	if l := p.to(10); !slices.Equal(l, []int{9, 2, 1}) {
		t.Error(l)
	}
}

func TestPutAtTheLastTick(t *testing.T) {
	none := func(w *wheel.Wheel, id int) {
		for _, at := range someTicks() {
			if s, e := w.Put(id, at); s != (level.Spot{}) || e != api.ErrClock {
				t.Errorf("Put(%d, %d): %v, %d", id, at, s, e)
			}
		}
		wantEmpty(t, w)
	}
	none(wheel.New(last), 0)
	none(wheel.New(last), 255)
	w := wheel.New(last - 1)
	putOK(t, w, 3, 0)
	if _, e := w.Put(3, 0); e != api.ErrTwice {
		t.Error(e)
	}
	wantTo(t, w, last, 3)
	none(w, 3)
	none(w, 4)
	wantTo(t, w, last)
}

func TestDel(t *testing.T) {
	w := wheel.New(0)
	if w.Del() != 0 || w.Del(3) != 0 || w.Del(0, 1, 255) != 0 || w.Del(noTimers()...) != 0 {
		t.Error("of an empty wheel")
	}
	for _, id := range all() {
		putOK(t, w, id, uint64(id*id))
	}
	for _, x := range []struct {
		l    []int
		want int
	}{
		{nil, 0},
		{[]int{}, 0},
		{[]int{0}, 1},
		{[]int{0}, 0},
		{[]int{255}, 1},
		{[]int{256, -1, 255}, 0},
		{[]int{7, 7}, 1},
		{[]int{7, 8, 7, 8, 9}, 2},
		{[]int{200, 100, 150}, 3},
		{[]int{-1, 201, 256, 101, math.MaxInt, 201, math.MinInt}, 2},
		{noTimers(), 0},
		{all(), 246},
		{all(), 0},
	} {
		was := w.Len()
		if n := w.Del(x.l...); n != x.want || w.Len() != was-x.want {
			t.Errorf("Del(%v): %d, not %d; it held %d, and holds %d", x.l, n, x.want, was, w.Len())
		}
		for _, id := range x.l {
			if s, is := w.Find(id); s != (level.Spot{}) || is {
				t.Errorf("behind Del(%v): Find(%d): %v, %v", x.l, id, s, is)
			}
		}
	}
	wantEmpty(t, w)
	wantTo(t, w, last)
}

// TestDelLeavesTheOthers: where they stood, and in their order, in the same slot and elsewhere; and who comes out isn't held any more.
func TestDelLeavesTheOthers(t *testing.T) {
	w := wheel.New(0)
	for id, at := range []uint64{9, 9, 70, 9, 71, 9, 5} {
		putOK(t, w, id, at)
	}
	if n := w.Del(1, 4); n != 2 {
		t.Error(n)
	}
	wantNext(t, w, 5, true)
	if n := w.Del(6); n != 1 {
		t.Error(n)
	}
	wantNext(t, w, 9, true)
	wantTo(t, w, 9, 0, 3, 5)
	if n := w.Del(0, 1, 3, 4, 5, 6); n != 0 {
		t.Error(n)
	}
	wantNext(t, w, 72, true)
	wantTo(t, w, 72, 2)
	wantEmpty(t, w)
}

func TestTo(t *testing.T) {
	w := wheel.New(100)
	putOK(t, w, 5, 101)
	putOK(t, w, 6, 103)
	putOK(t, w, 7, 300) // due at 304
	for _, now := range []uint64{0, 1, 50, 99, 100} {
		wantTo(t, w, now)
		wantNext(t, w, 101, true)
	}
	wantTo(t, w, 101, 5)
	wantTo(t, w, 101)
	wantTo(t, w, 0)
	wantTo(t, w, 102)
	wantTo(t, w, 103, 6)
	wantTo(t, w, 300)
	wantTo(t, w, 303)
	wantNext(t, w, 304, true)
	wantTo(t, w, 304, 7)
	wantTo(t, w, 303)
	wantTo(t, w, 305)
	wantEmpty(t, w)
	wantTo(t, w, 1<<63)
	wantTo(t, w, last)
	wantTo(t, w, last)
	wantTo(t, w, last-1)
}

// TestToAtDue: at each level a timer doesn't come out at the tick ahead of Due, and does at Due itself, and so it does at each tick above.
func TestToAtDue(t *testing.T) {
	for _, now := range someTicks() {
		if now == last {
			continue
		}
		for _, d := range distances() {
			due := putOK(t, wheel.New(now), 9, now+d).Due
			for _, far := range []uint64{due, due + 1, due + 64, due + 1000000, 1 << 63, last} {
				if far < due {
					continue
				}
				w := wheel.New(now)
				putOK(t, w, 9, now+d)
				wantNext(t, w, due, true)
				wantTo(t, w, due-1)
				wantNext(t, w, due, true)
				if n := w.Len(); n != 1 {
					t.Errorf("at %d, due at %d: %d", w.Now(), due, n)
				}
				wantTo(t, w, far, 9)
				wantTo(t, w, far)
				if n := w.Len(); n != 0 {
					t.Errorf("at %d, due at %d: %d", w.Now(), due, n)
				}
			}
		}
	}
}

// TestToByDue: what is due sooner comes out sooner, whatever order they were put in, at all levels at once.
func TestToByDue(t *testing.T) {
	for _, now := range []uint64{0, 5, 500, 1 << 40, last - farthest - 5, last - 100000} {
		falling, mixed := newPair(t, now), newPair(t, now)
		next := numbers(3)
		for id := range 256 {
			falling.put(id, now+uint64(256-id)*500000)
			mixed.put(id, now+next(1<<(1+next(28))))
		}
		for _, p := range []*pair{falling, mixed} {
			if l := p.to(last); len(l) != 256 {
				t.Errorf("at %d: %d of them", now, len(l))
			}
		}
	}
}

// orders calls with the numbers from 0 to n-1 in each order that there is.
func orders(n int, with func([]int)) {
	var more func(l []int)
	more = func(l []int) {
		if len(l) == n {
			with(l)
			return
		}
		for i := range n {
			if !slices.Contains(l, i) {
				more(append(slices.Clone(l), i))
			}
		}
	}
	more(nil)
}

// TestToOfOneTick: those of one tick come out in the order in which they were put, of whatever number, deadline and level.
func TestToOfOneTick(t *testing.T) {
	for _, x := range []struct {
		now uint64
		at  []uint64
		due uint64
	}{
		{0, []uint64{5, 5, 5, 5}, 5},
		{0, []uint64{97, 100, 104, 103}, 104},
		{7, []uint64{510, 511, 512, 509}, 512},                           // levels 1, 2, 2, 1
		{63, []uint64{4094, 4095, 4093, 4096}, 4096},                     // levels 2, 3, 2, 3
		{last - 503, []uint64{last - 6, last - 1, last, last - 2}, last}, // level 1
		{last - 504, []uint64{last, last - 1, last - 3, last}, last},     // levels 2, 1, 1, 2
		{last - 4032, []uint64{last - 1, last, last - 2, last}, last},    // levels 2, 3, 2, 3
	} {
		orders(len(x.at), func(ids []int) {
			p := newPair(t, x.now)
			for _, id := range ids {
				p.put(id, x.at[id])
			}
			p.to(x.due - 1)
			if l := p.to(x.due); !slices.Equal(l, ids) {
				t.Errorf("at %d: %v, put as %v", x.now, l, ids)
			}
		})
	}
}

// TestToOfOneTickPutAtSeveral: as the wheel goes on between; one of a higher level is put behind one of a lower level, and the other way round.
func TestToOfOneTickPutAtSeveral(t *testing.T) {
	p := newPair(t, 0)
	p.put(7, 1024) // level 2
	p.to(514)
	p.put(5, 1017) // level 1
	p.to(516)
	p.put(9, 1022) // level 2
	p.to(517)
	p.put(3, 1018) // level 1
	p.to(900)
	p.put(8, 1023) // level 1
	p.to(970)
	p.put(1, 1024) // level 0
	p.to(1023)
	p.put(4, 0)    // level 0
	p.put(2, 1025) // at the tick behind them
	if l := p.to(1050); !slices.Equal(l, []int{7, 5, 9, 3, 8, 1, 4, 2}) {
		t.Error(l)
	}

	p = newPair(t, last-70000)
	for id := range 200 {
		p.put(199-id, last) // from level 4 down to 0, at slots 0 and 63
		p.to(p.b.now + (last-p.b.now)/25)
	}
	if at, is := p.w.Next(); at != last || !is {
		t.Error(at, is)
	}
	p.put(255, 0)
	if l := p.to(last); len(l) != 201 || l[0] != 255 || l[1] != 199 || l[200] != 0 {
		t.Error(l)
	}
}

// TestToManyTurns: a wheel goes on by more than all its slots at once, and ends at once.
func TestToManyTurns(t *testing.T) {
	for _, far := range []uint64{64, 65, 128, 512, 600, 10000, 1 << 30, 1 << 40, 1<<63 + 7, last - 1, last} {
		p := newPair(t, 3)
		for id := range 200 {
			p.put(id, uint64(id*id*id*7%100000))
		}
		p.to(far)
		p.put(3, far+70)
		p.to(far + 64)
		p.to(far + 72)
		p.to(last)
	}
}

// P7.2

func TestTellsOfOne(t *testing.T) {
	w := wheel.New(10)
	wantEmpty(t, w)
	s := putOK(t, w, 255, 200)
	if s != (level.Spot{Level: 1, Slot: 25, At: 200, Due: 200}) {
		t.Error(s)
	}
	wantNext(t, w, 200, true)
	for _, id := range append(noTimers(), 0, 1, 254) {
		if s, is := w.Find(id); s != (level.Spot{}) || is {
			t.Errorf("Find(%d): %v, %v", id, s, is)
		}
	}
	wantTo(t, w, 150)
	if got, is := w.Find(255); got != s || !is { // it stays where it stood, though it is near now
		t.Error(got, is)
	}
	wantNext(t, w, 200, true)
	if n := w.Del(255); n != 1 {
		t.Error(n)
	}
	wantEmpty(t, w)
}

func TestTellsOfSeveral(t *testing.T) {
	w := wheel.New(0)
	for _, x := range []struct {
		id        int
		at, least uint64
	}{{100, 1000, 1024}, {3, 2000, 1024}, {255, 500, 504}, {0, 501, 504}, {77, 40, 40}, {50, 41, 40}, {49, 0, 1}} {
		putOK(t, w, x.id, x.at)
		wantNext(t, w, x.least, true)
	}
	if l := w.Ids(); !slices.Equal(l, []int{0, 3, 49, 50, 77, 100, 255}) || w.Len() != 7 {
		t.Error(l, w.Len())
	}
	for _, x := range []struct {
		id   int
		next uint64
	}{{49, 40}, {50, 40}, {77, 504}, {0, 504}, {3, 504}, {255, 1024}} {
		if n := w.Del(x.id); n != 1 {
			t.Errorf("Del(%d): %d", x.id, n)
		}
		wantNext(t, w, x.next, true)
	}
	if l := w.Ids(); !slices.Equal(l, []int{100}) || w.Len() != 1 {
		t.Error(l, w.Len())
	}
}

// TestTellsOfAll: each step is looked at by the pair, to the last timer and back.
func TestTellsOfAll(t *testing.T) {
	for _, now := range []uint64{0, 12345, last - 1000} {
		p := newPair(t, now)
		for i := range 256 {
			p.put(i*37%256, now+uint64(i*i))
		}
		if l := p.w.Ids(); !slices.Equal(l, all()) || p.w.Len() != 256 {
			t.Error(l, p.w.Len())
		}
		for _, id := range []int{0, 128, 255} {
			p.put(id, now+3)
		}
		for i := range 128 {
			p.del(i * 101 % 256)
		}
		for p.w.Len() > 0 {
			at, _ := p.w.Next()
			p.to(at)
		}
	}
}

// TestAllInOneSlot: 256 timers at one spot come out in the order in which they were put.
func TestAllInOneSlot(t *testing.T) {
	for _, at := range []uint64{1, 60, 100, 100000} {
		p := newPair(t, 0)
		var l []int
		for i := range 256 {
			l = append(l, i*91%256)
			p.put(l[i], at)
		}
		p.del(l[0], l[100], l[255])
		l = slices.Delete(slices.Delete(slices.Delete(l, 255, 256), 100, 101), 0, 1)
		due, _ := p.w.Next()
		if got := p.to(due); !slices.Equal(got, l) {
			t.Errorf("due at %d: %v, not %v", due, got, l)
		}
	}
}

// P7.3

// script is what is put at which tick, from a first tick on: the ticks don't fall.
type script struct {
	now  uint64
	puts []struct {
		now, at uint64
		id      int
	}
}

// someScript puts all timers, a few at each tick, within a reach.
func someScript(seed, now, reach uint64) script {
	next := numbers(seed)
	s := script{now: now}
	tick := now
	for i := range 256 {
		if next(3) == 0 {
			tick += next(reach/64 + 1)
		}
		s.puts = append(s.puts, struct {
			now, at uint64
			id      int
		}{tick, tick + next(reach), (i*83 + int(seed)) % 256})
	}
	return s
}

// run does a script, going on by no more than step ticks at once, to an end: who came out, in order, each at which tick at the latest.
func (s script) run(t *testing.T, step, end uint64) (out []int, spots map[int]level.Spot) {
	t.Helper()
	w := wheel.New(s.now)
	spots = map[int]level.Spot{}
	on := func(now uint64) {
		for w.Now() < now {
			was := w.Now()
			to := now
			if now-was > step {
				to = was + step
			}
			l := w.To(to)
			for _, id := range l {
				if due := spots[id].Due; due <= was || due > to {
					t.Fatalf("step %d: %d, due at %d, came out from %d to %d", step, id, due, was, to)
				}
				if at := spots[id].At; at > to {
					t.Fatalf("step %d: %d, of the deadline %d, came out at %d", step, id, at, to)
				}
			}
			out = append(out, l...)
		}
	}
	for _, x := range s.puts {
		on(x.now)
		spots[x.id] = putOK(t, w, x.id, x.at)
	}
	on(end)
	wantEmpty(t, w)
	return out, spots
}

// TestStepsDontMatter: the same timers come out in the same order, however far the wheel goes at once; each once, at the first tick that the wheel is told from its Due on.
func TestStepsDontMatter(t *testing.T) {
	for _, x := range []struct{ now, reach, end uint64 }{
		{0, 40, 20000},
		{0, 600, 20000},
		{3, 3000, 20000},
		{1<<40 + 5, 3000, 1<<40 + 20000},
		{last - 9000, 2500, last},
		{last - 700, 3000000, last},
	} {
		for seed := range uint64(3) {
			s := someScript(seed, x.now, x.reach)
			if seed > 0 || x.reach > last-x.now { // those who would be put at the last tick are put at once
				for i := range s.puts {
					s.puts[i].now = x.now
				}
			}
			want, spots := s.run(t, last, x.end)
			if l := slices.Sorted(slices.Values(want)); !slices.Equal(l, all()) {
				t.Fatalf("from %d: %d came out: %v", x.now, len(want), l)
			}
			for i := 1; i < len(want); i++ {
				if spots[want[i]].Due < spots[want[i-1]].Due {
					t.Errorf("from %d: %d is ahead of %d", x.now, want[i-1], want[i])
				}
			}
			for _, step := range []uint64{1, 2, 3, 7, 8, 9, 62, 63, 64, 65, 100, 511, 512, 513, 1000, 5000, 10000, 1 << 63} {
				if got, _ := s.run(t, step, x.end); !slices.Equal(got, want) {
					t.Errorf("from %d, by %d: %v, not %v", x.now, step, got, want)
				}
			}
		}
	}
}

// TestStepsDontMatterAtAllLevels: so at the horizon, by greater steps.
func TestStepsDontMatterAtAllLevels(t *testing.T) {
	for _, now := range []uint64{0, 1<<50 + 3, last - farthest - 9999999} {
		s := someScript(5, now, farthest+1000000)
		for i := range s.puts {
			s.puts[i].now = now
		}
		end := now + farthest + 9999999
		want, _ := s.run(t, last, end)
		if len(want) != 256 {
			t.Fatalf("from %d: %d came out", now, len(want))
		}
		for _, step := range []uint64{999, 4096, 100000, 2097151, 2097152, 2097153, 70000000, 132120575, 134217728} {
			if got, _ := s.run(t, step, end); !slices.Equal(got, want) {
				t.Errorf("from %d, by %d: %v, not %v", now, step, got, want)
			}
		}
	}
}

// TestByNext: who goes on from Next to Next meets each timer at its Due.
func TestByNext(t *testing.T) {
	for _, now := range []uint64{0, 77, 1 << 45, last - 40000000} {
		w := wheel.New(now)
		next := numbers(now)
		dues := map[int]uint64{}
		for id := range 256 {
			dues[id] = putOK(t, w, id, now+next(1<<(1+next(27)))).Due
		}
		for {
			at, is := w.Next()
			if !is {
				break
			}
			l := w.To(at)
			if len(l) == 0 {
				t.Fatalf("nobody is due at %d", at)
			}
			for _, id := range l {
				if dues[id] != at {
					t.Errorf("%d came out at %d, and is due at %d", id, at, dues[id])
				}
				delete(dues, id)
			}
		}
		if len(dues) > 0 {
			t.Errorf("they never came out: %v", dues)
		}
	}
}

// TestLikeTheBook does many things one behind the other, from ticks of all lengths, and at near and far deadlines.
func TestLikeTheBook(t *testing.T) {
	for _, now := range []uint64{0, 500, 1<<40 + 1, last - 3000000, last - 20000, last - 300} {
		for _, reach := range []uint64{100, 3000, 1 << 20, 1 << 29} {
			p := newPair(t, now)
			next := numbers(now + reach)
			for range 700 {
				switch next(8) {
				case 0, 1, 2, 3:
					p.put(int(next(264))-4, p.b.now+next(reach))
				case 4:
					p.put(int(next(264))-4, next(last))
				case 5:
					var l []int
					for range next(7) {
						l = append(l, int(next(264))-4)
					}
					p.del(l...)
				case 6:
					p.to(p.b.now + min(next(1+reach/8), last-p.b.now))
				case 7:
					if at, is := p.w.Next(); is {
						p.to(at - next(2))
					}
				}
			}
			p.to(last)
		}
	}
}

func TestNil(t *testing.T) {
	var w *wheel.Wheel
	for _, id := range append(noTimers(), 0, 1, 255) {
		for _, at := range []uint64{0, 5, last} {
			if s, e := w.Put(id, at); s != (level.Spot{}) || e != api.ErrState {
				t.Errorf("Put(%d, %d): %v, %d", id, at, s, e)
			}
		}
	}
	if w.Del() != 0 || w.Del(0) != 0 || w.Del(all()...) != 0 {
		t.Error("Del")
	}
	for _, now := range someTicks() {
		if l := w.To(now); len(l) != 0 {
			t.Errorf("To(%d): %v", now, l)
		}
	}
	if w.Now() != 0 {
		t.Error(w.Now())
	}
	wantEmpty(t, w)
}

// P1: a wheel that New did not make doesn't panic either; it is one that shows 0.

func TestNotMade(t *testing.T) {
	w := new(wheel.Wheel)
	wantEmpty(t, w)
	if w.Del(0, 3) != 0 || w.Now() != 0 {
		t.Error(w.Now())
	}
	putOK(t, w, 3, 100)
	putOK(t, w, 4, 5)
	if w.Del(4) != 1 {
		t.Error(w.Len())
	}
	wantTo(t, w, 104, 3)
	w = new(wheel.Wheel)
	wantTo(t, w, last)
	wantEmpty(t, w)
}

// The rules of all layers: lists are new memory, nothing handed in is kept or changed, and a wheel changes itself alone.

func TestListsAreNew(t *testing.T) {
	p := newPair(t, 0)
	for id := range 20 {
		p.put(id, uint64(5+id/10))
	}
	spoil := func(l []int) {
		for i := range l {
			l[i] = 200
		}
		_ = append(l, 201, 202, 203)
	}
	spoil(p.w.Ids())
	p.look()
	spoil(p.w.Ids())
	spoil(p.to(5))
	p.look()
	p.put(0, 6)
	if l := p.to(6); !slices.Equal(l, []int{10, 11, 12, 13, 14, 15, 16, 17, 18, 19, 0}) {
		t.Error(l)
	}
}

func TestListsAreLeftAsTheyAre(t *testing.T) {
	p := newPair(t, 0)
	for id := range 20 {
		p.put(id, 9)
	}
	l := []int{7, 3, 7, -1, 256, 11, 30, 3}
	was := slices.Clone(l)
	p.del(l...)
	if !slices.Equal(l, was) {
		t.Error(l)
	}
	clear(l)
	p.look()
}

func TestWheelsAreApart(t *testing.T) {
	a, b := newPair(t, 0), newPair(t, 0)
	a.put(3, 100)
	b.look()
	b.put(3, 50)
	b.put(4, 7)
	a.look()
	a.to(1000)
	b.look()
	b.del(3)
	b.to(7)
	a.look()
	a.put(3, 1010)
	b.put(3, 9)
	b.to(last)
	a.to(1010)
}

// P2

func TestSameAgain(t *testing.T) {
	run := func() []int {
		next := numbers(29)
		w := wheel.New(77)
		var l []int
		for range 2000 {
			s, e := w.Put(int(next(256)), w.Now()+next(1<<(1+next(20))))
			l = append(l, s.Level, s.Slot, int(e), w.Del(int(next(256))))
			if next(5) == 0 {
				l = append(l, w.To(w.Now()+next(1<<(1+next(14))))...)
				l = append(l, w.Ids()...)
			}
			at, _ := w.Next()
			l = append(l, int(at), w.Len())
		}
		return l
	}
	if !slices.Equal(run(), run()) {
		t.Error("another time, other answers")
	}
}

func TestExamples(t *testing.T) {
	w := wheel.New(0)
	if s, e := w.Put(3, 100); s.Level != 1 || s.Due != 104 || e != api.OK {
		t.Error(s, e)
	}
	wantTo(t, w, 103)
	wantTo(t, w, 104, 3)

	w = wheel.New(0)
	putOK(t, w, 1, 9)
	putOK(t, w, 2, 5)
	putOK(t, w, 3, 9)
	wantTo(t, w, 20, 2, 1, 3)
}
