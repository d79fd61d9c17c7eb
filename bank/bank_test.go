package bank_test

import (
	"math"
	"slices"
	"testing"

	"detent/api"
	"detent/bank"
	"detent/level"
	"detent/mask"
)

const last = math.MaxUint64

// entry is a timer in a book.
type entry struct {
	cpu, id int
	spot    level.Spot
}

// book is a bank told in another way than the package does it: the CPUs' ticks, and one row of all their timers in the order in which they were put, gone through from end to end each time. What a bank answers is held against it.
type book struct {
	now []uint64
	row []entry
}

func newBook(cpus int, now uint64) *book {
	return &book{now: slices.Repeat([]uint64{now}, cpus)}
}

func (b *book) has(cpu int) bool {
	return cpu >= 0 && cpu < len(b.now)
}

func (b *book) at(id int) (int, bool) {
	i := slices.IndexFunc(b.row, func(x entry) bool { return x.id == id })
	return i, i >= 0
}

func (b *book) put(cpu, id int, at uint64) (level.Spot, api.Errno) {
	if !b.has(cpu) || id < 0 || id > 255 {
		return level.Spot{}, api.ErrRange
	}
	if _, is := b.at(id); is {
		return level.Spot{}, api.ErrTwice
	}
	s, e := level.Place(b.now[cpu], at)
	if e == api.OK {
		b.row = append(b.row, entry{cpu, id, s})
	}
	return s, e
}

func (b *book) del(l ...int) int {
	n := 0
	for _, id := range l {
		if i, is := b.at(id); is {
			b.row = slices.Delete(b.row, i, i+1)
			n++
		}
	}
	return n
}

// catch looks again and again for the one of the CPU that is due soonest, and of these the one that was put first.
func (b *book) catch(cpu int, now uint64) []int {
	if !b.has(cpu) || now <= b.now[cpu] {
		return nil
	}
	b.now[cpu] = now
	var l []int
	for {
		soonest := -1
		for i, x := range b.row {
			if x.cpu == cpu && x.spot.Due <= now && (soonest < 0 || x.spot.Due < b.row[soonest].spot.Due) {
				soonest = i
			}
		}
		if soonest < 0 {
			return l
		}
		l = append(l, b.row[soonest].id)
		b.row = slices.Delete(b.row, soonest, soonest+1)
	}
}

func (b *book) find(id int) (int, level.Spot, bool) {
	if i, is := b.at(id); is {
		return b.row[i].cpu, b.row[i].spot, true
	}
	return 0, level.Spot{}, false
}

func (b *book) next(cpus ...int) (uint64, bool) {
	var ticks []uint64
	for _, x := range b.row {
		if len(cpus) == 0 || slices.Contains(cpus, x.cpu) {
			ticks = append(ticks, x.spot.Due)
		}
	}
	if len(ticks) == 0 {
		return 0, false
	}
	return slices.Min(ticks), true
}

func (b *book) late(now uint64) mask.Mask {
	var m mask.Mask
	for _, x := range b.row {
		if x.spot.Due <= now {
			m |= 1 << x.cpu
		}
	}
	return m
}

func (b *book) shows(cpu int) uint64 {
	if !b.has(cpu) {
		return 0
	}
	return b.now[cpu]
}

// edges are the ticks at which any is due, those next to them, and the first and the last one.
func (b *book) edges() []uint64 {
	l := []uint64{0, last}
	for _, x := range b.row {
		l = append(l, x.spot.Due-1, x.spot.Due, x.spot.Due+1)
	}
	slices.Sort(l)
	return slices.Compact(l)
}

// pair is a bank beside its book: each of its methods does the same with both, looks at all that they tell then, and ends the test if they part.
type pair struct {
	t *testing.T
	k *bank.Bank
	b *book
}

func newPair(t *testing.T, cpus int, now uint64) *pair {
	t.Helper()
	p := &pair{t: t, k: made(t, cpus, now), b: newBook(cpus, now)}
	p.look()
	return p
}

func (p *pair) put(cpu, id int, at uint64) {
	p.t.Helper()
	want, wrong := p.b.put(cpu, id, at)
	if s, e := p.k.Put(cpu, id, at); s != want || e != wrong {
		p.t.Fatalf("at %d: Put(%d, %d, %d): %v, %d, not %v, %d", p.b.shows(cpu), cpu, id, at, s, e, want, wrong)
	}
	p.look()
}

func (p *pair) del(l ...int) {
	p.t.Helper()
	want := p.b.del(l...)
	if n := p.k.Del(l...); n != want {
		p.t.Fatalf("Del(%v): %d, not %d", l, n, want)
	}
	p.look()
}

func (p *pair) catch(cpu int, now uint64) []int {
	p.t.Helper()
	was := p.b.shows(cpu)
	want := p.b.catch(cpu, now)
	l := p.k.Catch(cpu, now)
	if !slices.Equal(l, want) {
		p.t.Fatalf("at %d: Catch(%d, %d): %v, not %v", was, cpu, now, l, want)
	}
	p.look()
	return l
}

// look holds all that the bank tells against the book.
func (p *pair) look() {
	p.t.Helper()
	if n := p.k.CPUs(); n != len(p.b.now) {
		p.t.Fatalf("CPUs: %d, not %d", n, len(p.b.now))
	}
	if n := p.k.Len(); n != len(p.b.row) {
		p.t.Fatalf("Len: %d, not %d", n, len(p.b.row))
	}
	p.next()
	for cpu := -1; cpu <= api.MaxCPUs; cpu++ {
		if now, want := p.k.Now(cpu), p.b.shows(cpu); now != want {
			p.t.Fatalf("Now(%d): %d, not %d", cpu, now, want)
		}
		p.next(cpu)
	}
	for id := -1; id <= 256; id++ {
		want, spot, held := p.b.find(id)
		if cpu, s, is := p.k.Find(id); cpu != want || s != spot || is != held {
			p.t.Fatalf("Find(%d): %d, %v, %v, not %d, %v, %v", id, cpu, s, is, want, spot, held)
		}
	}
	for _, now := range p.b.edges() {
		if m, want := p.k.Late(now), p.b.late(now); m != want {
			p.t.Fatalf("Late(%d): %v, not %v", now, m.List(), want.List())
		}
	}
}

func (p *pair) next(cpus ...int) {
	p.t.Helper()
	want, some := p.b.next(cpus...)
	if at, is := p.k.Next(cpus...); at != want || is != some {
		p.t.Fatalf("Next(%v): %d, %v, not %d, %v", cpus, at, is, want, some)
	}
}

func made(t *testing.T, cpus int, now uint64) *bank.Bank {
	t.Helper()
	k, e := bank.New(cpus, now)
	if k == nil || e != api.OK {
		t.Fatalf("New(%d, %d): %v, %d", cpus, now, k, e)
	}
	return k
}

// wrongNumbers are no CPUs, and no timers.
func wrongNumbers() []int {
	return []int{math.MinInt, math.MinInt + 1, -1 << 32, -256, -64, -2, -1, 256, 257, 320, 1 << 16, 1 << 32, 1<<32 + 1, math.MaxInt - 1, math.MaxInt}
}

// noCPUs are numbers of no CPU of a bank of so many.
func noCPUs(cpus int) []int {
	return append(wrongNumbers(), cpus, cpus+1, cpus+63, cpus+64, 64, 65, 255)
}

func someTicks() []uint64 {
	return []uint64{0, 1, 5, 63, 64, 1000, 1<<32 - 1, 1 << 32, 1<<63 - 1, 1 << 63, last - 64, last - 2, last - 1, last}
}

// all are the numbers of all timers.
func all() []int {
	var l []int
	for id := range 256 {
		l = append(l, id)
	}
	return l
}

// numbers gives numbers that look like chance, and are the same each time.
func numbers(seed uint64) func(below uint64) uint64 {
	x := seed
	return func(below uint64) uint64 {
		x = x*6364136223846793005 + 1442695040888963407
		return (x ^ x>>29) >> 7 % below
	}
}

func wantCatch(t *testing.T, k *bank.Bank, cpu int, now uint64, want ...int) {
	t.Helper()
	was := k.Now(cpu)
	if l := k.Catch(cpu, now); !slices.Equal(l, want) {
		t.Errorf("at %d: Catch(%d, %d): %v, not %v", was, cpu, now, l, want)
	}
	if shown := k.Now(cpu); shown != max(was, now) {
		t.Errorf("at %d: Catch(%d, %d): it shows %d", was, cpu, now, shown)
	}
}

func wantNext(t *testing.T, k *bank.Bank, want uint64, some bool, cpus ...int) {
	t.Helper()
	if at, is := k.Next(cpus...); at != want || is != some {
		t.Errorf("Next(%v): %d, %v, not %d, %v", cpus, at, is, want, some)
	}
}

func wantLate(t *testing.T, k *bank.Bank, now uint64, want ...int) {
	t.Helper()
	if l := k.Late(now).List(); !slices.Equal(l, want) {
		t.Errorf("Late(%d): %v, not %v", now, l, want)
	}
}

func wantFind(t *testing.T, k *bank.Bank, id, cpu int, due uint64) {
	t.Helper()
	if c, s, is := k.Find(id); c != cpu || s.Due != due || !is {
		t.Errorf("Find(%d): %d, %v, %v, not %d, due at %d", id, c, s, is, cpu, due)
	}
}

func wantNotFound(t *testing.T, k *bank.Bank, ids ...int) {
	t.Helper()
	for _, id := range ids {
		if cpu, s, is := k.Find(id); cpu != 0 || s != (level.Spot{}) || is {
			t.Errorf("Find(%d): %d, %v, %v", id, cpu, s, is)
		}
	}
}

func wantPut(t *testing.T, k *bank.Bank, cpu, id int, at uint64, want api.Errno) {
	t.Helper()
	if s, e := k.Put(cpu, id, at); e != want || e != api.OK && s != (level.Spot{}) {
		t.Errorf("at %d: Put(%d, %d, %d): %v, %d, not %d", k.Now(cpu), cpu, id, at, s, e, want)
	}
}

func wantEmpty(t *testing.T, k *bank.Bank) {
	t.Helper()
	if n := k.Len(); n != 0 {
		t.Errorf("Len: %d", n)
	}
	wantNext(t, k, 0, false)
	for _, now := range someTicks() {
		wantLate(t, k, now)
	}
	wantNotFound(t, k, all()...)
	wantNotFound(t, k, wrongNumbers()...)
}

// P8.1

func TestNew(t *testing.T) {
	for _, now := range someTicks() {
		for cpus := 1; cpus <= 64; cpus++ {
			k := made(t, cpus, now)
			if n := k.CPUs(); n != cpus {
				t.Errorf("New(%d, %d): %d CPUs", cpus, now, n)
			}
			for cpu := range cpus {
				if shown := k.Now(cpu); shown != now {
					t.Errorf("New(%d, %d): %d shows %d", cpus, now, cpu, shown)
				}
			}
			if cpus == 1 || cpus == 64 {
				wantEmpty(t, k)
			}
		}
	}
}

func TestNewOfWrongNumbers(t *testing.T) {
	for _, now := range someTicks() {
		for _, cpus := range append(wrongNumbers(), 0, 65, 66, 128) {
			if k, e := bank.New(cpus, now); k != nil || e != api.ErrRange {
				t.Errorf("New(%d, %d): %v, %d", cpus, now, k, e)
			}
		}
	}
}

// TestPut: the spot is that of layer 6, seen from the tick of that CPU's wheel, wherever the others' are.
func TestPut(t *testing.T) {
	for _, cpus := range []int{1, 2, 3, 64} {
		for _, cpu := range []int{0, cpus / 2, cpus - 1} {
			for _, id := range []int{0, 1, 77, 254, 255} {
				p := newPair(t, cpus, 100)
				p.catch(cpu, 107)
				p.put(cpu, id, 200)
				if c, s, is := p.k.Find(id); c != cpu || s != (level.Spot{Level: 1, Slot: 25, At: 200, Due: 200}) || !is {
					t.Errorf("Find(%d): %d, %v, %v", id, c, s, is)
				}
			}
		}
	}
	for _, now := range someTicks() {
		p := newPair(t, 3, now)
		for i, at := range someTicks() {
			p.put(i%3, i, at)
		}
	}
}

func TestPutSeenFromItsOwnCPU(t *testing.T) {
	k := made(t, 3, 0)
	wantCatch(t, k, 1, 95)
	wantCatch(t, k, 2, 100)
	for cpu, want := range []level.Spot{
		{Level: 1, Slot: 13, At: 100, Due: 104},
		{Level: 0, Slot: 36, At: 100, Due: 100},
		{Level: 0, Slot: 37, At: 101, Due: 101},
	} {
		if s, e := k.Put(cpu, cpu, 100); s != want || e != api.OK {
			t.Errorf("Put(%d, %d, 100): %v, %d, not %v", cpu, cpu, s, e, want)
		}
	}
	wantNext(t, k, 100, true)
	wantNext(t, k, 104, true, 0)
	wantNext(t, k, 101, true, 2)
}

func TestPutOutOfRange(t *testing.T) {
	for _, cpus := range []int{1, 2, 63, 64} {
		for _, now := range []uint64{0, 100, last - 1, last} { // at the last tick, too: that there is no such CPU or timer is told first
			k := made(t, cpus, now)
			if now != last {
				wantPut(t, k, 0, 7, now+50, api.OK)
			}
			was := k.Len()
			for _, cpu := range noCPUs(cpus) {
				for _, id := range []int{0, 7, 255, -1, 256, math.MinInt, math.MaxInt} { // 7 is held by another: that is told behind
					wantPut(t, k, cpu, id, now+5, api.ErrRange)
				}
			}
			for _, cpu := range []int{0, cpus - 1} {
				for _, id := range wrongNumbers() {
					for _, at := range []uint64{0, now, last} {
						wantPut(t, k, cpu, id, at, api.ErrRange)
					}
				}
			}
			if n := k.Len(); n != was {
				t.Errorf("%d are held, not %d", n, was)
			}
		}
	}
}

// TestPutTwice: whoever holds it, it stays where it stood, and keeps its turn.
func TestPutTwice(t *testing.T) {
	for _, cpus := range []int{1, 2, 64} {
		for _, holder := range []int{0, cpus - 1} {
			for _, id := range []int{0, 9, 255} {
				p := newPair(t, cpus, 0)
				p.put(holder, id, 7)
				p.put(holder, 33, 7)
				for _, cpu := range []int{0, cpus / 2, cpus - 1} {
					for _, at := range []uint64{0, 5, 7, 100, last} {
						wantPut(t, p.k, cpu, id, at, api.ErrTwice)
						p.put(cpu, id, at)
					}
				}
				p.catch(holder, 6)
				wantPut(t, p.k, 0, id, 9, api.ErrTwice)
				wantCatch(t, p.k, holder, 7, id, 33)
			}
		}
	}
}

// TestPutTwiceAtTheLastTick: that another wheel holds it is told ahead of what its own wheel says.
func TestPutTwiceAtTheLastTick(t *testing.T) {
	k := made(t, 3, last-10)
	wantPut(t, k, 1, 5, last-5, api.OK)
	wantCatch(t, k, 2, last)
	for _, at := range someTicks() {
		wantPut(t, k, 2, 5, at, api.ErrTwice)
		wantPut(t, k, 2, 6, at, api.ErrClock)
		wantPut(t, k, 2, 256, at, api.ErrRange)
		wantPut(t, k, 2, -1, at, api.ErrRange)
		wantPut(t, k, 3, 5, at, api.ErrRange)
		wantPut(t, k, -1, 6, at, api.ErrRange)
	}
	wantFind(t, k, 5, 1, last-5)
	wantNotFound(t, k, 6)
	wantPut(t, k, 0, 6, 0, api.OK)
	wantPut(t, k, 2, 6, 0, api.ErrTwice)
	if n := k.Del(5, 6); n != 2 {
		t.Error(n)
	}
	wantPut(t, k, 2, 5, 0, api.ErrClock)
	wantEmpty(t, k)
}

func TestPutAtTheLastTick(t *testing.T) {
	for _, cpus := range []int{1, 64} {
		k := made(t, cpus, last)
		for _, cpu := range []int{0, cpus - 1} {
			for _, id := range []int{0, 9, 255} {
				for _, at := range someTicks() {
					wantPut(t, k, cpu, id, at, api.ErrClock)
				}
			}
		}
		wantEmpty(t, k)
	}
}

// TestPutAgain: what came out or was taken out may be put again, by whichever CPU.
func TestPutAgain(t *testing.T) {
	p := newPair(t, 3, 0)
	p.put(0, 9, 5)
	p.put(0, 1, 5)
	p.catch(0, 5)
	p.put(1, 9, 5) // came out before, of another wheel
	p.put(0, 1, 8) // and of this one
	p.put(0, 9, 8) // which another one holds now
	p.del(9)
	p.put(0, 9, 8) // was taken out before, of another wheel
	p.del(1)
	p.put(0, 1, 8) // and of this one: behind 9 now
	if l := p.catch(0, 8); !slices.Equal(l, []int{9, 1}) {
		t.Error(l)
	}
	p.put(2, 1, 8)
	p.catch(1, 100)
	p.del(1)
	p.put(1, 1, 8)
	p.put(2, 9, 8)
	if l := p.catch(1, 101); !slices.Equal(l, []int{1}) {
		t.Error(l)
	}
	if l := p.catch(2, 8); !slices.Equal(l, []int{9}) {
		t.Error(l)
	}
	wantEmpty(t, p.k)
}

func TestDel(t *testing.T) {
	for _, cpus := range []int{1, 2, 5, 64} {
		p := newPair(t, cpus, 0)
		p.del()
		p.del(3)
		p.del(0, 1, 255)
		for id := range 256 {
			if s, e := p.k.Put(id%cpus, id, uint64(id*id)); e != api.OK {
				t.Fatalf("Put(%d, %d): %v, %d", id%cpus, id, s, e)
			}
			p.b.put(id%cpus, id, uint64(id*id))
		}
		p.look()
		for _, x := range []struct {
			l    []int
			want int
		}{
			{nil, 0},
			{[]int{}, 0},
			{[]int{0}, 1},
			{[]int{0}, 0},
			{[]int{255}, 1},
			{[]int{256, -1, 255}, 0},
			{[]int{7, 7}, 1},          // one named twice
			{[]int{7, 8, 7, 8, 9}, 2}, // of several wheels, some named twice
			{[]int{100, 101, 102, 103, 104, 105, 1}, 7}, // of several wheels
			{[]int{200, 195, 190}, 3},                   // of one wheel of 5
			{[]int{-1, 201, 256, 101, math.MaxInt, 201, math.MinInt}, 1},
			{wrongNumbers(), 0},
		} {
			was := p.k.Len()
			p.del(x.l...)
			if n := was - p.k.Len(); n != x.want {
				t.Errorf("Del(%v): %d less, not %d", x.l, n, x.want)
			}
			wantNotFound(t, p.k, x.l...)
		}
		if n := p.k.Del(all()...); n != 256-16 {
			t.Error(n)
		}
		wantEmpty(t, p.k)
		for cpu := range cpus {
			wantCatch(t, p.k, cpu, last)
		}
	}
}

func TestCatch(t *testing.T) {
	k := made(t, 3, 100)
	wantPut(t, k, 0, 4, 101, api.OK)
	wantPut(t, k, 1, 5, 101, api.OK)
	wantPut(t, k, 1, 6, 103, api.OK)
	wantPut(t, k, 1, 7, 300, api.OK) // due at 304
	wantPut(t, k, 2, 8, 102, api.OK)
	for _, now := range []uint64{0, 1, 50, 99, 100} { // behind what it shows, and just that
		wantCatch(t, k, 1, now)
		wantNext(t, k, 101, true, 1)
	}
	wantCatch(t, k, 1, 101, 5)
	wantCatch(t, k, 1, 101)
	wantCatch(t, k, 1, 0)
	wantCatch(t, k, 2, 5000, 8) // so that the CPUs show 100, 101 and 5000
	wantCatch(t, k, 2, 400)
	wantCatch(t, k, 1, 102)
	wantCatch(t, k, 1, 103, 6)
	wantCatch(t, k, 1, 303)
	wantCatch(t, k, 0, 100)
	wantCatch(t, k, 1, 304, 7)
	wantCatch(t, k, 1, last)
	wantCatch(t, k, 1, last)
	wantCatch(t, k, 1, last-1)
	wantCatch(t, k, 0, last, 4)
	for cpu, want := range []uint64{last, last, 5000} {
		if now := k.Now(cpu); now != want {
			t.Errorf("Now(%d): %d, not %d", cpu, now, want)
		}
	}
	wantEmpty(t, k)
}

// TestCatchInOrder: what comes out does so by when it is due, and of one tick in the order in which it was put.
func TestCatchInOrder(t *testing.T) {
	for _, cpu := range []int{0, 1, 2} {
		k := made(t, 3, 0)
		for i, id := range []int{1, 2, 3, 0, 155, 9} {
			wantPut(t, k, cpu, id, []uint64{9, 5, 9, 200, 9, 63}[i], api.OK)
			wantPut(t, k, (cpu+1)%3, id+100, 7, api.OK)
		}
		wantCatch(t, k, cpu, 1000, 2, 1, 3, 155, 9, 0)
		wantCatch(t, k, (cpu+2)%3, 1000)
		wantCatch(t, k, (cpu+1)%3, 1000, 101, 102, 103, 100, 255, 109)
		wantEmpty(t, k)
	}
}

func TestCatchOfNoCPU(t *testing.T) {
	for _, cpus := range []int{1, 2, 64} {
		p := newPair(t, cpus, 5)
		p.put(0, 3, 10)
		p.put(cpus-1, 4, 10)
		for _, cpu := range noCPUs(cpus) {
			for _, now := range []uint64{0, 5, 1000, last} {
				p.catch(cpu, now)
				if shown := p.k.Now(cpu); shown != 0 {
					t.Errorf("Catch(%d, %d): it shows %d", cpu, now, shown)
				}
			}
		}
	}
}

// P8.2

func TestFind(t *testing.T) {
	k := made(t, 4, 0)
	wantCatch(t, k, 2, 1000)
	for id, cpu := range []int{3, 0, 2, 1, 1} {
		wantPut(t, k, cpu, id, 1010, api.OK)
	}
	wantPut(t, k, 3, 255, 5, api.OK)
	for id, cpu := range []int{3, 0, 2, 1, 1} {
		due := uint64(1024)
		if cpu == 2 {
			due = 1010
		}
		wantFind(t, k, id, cpu, due)
	}
	wantFind(t, k, 255, 3, 5)
	wantNotFound(t, k, wrongNumbers()...)
	wantNotFound(t, k, 5, 6, 128, 254)
	wantCatch(t, k, 2, 1009)
	wantFind(t, k, 2, 2, 1010) // it stays where it stood, though it is near now
	wantCatch(t, k, 2, 1010, 2)
	wantNotFound(t, k, 2) // came out
	if n := k.Del(3, 255); n != 2 {
		t.Error(n)
	}
	wantNotFound(t, k, 3, 255) // taken out
	wantFind(t, k, 4, 1, 1024)
	wantPut(t, k, 0, 3, 9, api.OK)
	wantFind(t, k, 3, 0, 9)
}

func TestNext(t *testing.T) {
	k := made(t, 5, 0)
	wantNext(t, k, 0, false)
	wantNext(t, k, 0, false, 0)
	wantNext(t, k, 0, false, 0, 1, 2, 3, 4)
	wantPut(t, k, 1, 10, 50, api.OK)
	wantPut(t, k, 1, 11, 60, api.OK)
	wantPut(t, k, 2, 12, 7, api.OK)
	wantPut(t, k, 4, 13, 100, api.OK) // due at 104
	for _, x := range []struct {
		cpus []int
		want uint64
		some bool
	}{
		{nil, 7, true},
		{[]int{}, 7, true},
		{[]int{1}, 50, true},
		{[]int{2}, 7, true},
		{[]int{4}, 104, true},
		{[]int{0}, 0, false}, // whose wheel holds nothing
		{[]int{0, 3}, 0, false},
		{[]int{0, 4}, 104, true},
		{[]int{4, 0}, 104, true},
		{[]int{1, 4}, 50, true},
		{[]int{4, 1}, 50, true},
		{[]int{4, 1, 2}, 7, true},
		{[]int{0, 1, 2, 3, 4}, 7, true},
		{[]int{4, 4}, 104, true}, // named twice
		{[]int{3, 4, 3, 1, 1, 4}, 50, true},
		{[]int{-1, 4}, 104, true}, // some that there aren't
		{[]int{4, 5, 1}, 50, true},
		{[]int{5, 68, 64, 4}, 104, true},
		{[]int{5}, 0, false}, // none that there are: not all of them
		{[]int{-1}, 0, false},
		{[]int{64, 65, 66}, 0, false},
		{[]int{-63, 65, 257, 1<<32 + 2, -1<<32 + 1}, 0, false},
		{wrongNumbers(), 0, false},
		{append(wrongNumbers(), 1), 50, true},
	} {
		wantNext(t, k, x.want, x.some, x.cpus...)
	}
	wantCatch(t, k, 2, 6)
	wantNext(t, k, 7, true)
	wantCatch(t, k, 2, 7, 12)
	wantNext(t, k, 50, true)
	wantNext(t, k, 0, false, 2)
	wantNext(t, k, 104, true, 2, 4)
	wantCatch(t, k, 0, 1000)
	wantNext(t, k, 50, true)
	if n := k.Del(10); n != 1 {
		t.Error(n)
	}
	wantNext(t, k, 60, true)
	wantNext(t, k, 60, true, 1)
}

// TestNextOfAllCPUs: of each there is, the last one, too; and a timer that is due at the last tick is one.
func TestNextOfAllCPUs(t *testing.T) {
	p := newPair(t, 64, last-100)
	for cpu := range 64 {
		p.put(cpu, cpu, last)
	}
	wantNext(t, p.k, last, true)
	p.put(63, 255, last-50)
	wantNext(t, p.k, last-50, true)
	wantNext(t, p.k, last, true, 62)
	wantNext(t, p.k, last-50, true, 62, 63, 64)
	p.put(0, 254, last-51)
	wantNext(t, p.k, last-51, true)
	p.catch(0, last-51)
	p.catch(63, last)
	wantNext(t, p.k, last, true)
	wantNext(t, p.k, 0, false, 63)
}

// TestNextOfSeveral holds what is told of any few CPUs against the book, in whatever order and number they are named.
func TestNextOfSeveral(t *testing.T) {
	for _, cpus := range []int{1, 2, 7, 64} {
		p := newPair(t, cpus, 0)
		next := numbers(uint64(cpus))
		for id := range cpus {
			p.put(int(next(uint64(cpus))), id, next(100000))
		}
		for range 3000 {
			var l []int
			for range next(6) {
				l = append(l, int(next(uint64(cpus)+4))-2)
			}
			p.next(l...)
		}
	}
}

func TestLate(t *testing.T) {
	k := made(t, 64, 0)
	wantLate(t, k, 0)
	wantLate(t, k, last)
	wantPut(t, k, 0, 1, 10, api.OK)
	wantPut(t, k, 63, 2, 20, api.OK)
	wantPut(t, k, 5, 3, 20, api.OK)
	wantPut(t, k, 5, 4, 15, api.OK)
	wantPut(t, k, 6, 5, 100, api.OK) // due at 104
	for _, x := range []struct {
		now  uint64
		want []int
	}{
		{0, nil},
		{9, nil}, // just ahead of the first one's
		{10, []int{0}},
		{11, []int{0}},
		{14, []int{0}},
		{15, []int{0, 5}},
		{19, []int{0, 5}},
		{20, []int{0, 5, 63}},
		{21, []int{0, 5, 63}},
		{100, []int{0, 5, 63}}, // a deadline isn't when it is due
		{103, []int{0, 5, 63}},
		{104, []int{0, 5, 6, 63}},
		{105, []int{0, 5, 6, 63}},
		{last, []int{0, 5, 6, 63}},
	} {
		wantLate(t, k, x.now, x.want...)
	}
	wantCatch(t, k, 5, 15, 4)
	wantLate(t, k, 15, 0)
	wantLate(t, k, 19, 0)
	wantLate(t, k, 20, 0, 5, 63)
	if n := k.Del(1, 2); n != 2 {
		t.Error(n)
	}
	wantLate(t, k, 20, 5)
	wantLate(t, k, 1000, 5, 6)
	wantCatch(t, k, 6, 1000, 5)
	wantLate(t, k, last, 5)
}

func TestLateAtTheLastTick(t *testing.T) {
	k := made(t, 2, last-1)
	wantPut(t, k, 1, 0, 0, api.OK)
	wantLate(t, k, 0)
	wantLate(t, k, last-1)
	wantLate(t, k, last, 1)
	wantCatch(t, k, 1, last, 0)
	wantLate(t, k, last)
}

// TestTellsOfNumbers: Now, CPUs and Len behind each Put, Del and Catch, of all that do something and of those that do nothing.
func TestTellsOfNumbers(t *testing.T) {
	k := made(t, 3, 40)
	tells := func(n int, ticks ...uint64) {
		t.Helper()
		if k.Len() != n || k.CPUs() != 3 {
			t.Errorf("%d timers, %d CPUs; not %d, 3", k.Len(), k.CPUs(), n)
		}
		for cpu, want := range ticks {
			if now := k.Now(cpu); now != want {
				t.Errorf("Now(%d): %d, not %d", cpu, now, want)
			}
		}
		for _, cpu := range append(wrongNumbers(), 3, 4, 63, 64, 65) {
			if now := k.Now(cpu); now != 0 {
				t.Errorf("Now(%d): %d", cpu, now)
			}
		}
	}
	tells(0, 40, 40, 40)
	wantPut(t, k, 0, 1, 45, api.OK)
	tells(1, 40, 40, 40)
	wantPut(t, k, 2, 2, 45, api.OK)
	tells(2, 40, 40, 40)
	wantPut(t, k, 1, 2, 45, api.ErrTwice)
	wantPut(t, k, 3, 3, 45, api.ErrRange)
	tells(2, 40, 40, 40)
	wantCatch(t, k, 1, 50)
	tells(2, 40, 50, 40)
	wantCatch(t, k, 2, 44)
	tells(2, 40, 50, 44)
	wantCatch(t, k, 2, 45, 2)
	tells(1, 40, 50, 45)
	wantCatch(t, k, 1, 49)
	tells(1, 40, 50, 45)
	wantPut(t, k, 1, 2, 60, api.OK)
	wantPut(t, k, 1, 3, 60, api.OK)
	tells(3, 40, 50, 45)
	k.Del(3, 4)
	tells(2, 40, 50, 45)
	k.Del()
	k.Del(3)
	tells(2, 40, 50, 45)
	k.Del(1, 2)
	tells(0, 40, 50, 45)
	k.Catch(3, last)
	k.Catch(-1, last)
	tells(0, 40, 50, 45)
	wantCatch(t, k, 0, last)
	wantPut(t, k, 0, 1, 45, api.ErrClock)
	tells(0, last, 50, 45)
}

// P8.3

// TestCatchLeavesTheOthers: what was put on the others is told and comes out as if that CPU had never gone on.
func TestCatchLeavesTheOthers(t *testing.T) {
	for _, cpus := range []int{2, 3, 64} {
		for _, far := range []uint64{1, 7, 64, 3000, 1 << 30, last} {
			for _, cpu := range []int{0, cpus - 1} {
				k, still := made(t, cpus, 0), made(t, cpus, 0)
				next := numbers(far)
				for id := range 256 {
					at := next(1 << (1 + next(12)))
					wantPut(t, k, id%cpus, id, at, api.OK)
					wantPut(t, still, id%cpus, id, at, api.OK)
				}
				k.Catch(cpu, far)
				for id := range 256 {
					if id%cpus != cpu {
						_, s, _ := still.Find(id)
						wantFind(t, k, id, id%cpus, s.Due)
					}
				}
				for other := range cpus {
					if other == cpu {
						continue
					}
					if now := k.Now(other); now != 0 {
						t.Errorf("behind Catch(%d, %d): %d shows %d", cpu, far, other, now)
					}
					at, is := still.Next(other)
					wantNext(t, k, at, is, other)
					for _, now := range []uint64{at - 1, at, far, 5000} {
						if got, want := k.Late(now).Has(other), still.Late(now).Has(other); got != want {
							t.Errorf("behind Catch(%d, %d): Late(%d) of %d: %v", cpu, far, now, other, got)
						}
					}
					wantCatch(t, k, other, 500, still.Catch(other, 500)...)
					wantCatch(t, k, other, last, still.Catch(other, last)...)
				}
			}
		}
	}
}

// TestCaughtUpIsNotLate: nor is it at a tick that its wheel has gone by.
func TestCaughtUpIsNotLate(t *testing.T) {
	for _, now := range []uint64{0, 77, 1 << 40, last - 30000} {
		k := made(t, 5, now)
		next := numbers(now)
		for range 4000 {
			cpu, tick := int(next(5)), now+next(20000)
			k.Put(int(next(5)), int(next(256)), now+next(20000))
			k.Put(cpu, int(next(256)), k.Now(cpu)) // due at the tick behind it
			if next(3) > 0 {
				continue
			}
			k.Catch(cpu, tick)
			if k.Late(tick).Has(cpu) || k.Late(k.Now(cpu)).Has(cpu) {
				t.Fatalf("Catch(%d, %d): late still", cpu, tick)
			}
			if at, is := k.Next(cpu); is && at <= k.Now(cpu) {
				t.Fatalf("Catch(%d, %d): due at %d still", cpu, tick, at)
			}
		}
		for cpu := range 5 {
			k.Catch(cpu, last)
		}
		wantLate(t, k, last)
		wantEmpty(t, k)
	}
}

// TestLateAreThoseWhoCatch: a CPU is late at now just if its catching up to now, which is ahead, takes out something.
func TestLateAreThoseWhoCatch(t *testing.T) {
	next := numbers(11)
	for now := uint64(1); now < 3000; now += 1 + next(40) {
		k := made(t, 7, 0)
		for id := range 20 {
			wantPut(t, k, int(next(7)), id, next(3000), api.OK)
		}
		late := k.Late(now)
		for cpu := range 7 {
			if l := k.Catch(cpu, now); late.Has(cpu) != (len(l) > 0) {
				t.Errorf("at %d: %d: late %v, takes out %v", now, cpu, late.Has(cpu), l)
			}
		}
		wantLate(t, k, now)
	}
}

// TestLikeTheBook does many things one behind the other, from ticks of all lengths, on few CPUs and on all.
func TestLikeTheBook(t *testing.T) {
	for _, cpus := range []int{1, 2, 5, 64} {
		for _, now := range []uint64{0, 1<<40 + 1, last - 20000, last - 300} {
			p := newPair(t, cpus, now)
			next := numbers(now + uint64(cpus))
			cpu := func() int { return int(next(uint64(cpus)+2)) - 1 }
			for range 300 {
				switch c := cpu(); next(8) {
				case 0, 1, 2:
					p.put(c, int(next(42))-1, p.b.shows(c)+next(3000))
				case 3:
					p.put(c, int(next(258))-1, next(last))
				case 4:
					var l []int
					for range next(5) {
						l = append(l, int(next(42))-1)
					}
					p.del(l...)
				case 5:
					p.catch(c, p.b.shows(c)+min(next(300), last-p.b.shows(c)))
				case 6:
					p.catch(c, p.b.shows(c)-min(next(3), p.b.shows(c)))
				case 7:
					if at, is := p.k.Next(c); is {
						p.catch(c, at-next(2))
					}
				}
			}
			for c := range cpus {
				p.catch(c, last)
			}
			wantEmpty(t, p.k)
		}
	}
}

func TestNil(t *testing.T) {
	var k *bank.Bank
	for _, cpu := range append(wrongNumbers(), 0, 1, 63, 64) {
		for _, id := range append(wrongNumbers(), 0, 1, 255) {
			wantPut(t, k, cpu, id, 5, api.ErrState)
			wantPut(t, k, cpu, id, last, api.ErrState)
		}
		for _, now := range someTicks() {
			if l := k.Catch(cpu, now); len(l) != 0 {
				t.Errorf("Catch(%d, %d): %v", cpu, now, l)
			}
		}
		if now := k.Now(cpu); now != 0 {
			t.Errorf("Now(%d): %d", cpu, now)
		}
		wantNext(t, k, 0, false, cpu)
	}
	if k.Del() != 0 || k.Del(0) != 0 || k.Del(all()...) != 0 {
		t.Error("Del")
	}
	if n := k.CPUs(); n != 0 {
		t.Error(n)
	}
	wantNext(t, k, 0, false, 0, 1, 2)
	wantEmpty(t, k)
}

// P1: a bank that New did not make doesn't panic either; it has no CPUs.

func TestNotMade(t *testing.T) {
	k := new(bank.Bank)
	wantPut(t, k, 0, 5, 5, api.ErrRange)
	wantPut(t, k, 0, 256, 5, api.ErrRange)
	if l := k.Catch(0, 5); len(l) != 0 || k.Now(0) != 0 || k.CPUs() != 0 || k.Del(5) != 0 {
		t.Error(l, k.Now(0), k.CPUs())
	}
	wantNext(t, k, 0, false, 0)
	wantEmpty(t, k)
}

// The rules of all layers: lists are new memory, nothing handed in is kept or changed, and a bank changes itself alone.

func TestListsAreNew(t *testing.T) {
	p := newPair(t, 2, 0)
	for id := range 20 {
		p.put(id%2, id, uint64(5+id/10))
	}
	for _, cpu := range []int{0, 1} {
		l := p.catch(cpu, 5)
		for i := range l {
			l[i] = 200
		}
		_ = append(l, 201, 202, 203)
		p.look()
	}
	p.put(0, 0, 6)
	if l := p.catch(0, 6); !slices.Equal(l, []int{10, 12, 14, 16, 18, 0}) {
		t.Error(l)
	}
}

func TestListsAreLeftAsTheyAre(t *testing.T) {
	p := newPair(t, 3, 0)
	for id := range 20 {
		p.put(id%3, id, 9)
	}
	l := []int{7, 3, 7, -1, 256, 11, 30, 3, 2}
	was := slices.Clone(l)
	p.del(l...)
	p.next(l...)
	if !slices.Equal(l, was) {
		t.Error(l)
	}
	clear(l)
	p.look()
}

func TestBanksAreApart(t *testing.T) {
	a, b := newPair(t, 2, 0), newPair(t, 2, 0)
	a.put(0, 3, 100)
	b.look()
	b.put(1, 3, 50)
	b.put(0, 4, 7)
	a.look()
	a.catch(0, 1000)
	b.look()
	b.del(3)
	b.catch(0, 7)
	a.look()
}

// P2

func TestSameAgain(t *testing.T) {
	run := func() []int {
		next := numbers(29)
		k := made(t, 9, 77)
		var l []int
		for range 2000 {
			cpu := int(next(9))
			s, e := k.Put(cpu, int(next(256)), k.Now(cpu)+next(1<<(1+next(20))))
			l = append(l, s.Level, s.Slot, int(e), k.Del(int(next(256))))
			if next(5) == 0 {
				l = append(l, k.Catch(cpu, k.Now(cpu)+next(1<<(1+next(14))))...)
			}
			where, s, _ := k.Find(int(next(256)))
			at, _ := k.Next(cpu, int(next(9)))
			l = append(l, where, s.Slot, int(at), int(k.Late(at)), k.Len())
		}
		return l
	}
	if !slices.Equal(run(), run()) {
		t.Error("another time, other answers")
	}
}

func TestExamples(t *testing.T) {
	k := made(t, 2, 0)
	wantPut(t, k, 1, 7, 5, api.OK)
	wantPut(t, k, 0, 7, 9, api.ErrTwice)
	wantCatch(t, k, 0, 10)
	wantLate(t, k, 10, 1)
	wantCatch(t, k, 1, 10, 7)
}
