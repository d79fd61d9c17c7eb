package calls_test

import (
	"math"
	"slices"
	"testing"

	"detent/api"
	"detent/calls"
)

// entry is a callback in a book.
type entry struct{ cpu, id, gen int }

// book is lists told in another way than the package does it: one row of the callbacks of all CPUs in the order in which they were added, gone through from end to end each time. What lists answer is held against it.
type book struct {
	cpus   int
	closed int
	row    []entry
}

func (b *book) add(cpu int, ids ...int) api.Errno {
	if cpu < 0 || cpu > b.cpus-1 {
		return api.ErrRange
	}
	for _, id := range ids {
		if len(b.of(cpu)) == 64 {
			return api.ErrFull
		}
		b.row = append(b.row, entry{cpu: cpu, id: id})
	}
	return api.OK
}

func (b *book) close(gen int) int {
	if gen < 1 || gen < b.closed {
		return 0
	}
	b.closed = gen
	n := 0
	for i := range b.row {
		if b.row[i].gen == 0 {
			b.row[i].gen = gen
			n++
		}
	}
	return n
}

func (b *book) done(gen int) []int {
	var l []int
	for cpu := range b.cpus {
		for _, x := range b.row {
			if x.cpu == cpu && x.gen != 0 && x.gen <= gen {
				l = append(l, x.id)
			}
		}
	}
	b.row = slices.DeleteFunc(b.row, func(x entry) bool { return x.gen != 0 && x.gen <= gen })
	return l
}

func (b *book) of(cpu int) []calls.Call {
	var l []calls.Call
	for _, x := range b.row {
		if x.cpu == cpu {
			l = append(l, calls.Call{Id: x.id, Gen: x.gen})
		}
	}
	return l
}

// gens are the generations of all callbacks, rising: first the zeros of those that have none.
func (b *book) gens() []int {
	var l []int
	for _, x := range b.row {
		l = append(l, x.gen)
	}
	slices.Sort(l)
	return l
}

// pair is lists beside their book: each of its methods does the same with both, looks at all that they tell then, and ends the test if they part.
type pair struct {
	t *testing.T
	l *calls.Lists
	b *book
}

func newPair(t *testing.T, cpus int) *pair {
	t.Helper()
	p := &pair{t: t, l: of(t, cpus), b: &book{cpus: cpus}}
	p.look()
	return p
}

func (p *pair) add(cpu int, ids ...int) {
	p.t.Helper()
	was := slices.Clone(ids)
	want := p.b.add(cpu, ids...)
	if e := p.l.Add(cpu, ids...); e != want {
		p.t.Fatalf("of %d: Add(%d, %v): %d, not %d", p.b.cpus, cpu, was, e, want)
	}
	if !slices.Equal(ids, was) {
		p.t.Fatalf("Add(%d, %v) changed what it was handed: %v", cpu, was, ids)
	}
	clear(ids) // what is handed in isn't kept
	p.look()
}

func (p *pair) close(gen int) int {
	p.t.Helper()
	want := p.b.close(gen)
	if n := p.l.Close(gen); n != want {
		p.t.Fatalf("of %d: Close(%d): %d, not %d", p.b.cpus, gen, n, want)
	}
	p.look()
	return want
}

func (p *pair) done(gen int) []int {
	p.t.Helper()
	want := p.b.done(gen)
	l := p.l.Done(gen)
	if !slices.Equal(l, want) {
		p.t.Fatalf("of %d: Done(%d): %v, not %v", p.b.cpus, gen, l, want)
	}
	p.look()
	return want
}

func (p *pair) look() {
	p.t.Helper()
	for cpu := -1; cpu < 66; cpu++ {
		if l, want := p.l.Of(cpu), p.b.of(cpu); !slices.Equal(l, want) {
			p.t.Fatalf("of %d: Of(%d): %v, not %v", p.b.cpus, cpu, l, want)
		}
	}
	gens := p.b.gens()
	open, newest := 0, 0
	for _, gen := range gens {
		if gen == 0 {
			open++
		}
		newest = gen
	}
	wantCounts(p.t, p.l, open, newest, len(gens))
}

// of is new lists.
func of(t *testing.T, cpus int) *calls.Lists {
	t.Helper()
	l, e := calls.New(cpus)
	if l == nil || e != api.OK {
		t.Fatalf("New(%d): %v, %d", cpus, l, e)
	}
	return l
}

func wantCounts(t *testing.T, l *calls.Lists, open, newest, held int) {
	t.Helper()
	if n := l.Open(); n != open {
		t.Fatalf("Open: %d, not %d", n, open)
	}
	if n := l.Newest(); n != newest {
		t.Fatalf("Newest: %d, not %d", n, newest)
	}
	if n := l.Len(); n != held {
		t.Fatalf("Len: %d, not %d", n, held)
	}
}

func wantAdd(t *testing.T, l *calls.Lists, want api.Errno, cpu int, ids ...int) {
	t.Helper()
	if e := l.Add(cpu, ids...); e != want {
		t.Fatalf("Add(%d, %v): %d, not %d", cpu, ids, e, want)
	}
}

func wantClose(t *testing.T, l *calls.Lists, gen, want int) {
	t.Helper()
	if n := l.Close(gen); n != want {
		t.Fatalf("Close(%d): %d, not %d", gen, n, want)
	}
}

func wantDone(t *testing.T, l *calls.Lists, gen int, want ...int) {
	t.Helper()
	if got := l.Done(gen); !slices.Equal(got, want) {
		t.Fatalf("Done(%d): %v, not %v", gen, got, want)
	}
}

func wantOf(t *testing.T, l *calls.Lists, cpu int, want ...calls.Call) {
	t.Helper()
	if got := l.Of(cpu); !slices.Equal(got, want) {
		t.Fatalf("Of(%d): %v, not %v", cpu, got, want)
	}
}

// row is so many numbers, from one on.
func row(from, many int) []int {
	var l []int
	for i := range many {
		l = append(l, from+i)
	}
	return l
}

// noCPUs are numbers of none in lists of so many.
func noCPUs(cpus int) []int {
	return []int{math.MinInt, math.MinInt + 1, -1 << 32, -cpus - 1, -cpus, -2, -1, cpus, cpus + 1, 2 * cpus, 64, 65, 128, 256, 1 << 32, 1<<32 + 1, math.MaxInt - 1, math.MaxInt}
}

// noGens are numbers of no generation.
func noGens() []int {
	return []int{math.MinInt, math.MinInt + 1, -1 << 32, -64, -2, -1, 0}
}

// numbers gives numbers that look like chance, and are the same each time.
func numbers(seed uint64) func(below int) int {
	x := seed
	return func(below int) int {
		x = x*6364136223846793005 + 1442695040888963407
		return int((x ^ x>>29) >> 7 % uint64(below))
	}
}

func TestMost(t *testing.T) {
	if calls.Most != 64 {
		t.Error(calls.Most)
	}
}

// P11.1

func TestNew(t *testing.T) {
	for cpus := 1; cpus <= 64; cpus++ {
		p := newPair(t, cpus)
		p.done(math.MaxInt)
		for _, cpu := range noCPUs(cpus) {
			wantOf(t, p.l, cpu)
		}
		for cpu := range cpus {
			wantAdd(t, p.l, api.OK, cpu, cpu)
		}
		wantAdd(t, p.l, api.ErrRange, cpus, cpus)
		wantClose(t, p.l, 1, cpus)
		wantDone(t, p.l, 1, row(0, cpus)...)
	}
}

func TestNewOfNoSuchNumber(t *testing.T) {
	for _, cpus := range []int{math.MinInt, math.MinInt + 1, -1 << 32, -64, -1, 0, 65, 66, 128, 256, 1 << 32, 1<<32 + 1, math.MaxInt - 1, math.MaxInt} {
		if l, e := calls.New(cpus); l != nil || e != api.ErrRange {
			t.Errorf("New(%d): %v, %d", cpus, l, e)
		}
	}
}

func TestAdd(t *testing.T) {
	for _, cpus := range []int{1, 2, 3, 63, 64} {
		for _, cpu := range []int{0, cpus / 2, cpus - 1} {
			p := newPair(t, cpus)
			p.add(cpu)
			p.add(cpu, 7)
			p.add(cpu, 8, 9, 1)
			p.add(cpu, 8, 8)
			p.add(cpu, -1, 0, math.MinInt, math.MaxInt, -1)
			p.add(cpu)
			p.add(cpus-1-cpu, 8)
			wantCounts(t, p.l, 12, 0, 12)
			p.close(2)
			p.add(cpu, 8)
			p.done(2)
			wantOf(t, p.l, cpu, calls.Call{Id: 8})
		}
	}
}

func TestAddOnNoCPU(t *testing.T) {
	for _, cpus := range []int{1, 2, 5, 63, 64} {
		p := newPair(t, cpus)
		p.add(cpus-1, 5)
		p.add(0, 6)
		for _, cpu := range noCPUs(cpus) {
			for _, ids := range [][]int{nil, {}, {5}, {7, 8, 9}, row(0, 65)} {
				wantAdd(t, p.l, api.ErrRange, cpu, ids...)
				p.look()
			}
		}
	}
}

// TestAddRangeAheadOfFull: though no list has room, a CPU that isn't there is told as such.
func TestAddRangeAheadOfFull(t *testing.T) {
	p := newPair(t, 2)
	p.add(0, row(0, 64)...)
	p.add(1, row(0, 64)...)
	wantAdd(t, p.l, api.ErrRange, 2, 5)
	wantAdd(t, p.l, api.ErrRange, -1, 5)
	wantAdd(t, p.l, api.ErrFull, 1, 5)
	p.look()
}

// TestAddToTheLast: the 64th is taken and the 65th isn't, one by one and several at once; what stands ahead of the one that doesn't fit stays, and nothing behind it is taken.
func TestAddToTheLast(t *testing.T) {
	for _, at := range []int{1, 2, 3, 7, 31, 63, 64, 65, 66, 100, 1000} {
		for _, gen := range []int{0, 3} {
			p := newPair(t, 2)
			for from := 0; from < 64+at; from += at {
				p.add(1, row(from, at)...)
				p.close(gen)
			}
			if got := len(p.l.Of(1)); got != 64 {
				t.Fatalf("%d at once: %d", at, got)
			}
		}
	}
}

func TestAddOfAFullList(t *testing.T) {
	l := of(t, 3)
	wantAdd(t, l, api.OK, 1, row(0, 63)...)
	wantAdd(t, l, api.ErrFull, 1, 63, 64, 65)
	wantCounts(t, l, 64, 0, 64)
	if got := l.Of(1)[63]; got != (calls.Call{Id: 63}) {
		t.Error(got)
	}
	for range 3 {
		wantAdd(t, l, api.ErrFull, 1, 5)
		wantAdd(t, l, api.OK, 1)
		wantCounts(t, l, 64, 0, 64)
	}
	wantAdd(t, l, api.OK, 0, row(100, 64)...) // other CPUs' lists have their own room
	wantAdd(t, l, api.OK, 2, row(200, 64)...)
	wantAdd(t, l, api.ErrFull, 0, 5)
	wantAdd(t, l, api.ErrFull, 2, 5)
	wantCounts(t, l, 192, 0, 192)
	wantClose(t, l, 1, 192)
	wantAdd(t, l, api.ErrFull, 1, 5) // to have a generation makes no room
	wantDone(t, l, 1, slices.Concat(row(100, 64), row(0, 64), row(200, 64))...)
	wantAdd(t, l, api.OK, 1, row(300, 64)...)
	wantAdd(t, l, api.ErrFull, 1, 5)
	wantCounts(t, l, 64, 0, 64)
}

// TestAddTakesAgainSoMany: as many as were done.
func TestAddTakesAgainSoMany(t *testing.T) {
	for done := range 65 {
		p := newPair(t, 1)
		p.add(0, row(0, done)...)
		p.close(1)
		p.add(0, row(done, 64-done)...)
		p.add(0, 5)
		p.done(1)
		p.add(0, row(64, 65)...)
		p.close(2)
		p.done(2)
		wantCounts(t, p.l, 0, 0, 0)
	}
}

// TestAddIsHandedAPiece: what lies behind what is handed in isn't touched, either.
func TestAddIsHandedAPiece(t *testing.T) {
	ids := []int{5, 6, 7, 8}
	l := of(t, 1)
	wantAdd(t, l, api.OK, 0, ids[1:3]...)
	if !slices.Equal(ids, []int{5, 6, 7, 8}) {
		t.Error(ids)
	}
	clear(ids)
	wantAdd(t, l, api.OK, 0, 9)
	wantOf(t, l, 0, calls.Call{Id: 6}, calls.Call{Id: 7}, calls.Call{Id: 9})
	if !slices.Equal(ids, []int{0, 0, 0, 0}) {
		t.Error(ids)
	}
}

func TestClose(t *testing.T) {
	p := newPair(t, 3)
	p.add(2, 7)
	p.add(0, 5, 6)
	for _, gen := range noGens() {
		if n := p.close(gen); n != 0 {
			t.Fatal(gen, n)
		}
	}
	wantCounts(t, p.l, 3, 0, 3)
	if n := p.close(1); n != 3 {
		t.Fatal(n)
	}
	wantCounts(t, p.l, 0, 1, 3)
	p.add(1, 8)
	if n := p.close(4); n != 1 {
		t.Fatal(n)
	}
	p.add(1, 9)
	for _, gen := range append(noGens(), 1, 2, 3) { // below the last one that was closed
		if n := p.close(gen); n != 0 {
			t.Fatal(gen, n)
		}
	}
	wantOf(t, p.l, 1, calls.Call{Id: 8, Gen: 4}, calls.Call{Id: 9})
	if n := p.close(4); n != 1 { // the last one again
		t.Fatal(n)
	}
	p.add(1, 10)
	p.add(2, 11)
	if n := p.close(5); n != 2 {
		t.Fatal(n)
	}
	wantOf(t, p.l, 0, calls.Call{Id: 5, Gen: 1}, calls.Call{Id: 6, Gen: 1})
	wantOf(t, p.l, 1, calls.Call{Id: 8, Gen: 4}, calls.Call{Id: 9, Gen: 4}, calls.Call{Id: 10, Gen: 5})
	wantOf(t, p.l, 2, calls.Call{Id: 7, Gen: 1}, calls.Call{Id: 11, Gen: 5})
}

// TestCloseOfAnyGeneration: one that is refused isn't the last one that was closed then.
func TestCloseOfAnyGeneration(t *testing.T) {
	gens := append(noGens(), 1, 2, 3, 63, 64, 1<<31, 1<<32, math.MaxInt-1, math.MaxInt)
	for _, first := range gens {
		for _, second := range gens {
			for _, third := range gens {
				p := newPair(t, 1)
				p.add(0, 5)
				p.close(first)
				p.add(0, 6)
				p.close(second)
				p.add(0, 7)
				p.close(third)
				p.done(second)
				p.done(third)
			}
		}
	}
}

// TestCloseOfNothing: when nothing waits without a generation, none gets it, but it is the last one that was closed: a lesser one behind it isn't closed.
func TestCloseOfNothing(t *testing.T) {
	l := of(t, 2)
	wantClose(t, l, 5, 0)
	wantCounts(t, l, 0, 0, 0)
	wantAdd(t, l, api.OK, 1, 7)
	wantClose(t, l, 4, 0)
	wantOf(t, l, 1, calls.Call{Id: 7})
	wantClose(t, l, 5, 1)
	wantClose(t, l, 9, 0) // it has its generation
	wantOf(t, l, 1, calls.Call{Id: 7, Gen: 5})
	wantAdd(t, l, api.OK, 0, 8)
	wantClose(t, l, 8, 0)
	wantClose(t, l, 0, 0)
	wantCounts(t, l, 1, 5, 2)
	wantDone(t, l, 9, 7)
	wantClose(t, l, 8, 0) // though nothing has a generation any more
	wantClose(t, l, 9, 1)
	wantDone(t, l, 8)
	wantDone(t, l, 9, 8)
	wantClose(t, l, 8, 0)
	wantAdd(t, l, api.OK, 0, 6)
	wantClose(t, l, 8, 0)
	wantCounts(t, l, 1, 0, 1)
}

// TestDoneClosesNothing: what was done lies apart from what was closed.
func TestDoneClosesNothing(t *testing.T) {
	l := of(t, 1)
	wantAdd(t, l, api.OK, 0, 5)
	wantDone(t, l, 100)
	wantClose(t, l, 2, 1)
	wantDone(t, l, 100, 5)
	wantAdd(t, l, api.OK, 0, 6)
	wantClose(t, l, 1, 0)
	wantClose(t, l, 2, 1) // a generation that was done already may be given again
	wantDone(t, l, 1)
	wantDone(t, l, 2, 6)
}

func TestCloseOnAllCPUs(t *testing.T) {
	for _, cpus := range []int{1, 2, 17, 64} {
		p := newPair(t, cpus)
		for cpu := range cpus {
			p.add(cpu, row(100*cpu, 1+cpu%3)...)
		}
		want := p.b.gens()
		if n := p.close(3); n != len(want) {
			t.Fatal(n)
		}
		for cpu := range cpus {
			for _, c := range p.l.Of(cpu) {
				if c.Gen != 3 {
					t.Fatalf("%d has %v", cpu, c)
				}
			}
		}
		p.add(cpus-1, 1, 2)
		if n := p.close(7); n != 2 {
			t.Fatal(n)
		}
		wantCounts(t, p.l, 0, 7, len(want)+2)
	}
}

// TestCloseOfFullLists: all of them, whether they have a generation or none, stay in their order.
func TestCloseOfFullLists(t *testing.T) {
	p := newPair(t, 64)
	for cpu := range 64 {
		p.add(cpu, row(64*cpu, cpu)...)
	}
	if n := p.close(1); n != 63*32 {
		t.Fatal(n)
	}
	for cpu := range 64 {
		p.add(cpu, row(64*cpu+cpu, 64)...)
	}
	if n := p.close(2); n != 64*64-63*32 {
		t.Fatal(n)
	}
	for cpu := range 64 {
		p.add(cpu, 1)
	}
	p.done(1)
	p.done(2)
	wantCounts(t, p.l, 0, 0, 0)
}

// P11.2

// several is lists of three CPUs with callbacks of the generations 2, 3 and 6, and with some of none.
func several(t *testing.T) *pair {
	t.Helper()
	p := newPair(t, 3)
	p.add(2, 21)
	p.add(0, 1, 2)
	p.close(2)
	p.add(2, 22, 23)
	p.close(3)
	p.add(0, 3)
	p.add(1, 11)
	p.close(6)
	p.add(2, 24)
	p.add(0, 4)
	return p
}

func TestDone(t *testing.T) {
	for _, x := range []struct {
		gen  int
		want []int
	}{
		{math.MinInt, nil}, {-1, nil}, {0, nil}, // below 1
		{1, nil}, // below all
		{2, []int{1, 2, 21}},
		{3, []int{1, 2, 21, 22, 23}},
		{4, []int{1, 2, 21, 22, 23}},
		{5, []int{1, 2, 21, 22, 23}},
		{6, []int{1, 2, 3, 11, 21, 22, 23}}, // the newest one
		{7, []int{1, 2, 3, 11, 21, 22, 23}}, // above all
		{math.MaxInt, []int{1, 2, 3, 11, 21, 22, 23}},
	} {
		p := several(t)
		if l := p.done(x.gen); !slices.Equal(l, x.want) {
			t.Errorf("Done(%d): %v, not %v", x.gen, l, x.want)
		}
		for range 2 {
			if l := p.done(x.gen); len(l) != 0 {
				t.Errorf("Done(%d) again: %v", x.gen, l)
			}
		}
		if n := p.l.Len(); n != 9-len(x.want) {
			t.Errorf("Done(%d): Len is %d then", x.gen, n)
		}
	}
}

// TestDoneOneByOne: each generation by itself; the newest one alone at the end.
func TestDoneOneByOne(t *testing.T) {
	l := several(t).l
	wantDone(t, l, 1)
	wantDone(t, l, 2, 1, 2, 21)
	wantDone(t, l, 1)
	wantOf(t, l, 0, calls.Call{Id: 3, Gen: 6}, calls.Call{Id: 4})
	wantOf(t, l, 2, calls.Call{Id: 22, Gen: 3}, calls.Call{Id: 23, Gen: 3}, calls.Call{Id: 24})
	wantDone(t, l, 5, 22, 23)
	wantDone(t, l, 6, 3, 11)
	wantDone(t, l, 6)
	wantCounts(t, l, 2, 0, 2)
	wantOf(t, l, 0, calls.Call{Id: 4})
	wantOf(t, l, 1)
	wantOf(t, l, 2, calls.Call{Id: 24})
}

// TestDoneTellsByCPU: not by generation, nor by when they were added, nor by number.
func TestDoneTellsByCPU(t *testing.T) {
	l := of(t, 64)
	wantAdd(t, l, api.OK, 63, 9)
	wantAdd(t, l, api.OK, 5, 8)
	wantClose(t, l, 1, 2)
	wantAdd(t, l, api.OK, 5, 1, 7, 7)
	wantAdd(t, l, api.OK, 63, 3)
	wantClose(t, l, 2, 4)
	wantAdd(t, l, api.OK, 0, 6)
	wantAdd(t, l, api.OK, 5, -4)
	wantAdd(t, l, api.OK, 62, 5)
	wantClose(t, l, 3, 3)
	wantAdd(t, l, api.OK, 0, 2)
	wantDone(t, l, 3, 6, 8, 1, 7, 7, -4, 5, 9, 3)
}

// TestWithoutAGeneration: such a callback is never told, as long as it has none.
func TestWithoutAGeneration(t *testing.T) {
	l := of(t, 2)
	wantAdd(t, l, api.OK, 0, 5, 6)
	wantAdd(t, l, api.OK, 1, 7)
	for _, gen := range append(noGens(), 1, 2, 64, 1<<32, math.MaxInt) {
		wantDone(t, l, gen)
		wantCounts(t, l, 3, 0, 3)
	}
	wantClose(t, l, math.MaxInt, 3)
	wantDone(t, l, math.MaxInt-1)
	wantAdd(t, l, api.OK, 0, 8)
	wantDone(t, l, math.MaxInt, 5, 6, 7)
	wantDone(t, l, math.MaxInt)
	wantOf(t, l, 0, calls.Call{Id: 8})
}

func TestOf(t *testing.T) {
	for _, cpus := range []int{1, 3, 64} {
		l := of(t, cpus)
		for cpu := range cpus {
			if cpu%3 == 1 {
				continue // without callbacks
			}
			wantAdd(t, l, api.OK, cpu, 10*cpu, 10*cpu+1)
		}
		l.Close(4)
		for cpu := range cpus {
			if cpu%3 == 0 {
				wantAdd(t, l, api.OK, cpu, -cpu)
			}
		}
		for range 2 { // to ask changes nothing
			for cpu := range cpus {
				want := []calls.Call{{Id: 10 * cpu, Gen: 4}, {Id: 10*cpu + 1, Gen: 4}, {Id: -cpu}}
				switch cpu % 3 {
				case 1:
					want = nil
				case 2:
					want = want[:2]
				}
				wantOf(t, l, cpu, want...)
			}
			for _, cpu := range noCPUs(cpus) {
				wantOf(t, l, cpu)
			}
		}
	}
}

func TestOfIsNew(t *testing.T) {
	l := of(t, 2)
	wantAdd(t, l, api.OK, 0, 5, 6)
	wantClose(t, l, 1, 2)
	wantAdd(t, l, api.OK, 0, 7)
	was := []calls.Call{{5, 1}, {6, 1}, {7, 0}}
	a, b := l.Of(0), l.Of(0)
	a[0], a[2] = calls.Call{Id: 50, Gen: 9}, calls.Call{Id: 70, Gen: 1}
	if c := append(a[:1], calls.Call{Id: 60}); c[1].Id != 60 || !slices.Equal(b, was) {
		t.Error(c, b)
	}
	wantOf(t, l, 0, was...)
	wantDone(t, l, 1, 5, 6)
	wantAdd(t, l, api.OK, 0, row(0, 63)...)
	wantClose(t, l, 2, 64)
	if !slices.Equal(b, was) { // what was told stays as it was told
		t.Error(b)
	}
}

func TestDoneIsNew(t *testing.T) {
	l := of(t, 2)
	wantAdd(t, l, api.OK, 0, 5, 6)
	wantAdd(t, l, api.OK, 1, 7)
	wantClose(t, l, 1, 3)
	a := l.Done(1)
	wantAdd(t, l, api.OK, 0, row(10, 64)...)
	wantClose(t, l, 2, 64)
	b := l.Done(2)
	if !slices.Equal(a, []int{5, 6, 7}) || !slices.Equal(b, row(10, 64)) {
		t.Fatal(a, b)
	}
	clear(a)
	wantAdd(t, l, api.OK, 0, 8)
	wantClose(t, l, 3, 1)
	clear(append(b[:0], 1, 2, 3))
	wantOf(t, l, 0, calls.Call{Id: 8, Gen: 3})
	wantDone(t, l, 3, 8)
}

func TestCounts(t *testing.T) {
	l := of(t, 2)
	wantCounts(t, l, 0, 0, 0)
	wantAdd(t, l, api.OK, 1)
	wantCounts(t, l, 0, 0, 0)
	wantAdd(t, l, api.OK, 1, 5, 6)
	wantCounts(t, l, 2, 0, 2)
	wantAdd(t, l, api.OK, 0, 7)
	wantCounts(t, l, 3, 0, 3)
	wantClose(t, l, 3, 3)
	wantCounts(t, l, 0, 3, 3)
	wantAdd(t, l, api.OK, 0, 8)
	wantCounts(t, l, 1, 3, 4)
	wantClose(t, l, 9, 1)
	wantCounts(t, l, 0, 9, 4) // the greatest one stands on the first CPU
	wantAdd(t, l, api.OK, 1, 9)
	wantClose(t, l, 11, 1)
	wantCounts(t, l, 0, 11, 5) // on the last one
	wantAdd(t, l, api.OK, 1, 10, 11)
	wantAdd(t, l, api.OK, 0, 12)
	wantCounts(t, l, 3, 11, 8)
	wantDone(t, l, 3, 7, 5, 6)
	wantCounts(t, l, 3, 11, 5)
	wantDone(t, l, 10, 8)
	wantCounts(t, l, 3, 11, 4)
	wantDone(t, l, 11, 9)
	wantCounts(t, l, 3, 0, 3) // of none alone
	wantClose(t, l, 12, 3)
	wantDone(t, l, 12, 12, 10, 11)
	wantCounts(t, l, 0, 0, 0) // empty again
	wantClose(t, l, 20, 0)
	wantCounts(t, l, 0, 0, 0)
	wantAdd(t, l, api.OK, 1, 13)
	wantCounts(t, l, 1, 0, 1)
}

// P11.3

// TestToldOnce: over many rounds each callback, of a number of its own, is told just once, when its generation is done and no sooner, on its CPU in the order in which it was added.
func TestToldOnce(t *testing.T) {
	for _, cpus := range []int{1, 2, 5, 64} {
		for seed := range uint64(20) {
			next := numbers(seed)
			l := of(t, cpus)
			var cpuOf, genOf []int // by number
			var told []bool
			last := make([]int, cpus) // the last number that was told there
			for cpu := range last {
				last[cpu] = -1
			}
			tell := func(done int) {
				t.Helper()
				at := 0
				for _, id := range l.Done(done) {
					cpu := cpuOf[id]
					if told[id] || genOf[id] == 0 || genOf[id] > done || cpu < at || id <= last[cpu] {
						t.Fatalf("%d of %d, on %d, was told by Done(%d)", id, genOf[id], cpu, done)
					}
					told[id] = true
					at, last[cpu] = cpu, id
				}
				for id := range told {
					if !told[id] && genOf[id] > 0 && genOf[id] <= done {
						t.Fatalf("%d of %d wasn't told by Done(%d)", id, genOf[id], done)
					}
				}
			}
			gen := 0
			for range 300 {
				for range next(4) {
					cpu := next(cpus)
					if l.Add(cpu, len(told)) == api.OK {
						cpuOf, genOf, told = append(cpuOf, cpu), append(genOf, 0), append(told, false)
					}
				}
				if next(3) == 0 {
					gen += next(3)
					closed := l.Close(gen)
					for id := range genOf {
						if gen > 0 && genOf[id] == 0 {
							genOf[id] = gen
							closed--
						}
					}
					if closed != 0 {
						t.Fatalf("Close(%d): %d too many", gen, closed)
					}
				}
				if next(3) == 0 {
					tell(gen - 3 + next(4))
				}
			}
			l.Close(gen + 1)
			for id := range genOf {
				genOf[id] = max(genOf[id], 1)
			}
			tell(gen + 1)
			if slices.Contains(told, false) || l.Len() != 0 {
				t.Errorf("%d CPUs, %d: not all were told", cpus, seed)
			}
		}
	}
}

// TestAllWays goes through all rows of some steps of two CPUs.
func TestAllWays(t *testing.T) {
	steps := []func(p *pair){
		func(p *pair) { p.add(0, 1) },
		func(p *pair) { p.add(1, 2, 3) },
		func(p *pair) { p.close(1) },
		func(p *pair) { p.close(2) },
		func(p *pair) { p.close(3) },
		func(p *pair) { p.done(1) },
		func(p *pair) { p.done(2) },
	}
	rows := 1
	for range 6 {
		rows *= len(steps)
	}
	for row := range rows {
		l, e := calls.New(2)
		p := &pair{t: t, l: l, b: &book{cpus: 2}}
		if e != api.OK {
			t.Fatal(e)
		}
		for range 6 {
			steps[row%len(steps)](p)
			row /= len(steps)
		}
	}
}

// TestLikeTheBook does many things one behind the other, of few CPUs and of all; seldom enough is done that lists are full now and then.
func TestLikeTheBook(t *testing.T) {
	for _, cpus := range []int{1, 2, 7, 64} {
		for seed := range uint64(8) {
			p := newPair(t, cpus)
			next := numbers(seed + 100*uint64(cpus))
			gen, full := 0, 0
			for range 400 {
				switch next(8) {
				case 0:
					gen += next(3)
					p.close(gen)
				case 1:
					p.close(gen - next(4))
				case 2:
					p.done(gen - next(8))
				case 3:
					if next(4) == 0 {
						p.done(gen + next(2))
					}
				default:
					p.add(next(cpus+2)-1, row(next(1000), next(30))...)
				}
				if len(p.l.Of(0)) == 64 {
					full++
				}
			}
			if cpus < 7 && full == 0 {
				t.Errorf("%d CPUs, %d: a list was never full", cpus, seed)
			}
		}
	}
}

func TestNil(t *testing.T) {
	var l *calls.Lists
	for range 2 {
		for _, cpu := range append(noCPUs(1), 0) {
			wantAdd(t, l, api.ErrState, cpu)
			wantAdd(t, l, api.ErrState, cpu, 5)
			wantAdd(t, l, api.ErrState, cpu, row(0, 65)...)
			wantOf(t, l, cpu)
		}
		for _, gen := range append(noGens(), 1, 2, 64, math.MaxInt) {
			wantClose(t, l, gen, 0)
			wantDone(t, l, gen)
		}
		wantCounts(t, l, 0, 0, 0)
	}
}

// TestZero: lists that New did not make have no CPUs.
func TestZero(t *testing.T) {
	var l calls.Lists
	for _, cpu := range append(noCPUs(1), 0) {
		wantAdd(t, &l, api.ErrRange, cpu, 5)
		wantOf(t, &l, cpu)
	}
	for _, gen := range append(noGens(), 1, 2, math.MaxInt) {
		wantClose(t, &l, gen, 0)
		wantDone(t, &l, gen)
	}
	wantCounts(t, &l, 0, 0, 0)
}

// The rules of all layers.

func TestListsAreApart(t *testing.T) {
	a, b := newPair(t, 2), newPair(t, 2)
	a.add(0, 5)
	b.add(0, 6, 7)
	a.close(9)
	b.look()
	b.close(2)
	a.look()
	b.done(2)
	a.look()
	a.done(9)
}

// TestAskingChangesNothing: what is told stays, however often it is asked.
func TestAskingChangesNothing(t *testing.T) {
	p := several(t)
	for range 5 {
		p.look()
		wantCounts(t, p.l, 2, 6, 9)
	}
}

// P2

func TestSameAgain(t *testing.T) {
	run := func() []int {
		next := numbers(33)
		l := of(t, 5)
		var told []int
		gen := 0
		for range 500 {
			told = append(told, int(l.Add(next(7)-1, row(next(100), next(9))...)))
			if next(4) == 0 {
				gen += next(2)
				told = append(told, l.Close(gen))
			}
			if next(6) == 0 {
				told = append(told, l.Done(gen-next(3))...)
			}
			for _, c := range l.Of(next(5)) {
				told = append(told, c.Id, c.Gen)
			}
			told = append(told, l.Open(), l.Newest(), l.Len())
		}
		return told
	}
	if !slices.Equal(run(), run()) {
		t.Error("another time, other answers")
	}
}

func TestExamples(t *testing.T) {
	l := of(t, 2)
	wantAdd(t, l, api.OK, 1, 7)
	wantClose(t, l, 3, 1)
	wantAdd(t, l, api.OK, 0, 8)
	wantAdd(t, l, api.OK, 1, 9)
	if n := l.Open(); n != 2 {
		t.Error(n)
	}
	wantDone(t, l, 5, 7)
	wantOf(t, l, 0, calls.Call{Id: 8})
	wantOf(t, l, 1, calls.Call{Id: 9})
}
