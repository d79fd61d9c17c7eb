package arena_test

import (
	"errors"
	"math"
	"runtime"
	"slices"
	"testing"
	"weak"

	"detent/api"
	"detent/arena"
)

type handle = arena.Handle

// book is an arena told in another way than the package does it: what an arena answers is held against it.
type book struct {
	things map[handle]int // by the handles of what is in it
	had    []int          // how many things each slot has had, the one that is in it among them
}

func newBook(slots int) *book {
	return &book{things: map[handle]int{}, had: make([]int, slots)}
}

func (b *book) live() []handle {
	var l []handle
	for slot, n := range b.had {
		h := handle{Slot: slot, Gen: n}
		if _, is := b.things[h]; is {
			l = append(l, h)
		}
	}
	return l
}

func (b *book) free() []int {
	var l []int
	for slot, n := range b.had {
		if _, is := b.things[handle{Slot: slot, Gen: n}]; !is && n < 255 {
			l = append(l, slot)
		}
	}
	return l
}

func (b *book) put(x int) (handle, api.Errno) {
	l := b.free()
	if len(l) == 0 {
		return handle{}, api.ErrFull
	}
	b.had[l[0]]++
	h := handle{Slot: l[0], Gen: b.had[l[0]]}
	b.things[h] = x
	return h, api.OK
}

func (b *book) get(h handle) (int, api.Errno) {
	if h.Slot < 0 || h.Slot >= len(b.had) {
		return 0, api.ErrRange
	}
	x, is := b.things[h]
	if !is {
		return 0, api.ErrStale
	}
	return x, api.OK
}

func (b *book) set(h handle, x int) api.Errno {
	_, e := b.get(h)
	if e == api.OK {
		b.things[h] = x
	}
	return e
}

func (b *book) drop(l ...handle) api.Errno {
	for _, h := range l {
		if _, e := b.get(h); e != api.OK {
			return e
		}
		delete(b.things, h)
	}
	return api.OK
}

// pair is an arena beside its book: each of its methods does the same with both, and tells if they part.
type pair struct {
	t     *testing.T
	a     *arena.Arena[int]
	b     *book
	stamp int
}

func newPair(t *testing.T, slots int) *pair {
	t.Helper()
	return &pair{t: t, a: made[int](t, slots), b: newBook(slots)}
}

// fullPair is one each slot of which holds a thing, of generation gen.
func fullPair(t *testing.T, slots, gen int) *pair {
	t.Helper()
	p := newPair(t, slots)
	for slot := range slots {
		p.put()
		p.age(slot, gen)
	}
	return p
}

func made[T any](t *testing.T, slots int) *arena.Arena[T] {
	t.Helper()
	a, e := arena.New[T](slots)
	if e != api.OK || a == nil {
		t.Fatalf("New(%d): %v, %d", slots, a, e)
	}
	return a
}

// age frees what a slot holds, and puts a thing into it again, till its generation is gen; the slots ahead of it must be held or worn.
func (p *pair) age(slot, gen int) {
	p.t.Helper()
	for p.b.had[slot] < gen {
		p.free(handle{Slot: slot, Gen: p.b.had[slot]})
		p.put()
	}
}

// put puts a thing that was in no arena before.
func (p *pair) put() handle {
	p.t.Helper()
	p.stamp++
	want, wrong := p.b.put(p.stamp)
	h, e := p.a.Put(p.stamp)
	if h != want || e != wrong {
		p.t.Fatalf("%d slots: Put: %v, %d, not %v, %d", len(p.b.had), h, e, want, wrong)
	}
	return h
}

func (p *pair) get(h handle) {
	p.t.Helper()
	want, wrong := p.b.get(h)
	if x, e := p.a.Get(h); x != want || e != wrong {
		p.t.Fatalf("%d slots: Get(%v): %d, %d, not %d, %d", len(p.b.had), h, x, e, want, wrong)
	}
}

func (p *pair) set(h handle) {
	p.t.Helper()
	p.stamp++
	want := p.b.set(h, p.stamp)
	if e := p.a.Set(h, p.stamp); e != want {
		p.t.Fatalf("%d slots: Set(%v): %d, not %d", len(p.b.had), h, e, want)
	}
}

func (p *pair) free(l ...handle) {
	p.t.Helper()
	want := p.b.drop(l...)
	if e := p.a.Free(l...); e != want {
		p.t.Fatalf("%d slots: Free(%v): %d, not %d", len(p.b.had), l, e, want)
	}
}

// look holds all that an arena tells, and doesn't change by telling, against the book.
func (p *pair) look() {
	p.t.Helper()
	live, free := p.b.live(), p.b.free()
	if l := p.a.Live(); !slices.Equal(l, live) {
		p.t.Fatalf("%d slots: Live: %v, not %v", len(p.b.had), l, live)
	}
	if p.a.Len() != len(live) || p.a.Room() != len(free) {
		p.t.Fatalf("%d slots, held %v, free %v: Len %d, Room %d", len(p.b.had), live, free, p.a.Len(), p.a.Room())
	}
	for _, h := range p.handles() {
		p.get(h)
	}
}

// handles are those of a pair's things, and wrong ones: of each slot, and of slots that aren't there.
func (p *pair) handles() []handle {
	var l []handle
	for slot, n := range p.b.had {
		for _, gen := range []int{n, n - 1, n + 1, 1, 0, -1, -n, 254, 255, 256, 257, n + 256, n - 256, math.MinInt, math.MaxInt} {
			l = append(l, handle{Slot: slot, Gen: gen})
		}
	}
	for _, slot := range noSlots(len(p.b.had)) {
		for _, gen := range []int{1, 0, -1, 255, 256, math.MinInt, math.MaxInt} {
			l = append(l, handle{Slot: slot, Gen: gen})
		}
	}
	return l
}

// noSlots are numbers that none of so many slots has.
func noSlots(slots int) []int {
	return []int{math.MinInt, math.MinInt + 1, math.MinInt32, -256, -64, -2, -1, slots, slots + 1, 64, 65, 2*slots + 64,
		1 << 20, math.MaxInt32, math.MaxInt - 1, math.MaxInt}
}

// someSlots are how many slots the arenas of most tests have.
func someSlots() []int {
	return []int{1, 2, 3, 8, 16, 63, 64}
}

// numbers gives numbers that look like chance, and are the same each time.
func numbers(seed uint64) func(n int) int {
	x := seed
	return func(n int) int {
		x = x*6364136223846793005 + 1442695040888963407
		return int(x >> 33 % uint64(n))
	}
}

func TestLimits(t *testing.T) {
	if arena.Most != 64 || arena.MaxGen != 255 {
		t.Error(arena.Most, arena.MaxGen)
	}
}

// P3.1

func TestNew(t *testing.T) {
	for slots := 1; slots <= 64; slots++ {
		a := made[int](t, slots)
		if a.Len() != 0 || a.Room() != slots || len(a.Live()) != 0 {
			t.Errorf("New(%d): Len %d, Room %d, %v", slots, a.Len(), a.Room(), a.Live())
		}
		newPair(t, slots).look()
	}
	for _, slots := range []int{math.MinInt, math.MinInt32, -64, -2, -1, 0, 65, 66, 128, 256, 1 << 20, math.MaxInt32, math.MaxInt} {
		if a, e := arena.New[int](slots); a != nil || e != api.ErrRange {
			t.Errorf("New(%d): %v, %d", slots, a, e)
		}
	}
}

func TestPutTillFull(t *testing.T) {
	for slots := 1; slots <= 64; slots++ {
		p := newPair(t, slots)
		for slot := range slots {
			if h := p.put(); h != (handle{Slot: slot, Gen: 1}) {
				t.Fatalf("%d slots, %d held: Put: %v", slots, slot, h)
			}
			p.look()
		}
		for range 3 {
			if h, e := p.a.Put(5); h != (handle{}) || e != api.ErrFull {
				t.Fatalf("%d slots, all held: Put: %v, %d", slots, h, e)
			}
			p.look()
		}
	}
}

// TestPutTakesTheLeast: whichever slots are free, in whatever order they were freed, those of the least numbers are taken first.
func TestPutTakesTheLeast(t *testing.T) {
	below := numbers(5)
	for _, slots := range someSlots() {
		for range 20 {
			p := fullPair(t, slots, 1)
			for range 1 + below(slots) {
				l := p.b.live()
				p.free(l[below(len(l))])
			}
			for range slots + 1 {
				p.put()
				p.look()
			}
		}
	}
	p := fullPair(t, 4, 1)
	p.free(handle{3, 1}, handle{1, 1})
	for _, want := range []handle{{1, 2}, {3, 2}} {
		if h := p.put(); h != want {
			t.Errorf("Put: %v, not %v", h, want)
		}
	}
}

func TestGetAndSet(t *testing.T) {
	for _, slots := range someSlots() {
		for _, gen := range []int{1, 2, 3, 254, 255} {
			p := fullPair(t, slots, gen)
			p.look()
			for _, h := range p.handles() {
				p.set(h)
				p.get(h)
			}
			p.look()
			p.free(p.b.live()[slots/2]) // one slot is free, or worn
			for _, h := range p.handles() {
				p.set(h)
			}
			p.look()
		}
	}
}

func TestErrorsOfGetAndSet(t *testing.T) {
	a := made[string](t, 3)
	a.Put("a")
	a.Put("b")
	a.Free(handle{0, 1})
	a.Put("c")
	a.Put("d")
	a.Free(handle{2, 1})
	for _, x := range []struct {
		h     handle
		wrong api.Errno
		thing string
	}{
		{handle{0, 2}, api.OK, "c"},
		{handle{1, 1}, api.OK, "b"},
		{handle{-1, 1}, api.ErrRange, ""},
		{handle{3, 1}, api.ErrRange, ""},
		{handle{-1, -1}, api.ErrRange, ""}, // of both errors the one that is named first
		{handle{math.MinInt, math.MinInt}, api.ErrRange, ""},
		{handle{math.MaxInt, math.MaxInt}, api.ErrRange, ""},
		{handle{0, 1}, api.ErrStale, ""},
		{handle{0, 3}, api.ErrStale, ""},
		{handle{0, 0}, api.ErrStale, ""},
		{handle{}, api.ErrStale, ""},
		{handle{1, 0}, api.ErrStale, ""},
		{handle{1, 2}, api.ErrStale, ""},
		{handle{1, 257}, api.ErrStale, ""},
		{handle{1, -1}, api.ErrStale, ""},
		{handle{2, 1}, api.ErrStale, ""}, // free: of no generation there is a thing
		{handle{2, 2}, api.ErrStale, ""},
		{handle{2, 0}, api.ErrStale, ""},
	} {
		if thing, e := a.Get(x.h); thing != x.thing || e != x.wrong {
			t.Errorf("Get(%v): %q, %d", x.h, thing, e)
		}
		if e := a.Set(x.h, "x"+x.thing); e != x.wrong {
			t.Errorf("Set(%v): %d", x.h, e)
		}
	}
	if x, e := a.Get(handle{0, 2}); x != "xc" || e != api.OK {
		t.Error(x, e)
	}
	if x, e := a.Get(handle{1, 1}); x != "xb" || e != api.OK {
		t.Error(x, e)
	}
}

func TestSetKeepsTheHandle(t *testing.T) {
	a := made[int](t, 2)
	h, _ := a.Put(5)
	for x := range 600 {
		if e := a.Set(h, x); e != api.OK {
			t.Fatal(e)
		}
		if y, e := a.Get(h); y != x || e != api.OK {
			t.Fatal(y, e)
		}
	}
	if !slices.Equal(a.Live(), []handle{h}) || a.Len() != 1 || a.Room() != 1 {
		t.Error(a.Live(), a.Len(), a.Room())
	}
}

func TestGetChangesNothing(t *testing.T) {
	a := made[int](t, 2)
	h, _ := a.Put(5)
	for range 5 {
		if x, e := a.Get(h); x != 5 || e != api.OK {
			t.Error(x, e)
		}
	}
	if !slices.Equal(a.Live(), []handle{h}) {
		t.Error(a.Live())
	}
}

// P3.2

func TestFreeOne(t *testing.T) {
	for _, slots := range someSlots() {
		for _, gen := range []int{1, 2, 254, 255} {
			p := fullPair(t, slots, gen)
			for _, h := range p.handles() {
				p.free(h)
			}
			p.look()
			p = fullPair(t, slots, gen)
			for slot := range slots {
				p.free(handle{Slot: slot, Gen: gen})
				p.free(handle{Slot: slot, Gen: gen})
				p.free(handle{Slot: slot, Gen: gen + 1})
				p.look()
			}
		}
	}
}

func TestFreeNothing(t *testing.T) {
	for _, slots := range someSlots() {
		p := newPair(t, slots)
		p.free()
		p.look()
		p = fullPair(t, slots, 1)
		p.free()
		p.look()
		if e := p.a.Free([]handle{}...); e != api.OK {
			t.Error(e)
		}
		p.look()
	}
}

// TestFreeSeveral: all orders of some handles, of which some are wrong, and some told twice; what is behind the first wrong one stays.
func TestFreeSeveral(t *testing.T) {
	some := []handle{{0, 2}, {1, 1}, {2, 1}, {0, 1}, {3, 1}, {4, 1}, {-1, 1}, {1, 2}}
	runs := 1
	for range 4 {
		runs *= len(some)
	}
	for run := range runs {
		p := newPair(t, 4)
		for range 3 {
			p.put()
		}
		p.age(0, 2)
		for long := 4; long >= 1; long-- {
			var l []handle
			for rest := run; len(l) < long; rest /= len(some) {
				l = append(l, some[rest%len(some)])
			}
			p.free(l...)
			p.look()
			p.put()
		}
	}
}

func TestFreeEndsAtTheFirstWrongOne(t *testing.T) {
	for _, x := range []struct {
		l     []handle
		wrong api.Errno
		live  []handle
	}{
		{[]handle{{2, 1}, {0, 1}, {1, 1}}, api.OK, nil},
		{[]handle{{2, 1}, {0, 1}}, api.OK, []handle{{1, 1}}},
		{[]handle{{2, 1}, {0, 2}, {1, 1}}, api.ErrStale, []handle{{0, 1}, {1, 1}}},
		{[]handle{{2, 1}, {2, 1}, {1, 1}}, api.ErrStale, []handle{{0, 1}, {1, 1}}},
		{[]handle{{2, 1}, {3, 1}, {0, 2}}, api.ErrRange, []handle{{0, 1}, {1, 1}}},
		{[]handle{{2, 1}, {0, 2}, {3, 1}}, api.ErrStale, []handle{{0, 1}, {1, 1}}},
		{[]handle{{-1, 1}, {0, 1}}, api.ErrRange, []handle{{0, 1}, {1, 1}, {2, 1}}},
		{[]handle{{0, 1}, {1, 1}, {2, 1}, {0, 2}}, api.ErrStale, nil},
	} {
		a := made[int](t, 3)
		for i := range 3 {
			a.Put(i)
		}
		l := slices.Clone(x.l)
		if e := a.Free(l...); e != x.wrong {
			t.Errorf("Free(%v): %d", x.l, e)
		}
		if !slices.Equal(a.Live(), x.live) || a.Len() != len(x.live) || a.Room() != 3-len(x.live) {
			t.Errorf("Free(%v): %v, Len %d, Room %d", x.l, a.Live(), a.Len(), a.Room())
		}
		if !slices.Equal(l, x.l) {
			t.Errorf("Free changed its list: %v, not %v", l, x.l)
		}
	}
}

// TestWorn: a slot has generations from 1 to 255, and holds nothing behind them.
func TestWorn(t *testing.T) {
	a := made[int](t, 1)
	for gen := 1; gen <= 255; gen++ {
		h, e := a.Put(gen)
		if h != (handle{Slot: 0, Gen: gen}) || e != api.OK {
			t.Fatalf("generation %d: %v, %d", gen, h, e)
		}
		if x, e := a.Get(h); x != gen || e != api.OK {
			t.Fatalf("generation %d: Get: %d, %d", gen, x, e)
		}
		if a.Len() != 1 || a.Room() != 0 {
			t.Fatalf("generation %d: Len %d, Room %d", gen, a.Len(), a.Room())
		}
		if e := a.Free(h); e != api.OK {
			t.Fatalf("generation %d: Free: %d", gen, e)
		}
		room := 1
		if gen == 255 {
			room = 0
		}
		if a.Len() != 0 || a.Room() != room {
			t.Fatalf("freed at generation %d: Len %d, Room %d", gen, a.Len(), a.Room())
		}
	}
	for range 3 {
		if h, e := a.Put(7); h != (handle{}) || e != api.ErrFull {
			t.Errorf("worn: Put: %v, %d", h, e)
		}
		for gen := -2; gen <= 520; gen++ {
			h := handle{Slot: 0, Gen: gen}
			if x, e := a.Get(h); x != 0 || e != api.ErrStale {
				t.Errorf("worn: Get(%v): %d, %d", h, x, e)
			}
			if e := a.Set(h, 7); e != api.ErrStale {
				t.Errorf("worn: Set(%v): %d", h, e)
			}
			if e := a.Free(h); e != api.ErrStale {
				t.Errorf("worn: Free(%v): %d", h, e)
			}
		}
		if a.Len() != 0 || a.Room() != 0 || len(a.Live()) != 0 || a.Free() != api.OK {
			t.Error("worn:", a.Len(), a.Room(), a.Live())
		}
	}
}

// TestWornAmongOthers: a worn slot is passed over, and the others go on.
func TestWornAmongOthers(t *testing.T) {
	for _, slots := range []int{2, 3, 64} {
		for _, worn := range []int{0, 1, slots - 1} {
			p := fullPair(t, slots, 1)
			p.age(worn, 255)
			p.look()
			p.free(handle{Slot: worn, Gen: 255})
			p.look()
			p.put()
			p.look()
			p.free(p.b.live()...)
			p.look()
			for range slots {
				p.put()
			}
			p.look()
		}
	}
}

// TestAllWearOut: each handle is told once, and there is none left behind 255 of each slot.
func TestAllWearOut(t *testing.T) {
	for _, slots := range someSlots() {
		p := newPair(t, slots)
		told := map[handle]bool{}
		for n := range slots * 255 {
			h := p.put()
			if told[h] || h.Slot < 0 || h.Slot >= slots || h.Gen < 1 || h.Gen > 255 {
				t.Fatalf("%d slots: Put number %d: %v", slots, n, h)
			}
			told[h] = true
			if l := p.b.live(); n%3 == 0 {
				p.free(l[n%len(l)])
			}
			if p.a.Room() == 0 {
				p.free(p.b.live()...)
			}
		}
		p.free(p.b.live()...)
		p.look()
		if h, e := p.a.Put(5); h != (handle{}) || e != api.ErrFull {
			t.Errorf("%d slots, all worn: Put: %v, %d", slots, h, e)
		}
		for h := range told {
			p.get(h)
		}
	}
}

func TestLiveIsNew(t *testing.T) {
	a := made[int](t, 3)
	a.Put(5)
	a.Put(6)
	want := []handle{{0, 1}, {1, 1}}
	l, k := a.Live(), a.Live()
	l[0], l[1] = handle{7, 7}, handle{8, 8}
	if m := append(a.Live(), handle{9, 9}); !slices.Equal(m[:2], want) || !slices.Equal(k, want) {
		t.Error(m, k)
	}
	if a.Free(want[0]); !slices.Equal(k, want) || !slices.Equal(a.Live(), want[1:]) {
		t.Error(k, a.Live())
	}
}

// TestFreeAllThatIsLive: the list that Live told may be handed in as it is.
func TestFreeAllThatIsLive(t *testing.T) {
	for _, slots := range someSlots() {
		p := fullPair(t, slots, 2)
		if e := p.a.Free(p.a.Live()...); e != api.OK || p.a.Len() != 0 || p.a.Room() != slots {
			t.Error(e, p.a.Len(), p.a.Room())
		}
	}
}

// P3.3

// TestEverySmallRun goes through all runs of some calls, one behind the other, on the least arenas.
func TestEverySmallRun(t *testing.T) {
	newest := func(p *pair) handle {
		if l := p.b.live(); len(l) > 0 {
			return l[len(l)-1]
		}
		return handle{}
	}
	steps := []func(p *pair){
		func(p *pair) { p.put() },
		func(p *pair) { p.free(newest(p)) },
		func(p *pair) { p.free(handle{0, 1}) },
		func(p *pair) { p.free(handle{0, p.b.had[0]}) },
		func(p *pair) { p.set(handle{0, 1}) },
		func(p *pair) { p.set(newest(p)) },
	}
	const long = 5
	runs := 1
	for range long {
		runs *= len(steps)
	}
	for slots := 1; slots <= 3; slots++ {
		for run := range runs {
			p := newPair(t, slots)
			for range long {
				steps[run%len(steps)](p)
				run /= len(steps)
			}
			p.look()
		}
	}
}

func TestLongRuns(t *testing.T) {
	below := numbers(3)
	for _, slots := range someSlots() {
		p := newPair(t, slots)
		for n := range 150 * slots {
			l := p.handles()
			h := l[below(len(l))]
			switch below(5) {
			case 0, 1:
				p.put()
			case 2:
				p.free(h)
			case 3:
				p.set(h)
			default:
				live := p.b.live()
				k := below(len(live) + 1)
				p.free(append(live[k:], h)...)
			}
			p.get(h)
			if n%(slots*slots) == 0 {
				p.look()
			}
		}
		p.look()
	}
}

// TestHandleFindsItsThingAlone: who holds on to all handles that were ever told finds by each what was put by it, or nothing.
func TestHandleFindsItsThingAlone(t *testing.T) {
	a := made[int](t, 3)
	var told []handle
	gone := map[handle]bool{}
	for x := 0; a.Room() > 0; x++ {
		h, e := a.Put(x)
		if e != api.OK {
			t.Fatal(x, e)
		}
		told = append(told, h)
		if l := a.Live(); a.Room() == 0 {
			out := l[x%len(l)]
			if e := a.Free(out); e != api.OK {
				t.Fatal(out, e)
			}
			gone[out] = true
		}
		if x%17 > 0 && a.Room() > 0 {
			continue
		}
		for y, h := range told {
			z, e := a.Get(h)
			if gone[h] && (z != 0 || e != api.ErrStale) || !gone[h] && (z != y || e != api.OK) {
				t.Fatalf("behind %d things: Get(%v): %d, %d", x, h, z, e)
			}
		}
	}
	if len(told) < 255 {
		t.Error("too few handles were told:", len(told))
	}
}

func TestNilArena(t *testing.T) {
	nilArena(t, 5)
	nilArena(t, "x")
	nilArena(t, [3]uint64{1})
	nilArena(t, new(1))
}

func nilArena[T comparable](t *testing.T, x T) {
	t.Helper()
	var a *arena.Arena[T]
	var none T
	for range 2 {
		if h, e := a.Put(x); h != (handle{}) || e != api.ErrState {
			t.Error("Put:", h, e)
		}
		for _, slot := range append(noSlots(1), 0) {
			for _, gen := range []int{math.MinInt, -1, 0, 1, 255, 256, math.MaxInt} {
				h := handle{Slot: slot, Gen: gen}
				if y, e := a.Get(h); y != none || e != api.ErrState {
					t.Errorf("Get(%v): %v, %d", h, y, e)
				}
				if e := a.Set(h, x); e != api.ErrState {
					t.Errorf("Set(%v): %d", h, e)
				}
				if e := a.Free(h); e != api.ErrState {
					t.Errorf("Free(%v): %d", h, e)
				}
				if e := a.Free(h, h); e != api.ErrState {
					t.Errorf("Free(%v, %v): %d", h, h, e)
				}
			}
		}
		if e := a.Free(); e != api.ErrState {
			t.Error("Free():", e)
		}
		if a.Len() != 0 || a.Room() != 0 || len(a.Live()) != 0 {
			t.Error(a.Len(), a.Room(), a.Live())
		}
	}
}

// TestArenaThatNewDidNotMake: such an arena has no slots.
func TestArenaThatNewDidNotMake(t *testing.T) {
	a := new(arena.Arena[string])
	for range 2 {
		if h, e := a.Put("x"); h != (handle{}) || e != api.ErrFull {
			t.Error("Put:", h, e)
		}
		for _, slot := range append(noSlots(0), 0) {
			h := handle{Slot: slot, Gen: 1}
			x, e := a.Get(h)
			if x != "" || e != api.ErrRange || a.Set(h, "x") != api.ErrRange || a.Free(h) != api.ErrRange {
				t.Errorf("%v: %q, %d", h, x, e)
			}
		}
		if a.Free() != api.OK || a.Len() != 0 || a.Room() != 0 || len(a.Live()) != 0 {
			t.Error(a.Len(), a.Room(), a.Live())
		}
	}
}

func TestThingsOfOtherTypes(t *testing.T) {
	type thing struct {
		name string
		n    [2]uint64
	}
	ofType(t, "a", "", "c")
	ofType(t, thing{"a", [2]uint64{1, 2}}, thing{}, thing{"a", [2]uint64{1, 3}})
	ofType(t, new(1), nil, new(2))
	ofType[any](t, 1, nil, "x")
	ofType[error](t, errors.New("e"), nil, nil)
	ofType(t, struct{}{}, struct{}{}, struct{}{})
	ofType(t, true, false, true)
	ofType(t, handle{0, 1}, handle{}, handle{1, 1})
}

func ofType[T comparable](t *testing.T, a, b, c T) {
	t.Helper()
	var none T
	r := made[T](t, 2)
	is := func(h handle, want T, wrong api.Errno) {
		t.Helper()
		if x, e := r.Get(h); x != want || e != wrong {
			t.Errorf("Get(%v): %v, %d, not %v, %d", h, x, e, want, wrong)
		}
	}
	r.Put(a)
	r.Put(b)
	is(handle{0, 1}, a, api.OK)
	is(handle{1, 1}, b, api.OK)
	if h, e := r.Put(c); h != (handle{}) || e != api.ErrFull {
		t.Error(h, e)
	}
	if e := r.Set(handle{1, 1}, c); e != api.OK {
		t.Error(e)
	}
	is(handle{1, 1}, c, api.OK)
	if e := r.Free(handle{0, 1}); e != api.OK {
		t.Error(e)
	}
	is(handle{0, 1}, none, api.ErrStale)
	is(handle{0, 2}, none, api.ErrStale)
	is(handle{2, 1}, none, api.ErrRange)
	if h, e := r.Put(b); h != (handle{0, 2}) || e != api.OK {
		t.Error(h, e)
	}
	is(handle{0, 2}, b, api.OK)
	is(handle{0, 1}, none, api.ErrStale)
}

func TestThingsThatCannotBeCompared(t *testing.T) {
	a := made[[]int](t, 1)
	h, _ := a.Put([]int{5})
	if x, e := a.Get(h); !slices.Equal(x, []int{5}) || e != api.OK {
		t.Error(x, e)
	}
	if x, e := a.Get(handle{0, 2}); x != nil || e != api.ErrStale {
		t.Error(x, e)
	}
	b := made[any](t, 1)
	h, _ = b.Put([]int{6})
	if e := b.Set(h, func() {}); e != api.OK {
		t.Error(e)
	}
	if e := b.Free(h, h); e != api.ErrStale {
		t.Error(e)
	}
}

func TestArenasAreApart(t *testing.T) {
	a, b := made[int](t, 2), made[int](t, 2)
	h, _ := a.Put(5)
	b.Put(6)
	b.Put(7)
	if x, _ := a.Get(h); x != 5 || a.Len() != 1 || a.Room() != 1 {
		t.Error(x, a.Len(), a.Room())
	}
	a.Free(h)
	if x, e := b.Get(h); x != 6 || e != api.OK || b.Room() != 0 {
		t.Error(x, e, b.Room())
	}
}

// TestWhatIsGoneIsKeptNoMore: an arena holds on to nothing that was freed, or that another thing was set in the place of.
func TestWhatIsGoneIsKeptNoMore(t *testing.T) {
	type big struct{ l [64]*int }
	a := made[*big](t, 2)
	var gone []weak.Pointer[big]
	fresh := func() *big {
		b := &big{}
		gone = append(gone, weak.Make(b))
		return b
	}
	for range 255 {
		h, _ := a.Put(fresh())
		a.Set(h, fresh())
		a.Free(h)
	}
	h, _ := a.Put(fresh())
	a.Free(h)
	runtime.GC()
	for i, w := range gone {
		if w.Value() != nil {
			t.Errorf("the thing %d is kept", i)
		}
	}
	runtime.KeepAlive(a)
}

// The chapter's examples.

func TestExamples(t *testing.T) {
	a := made[int](t, 2)
	puts := func(x int, want handle, wrong api.Errno) {
		t.Helper()
		if h, e := a.Put(x); h != want || e != wrong {
			t.Errorf("Put(%d): %v, %d", x, h, e)
		}
	}
	puts(5, handle{0, 1}, api.OK)
	puts(6, handle{1, 1}, api.OK)
	puts(7, handle{}, api.ErrFull)
	if e := a.Free(handle{0, 1}); e != api.OK {
		t.Error(e)
	}
	puts(8, handle{0, 2}, api.OK)
	if x, e := a.Get(handle{0, 1}); x != 0 || e != api.ErrStale {
		t.Error(x, e)
	}
	if x, e := a.Get(handle{0, 2}); x != 8 || e != api.OK {
		t.Error(x, e)
	}
}

// P1 and P2: every call ends without a panic at all arguments, and answers the same again.

func TestSameCallsSameAnswers(t *testing.T) {
	if !slices.Equal(answers(), answers()) {
		t.Error("the same calls have other answers")
	}
}

// answers are those of all calls, as numbers in a row.
func answers() []int {
	var l []int
	told := func(x int, e api.Errno) { l = append(l, x, int(e)) }
	for _, slots := range append(someSlots(), noSlots(64)...) {
		a, e := arena.New[int](slots)
		told(a.Room(), e)
		for i := range 300 {
			h, e := a.Put(i)
			told(h.Slot, e)
			for _, slot := range append(noSlots(64), 0, 1, i%64) {
				for _, gen := range []int{math.MinInt, -1, 0, h.Gen, i, math.MaxInt} {
					k := handle{Slot: slot, Gen: gen}
					told(a.Get(k))
					told(0, a.Set(k, i+1))
					told(a.Len(), a.Free(k, h, k))
				}
			}
			for _, k := range a.Live() {
				l = append(l, k.Slot, k.Gen)
			}
			told(a.Len(), a.Free())
		}
	}
	return l
}
