package count_test

import (
	"cmp"
	"math"
	"slices"
	"strconv"
	"testing"

	"detent/api"
	"detent/count"
)

// heap is a count told in another way than the package does it: a heap of pebbles, one for each reference. What a count answers is held against it.
type heap struct {
	pebbles []struct{}
	top     int
	frozen  bool
}

func newHeap(n, top int) *heap {
	return &heap{pebbles: make([]struct{}, n), top: top}
}

func (h *heap) get() api.Errno {
	switch {
	case len(h.pebbles) == 0:
		return api.ErrNone
	case h.frozen:
		return api.ErrSat
	case len(h.pebbles) == h.top:
		h.frozen = true
		return api.ErrSat
	}
	h.pebbles = append(h.pebbles, struct{}{})
	return api.OK
}

func (h *heap) put() (bool, api.Errno) {
	switch {
	case len(h.pebbles) == 0:
		return false, api.ErrNone
	case h.frozen:
		return false, api.OK
	}
	h.pebbles = h.pebbles[1:]
	return len(h.pebbles) == 0, api.OK
}

// shelf is counts by keys told so: heaps in a row, in the order of their keys.
type shelf[K cmp.Ordered] struct {
	keys  []K
	heaps []*heap
	top   int
}

func (s *shelf[K]) at(k K) (int, bool) {
	for i, other := range s.keys {
		if cmp.Compare(other, k) == 0 {
			return i, true
		}
	}
	return 0, false
}

func (s *shelf[K]) hold(l ...K) api.Errno {
	for _, k := range l {
		if i, is := s.at(k); is {
			if e := s.heaps[i].get(); e != api.OK {
				return e
			}
			continue
		}
		if len(s.keys) == 64 {
			return api.ErrFull
		}
		i := 0
		for i < len(s.keys) && cmp.Compare(s.keys[i], k) < 0 {
			i++
		}
		s.keys = slices.Insert(s.keys, i, k)
		s.heaps = slices.Insert(s.heaps, i, newHeap(1, s.top))
	}
	return api.OK
}

func (s *shelf[K]) drop(k K) (bool, api.Errno) {
	i, is := s.at(k)
	if !is {
		return false, api.ErrNone
	}
	out, e := s.heaps[i].put()
	if out {
		s.keys = slices.Delete(s.keys, i, i+1)
		s.heaps = slices.Delete(s.heaps, i, i+1)
	}
	return out, e
}

// pair is a count beside its heap: each of its methods does the same with both, and tells if they part.
type pair struct {
	t *testing.T
	c *count.Count
	h *heap
}

func newPair(t *testing.T, n, top int) *pair {
	t.Helper()
	p := &pair{t: t, c: made(t, n, top), h: newHeap(n, top)}
	p.look()
	return p
}

func made(t *testing.T, n, top int) *count.Count {
	t.Helper()
	c, e := count.New(n, top)
	if e != api.OK || c == nil {
		t.Fatalf("New(%d, %d): %v, %d", n, top, c, e)
	}
	return c
}

func (p *pair) get() {
	p.t.Helper()
	want := p.h.get()
	if e := p.c.Get(); e != want {
		p.t.Fatalf("Get at top %d: %d, not %d", p.h.top, e, want)
	}
	p.look()
}

func (p *pair) put() {
	p.t.Helper()
	want, wrong := p.h.put()
	if out, e := p.c.Put(); out != want || e != wrong {
		p.t.Fatalf("Put at top %d: %v, %d, not %v, %d", p.h.top, out, e, want, wrong)
	}
	p.look()
}

func (p *pair) look() {
	p.t.Helper()
	if p.c.Value() != len(p.h.pebbles) || p.c.Stuck() != p.h.frozen {
		p.t.Fatalf("top %d: %d, %v, not %d, %v", p.h.top, p.c.Value(), p.c.Stuck(), len(p.h.pebbles), p.h.frozen)
	}
}

// refsPair is counts by keys beside their shelf.
type refsPair[K cmp.Ordered] struct {
	t *testing.T
	r *count.Refs[K]
	s *shelf[K]
}

func newRefsPair[K cmp.Ordered](t *testing.T, top int) *refsPair[K] {
	t.Helper()
	return &refsPair[K]{t: t, r: madeRefs[K](t, top), s: &shelf[K]{top: top}}
}

func madeRefs[K cmp.Ordered](t *testing.T, top int) *count.Refs[K] {
	t.Helper()
	r, e := count.NewRefs[K](top)
	if e != api.OK || r == nil {
		t.Fatalf("NewRefs(%d): %v, %d", top, r, e)
	}
	return r
}

func (p *refsPair[K]) hold(l ...K) {
	p.t.Helper()
	want := p.s.hold(l...)
	if e := p.r.Hold(l...); e != want {
		p.t.Fatalf("top %d: Hold(%v): %d, not %d", p.s.top, l, e, want)
	}
}

func (p *refsPair[K]) drop(k K) {
	p.t.Helper()
	want, wrong := p.s.drop(k)
	if out, e := p.r.Drop(k); out != want || e != wrong {
		p.t.Fatalf("top %d: Drop(%v): %v, %d, not %v, %d", p.s.top, k, out, e, want, wrong)
	}
}

// look holds all that the counts tell, of their keys and of others, against the shelf.
func (p *refsPair[K]) look(others ...K) {
	p.t.Helper()
	if l := p.r.Keys(); slices.Compare(l, p.s.keys) != 0 {
		p.t.Fatalf("top %d: Keys: %v, not %v", p.s.top, l, p.s.keys)
	}
	for _, k := range append(slices.Clone(p.s.keys), others...) {
		n, frozen := 0, false
		if i, is := p.s.at(k); is {
			n, frozen = len(p.s.heaps[i].pebbles), p.s.heaps[i].frozen
		}
		if p.r.Value(k) != n || p.r.Stuck(k) != frozen {
			p.t.Fatalf("top %d, key %v: %d, %v, not %d, %v", p.s.top, k, p.r.Value(k), p.r.Stuck(k), n, frozen)
		}
	}
}

// someTops are the tops of most tests.
func someTops() []int {
	return []int{1, 2, 3, 4, 7, 8, 64, 255, 256, 65534, 65535}
}

func noTops() []int {
	return []int{math.MinInt, math.MinInt32, -65536, -65535, -2, -1, 0, 65536, 65537, 131071, 1 << 20, 1<<32 + 1, math.MaxInt32, math.MaxInt}
}

// numbers gives numbers that look like chance, and are the same each time.
func numbers(seed uint64) func(n int) int {
	x := seed
	return func(n int) int {
		x = x*6364136223846793005 + 1442695040888963407
		return int(x >> 33 % uint64(n))
	}
}

// upTo are the keys from 0 to n-1, in an order that neither rises nor falls.
func upTo(n int) []int {
	below := numbers(uint64(n))
	var l []int
	for k := range n {
		l = slices.Insert(l, below(len(l)+1), k)
	}
	return l
}

// rising are the keys from 0 to n-1.
func rising(n int) []int {
	return slices.Sorted(slices.Values(upTo(n)))
}

func TestLimits(t *testing.T) {
	if count.Top != 65535 || count.MaxKeys != 64 {
		t.Error(count.Top, count.MaxKeys)
	}
}

// P4.1

func TestNew(t *testing.T) {
	for _, top := range someTops() {
		for _, n := range []int{0, 1, top / 2, top - 1, top} {
			newPair(t, n, top)
		}
		for _, n := range []int{math.MinInt, math.MinInt32, -65535, -top, -2, -1, top + 1, top + 2, 2*top + 1, top + 65536, math.MaxInt32, math.MaxInt} {
			if c, e := count.New(n, top); c != nil || e != api.ErrRange {
				t.Errorf("New(%d, %d): %v, %d", n, top, c, e)
			}
		}
	}
	for _, top := range noTops() {
		for _, n := range []int{math.MinInt, top, -1, 0, 1, 2, 65535, 65536, math.MaxInt} {
			if c, e := count.New(n, top); c != nil || e != api.ErrRange {
				t.Errorf("New(%d, %d): %v, %d", n, top, c, e)
			}
		}
	}
}

func TestGet(t *testing.T) {
	for _, x := range []struct {
		n, top int
		wrong  api.Errno
		after  int
		stuck  bool
	}{
		{0, 1, api.ErrNone, 0, false},
		{0, 2, api.ErrNone, 0, false},
		{0, 65535, api.ErrNone, 0, false},
		{1, 1, api.ErrSat, 1, true},
		{1, 2, api.OK, 2, false},
		{2, 2, api.ErrSat, 2, true},
		{1, 3, api.OK, 2, false},
		{2, 3, api.OK, 3, false},
		{3, 3, api.ErrSat, 3, true},
		{1, 65535, api.OK, 2, false},
		{255, 65535, api.OK, 256, false},
		{32767, 65535, api.OK, 32768, false},
		{65533, 65534, api.OK, 65534, false},
		{65534, 65534, api.ErrSat, 65534, true},
		{65534, 65535, api.OK, 65535, false},
		{65535, 65535, api.ErrSat, 65535, true},
	} {
		c := made(t, x.n, x.top)
		if e := c.Get(); e != x.wrong || c.Value() != x.after || c.Stuck() != x.stuck {
			t.Errorf("%d of %d: Get: %d, then %d, %v", x.n, x.top, e, c.Value(), c.Stuck())
		}
	}
}

func TestPut(t *testing.T) {
	for _, x := range []struct {
		n, top int
		out    bool
		wrong  api.Errno
		after  int
	}{
		{0, 1, false, api.ErrNone, 0},
		{0, 65535, false, api.ErrNone, 0},
		{1, 1, true, api.OK, 0},
		{1, 2, true, api.OK, 0},
		{1, 65535, true, api.OK, 0},
		{2, 2, false, api.OK, 1},
		{2, 3, false, api.OK, 1},
		{3, 3, false, api.OK, 2},
		{256, 65535, false, api.OK, 255},
		{65535, 65535, false, api.OK, 65534},
	} {
		c := made(t, x.n, x.top)
		if out, e := c.Put(); out != x.out || e != x.wrong || c.Value() != x.after || c.Stuck() {
			t.Errorf("%d of %d: Put: %v, %d, then %d, %v", x.n, x.top, out, e, c.Value(), c.Stuck())
		}
	}
}

// TestFullIsNotStuck: a count at its top falls, as long as nobody has asked it for one more.
func TestFullIsNotStuck(t *testing.T) {
	for _, top := range someTops() {
		p := newPair(t, top, top)
		p.put()
		p.get()
		if top > 1 && (p.c.Value() != top || p.c.Stuck()) {
			t.Errorf("top %d: %d, %v", top, p.c.Value(), p.c.Stuck())
		}
		p.put()
		p.look()
	}
}

// TestStuckIsForEver: Get and Put of a count that sticks change nothing.
func TestStuckIsForEver(t *testing.T) {
	for _, top := range someTops() {
		c := made(t, top, top)
		c.Get()
		for i := range 70000 {
			if i%3 == 0 {
				if e := c.Get(); e != api.ErrSat {
					t.Fatalf("top %d: Get: %d", top, e)
				}
			}
			if out, e := c.Put(); out || e != api.OK {
				t.Fatalf("top %d: Put: %v, %d", top, out, e)
			}
			if c.Value() != top || !c.Stuck() {
				t.Fatalf("top %d: %d, %v", top, c.Value(), c.Stuck())
			}
		}
	}
}

// TestOutIsForEver: nothing can be held any more by a count that is out.
func TestOutIsForEver(t *testing.T) {
	for _, top := range someTops() {
		for _, n := range []int{0, 1} {
			p := newPair(t, n, top)
			p.put()
			for range 3 {
				p.get()
				p.put()
				p.put()
				p.get()
			}
			if p.c.Value() != 0 || p.c.Stuck() {
				t.Errorf("top %d: %d, %v", top, p.c.Value(), p.c.Stuck())
			}
		}
	}
}

func TestUpToTheTopAndDown(t *testing.T) {
	for _, top := range someTops() {
		p := newPair(t, 1, top)
		for range top - 1 {
			p.get()
		}
		if p.c.Value() != top || p.c.Stuck() {
			t.Fatalf("top %d: %d, %v", top, p.c.Value(), p.c.Stuck())
		}
		for range top {
			p.put()
		}
		p.put()
		p.get()
		if p.c.Value() != 0 {
			t.Fatalf("top %d: %d", top, p.c.Value())
		}
	}
}

// P4.2

func TestNewRefs(t *testing.T) {
	for _, top := range someTops() {
		newRefsPair[int](t, top).look(rising(70)...)
		newRefsPair[string](t, top).look("", "a")
	}
	for _, top := range noTops() {
		if r, e := count.NewRefs[int](top); r != nil || e != api.ErrRange {
			t.Errorf("NewRefs[int](%d): %v, %d", top, r, e)
		}
		if r, e := count.NewRefs[string](top); r != nil || e != api.ErrRange {
			t.Errorf("NewRefs[string](%d): %v, %d", top, r, e)
		}
	}
}

func TestHoldNothing(t *testing.T) {
	for _, held := range [][]int{nil, {5}, {5, 5, 5}, rising(64)} {
		p := newRefsPair[int](t, 2)
		p.hold(held...)
		if p.r.Hold() != api.OK || p.r.Hold([]int{}...) != api.OK || p.r.Hold([]int(nil)...) != api.OK {
			t.Error(held)
		}
		p.look(rising(70)...)
	}
}

// TestHold: what each Hold behind another one tells, and what the counts are then.
func TestHold(t *testing.T) {
	type counts map[int]int
	for _, x := range []struct {
		top    int
		before []int
		l      []int
		wrong  api.Errno
		after  counts
		stuck  []int
	}{
		{2, nil, []int{5}, api.OK, counts{5: 1}, nil},
		{2, nil, []int{5, 6}, api.OK, counts{5: 1, 6: 1}, nil},
		{2, nil, []int{5, 5}, api.OK, counts{5: 2}, nil},
		{2, nil, []int{5, 6, 5}, api.OK, counts{5: 2, 6: 1}, nil},
		{2, nil, []int{5, 5, 5}, api.ErrSat, counts{5: 2}, []int{5}},
		{2, nil, []int{5, 5, 5, 6}, api.ErrSat, counts{5: 2}, []int{5}},
		{1, nil, []int{5}, api.OK, counts{5: 1}, nil},
		{1, nil, []int{5, 5}, api.ErrSat, counts{5: 1}, []int{5}},
		{1, nil, []int{5, 5, 6}, api.ErrSat, counts{5: 1}, []int{5}},
		{1, nil, []int{6, 5, 5, 7}, api.ErrSat, counts{5: 1, 6: 1}, []int{5}},
		{2, []int{5, 5}, []int{6, 5, 7}, api.ErrSat, counts{5: 2, 6: 1}, []int{5}},
		{2, []int{5, 5}, []int{5, 6}, api.ErrSat, counts{5: 2}, []int{5}},
		{2, []int{5, 5}, []int{6, 7}, api.OK, counts{5: 2, 6: 1, 7: 1}, nil},
		{2, []int{5, 5, 5}, []int{6, 6, 5, 6}, api.ErrSat, counts{5: 2, 6: 2}, []int{5}},
		{2, []int{5, 5, 6, 6}, []int{6, 5}, api.ErrSat, counts{5: 2, 6: 2}, []int{6}},
		{65535, nil, []int{0, -1, 0, -1, 0}, api.OK, counts{0: 3, -1: 2}, nil},
	} {
		r := madeRefs[int](t, x.top)
		for _, k := range x.before {
			r.Hold(k)
		}
		l := slices.Clone(x.l)
		if e := r.Hold(l...); e != x.wrong {
			t.Errorf("top %d, %v: Hold(%v): %d", x.top, x.before, x.l, e)
		}
		if !slices.Equal(l, x.l) {
			t.Errorf("Hold changed its list: %v, not %v", l, x.l)
		}
		for k := -2; k < 9; k++ {
			if r.Value(k) != x.after[k] || r.Stuck(k) != slices.Contains(x.stuck, k) {
				t.Errorf("top %d, %v, Hold(%v): of %d: %d, %v", x.top, x.before, x.l, k, r.Value(k), r.Stuck(k))
			}
		}
		if len(r.Keys()) != len(x.after) {
			t.Errorf("top %d, %v, Hold(%v): %v", x.top, x.before, x.l, r.Keys())
		}
	}
}

func TestHoldTheLastKeyThatHasRoom(t *testing.T) {
	for _, atOnce := range []bool{false, true} {
		r := madeRefs[int](t, 3)
		l := upTo(64)
		if atOnce {
			if e := r.Hold(l...); e != api.OK {
				t.Fatal(e)
			}
		}
		for i, k := range l {
			if atOnce {
				break
			}
			if e := r.Hold(k); e != api.OK || len(r.Keys()) != i+1 {
				t.Fatalf("key number %d: %d, %v", i, e, r.Keys())
			}
		}
		for _, k := range []int{64, -1, 100, math.MaxInt, math.MinInt} {
			if e := r.Hold(k); e != api.ErrFull || r.Value(k) != 0 || r.Stuck(k) {
				t.Errorf("Hold(%d): %d, %d, %v", k, e, r.Value(k), r.Stuck(k))
			}
		}
		if !slices.Equal(r.Keys(), rising(64)) {
			t.Error(r.Keys())
		}
	}
}

// TestHoldAmongFullOnes: with 64 counts, those that are there go on; what is behind the first that has no room is left out.
func TestHoldAmongFullOnes(t *testing.T) {
	p := newRefsPair[int](t, 3)
	p.hold(upTo(64)...)
	others := []int{-1, 64, 65}
	for _, l := range [][]int{{5}, {5, 64, 6}, {64, 7}, {63, 0, 63, 65, 65, 1}, {5}, {5, 64}, {64, 5}, {6, 5, 64, 8}} {
		p.hold(l...)
		p.look(others...)
	}
	if p.r.Value(5) != 3 || !p.r.Stuck(5) || p.r.Value(7) != 1 || p.r.Value(1) != 1 || p.r.Value(8) != 1 || p.r.Value(63) != 3 || p.r.Value(6) != 2 {
		t.Error(p.r.Value(5), p.r.Value(7), p.r.Value(1), p.r.Value(8), p.r.Value(63), p.r.Value(6))
	}
	p.drop(7)
	p.hold(64, 65, 6)
	p.look(others...)
	if p.r.Value(64) != 1 || p.r.Value(65) != 0 || p.r.Value(7) != 0 || p.r.Value(6) != 2 {
		t.Error(p.r.Value(64), p.r.Value(65), p.r.Value(7), p.r.Value(6))
	}
}

// TestHoldTooManyAtOnce: of 70 keys the first 64 are held.
func TestHoldTooManyAtOnce(t *testing.T) {
	r := madeRefs[int](t, 1)
	l := upTo(70)
	if e := r.Hold(l...); e != api.ErrFull {
		t.Error(e)
	}
	if !slices.Equal(r.Keys(), slices.Sorted(slices.Values(l[:64]))) {
		t.Error(r.Keys())
	}
}

func TestDrop(t *testing.T) {
	r := madeRefs[int](t, 3)
	r.Hold(5, 6, 6, 7, 7, 7)
	r.Hold(7)
	for _, x := range []struct {
		k     int
		out   bool
		wrong api.Errno
		after int
		stuck bool
		keys  []int
	}{
		{4, false, api.ErrNone, 0, false, []int{5, 6, 7}},
		{0, false, api.ErrNone, 0, false, []int{5, 6, 7}},
		{5, true, api.OK, 0, false, []int{6, 7}},
		{5, false, api.ErrNone, 0, false, []int{6, 7}},
		{6, false, api.OK, 1, false, []int{6, 7}},
		{7, false, api.OK, 3, true, []int{6, 7}},
		{6, true, api.OK, 0, false, []int{7}},
		{6, false, api.ErrNone, 0, false, []int{7}},
		{7, false, api.OK, 3, true, []int{7}},
		{7, false, api.OK, 3, true, []int{7}},
		{7, false, api.OK, 3, true, []int{7}},
		{7, false, api.OK, 3, true, []int{7}},
	} {
		if out, e := r.Drop(x.k); out != x.out || e != x.wrong {
			t.Errorf("Drop(%d): %v, %d", x.k, out, e)
		}
		if r.Value(x.k) != x.after || r.Stuck(x.k) != x.stuck || !slices.Equal(r.Keys(), x.keys) {
			t.Errorf("Drop(%d): then %d, %v, %v", x.k, r.Value(x.k), r.Stuck(x.k), r.Keys())
		}
	}
}

func TestDropOfNone(t *testing.T) {
	p := newRefsPair[int](t, 1)
	for range 2 {
		for _, k := range []int{math.MinInt, -1, 0, 1, math.MaxInt} {
			p.drop(k)
		}
		p.look(0, 1)
	}
}

// TestHoldAgain: a key whose count was out may be held again, from 1 on; it doesn't remember anything.
func TestHoldAgain(t *testing.T) {
	p := newRefsPair[string](t, 2)
	for range 200 {
		p.hold("a")
		p.look("b")
		p.hold("a")
		p.look("b")
		p.drop("a")
		p.drop("a")
		p.look("a", "b")
		p.drop("a")
	}
	p.hold("a", "a", "a")
	p.drop("a")
	p.drop("a")
	p.look()
	if p.r.Value("a") != 2 || !p.r.Stuck("a") {
		t.Error(p.r.Value("a"), p.r.Stuck("a"))
	}
}

// TestRoomComesBack: keys that come and go take no room for good, however many there were.
func TestRoomComesBack(t *testing.T) {
	r := madeRefs[int](t, 1)
	for k := range 5000 {
		if e := r.Hold(k); e != api.OK {
			t.Fatal(k, e)
		}
		if k < 63 {
			continue
		}
		if e := r.Hold(-1); e != api.ErrFull {
			t.Fatal(k, e)
		}
		if out, e := r.Drop(k - 63); !out || e != api.OK {
			t.Fatal(k, out, e)
		}
	}
	if l := r.Keys(); len(l) != 63 || l[0] != 4937 || l[62] != 4999 {
		t.Error(l)
	}
}

// TestStuckKeysTakeTheirRoom: a count that sticks is never out, so that its key keeps its room.
func TestStuckKeysTakeTheirRoom(t *testing.T) {
	r := madeRefs[int](t, 1)
	for _, k := range upTo(64) {
		if e := r.Hold(k, k); e != api.ErrSat {
			t.Fatal(k, e)
		}
	}
	for range 2 {
		for _, k := range upTo(64) {
			if out, e := r.Drop(k); out || e != api.OK || r.Value(k) != 1 || !r.Stuck(k) {
				t.Fatal(k, out, e)
			}
		}
		if e := r.Hold(64); e != api.ErrFull {
			t.Error(e)
		}
		if e := r.Hold(63); e != api.ErrSat {
			t.Error(e)
		}
	}
	if !slices.Equal(r.Keys(), rising(64)) {
		t.Error(r.Keys())
	}
}

func TestKeyAtTheGreatestTop(t *testing.T) {
	p := newRefsPair[int](t, 65535)
	for range 65535 {
		p.hold(5)
	}
	p.look(4, 6)
	if p.r.Value(5) != 65535 || p.r.Stuck(5) {
		t.Fatal(p.r.Value(5), p.r.Stuck(5))
	}
	p.drop(5)
	p.hold(5, 5, 6)
	p.look(4, 6)
	if p.r.Value(5) != 65535 || !p.r.Stuck(5) || p.r.Value(6) != 0 {
		t.Fatal(p.r.Value(5), p.r.Stuck(5), p.r.Value(6))
	}
}

func TestKeysRise(t *testing.T) {
	for n := range 65 {
		r := madeRefs[int](t, 2)
		r.Hold(upTo(n)...)
		// A map is gone through in another order each time.
		for range 5 {
			if l := r.Keys(); !slices.Equal(l, rising(n)) {
				t.Fatalf("%d keys: %v", n, l)
			}
		}
	}
	r := madeRefs[int](t, 2)
	r.Hold(0, math.MaxInt, -1, math.MinInt, 1, -256, 256)
	if l := r.Keys(); !slices.Equal(l, []int{math.MinInt, -256, -1, 0, 1, 256, math.MaxInt}) {
		t.Error(l)
	}
}

func TestKeysAreNew(t *testing.T) {
	r := madeRefs[int](t, 2)
	r.Hold(7, 5, 6)
	l, k := r.Keys(), r.Keys()
	l[0], l[1], l[2] = 8, 8, 8
	if m := append(r.Keys(), 9); !slices.Equal(k, []int{5, 6, 7}) || !slices.Equal(m, []int{5, 6, 7, 9}) {
		t.Error(k, m)
	}
	r.Drop(6)
	if !slices.Equal(k, []int{5, 6, 7}) || !slices.Equal(r.Keys(), []int{5, 7}) || r.Value(8) != 0 || r.Value(6) != 0 {
		t.Error(k, r.Keys())
	}
}

func TestHeldListIsNotKept(t *testing.T) {
	r := madeRefs[int](t, 2)
	l := []int{7, 5, 6, 5}
	r.Hold(l...)
	if !slices.Equal(l, []int{7, 5, 6, 5}) {
		t.Error(l)
	}
	l[0], l[1] = 1, 2
	if !slices.Equal(r.Keys(), []int{5, 6, 7}) || r.Value(7) != 1 || r.Value(5) != 2 {
		t.Error(r.Keys(), r.Value(7), r.Value(5))
	}
}

// TestHoldAllKeys: the list that Keys told may be handed in as it is.
func TestHoldAllKeys(t *testing.T) {
	r := madeRefs[int](t, 2)
	r.Hold(upTo(64)...)
	if e := r.Hold(r.Keys()...); e != api.OK {
		t.Error(e)
	}
	for _, k := range r.Keys() {
		if r.Value(k) != 2 || r.Stuck(k) {
			t.Error(k, r.Value(k), r.Stuck(k))
		}
	}
}

type name string
type small uint8

func TestKeysOfOtherTypes(t *testing.T) {
	ofType(t, "", "a", "ab", "b", "é", "\xff")
	ofType[name](t, "", "a", "b")
	ofType[int8](t, -128, -1, 0, 1, 127)
	ofType[uint8](t, 0, 1, 128, 255)
	ofType[small](t, 0, 1, 255)
	ofType[int16](t, math.MinInt16, 0, math.MaxInt16)
	ofType[rune](t, math.MinInt32, 0, 'x')
	ofType[uint64](t, 0, 1<<63-1, 1<<63, math.MaxUint64)
	ofType[uintptr](t, 0, 1, math.MaxUint32)
	ofType(t, math.Inf(-1), -math.MaxFloat64, -0.5, 0, math.SmallestNonzeroFloat64, 0.5, math.MaxFloat64, math.Inf(1))
	ofType[float32](t, -1, 0, 1, math.MaxFloat32)
}

// ofType goes through some calls with keys of a type, which are told rising.
func ofType[K cmp.Ordered](t *testing.T, l ...K) {
	t.Helper()
	p := newRefsPair[K](t, 2)
	back := slices.Clone(l)
	slices.Reverse(back)
	p.hold(back...)
	p.look(l...)
	if keys := p.r.Keys(); slices.Compare(keys, l) != 0 {
		t.Errorf("Keys: %v, not %v", keys, l)
	}
	for i, k := range l {
		for range i % 4 {
			p.hold(k)
		}
		p.look(l...)
	}
	for range 3 {
		for _, k := range l {
			p.drop(k)
			p.look(l...)
		}
	}
	p.hold(l...)
	p.look(l...)
}

// TestKeyThatIsNoNumber: it is one key like others, though it isn't equal to itself; it comes ahead of all numbers.
func TestKeyThatIsNoNumber(t *testing.T) {
	none, other := math.NaN(), math.Float64frombits(math.Float64bits(math.NaN())^1)
	ofType(t, none, math.Inf(-1), 0, math.Inf(1))
	ofType(t, float32(math.NaN()), -1, 0)
	r := madeRefs[float64](t, 2)
	if e := r.Hold(0, none, other); e != api.OK || r.Value(none) != 2 || r.Value(other) != 2 || r.Value(0) != 1 {
		t.Error(e, r.Value(none), r.Value(other), r.Value(0))
	}
	if l := r.Keys(); len(l) != 2 || !math.IsNaN(l[0]) || l[1] != 0 {
		t.Error(l)
	}
	if out, e := r.Drop(other); out || e != api.OK {
		t.Error(out, e)
	}
	if out, e := r.Drop(none); !out || e != api.OK || r.Value(none) != 0 {
		t.Error(out, e)
	}
	if out, e := r.Drop(none); out || e != api.ErrNone || !slices.Equal(r.Keys(), []float64{0}) {
		t.Error(out, e, r.Keys())
	}
	for range 3 {
		r.Hold(none)
	}
	if r.Value(none) != 2 || !r.Stuck(none) || r.Stuck(0) {
		t.Error(r.Value(none), r.Stuck(none), r.Stuck(0))
	}
}

func TestBothZerosAreOneKey(t *testing.T) {
	r := madeRefs[float64](t, 2)
	if e := r.Hold(math.Copysign(0, -1), 0); e != api.OK || r.Value(0) != 2 || len(r.Keys()) != 1 {
		t.Error(e, r.Value(0), r.Keys())
	}
	r.Drop(0)
	if out, e := r.Drop(math.Copysign(0, -1)); !out || e != api.OK || len(r.Keys()) != 0 {
		t.Error(out, e, r.Keys())
	}
}

// P4.3

// TestEveryRun goes through all runs of Get and Put on the least counts, beside what was got less what was put.
func TestEveryRun(t *testing.T) {
	const long = 9
	for top := 1; top <= 4; top++ {
		for n := 0; n <= top; n++ {
			for run := range 1 << long {
				p := newPair(t, n, top)
				sum := n
				for i := range long {
					sum += step(p, run>>i&1 == 0)
					if !p.c.Stuck() && p.c.Value() != sum {
						t.Fatalf("%d of %d, run %b: %d, not %d", n, top, run, p.c.Value(), sum)
					}
					if p.c.Stuck() && p.c.Value() != top {
						t.Fatalf("%d of %d, run %b: sticks at %d", n, top, run, p.c.Value())
					}
				}
			}
		}
	}
}

// step gets or puts, and is by how many the references that somebody has became more.
func step(p *pair, get bool) int {
	had := p.c.Value()
	if get {
		p.get()
	} else {
		p.put()
	}
	if p.c.Stuck() {
		return 0
	}
	if get && had > 0 {
		return 1
	}
	if !get && had > 0 {
		return -1
	}
	return 0
}

func TestLongRuns(t *testing.T) {
	below := numbers(4)
	for _, top := range someTops() {
		for range 20 {
			p := newPair(t, 1+below(top), top)
			tilt := 2 + below(5)
			for range 500 {
				if below(8) < tilt {
					p.get()
				} else {
					p.put()
				}
			}
		}
	}
}

// TestEveryRunOfRefs goes through all runs of some calls on counts by few keys.
func TestEveryRunOfRefs(t *testing.T) {
	steps := []func(p *refsPair[int]){
		func(p *refsPair[int]) { p.hold(5) },
		func(p *refsPair[int]) { p.hold(3) },
		func(p *refsPair[int]) { p.hold(5, 3, 5) },
		func(p *refsPair[int]) { p.drop(5) },
		func(p *refsPair[int]) { p.drop(3) },
	}
	const long = 5
	runs := 1
	for range long {
		runs *= len(steps)
	}
	for top := 1; top <= 3; top++ {
		for run := range runs {
			p := newRefsPair[int](t, top)
			for rest, i := run, 0; i < long; i++ {
				steps[rest%len(steps)](p)
				p.look(3, 4, 5)
				rest /= len(steps)
			}
		}
	}
}

func TestLongRunsOfRefs(t *testing.T) {
	below := numbers(9)
	for _, top := range []int{1, 2, 3, 8, 65535} {
		for _, keys := range []int{1, 3, 63, 64, 65, 80, 200} {
			p := newRefsPair[int](t, top)
			for i := range 1500 {
				k := below(keys)
				switch below(5) {
				case 0:
					p.hold(k)
				case 1:
					p.hold(k, below(keys), k, below(keys))
				default:
					p.drop(k)
				}
				if i%25 == 0 {
					p.look(rising(keys)...)
				}
			}
			p.look(rising(keys)...)
		}
	}
}

func TestNilCount(t *testing.T) {
	var c *count.Count
	for range 2 {
		if e := c.Get(); e != api.ErrState {
			t.Error("Get:", e)
		}
		if out, e := c.Put(); out || e != api.ErrState {
			t.Error("Put:", out, e)
		}
		if c.Value() != 0 || c.Stuck() {
			t.Error(c.Value(), c.Stuck())
		}
	}
}

func TestNilRefs(t *testing.T) {
	nilRefs(t, 0, 1, -1, math.MinInt, math.MaxInt)
	nilRefs(t, "", "a")
	nilRefs(t, math.NaN(), 0, math.Inf(1))
}

func nilRefs[K cmp.Ordered](t *testing.T, l ...K) {
	t.Helper()
	var r *count.Refs[K]
	for range 2 {
		if r.Hold() != api.ErrState || r.Hold(l...) != api.ErrState {
			t.Error("Hold:", r.Hold(), r.Hold(l...))
		}
		for _, k := range l {
			if out, e := r.Drop(k); out || e != api.ErrState || r.Hold(k) != api.ErrState {
				t.Errorf("Drop(%v): %v, %d", k, out, e)
			}
			if r.Value(k) != 0 || r.Stuck(k) {
				t.Errorf("%v: %d, %v", k, r.Value(k), r.Stuck(k))
			}
		}
		if len(r.Keys()) != 0 {
			t.Error(r.Keys())
		}
	}
}

// TestNotMadeByNew: such a count is out; such counts by keys have no top, so that nothing is held by them.
func TestNotMadeByNew(t *testing.T) {
	c, r := new(count.Count), new(count.Refs[string])
	for range 2 {
		if out, e := c.Put(); out || e != api.ErrNone || c.Get() != api.ErrNone || c.Value() != 0 || c.Stuck() {
			t.Error(out, e, c.Get(), c.Value(), c.Stuck())
		}
		if r.Hold() != api.OK || r.Hold("a") != api.ErrRange || r.Hold("a", "b") != api.ErrRange {
			t.Error(r.Hold(), r.Hold("a"), r.Hold("a", "b"))
		}
		if out, e := r.Drop("a"); out || e != api.ErrNone || r.Value("a") != 0 || r.Stuck("a") || len(r.Keys()) != 0 {
			t.Error(out, e, r.Value("a"), r.Stuck("a"), r.Keys())
		}
	}
}

func TestCountsAreApart(t *testing.T) {
	a, b := made(t, 1, 2), made(t, 1, 2)
	a.Get()
	a.Get()
	if b.Value() != 1 || b.Stuck() || a.Value() != 2 || !a.Stuck() {
		t.Error(a.Value(), a.Stuck(), b.Value(), b.Stuck())
	}
	b.Put()
	if b.Value() != 0 || a.Value() != 2 {
		t.Error(a.Value(), b.Value())
	}
}

func TestRefsAreApart(t *testing.T) {
	a, b := madeRefs[string](t, 1), madeRefs[string](t, 3)
	a.Hold("x", "x")
	b.Hold("y")
	if !slices.Equal(a.Keys(), []string{"x"}) || !slices.Equal(b.Keys(), []string{"y"}) || b.Value("x") != 0 {
		t.Error(a.Keys(), b.Keys())
	}
	b.Hold("x", "x")
	if a.Value("x") != 1 || !a.Stuck("x") || b.Value("x") != 2 || b.Stuck("x") {
		t.Error(a.Value("x"), a.Stuck("x"), b.Value("x"), b.Stuck("x"))
	}
	b.Drop("x")
	b.Drop("x")
	if a.Value("x") != 1 || b.Value("x") != 0 {
		t.Error(a.Value("x"), b.Value("x"))
	}
}

// TestKeysOfOneRefsAreApart: what is done with a key changes the count of no other one.
func TestKeysOfOneRefsAreApart(t *testing.T) {
	r := madeRefs[int](t, 3)
	r.Hold(upTo(64)...)
	r.Hold(5, 5, 5, 6)
	r.Hold(6)
	r.Drop(7)
	for k := range 64 {
		want := map[int]int{5: 3, 6: 2, 7: 0}
		n, special := want[k]
		if !special {
			n = 1
		}
		if r.Value(k) != n || r.Stuck(k) != (k == 5) {
			t.Errorf("%d: %d, %v", k, r.Value(k), r.Stuck(k))
		}
	}
}

// The chapter's examples.

func TestExamples(t *testing.T) {
	c := made(t, 1, 2)
	if e := c.Get(); e != api.OK || c.Value() != 2 || c.Stuck() {
		t.Error(e, c.Value(), c.Stuck())
	}
	if e := c.Get(); e != api.ErrSat || c.Value() != 2 || !c.Stuck() {
		t.Error(e, c.Value(), c.Stuck())
	}
	if out, e := c.Put(); out || e != api.OK || c.Value() != 2 || !c.Stuck() {
		t.Error(out, e, c.Value(), c.Stuck())
	}
	c = made(t, 1, 2)
	if out, e := c.Put(); !out || e != api.OK {
		t.Error(out, e)
	}
	if e := c.Get(); e != api.ErrNone {
		t.Error(e)
	}
}

// P1 and P2: every call ends without a panic at all arguments, and answers the same again.

func TestSameCallsSameAnswers(t *testing.T) {
	if !slices.Equal(answers(), answers()) {
		t.Error("the same calls have other answers")
	}
}

// answers are those of all calls, as texts in a row.
func answers() []string {
	var l []string
	told := func(n int, yes bool, e api.Errno) {
		l = append(l, strconv.Itoa(n), strconv.FormatBool(yes), strconv.Itoa(int(e)))
	}
	some := []int{math.MinInt, -1, 0, 1, 2, 3, 64, 65534, 65535, 65536, math.MaxInt}
	for _, top := range some {
		for _, n := range some {
			c, e := count.New(n, top)
			told(c.Value(), c.Stuck(), e)
			for i := range 12 {
				if i%3 < 2 {
					told(c.Value(), c.Stuck(), c.Get())
				}
				out, e := c.Put()
				told(c.Value(), out, e)
			}
		}
		r, e := count.NewRefs[string](top)
		told(len(r.Keys()), false, e)
		for i := range 400 {
			k, other := strconv.Itoa(i*i%83), strconv.Itoa(i%71)
			told(r.Value(k), r.Stuck(k), r.Hold(k, other, k))
			out, e := r.Drop(other)
			told(r.Value(other), out, e)
			l = append(l, r.Keys()...)
		}
	}
	return l
}
