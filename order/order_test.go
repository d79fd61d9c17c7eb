package order_test

import (
	"math"
	"runtime"
	"slices"
	"strconv"
	"testing"
	"weak"

	"detent/api"
	"detent/order"
)

// line is an order told in another way than the package does it: keys stand in a line, and who is touched goes to its end. What an order answers is held against it.
type line[K comparable] struct {
	keys []K
	room int
}

// leave takes a key out of the line, wherever it stands.
func (n *line[K]) leave(k K) bool {
	for i, other := range n.keys {
		if other == k {
			n.keys = slices.Delete(n.keys, i, i+1)
			return true
		}
	}
	return false
}

func (n *line[K]) touch(l ...K) api.Errno {
	for _, k := range l {
		if !n.leave(k) && len(n.keys) == n.room {
			return api.ErrFull
		}
		n.keys = append(n.keys, k)
	}
	return api.OK
}

// pair is an order beside its line: each of its methods does the same with both, and looks at everything that the order tells.
type pair[K comparable] struct {
	t     *testing.T
	o     *order.Order[K]
	n     *line[K]
	asked []K // the keys that are asked for behind each call
}

func newPair[K comparable](t *testing.T, room int, asked ...K) *pair[K] {
	t.Helper()
	p := &pair[K]{t: t, o: made[K](t, room), n: &line[K]{room: room}, asked: asked}
	p.look("New")
	return p
}

// numberPair is one of ints, that is asked for those from -1 on, and for two more than it has room for.
func numberPair(t *testing.T, room int) *pair[int] {
	t.Helper()
	return newPair(t, room, upTo(-1, room+2)...)
}

// fullPair is one that holds the ints from 0 on, touched in their order.
func fullPair(t *testing.T, room int) *pair[int] {
	t.Helper()
	p := numberPair(t, room)
	p.touch(upTo(0, room)...)
	return p
}

func made[K comparable](t *testing.T, room int) *order.Order[K] {
	t.Helper()
	o, e := order.New[K](room)
	if e != api.OK || o == nil {
		t.Fatalf("New(%d): %v, %d", room, o, e)
	}
	return o
}

// upTo is the ints from the first on, the last one less than end.
func upTo(first, end int) []int {
	var l []int
	for x := first; x < end; x++ {
		l = append(l, x)
	}
	return l
}

func (p *pair[K]) touch(l ...K) api.Errno {
	p.t.Helper()
	want := p.n.touch(l...)
	e := p.o.Touch(l...)
	if e != want {
		p.t.Fatalf("room %d: Touch(%v): %d, not %d", p.n.room, l, e, want)
	}
	p.look("Touch")
	return e
}

func (p *pair[K]) drop(k K) bool {
	p.t.Helper()
	want := p.n.leave(k)
	was := p.o.Drop(k)
	if was != want {
		p.t.Fatalf("room %d: Drop(%v): %v, not %v", p.n.room, k, was, want)
	}
	p.look("Drop")
	return was
}

// look holds all that the order tells against the line.
func (p *pair[K]) look(behind string) {
	p.t.Helper()
	if l := p.o.List(); !slices.Equal(l, p.n.keys) || p.o.Len() != len(p.n.keys) {
		p.t.Fatalf("room %d, behind %s: List, Len: %v, %d, not %v", p.n.room, behind, l, p.o.Len(), p.n.keys)
	}
	var oldest, newest K
	if len(p.n.keys) > 0 {
		oldest, newest = p.n.keys[0], p.n.keys[len(p.n.keys)-1]
	}
	if k, is := p.o.Oldest(); k != oldest || is != (len(p.n.keys) > 0) {
		p.t.Fatalf("room %d, behind %s: Oldest: %v, %v of %v", p.n.room, behind, k, is, p.n.keys)
	}
	if k, is := p.o.Newest(); k != newest || is != (len(p.n.keys) > 0) {
		p.t.Fatalf("room %d, behind %s: Newest: %v, %v of %v", p.n.room, behind, k, is, p.n.keys)
	}
	for _, k := range p.asked {
		if p.o.Has(k) != slices.Contains(p.n.keys, k) {
			p.t.Fatalf("room %d, behind %s: Has(%v): %v of %v", p.n.room, behind, k, p.o.Has(k), p.n.keys)
		}
	}
}

// holds tells if the order doesn't hold just these, from the oldest on.
func holds[K comparable](t *testing.T, o *order.Order[K], want ...K) {
	t.Helper()
	if l := o.List(); !slices.Equal(l, want) || o.Len() != len(want) {
		t.Errorf("List, Len: %v, %d, not %v", l, o.Len(), want)
	}
	for _, k := range want {
		if !o.Has(k) {
			t.Errorf("Has(%v) of %v: false", k, want)
		}
	}
	var first, last K
	if len(want) > 0 {
		first, last = want[0], want[len(want)-1]
	}
	if k, is := o.Oldest(); k != first || is != (len(want) > 0) {
		t.Errorf("Oldest of %v: %v, %v", want, k, is)
	}
	if k, is := o.Newest(); k != last || is != (len(want) > 0) {
		t.Errorf("Newest of %v: %v, %v", want, k, is)
	}
}

// numbers gives numbers that look like chance, the same ones for the same seed.
func numbers(seed uint64) func(n int) int {
	return func(n int) int {
		seed = seed*6364136223846793005 + 1442695040888963407
		return int(seed >> 33 % uint64(n))
	}
}

// someRooms are the rooms of the orders of most tests.
func someRooms() []int {
	return []int{1, 2, 3, 5, 63, 64}
}

// P20.1: New.

func TestRooms(t *testing.T) {
	for _, room := range []int{math.MinInt, math.MinInt + 1, -65, -64, -2, -1, 0, 65, 66, 128, 256, math.MaxInt - 1, math.MaxInt} {
		if o, e := order.New[int](room); o != nil || e != api.ErrRange {
			t.Errorf("New(%d): %v, %d", room, o, e)
		}
		if o, e := order.New[string](room); o != nil || e != api.ErrRange {
			t.Errorf("New of strings (%d): %v, %d", room, o, e)
		}
	}
	for room := 1; room <= 64; room++ {
		o, e := order.New[int](room)
		if o == nil || e != api.OK {
			t.Errorf("New(%d): %v, %d", room, o, e)
		}
	}
	if order.Most != 64 {
		t.Error(order.Most)
	}
}

func TestNewOrderIsEmpty(t *testing.T) {
	for _, room := range someRooms() {
		p := numberPair(t, room)
		holds(t, p.o)
		for _, k := range append(upTo(-3, 70), math.MinInt, math.MaxInt) {
			if p.o.Has(k) || p.o.Drop(k) {
				t.Errorf("room %d: %d is held", room, k)
			}
		}
		holds(t, p.o)
	}
}

// TestEachRoomIsWhole: there is room for just so many keys.
func TestEachRoomIsWhole(t *testing.T) {
	for room := 1; room <= 64; room++ {
		p := numberPair(t, room)
		for k := range room {
			if e := p.touch(k); e != api.OK {
				t.Fatalf("room %d: the key %d: %d", room, k, e)
			}
		}
		if e := p.touch(room); e != api.ErrFull {
			t.Errorf("room %d: one more: %d", room, e)
		}
		holds(t, p.o, upTo(0, room)...)
	}
}

// P20.1: Touch.

func TestTouchOfNothing(t *testing.T) {
	for _, room := range someRooms() {
		p := numberPair(t, room)
		for k := range room + 1 {
			for _, l := range [][]int{nil, {}} {
				if e := p.touch(l...); e != api.OK {
					t.Errorf("room %d: Touch() of %d keys: %d", room, k, e)
				}
			}
			p.touch(k)
		}
	}
}

func TestTouchOfOne(t *testing.T) {
	p := numberPair(t, 3)
	p.touch(2)
	holds(t, p.o, 2)
	p.touch(2)
	holds(t, p.o, 2)
	p.touch(0)
	holds(t, p.o, 2, 0)
	p.touch(1)
	holds(t, p.o, 2, 0, 1)
}

// TestTouchInEveryPlace: one that is held goes from wherever it is to the end, and the others stay as they are among each other.
func TestTouchInEveryPlace(t *testing.T) {
	for _, room := range someRooms() {
		for _, held := range []int{1, room/2 + 1, room} {
			for k := range held {
				p := numberPair(t, room)
				p.touch(upTo(0, held)...)
				if e := p.touch(k); e != api.OK {
					t.Fatalf("room %d: Touch(%d) of %d keys: %d", room, k, held, e)
				}
				holds(t, p.o, append(slices.Concat(upTo(0, k), upTo(k+1, held)), k)...)
			}
		}
	}
}

func TestTouchOfSeveral(t *testing.T) {
	for _, x := range []struct {
		held, l, want []int
	}{
		{nil, []int{5, 6, 7, 8}, []int{5, 6, 7, 8}},
		{nil, []int{8, 7, 6}, []int{8, 7, 6}},
		{[]int{5, 6, 7}, []int{7, 5}, []int{6, 7, 5}},
		{[]int{5, 6, 7}, []int{8, 6}, []int{5, 7, 8, 6}},
		{[]int{5, 6, 7, 8}, []int{5, 6, 7, 8}, []int{5, 6, 7, 8}},
		{[]int{5, 6, 7, 8}, []int{8, 7, 6, 5}, []int{8, 7, 6, 5}},
		{[]int{5, 6, 7, 8}, []int{6, 8}, []int{5, 7, 6, 8}},
		{[]int{5, 6, 7}, []int{0}, []int{5, 6, 7, 0}},
		{[]int{0, 6}, []int{6, 0}, []int{6, 0}},
	} {
		p := newPair(t, 4, upTo(-1, 10)...)
		p.touch(x.held...)
		if e := p.touch(x.l...); e != api.OK {
			t.Errorf("Touch(%v) of %v: %d", x.l, x.held, e)
		}
		holds(t, p.o, x.want...)
	}
}

// TestTouchOfTheSameKeySeveralTimes: it is held once, and its last touch counts.
func TestTouchOfTheSameKeySeveralTimes(t *testing.T) {
	for _, x := range []struct {
		room          int
		held, l, want []int
	}{
		{1, nil, []int{5, 5}, []int{5}},
		{1, []int{5}, []int{5, 5, 5}, []int{5}},
		{2, nil, []int{5, 6, 5}, []int{6, 5}},
		{2, nil, []int{5, 5, 6}, []int{5, 6}},
		{2, []int{6, 5}, []int{6, 5, 6, 6, 5}, []int{6, 5}},
		{3, []int{5, 6, 7}, []int{5, 6, 5}, []int{7, 6, 5}},
		{3, nil, []int{0, 0, 1, 0, 2, 1, 0, 1}, []int{2, 0, 1}},
	} {
		p := newPair(t, x.room, upTo(-1, 10)...)
		p.touch(x.held...)
		if e := p.touch(x.l...); e != api.OK {
			t.Errorf("room %d: Touch(%v) of %v: %d", x.room, x.l, x.held, e)
		}
		holds(t, p.o, x.want...)
	}
	o := made[int](t, 64)
	if e := o.Touch(append(slices.Repeat(upTo(0, 64), 50), 7)...); e != api.OK {
		t.Error(e)
	}
	holds(t, o, append(append(upTo(0, 7), upTo(8, 64)...), 7)...)
}

// P20.1: Touch with ErrFull.

func TestOneKeyTooMany(t *testing.T) {
	for _, room := range someRooms() {
		p := fullPair(t, room)
		for _, k := range []int{-1, room, room + 1, math.MinInt, math.MaxInt} {
			for range 2 {
				if e := p.touch(k); e != api.ErrFull || p.o.Has(k) {
					t.Errorf("room %d: Touch(%d): %d", room, k, e)
				}
			}
			holds(t, p.o, upTo(0, room)...)
		}
	}
}

// TestFullInTheMiddle: those ahead of the one that has no room stay touched, and those behind it aren't touched, be they held or not.
func TestFullInTheMiddle(t *testing.T) {
	for _, x := range []struct {
		room          int
		held, l, want []int
	}{
		{1, nil, []int{5, 6}, []int{5}},
		{1, nil, []int{5, 6, 5}, []int{5}},
		{1, []int{5}, []int{5, 6, 7}, []int{5}},
		{2, nil, []int{5, 6, 7, 5}, []int{5, 6}},
		{2, []int{5}, []int{6, 7, 5}, []int{5, 6}},
		{2, []int{5, 6}, []int{7, 5}, []int{5, 6}},
		{2, []int{5, 6}, []int{5, 7, 6}, []int{6, 5}},
		{3, []int{5, 6, 7}, []int{5, 6, 8, 7, 5}, []int{7, 5, 6}},
		{3, []int{5, 6}, []int{5, 8, 9, 6}, []int{6, 5, 8}},
		{3, []int{5, 6}, []int{7, 0}, []int{5, 6, 7}},
	} {
		p := newPair(t, x.room, upTo(-1, 10)...)
		p.touch(x.held...)
		if e := p.touch(x.l...); e != api.ErrFull {
			t.Errorf("room %d: Touch(%v) of %v: %d", x.room, x.l, x.held, e)
		}
		holds(t, p.o, x.want...)
	}
}

// TestFullAtEveryPlace: the one too many stands in every place of a row of as many keys as there is room for.
func TestFullAtEveryPlace(t *testing.T) {
	for _, room := range someRooms() {
		for at := range room + 1 {
			p := fullPair(t, room)
			back := upTo(0, room)
			slices.Reverse(back)
			if e := p.touch(slices.Insert(slices.Clone(back), at, room)...); e != api.ErrFull {
				t.Fatalf("room %d, place %d: %d", room, at, e)
			}
			holds(t, p.o, append(upTo(0, room-at), back[:at]...)...)
		}
	}
}

func TestHeldKeysOfAFullOrder(t *testing.T) {
	for _, room := range []int{1, 2, 64} {
		p := fullPair(t, room)
		for k := range room {
			if e := p.touch(room - 1 - k); e != api.OK {
				t.Errorf("room %d: Touch(%d): %d", room, k, e)
			}
		}
		if e := p.touch(upTo(0, room)...); e != api.OK {
			t.Errorf("room %d: Touch of all: %d", room, e)
		}
		holds(t, p.o, upTo(0, room)...)
	}
}

// TestBehindErrFull: an order that said so goes on as if it hadn't been asked.
func TestBehindErrFull(t *testing.T) {
	for _, room := range someRooms() {
		p, q := fullPair(t, room), fullPair(t, room)
		for range 10 {
			p.touch(room, 0)
			p.touch(room+1, room)
		}
		for k := range room {
			p.touch(k, k/2)
			q.touch(k, k/2)
			if !slices.Equal(p.o.List(), q.o.List()) {
				t.Fatalf("room %d: %v, not %v", room, p.o.List(), q.o.List())
			}
		}
		if !p.drop(0) || p.touch(room) != api.OK {
			t.Errorf("room %d: no room behind Drop", room)
		}
	}
}

// P20.1: Drop.

// TestDropInEveryPlace: the oldest, the newest, each one between them, and the only one.
func TestDropInEveryPlace(t *testing.T) {
	for _, room := range someRooms() {
		for k := range room {
			p := fullPair(t, room)
			if !p.drop(k) {
				t.Fatalf("room %d: Drop(%d): false", room, k)
			}
			rest := slices.Concat(upTo(0, k), upTo(k+1, room))
			holds(t, p.o, rest...)
			if p.drop(k) || p.o.Has(k) {
				t.Errorf("room %d: %d is held behind Drop", room, k)
			}
			p.touch(k)
			holds(t, p.o, append(rest, k)...)
		}
	}
}

func TestDropOfOneThatIsNotHeld(t *testing.T) {
	for _, held := range []int{0, 1, 2, 63, 64} {
		p := newPair(t, 64, upTo(-1, 66)...)
		p.touch(upTo(0, held)...)
		for _, k := range []int{-1, held, held + 1, math.MinInt, math.MaxInt} {
			for range 2 {
				if p.drop(k) {
					t.Errorf("%d keys: Drop(%d): true", held, k)
				}
			}
		}
		holds(t, p.o, upTo(0, held)...)
	}
}

func TestDropOfAll(t *testing.T) {
	for _, room := range someRooms() {
		for _, from := range []func(i int) int{
			func(i int) int { return i },
			func(i int) int { return room - 1 - i },
			func(i int) int { return (room/2 + i) % room },
		} {
			p := fullPair(t, room)
			for i := range room {
				if !p.drop(from(i)) {
					t.Fatalf("room %d: Drop(%d): false", room, from(i))
				}
			}
			holds(t, p.o)
			if p.drop(0) {
				t.Errorf("room %d: Drop of an empty order: true", room)
			}
			p.touch(0)
			holds(t, p.o, 0)
		}
	}
}

// TestDropMakesRoom: for one key, whichever it is.
func TestDropMakesRoom(t *testing.T) {
	for _, room := range someRooms() {
		for k := range room {
			p := fullPair(t, room)
			p.touch(room)
			p.drop(k)
			p.drop(room)
			if e := p.touch(room); e != api.OK {
				t.Fatalf("room %d: Touch behind Drop(%d): %d", room, k, e)
			}
			if e := p.touch(k); e != api.ErrFull {
				t.Fatalf("room %d: Touch(%d), whose room is taken: %d", room, k, e)
			}
		}
	}
}

// TestADropOfWhatWasNeverThereMakesNoRoom, be it of the key that had none.
func TestADropOfWhatWasNeverThereMakesNoRoom(t *testing.T) {
	for _, room := range someRooms() {
		p := fullPair(t, room)
		p.drop(room)
		p.drop(-1)
		if e := p.touch(room); e != api.ErrFull {
			t.Errorf("room %d: %d", room, e)
		}
	}
}

// P20.1 and P20.2: all calls in all orders.

// TestAllShortRows: all rows of some calls, of one key and of two, each in an order of its own.
func TestAllShortRows(t *testing.T) {
	calls := []func(p *pair[int]){
		func(p *pair[int]) { p.touch(0) },
		func(p *pair[int]) { p.touch(1) },
		func(p *pair[int]) { p.touch(2) },
		func(p *pair[int]) { p.touch(1, 0) },
		func(p *pair[int]) { p.touch(2, 1, 2) },
		func(p *pair[int]) { p.drop(0) },
		func(p *pair[int]) { p.drop(1) },
		func(p *pair[int]) { p.drop(2) },
	}
	const long = 5
	for room := 1; room <= 3; room++ {
		for row := range 1 << (3 * long) {
			p := &pair[int]{t: t, o: made[int](t, room), n: &line[int]{room: room}, asked: []int{0, 1, 2}}
			for i := range long {
				calls[row>>(3*i)&7](p)
			}
		}
	}
}

// TestLikeChance: many calls with keys that look like chance.
func TestLikeChance(t *testing.T) {
	for _, room := range someRooms() {
		next := numbers(uint64(room))
		p := numberPair(t, room)
		for range 3000 {
			switch next(4) {
			case 0:
				p.drop(next(room + 2))
			case 1:
				var l []int
				for range next(8) {
					l = append(l, next(room+2))
				}
				p.touch(l...)
			default:
				p.touch(next(room+2) - next(2))
			}
		}
	}
}

// TestOverAndOver: the same keys come and go, many thousand times, and nothing of it stays.
func TestOverAndOver(t *testing.T) {
	for _, room := range []int{1, 2, 64} {
		o := made[int](t, room)
		for i := range 30000 {
			k := i % (2 * room)
			if e := o.Touch(k, k); e != api.OK || o.Len() != 1 {
				t.Fatalf("room %d, round %d: %d, %d", room, i, e, o.Len())
			}
			if !o.Drop(k) || o.Drop(k) || o.Len() != 0 {
				t.Fatalf("room %d, round %d: Drop", room, i)
			}
		}
		holds(t, o)
	}
}

// TestManyTouches: who was touched last is told rightly behind more touches than 16 bits count.
func TestManyTouches(t *testing.T) {
	o := made[int](t, 2)
	o.Touch(0, 1)
	for i := range 150000 {
		o.Touch(i % 2)
		old, _ := o.Oldest()
		last, _ := o.Newest()
		if old != 1-i%2 || last != i%2 {
			t.Fatal(i, old, last)
		}
	}
}

// TestAroundAndAround: a full order whose oldest is touched, or makes room for another one, again and again.
func TestAroundAndAround(t *testing.T) {
	for _, room := range []int{1, 2, 5, 64} {
		p := fullPair(t, room)
		for range 3000 {
			k, _ := p.o.Oldest()
			p.touch(k)
		}
		for range 3000 {
			k, _ := p.o.Oldest()
			if !p.drop(k) || p.touch(k+room) != api.OK {
				t.Fatal(room, k)
			}
		}
	}
}

// P20.2: Oldest, Newest, Has, List, Len.

func TestWhatIsTold(t *testing.T) {
	o := made[string](t, 3)
	holds(t, o)
	o.Touch("b")
	holds(t, o, "b")
	o.Touch("a")
	holds(t, o, "b", "a")
	o.Touch("c", "b")
	holds(t, o, "a", "c", "b")
	o.Drop("a")
	holds(t, o, "c", "b")
	o.Drop("b")
	holds(t, o, "c")
	o.Drop("c")
	holds(t, o)
	for _, k := range []string{"", "a", "b", "c", "d"} {
		if o.Has(k) {
			t.Errorf("%q is held", k)
		}
	}
}

func TestSixtyFourKeys(t *testing.T) {
	o := made[int](t, 64)
	for i := range 64 {
		o.Touch(i * 37 % 64)
		if o.Len() != i+1 {
			t.Fatal(o.Len(), i)
		}
	}
	var want []int
	for i := range 64 {
		want = append(want, i*37%64)
	}
	holds(t, o, want...)
	for i := range 64 {
		k, is := o.Oldest()
		if k != want[i] || !is || !o.Drop(k) {
			t.Fatal(i, k, is)
		}
		holds(t, o, want[i+1:]...)
	}
}

// TestAskingChangesNothing: an order that was asked goes on like one that wasn't.
func TestAskingChangesNothing(t *testing.T) {
	a, b := made[int](t, 3), made[int](t, 3)
	next := numbers(7)
	for range 500 {
		k := next(5)
		for i := range 5 {
			b.Has(i)
		}
		b.Oldest()
		b.Newest()
		b.List()
		b.Len()
		if next(3) == 0 {
			if a.Drop(k) != b.Drop(k) {
				t.Fatal("Drop", k)
			}
		} else if a.Touch(k) != b.Touch(k) {
			t.Fatal("Touch", k)
		}
		if !slices.Equal(a.List(), b.List()) {
			t.Fatal(a.List(), b.List())
		}
	}
}

// TestTheZeroValueIsAKeyLikeOthers: that none is the oldest is told by false, not by the zero value.
func TestTheZeroValueIsAKeyLikeOthers(t *testing.T) {
	o := made[int](t, 2)
	if o.Has(0) || o.Drop(0) {
		t.Error("0 is held by a new order")
	}
	o.Touch(0)
	if k, is := o.Oldest(); k != 0 || !is {
		t.Error(k, is)
	}
	if k, is := o.Newest(); k != 0 || !is {
		t.Error(k, is)
	}
	o.Touch(1, 0)
	holds(t, o, 1, 0)
	if e := o.Touch(2); e != api.ErrFull {
		t.Error(e)
	}
	if !o.Drop(0) || o.Drop(0) {
		t.Error("Drop(0)")
	}
	holds(t, o, 1)
}

// P20.2: a list is new memory, and what is handed in is neither changed nor kept.

func TestListIsNewMemory(t *testing.T) {
	for _, held := range []int{1, 2, 63, 64} {
		o := made[int](t, 64)
		o.Touch(upTo(0, held)...)
		l, other := o.List(), o.List()
		clear(l)
		l[0] = 77
		if slices.Contains(other, 77) {
			t.Error("two lists share their memory")
		}
		for _, x := range append(l, 78)[:cap(l)] {
			if o.Has(77) || o.Has(78) {
				t.Error("a list that is changed changes the order", x)
			}
		}
		holds(t, o, upTo(0, held)...)
		before := o.List()
		o.Touch(0)
		o.Drop(held - 1)
		if !slices.Equal(before, upTo(0, held)) {
			t.Error("an order that is changed changes a list", before)
		}
	}
}

func TestTouchLeavesItsRowAlone(t *testing.T) {
	for _, room := range []int{1, 2, 3, 64} {
		o := made[int](t, room)
		row := []int{3, 3, 1, 2, 1, 3, 9, 9, 9}
		want := slices.Clone(row)
		o.Touch(row[:6]...)
		o.Drop(3)
		o.Touch(row[:6]...)
		if !slices.Equal(row, want) {
			t.Errorf("room %d: the row was changed: %v", room, row)
		}
		before := o.List()
		for i := range row {
			row[i] = 50 + i
		}
		holds(t, o, before...)
	}
}

// TestAnArrayAsAKeyIsCopied: what it was taken from may change.
func TestAnArrayAsAKeyIsCopied(t *testing.T) {
	o := made[[2]int](t, 2)
	k := [2]int{1, 2}
	o.Touch(k)
	k[0] = 9
	holds(t, o, [2]int{1, 2})
	l := o.List()
	l[0][1] = 9
	holds(t, o, [2]int{1, 2})
}

// P20.1 to P20.3, of keys of unlike types.

type pupil struct {
	name string
	n    [2]uint64
}

func TestKeysOfOtherTypes(t *testing.T) {
	ofType(t, 0, 1, -1, math.MinInt, math.MaxInt)
	ofType(t, uint64(0), 1, 1<<63, math.MaxUint64, 5)
	ofType(t, int8(0), 1, -1, -128, 127)
	ofType(t, "", "a", "b", "ab", "a\x00")
	ofType(t, [3]byte{}, [3]byte{1}, [3]byte{0, 1}, [3]byte{0, 0, 1}, [3]byte{1, 1, 1})
	ofType(t, [2]string{}, [2]string{"a"}, [2]string{"", "a"}, [2]string{"a", "a"}, [2]string{"aa"})
	ofType(t, pupil{}, pupil{name: "a"}, pupil{n: [2]uint64{1}}, pupil{n: [2]uint64{0, 1}}, pupil{"a", [2]uint64{1, 1}})
	ofType(t, nil, new(0), new(0), new(1), new(2))
	ofType(t, 0, 0.5, -0.5, math.Inf(1), math.Inf(-1))
	ofType(t, 0, 1i, 1, 1+1i, -1i)
	ofType[any](t, nil, 0, "", int8(0), pupil{})
	ofType[any](t, 0, uint(0), 0.0, [0]int{}, false)
	ofType(t, api.OK, api.ErrFull, api.ErrNone, api.ErrState, api.ErrRange)
}

// ofType is of five keys, each unlike the others.
func ofType[K comparable](t *testing.T, a, b, c, d, e K) {
	t.Helper()
	all := []K{a, b, c, d, e}
	p := newPair(t, 4, all...)
	p.touch()
	for _, k := range all {
		p.drop(k)
	}
	p.touch(a, b, a)
	holds(t, p.o, b, a)
	p.touch(c, d)
	if x := p.touch(b, e, a); x != api.ErrFull {
		t.Error(x)
	}
	holds(t, p.o, a, c, d, b)
	for i := range all {
		p.drop(all[(i+2)%5])
		p.touch(all[(i+4)%5], all[i])
	}
	next := numbers(5)
	for range 300 {
		if next(3) == 0 {
			p.drop(all[next(5)])
		} else {
			p.touch(all[next(5)], all[next(5)])
		}
	}
}

// TestKeysOfWhichThereAreFew: of bools two, of empty structs and arrays one.
func TestKeysOfWhichThereAreFew(t *testing.T) {
	p := newPair(t, 2, true, false)
	p.touch(false, true, false)
	p.drop(true)
	p.touch(true)
	holds(t, p.o, false, true)
	q := newPair(t, 1, struct{}{})
	q.touch(struct{}{}, struct{}{})
	holds(t, q.o, struct{}{})
	q.drop(struct{}{})
	holds(t, q.o)
	r := newPair(t, 64, [0]string{})
	r.touch([0]string{}, [0]string{})
	holds(t, r.o, [0]string{})
}

// TestBothZeros: they are the same key, and it is told as it was touched last.
func TestBothZeros(t *testing.T) {
	below := math.Copysign(0, -1)
	p := newPair(t, 1, 0, below)
	for _, k := range []float64{0, below, 0, below} {
		if e := p.touch(k); e != api.OK || !p.o.Has(-k) {
			t.Error(k, e)
		}
		if x, _ := p.o.Newest(); math.Signbit(x) != math.Signbit(k) {
			t.Error(x, k)
		}
	}
	if !p.drop(0) {
		t.Error("Drop(0): false")
	}
}

// TestKeysUnlikeThemselves: what is touched is held, and can be dropped, though Go's == tells it from itself.
func TestKeysUnlikeThemselves(t *testing.T) {
	o := made[float64](t, 2)
	none := math.NaN()
	for range 3000 {
		if o.Has(none) || o.Drop(none) {
			t.Fatal("a new order holds it")
		}
		if e := o.Touch(none, 0, none); e != api.OK || !o.Has(none) || o.Len() != 2 {
			t.Fatal(e, o.Has(none), o.Len())
		}
		if x, is := o.Newest(); !math.IsNaN(x) || !is {
			t.Fatal(x, is)
		}
		if x, is := o.Oldest(); x != 0 || !is {
			t.Fatal(x, is)
		}
		if e := o.Touch(1); e != api.ErrFull {
			t.Fatal(e)
		}
		if !o.Drop(none) || o.Has(none) || !o.Has(0) {
			t.Fatal("Drop")
		}
		if o.Drop(none) || !o.Drop(0) {
			t.Fatal("Drop once more")
		}
	}
}

// TestKeysThatCannotBeCompared: they panic in no call, and are keys like others, all of them one.
func TestKeysThatCannotBeCompared(t *testing.T) {
	keys := []any{[]int{1}, map[int]int{}, func() {}, [1]any{[]int{2}}, struct{ l []int }{}}
	for _, k := range keys {
		o := made[any](t, 2)
		if o.Has(k) || o.Drop(k) {
			t.Error("a new order holds it")
		}
		if e := o.Touch(5, k, 5); e != api.OK || !o.Has(k) || !o.Has(5) || o.Len() != 2 || len(o.List()) != 2 {
			t.Error(e, o.Len())
		}
		if x, is := o.Newest(); x != 5 || !is {
			t.Error(x, is)
		}
		if _, is := o.Oldest(); !is {
			t.Error("there is no oldest one")
		}
		if e := o.Touch(k, 6); e != api.ErrFull {
			t.Error(e)
		}
		if x, is := o.Oldest(); x != 5 || !is {
			t.Error(x, is)
		}
		for _, other := range keys {
			if e := o.Touch(other); e != api.OK {
				t.Error(e)
			}
		}
		if !o.Drop(k) || o.Drop(k) || o.Has(k) || o.Len() != 1 {
			t.Error("Drop", o.Len())
		}
	}
}

// TestTheLastOfThoseUnlikeThemselvesIsTold: that one, not one that was touched ahead of it.
func TestTheLastOfThoseUnlikeThemselvesIsTold(t *testing.T) {
	o := made[any](t, 1)
	o.Touch([]int{1})
	o.Touch([]int{2})
	l, is := o.Newest()
	if row, ok := l.([]int); !is || !ok || row[0] != 2 {
		t.Error(l, is)
	}
}

// P20.3: what follows.

// TestNobodyPasses: of two that are held, that weren't touched, the older stays the older, and who is touched is newer than both.
func TestNobodyPasses(t *testing.T) {
	for _, room := range someRooms() {
		o := made[int](t, room)
		next := numbers(uint64(room) + 100)
		for range 1000 {
			k := next(room + 1)
			before := o.List()
			touched := next(4) > 0
			if touched && o.Touch(k) == api.ErrFull || !touched && !o.Drop(k) {
				if !slices.Equal(o.List(), before) {
					t.Fatalf("room %d: %v, %v: nothing was done", room, before, o.List())
				}
				continue
			}
			others := slices.DeleteFunc(o.List(), func(x int) bool { return x == k })
			if !slices.Equal(others, slices.DeleteFunc(before, func(x int) bool { return x == k })) {
				t.Fatalf("room %d: %v, %v: others than %d have moved", room, before, o.List(), k)
			}
			if x, is := o.Newest(); touched && (x != k || !is) {
				t.Fatalf("room %d: Touch(%d): the newest is %d, %v", room, k, x, is)
			}
		}
	}
}

// TestWhoIsTouchedIsTheLastToBeOldest: as many others must be touched or dropped ahead of it as there are.
func TestWhoIsTouchedIsTheLastToBeOldest(t *testing.T) {
	for _, room := range someRooms() {
		for who := range room {
			p := fullPair(t, room)
			p.touch(who)
			for k := range room {
				if k == who {
					continue
				}
				if x, _ := p.o.Oldest(); x == who {
					t.Fatalf("room %d: %d is the oldest, ahead of %d", room, who, k)
				}
				if k%2 == 0 {
					p.touch(k)
				} else {
					p.drop(k)
				}
			}
			if x, is := p.o.Oldest(); x != who || !is {
				t.Fatalf("room %d: the oldest is %d, not %d", room, x, who)
			}
		}
	}
}

// TestAFullOrderPutsNobodyOut, whatever it is asked and told, until it is told to drop one.
func TestAFullOrderPutsNobodyOut(t *testing.T) {
	for _, room := range someRooms() {
		p := fullPair(t, room)
		next := numbers(uint64(room) + 200)
		for range 500 {
			p.touch(next(3*room+1), next(3*room+1), next(3*room+1))
			if p.o.Len() != room {
				t.Fatal(room, p.o.Len())
			}
		}
		l := p.o.List()
		slices.Sort(l)
		if !slices.Equal(l, upTo(0, room)) {
			t.Error(room, l)
		}
	}
}

func TestOrdersAreApart(t *testing.T) {
	a, b := made[int](t, 2), made[int](t, 2)
	a.Touch(5, 6)
	holds(t, b)
	b.Touch(6, 5)
	a.Drop(6)
	holds(t, a, 5)
	holds(t, b, 6, 5)
}

func TestNilOrder(t *testing.T) {
	nilOrder(t, 5, 0)
	nilOrder(t, "x", "")
	nilOrder(t, [2]int{1}, [2]int{})
	nilOrder(t, pupil{name: "x"}, pupil{})
	nilOrder(t, math.Inf(1), 0)
	nilOrder[any](t, 5, nil)
	var o *order.Order[any]
	if o.Touch([]int{1}) != api.ErrState || o.Has([]int{1}) || o.Drop([]int{1}) {
		t.Error("of what can't be compared")
	}
}

func nilOrder[K comparable](t *testing.T, k, none K) {
	t.Helper()
	var o *order.Order[K]
	for range 2 {
		for _, l := range [][]K{nil, {}, {k}, {none}, {k, none, k}, slices.Repeat([]K{k}, 70)} {
			if e := o.Touch(l...); e != api.ErrState {
				t.Errorf("Touch(%v): %d", l, e)
			}
		}
		if o.Drop(k) || o.Drop(none) || o.Has(k) || o.Has(none) {
			t.Error("a key is held")
		}
		if x, is := o.Oldest(); x != none || is {
			t.Error("Oldest:", x, is)
		}
		if x, is := o.Newest(); x != none || is {
			t.Error("Newest:", x, is)
		}
		if len(o.List()) != 0 || o.Len() != 0 {
			t.Error(o.List(), o.Len())
		}
	}
}

// TestOrderThatNewDidNotMake: such an order has no room.
func TestOrderThatNewDidNotMake(t *testing.T) {
	o := new(order.Order[int])
	for range 2 {
		if e := o.Touch(); e != api.OK {
			t.Error(e)
		}
		if e := o.Touch(5, 6); e != api.ErrFull {
			t.Error(e)
		}
		if o.Drop(5) || o.Has(5) || o.Has(0) {
			t.Error("a key is held")
		}
		holds(t, o)
	}
}

// TestWhatIsDroppedIsKeptNoMore: an order holds on to no key that isn't held.
func TestWhatIsDroppedIsKeptNoMore(t *testing.T) {
	type big struct{ l [64]*int }
	o := made[any](t, 2)
	var gone []weak.Pointer[big]
	fresh := func() *big {
		b := &big{}
		gone = append(gone, weak.Make(b))
		return b
	}
	for range 100 {
		a, b := fresh(), fresh()
		o.Touch(a, b, fresh(), a)
		o.Touch([1]any{[]*big{fresh()}})
		o.Drop(a)
		o.Drop(b)
		o.Touch([]*big{fresh()})
		o.Drop([]int{})
	}
	runtime.GC()
	for i, w := range gone {
		if w.Value() != nil {
			t.Errorf("the key %d is kept", i)
		}
	}
	runtime.KeepAlive(o)
}

// The chapter's example.

func TestExamples(t *testing.T) {
	o, e := order.New[int](2)
	if o == nil || e != api.OK {
		t.Fatal(o, e)
	}
	if e := o.Touch(5, 6, 5); e != api.OK {
		t.Error(e)
	}
	if k, is := o.Oldest(); k != 6 || !is {
		t.Error(k, is)
	}
	if e := o.Touch(7); e != api.ErrFull {
		t.Error(e)
	}
	if !o.Drop(6) || o.Touch(7) != api.OK {
		t.Error("Drop(6), Touch(7)")
	}
	holds(t, o, 5, 7)
}

// P1 and P2: every call ends without a panic at all arguments, and answers the same again.

func TestSameCallsSameAnswers(t *testing.T) {
	first := answers()
	for range 5 {
		if !slices.Equal(answers(), first) {
			t.Fatal("the same calls have other answers")
		}
	}
}

// answers are those of all calls, as texts in a row.
func answers() []string {
	var l []string
	tell := func(k string, is bool) { l = append(l, k+strconv.FormatBool(is)) }
	for _, room := range []int{math.MinInt, -1, 0, 1, 2, 63, 64, 65, math.MaxInt} {
		o, e := order.New[string](room)
		l = append(l, strconv.Itoa(int(e)))
		next := numbers(uint64(room))
		for range 300 {
			k := strconv.Itoa(next(70))
			switch next(5) {
			case 0:
				tell(k, o.Drop(k))
			case 1:
				l = append(l, o.List()...)
			default:
				l = append(l, strconv.Itoa(int(o.Touch(k, "", strconv.Itoa(next(70))))))
			}
			tell(o.Oldest())
			tell(o.Newest())
			tell(strconv.Itoa(o.Len()), o.Has(k))
		}
	}
	return l
}
