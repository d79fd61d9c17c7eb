package ring_test

import (
	"fmt"
	"math"
	"runtime"
	"slices"
	"testing"
	"weak"

	"detent/api"
	"detent/ring"
)

// row is a ring told in another way than the package does it: what a ring answers is held against it.
type row struct {
	things []int
	room   int
}

func (w *row) push(l ...int) int {
	n := 0
	for _, x := range l {
		if len(w.things) < w.room {
			w.things = append(w.things, x)
			n++
		}
	}
	return n
}

func (w *row) at(i int) (int, bool) {
	if i < 0 || i >= len(w.things) {
		return 0, false
	}
	return w.things[i], true
}

func (w *row) take(i int) (int, bool) {
	x, is := w.at(i)
	if is {
		w.things = slices.Delete(slices.Clone(w.things), i, i+1)
	}
	return x, is
}

// pair is a ring beside its row: each of its methods does the same with both, and tells if they part.
type pair struct {
	t     *testing.T
	r     *ring.Ring[int]
	w     *row
	stamp int
}

func newPair(t *testing.T, room int) *pair {
	t.Helper()
	return &pair{t: t, r: made[int](t, room), w: &row{room: room}}
}

func made[T any](t *testing.T, room int) *ring.Ring[T] {
	t.Helper()
	r, e := ring.New[T](room)
	if e != api.OK || r == nil {
		t.Fatalf("New(%d): %v, %d", room, r, e)
	}
	return r
}

// push hands in n things that were in no ring before.
func (p *pair) push(n int) {
	p.t.Helper()
	var l []int
	for range n {
		p.stamp++
		l = append(l, p.stamp)
	}
	held := slices.Clone(p.w.things)
	if got, want := p.r.Push(l...), p.w.push(l...); got != want {
		p.t.Fatalf("room %d, %v: Push of %d: %d, not %d", p.w.room, held, n, got, want)
	}
	p.look()
}

func (p *pair) pop() {
	p.t.Helper()
	held := slices.Clone(p.w.things)
	want, there := p.w.take(0)
	if x, is := p.r.Pop(); x != want || is != there {
		p.t.Fatalf("room %d, %v: Pop: %d, %v, not %d, %v", p.w.room, held, x, is, want, there)
	}
	p.look()
}

func (p *pair) take(i int) {
	p.t.Helper()
	held := slices.Clone(p.w.things)
	want, there := p.w.take(i)
	if x, is := p.r.Take(i); x != want || is != there {
		p.t.Fatalf("room %d, %v: Take(%d): %d, %v, not %d, %v", p.w.room, held, i, x, is, want, there)
	}
	p.look()
}

// look holds all that a ring tells, and doesn't change by telling, against the row.
func (p *pair) look() {
	p.t.Helper()
	if l := p.r.List(); !slices.Equal(l, p.w.things) {
		p.t.Fatalf("room %d: List: %v, not %v", p.w.room, l, p.w.things)
	}
	if p.r.Len() != len(p.w.things) || p.r.Room() != p.w.room {
		p.t.Fatalf("room %d, %v: Len %d, Room %d", p.w.room, p.w.things, p.r.Len(), p.r.Room())
	}
	for _, i := range numbers(len(p.w.things)) {
		want, there := p.w.at(i)
		if x, is := p.r.At(i); x != want || is != there {
			p.t.Fatalf("room %d, %v: At(%d): %d, %v, not %d, %v", p.w.room, p.w.things, i, x, is, want, there)
		}
	}
}

// outside are numbers that no thing has.
func outside() []int {
	return []int{math.MinInt, math.MinInt + 1, math.MinInt32, -257, -256, -255, -2, -1,
		256, 257, 511, 512, 1 << 20, math.MaxInt32, math.MaxInt - 256, math.MaxInt - 1, math.MaxInt}
}

// numbers are those of so many things, the two behind the last one, and some that no thing has.
func numbers(held int) []int {
	l := outside()
	for i := range held + 2 {
		l = append(l, i)
	}
	return l
}

func rooms() []int {
	return []int{1, 2, 3, 4, 7, 8, 16, 63, 64, 255, 256}
}

func TestMost(t *testing.T) {
	if ring.Most != 256 {
		t.Error(ring.Most)
	}
}

// P2.1

func TestNew(t *testing.T) {
	for room := 1; room <= 256; room++ {
		r := made[int](t, room)
		if r.Len() != 0 || r.Room() != room || len(r.List()) != 0 {
			t.Errorf("New(%d): Len %d, Room %d, %v", room, r.Len(), r.Room(), r.List())
		}
		if x, is := r.Pop(); x != 0 || is {
			t.Errorf("New(%d), Pop: %d, %v", room, x, is)
		}
	}
	for _, room := range []int{math.MinInt, math.MinInt32, -256, -2, -1, 0, 257, 258, 512, 1 << 20, math.MaxInt32, math.MaxInt} {
		if r, e := ring.New[int](room); r != nil || e != api.ErrRange {
			t.Errorf("New(%d): %v, %d", room, r, e)
		}
	}
}

func TestPush(t *testing.T) {
	for _, room := range rooms() {
		for _, held := range []int{0, 1, room / 2, room - 1, room} {
			for _, n := range []int{0, 1, 2, room - 1, room, room + 1, 2*room + 1, 600} {
				p := newPair(t, room)
				p.push(min(held, room))
				p.push(n)
			}
		}
	}
}

func TestPushOneByOne(t *testing.T) {
	for _, room := range rooms() {
		p := newPair(t, room)
		for range room + 2 {
			p.push(1)
		}
	}
}

func TestPushLeavesItsList(t *testing.T) {
	l := []int{5, 6, 7}
	r := made[int](t, 2)
	r.Push(l...)
	r.Pop()
	if !slices.Equal(l, []int{5, 6, 7}) {
		t.Error(l)
	}
	l[1] = 9
	if k := r.List(); !slices.Equal(k, []int{6}) {
		t.Error(k)
	}
}

func TestPop(t *testing.T) {
	for _, room := range rooms() {
		for held := 0; held <= room; held += 1 + room/5 {
			p := newPair(t, room)
			p.push(held)
			for range held + 2 {
				p.pop()
			}
			p.push(room)
			for range room + 1 {
				p.pop()
			}
		}
	}
}

// P2.2

func TestTake(t *testing.T) {
	for _, room := range rooms() {
		for _, gone := range []int{0, 1, room - 1} {
			for _, i := range numbers(room) {
				p := newPair(t, room)
				p.push(gone)
				for range gone {
					p.pop()
				}
				p.push(room)
				p.take(i)
				p.push(2)
				p.take(i)
			}
		}
	}
}

func TestAtAndTakeOfAnEmptyRing(t *testing.T) {
	for _, room := range rooms() {
		p := newPair(t, room)
		for _, i := range numbers(1) {
			p.take(i)
		}
		p.push(1)
		p.take(0)
		for _, i := range numbers(1) {
			p.take(i)
		}
	}
}

func TestAtChangesNothing(t *testing.T) {
	r := made[int](t, 3)
	r.Push(5, 6)
	for range 5 {
		if x, is := r.At(1); x != 6 || !is {
			t.Error(x, is)
		}
	}
	if l := r.List(); !slices.Equal(l, []int{5, 6}) {
		t.Error(l)
	}
}

func TestListIsNew(t *testing.T) {
	r := made[int](t, 3)
	r.Push(5, 6)
	l, k := r.List(), r.List()
	l[0], l[1] = 8, 9
	if m := append(r.List(), 7); !slices.Equal(m, []int{5, 6, 7}) || !slices.Equal(k, []int{5, 6}) {
		t.Error(m, k)
	}
	if r.Push(1); !slices.Equal(l, []int{8, 9}) || !slices.Equal(r.List(), []int{5, 6, 1}) {
		t.Error(l, r.List())
	}
}

// P2.3

// TestEverySmallRun goes through all runs of some calls, one behind the other, on the least rooms.
func TestEverySmallRun(t *testing.T) {
	steps := []func(p *pair){
		func(p *pair) { p.push(1) },
		func(p *pair) { p.push(2) },
		func(p *pair) { p.pop() },
		func(p *pair) { p.take(1) },
		func(p *pair) { p.take(p.w.room - 1) },
	}
	const long = 5
	runs := 1
	for range long {
		runs *= len(steps)
	}
	for room := 1; room <= 4; room++ {
		for run := range runs {
			p := newPair(t, room)
			for range long {
				steps[run%len(steps)](p)
				run /= len(steps)
			}
		}
	}
}

func TestLongRuns(t *testing.T) {
	x := uint64(3)
	below := func(n int) int {
		x = x*6364136223846793005 + 1442695040888963407
		return int(x >> 33 % uint64(n))
	}
	for _, room := range rooms() {
		p := newPair(t, room)
		for range 400 {
			switch below(4) {
			case 0, 1:
				p.push(below(room + 2))
			case 2:
				for range below(room + 1) {
					p.pop()
				}
			default:
				p.take(below(room+2) - 1)
			}
		}
	}
}

// TestInOrderOnce: all that a ring took comes out in the order in which it went in, once; what didn't fit never does.
func TestInOrderOnce(t *testing.T) {
	for _, room := range rooms() {
		r := made[int](t, room)
		var in, out []int
		for i := range 3 * room {
			l := []int{3 * i, 3*i + 1, 3*i + 2}
			in = append(in, l[:r.Push(l...)]...)
			for range i % 4 {
				if x, is := r.Pop(); is {
					out = append(out, x)
				}
			}
		}
		for {
			x, is := r.Pop()
			if !is {
				break
			}
			out = append(out, x)
		}
		if !slices.Equal(in, out) {
			t.Errorf("room %d: in %v, out %v", room, in, out)
		}
	}
}

func TestNothingIsPutOut(t *testing.T) {
	for _, room := range rooms() {
		p := newPair(t, room)
		p.push(room)
		for range 3 {
			p.push(5)
		}
		for range room + 1 {
			p.pop()
		}
	}
}

func TestNilRing(t *testing.T) {
	nilRing[int](t)
	nilRing[string](t)
	nilRing[[3]uint64](t)
	nilRing[*int](t)
}

func nilRing[T comparable](t *testing.T) {
	var r *ring.Ring[T]
	empty(t, r)
	if r != nil {
		t.Error(r)
	}
}

// TestRingThatNewDidNotMake: such a ring has no room.
func TestRingThatNewDidNotMake(t *testing.T) {
	empty(t, new(ring.Ring[int]))
	empty(t, new(ring.Ring[string]))
}

// empty holds a ring without any room against what it must answer, ahead of pushes and behind them.
func empty[T comparable](t *testing.T, r *ring.Ring[T]) {
	t.Helper()
	var none T
	for range 2 {
		if r.Len() != 0 || r.Room() != 0 || len(r.List()) != 0 {
			t.Error(r.Len(), r.Room(), r.List())
		}
		if x, is := r.Pop(); x != none || is {
			t.Error("Pop:", x, is)
		}
		for _, i := range numbers(2) {
			if x, is := r.At(i); x != none || is {
				t.Errorf("At(%d): %v, %v", i, x, is)
			}
			if x, is := r.Take(i); x != none || is {
				t.Errorf("Take(%d): %v, %v", i, x, is)
			}
		}
		if n := r.Push(); n != 0 {
			t.Error("Push():", n)
		}
		if n := r.Push(none); n != 0 {
			t.Error("Push of one:", n)
		}
		if n := r.Push(none, none, none); n != 0 {
			t.Error("Push of three:", n)
		}
	}
}

func TestThingsOfOtherTypes(t *testing.T) {
	type thing struct {
		name string
		n    [2]uint64
	}
	ofType(t, "a", "b", "", "d")
	ofType(t, thing{"a", [2]uint64{1, 2}}, thing{}, thing{"c", [2]uint64{}}, thing{"a", [2]uint64{1, 3}})
	ofType(t, new(1), new(1), nil, new(2))
	ofType[any](t, 1, nil, "x", thing{name: "z"})
	ofType[error](t, nil, fmt.Errorf("e"), nil, nil)
	ofType(t, struct{}{}, struct{}{}, struct{}{}, struct{}{})
	ofType(t, true, false, true, true)
}

// ofType puts four things into a ring of three, the third place of which comes behind its end.
func ofType[T comparable](t *testing.T, a, b, c, d T) {
	t.Helper()
	var none T
	r := made[T](t, 3)
	r.Push(d, d)
	r.Pop()
	r.Pop()
	if n := r.Push(a, b, c, d); n != 3 || !slices.Equal(r.List(), []T{a, b, c}) {
		t.Error(n, r.List())
	}
	if x, is := r.At(3); x != none || is {
		t.Error(x, is)
	}
	if x, is := r.Take(1); x != b || !is {
		t.Error(x, is)
	}
	if x, is := r.Pop(); x != a || !is {
		t.Error(x, is)
	}
	if x, is := r.Pop(); x != c || !is {
		t.Error(x, is)
	}
	if x, is := r.Pop(); x != none || is {
		t.Error(x, is)
	}
}

func TestRingsAreApart(t *testing.T) {
	a, b := made[int](t, 2), made[int](t, 2)
	a.Push(1, 2)
	b.Push(3)
	a.Pop()
	if !slices.Equal(a.List(), []int{2}) || !slices.Equal(b.List(), []int{3}) {
		t.Error(a.List(), b.List())
	}
}

// TestWhatIsOutIsKeptNoMore: a ring holds on to nothing that came out of it.
func TestWhatIsOutIsKeptNoMore(t *testing.T) {
	type big struct{ l [64]*int }
	r := made[*big](t, 4)
	var gone []weak.Pointer[big]
	put := func() {
		b := &big{}
		gone = append(gone, weak.Make(b))
		r.Push(b)
	}
	for range 6 {
		put()
		put()
		put()
		r.Take(1)
		r.Take(1)
		r.Pop()
	}
	runtime.GC()
	for i, w := range gone {
		if w.Value() != nil {
			t.Errorf("the thing %d is kept", i)
		}
	}
	runtime.KeepAlive(r)
}

// The chapter's examples.

func TestExamples(t *testing.T) {
	r := made[int](t, 2)
	if n := r.Push(5, 6, 7); n != 2 {
		t.Error(n)
	}
	if x, is := r.Pop(); x != 5 || !is {
		t.Error(x, is)
	}
	if n := r.Push(8); n != 1 {
		t.Error(n)
	}
	if l := r.List(); !slices.Equal(l, []int{6, 8}) {
		t.Error(l)
	}
	if x, is := r.Take(1); x != 8 || !is {
		t.Error(x, is)
	}
	if l := r.List(); !slices.Equal(l, []int{6}) {
		t.Error(l)
	}
}

// P1 and P2: every call ends without a panic at all arguments, and answers the same again.

func TestSameCallsSameAnswers(t *testing.T) {
	if !slices.Equal(answers(), answers()) {
		t.Error("the same calls have other answers")
	}
}

// answers are those of all calls, as numbers in a row.
func answers() []int {
	var l []int
	found := func(x int, is bool) {
		l = append(l, x)
		if is {
			l = append(l, -1)
		}
	}
	for _, room := range append(rooms(), outside()...) {
		r, e := ring.New[int](room)
		l = append(l, int(e), r.Room())
		for i := range 40 {
			l = append(l, r.Push(i, i+1, i+2), r.Push(), r.Len())
			for _, k := range append(outside(), 0, 1, 2, i) {
				found(r.At(k))
				found(r.Take(k))
			}
			found(r.Pop())
			l = append(l, r.List()...)
		}
	}
	return l
}
