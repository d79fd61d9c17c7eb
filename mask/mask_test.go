package mask_test

import (
	"math"
	"slices"
	"testing"

	"detent/mask"
)

// slow is a set told in another way than the package does it: what a mask answers is held against it.
type slow [mask.Most]bool

func slowOf(m mask.Mask) slow {
	var s slow
	for i := range s {
		s[i] = uint64(m)/pow2(i)%2 == 1
	}
	return s
}

func (s slow) mask() mask.Mask {
	n := uint64(0)
	for i, in := range s {
		if in {
			n += pow2(i)
		}
	}
	return mask.Mask(n)
}

func (s slow) list() []int {
	var l []int
	for i, in := range s {
		if in {
			l = append(l, i)
		}
	}
	return l
}

func (s slow) next(from int) (int, bool) {
	for _, i := range s.list() {
		if i >= from {
			return i, true
		}
	}
	return 0, false
}

func (s slow) around(from int) (int, bool) {
	if i, is := s.next(from); is {
		return i, true
	}
	return s.next(math.MinInt)
}

func (s slow) turn(n int) slow {
	var t slow
	for i, in := range s {
		// n is brought within 0 to 63 first: i-n could leave the bounds of int.
		t[(i-(n%64+64)%64+64)%64] = in
	}
	return t
}

func pow2(i int) uint64 {
	n := uint64(1)
	for range i {
		n *= 2
	}
	return n
}

// inside are the numbers that a mask can hold, outside some of those that none can.
func inside() []int {
	var l []int
	for i := range mask.Most {
		l = append(l, i)
	}
	return l
}

func outside() []int {
	return []int{math.MinInt, math.MinInt + 1, math.MinInt32, -129, -128, -127, -65, -64, -63, -2, -1,
		64, 65, 66, 127, 128, 129, 1 << 20, math.MaxInt32, math.MaxInt - 63, math.MaxInt - 1, math.MaxInt}
}

func anyNumber() []int {
	return append(outside(), inside()...)
}

func masks() []mask.Mask {
	l := []mask.Mask{0, 1, 2, 9, 10, 1 << 63, 1<<63 | 1, 1<<63 - 1, 1<<64 - 1, 1<<64 - 2,
		0x5555555555555555, 0xaaaaaaaaaaaaaaaa, 0xffffffff, 0xffffffff00000000, 1<<31 | 1<<32}
	x := uint64(7)
	for range 20 {
		x = x*6364136223846793005 + 1442695040888963407
		l = append(l, mask.Mask(x), mask.Mask(x&(x>>17)&(x<<11)))
	}
	return l
}

func TestMost(t *testing.T) {
	if mask.Most != 64 {
		t.Error(mask.Most)
	}
}

// P1.1

func TestOf(t *testing.T) {
	for _, x := range []struct {
		l    []int
		want mask.Mask
	}{
		{nil, 0},
		{[]int{0}, 1},
		{[]int{63}, 1 << 63},
		{[]int{3, 0, 3, 64}, 9},
		{[]int{0, 63, 1, 62}, 1<<63 | 1<<62 | 3},
		{[]int{-1, 64, 5}, 32},
		{outside(), 0},
		{inside(), 1<<64 - 1},
		{anyNumber(), 1<<64 - 1},
	} {
		if m := mask.Of(x.l...); m != x.want {
			t.Errorf("Of(%v): %x, not %x", x.l, m, x.want)
		}
	}
	for i := range mask.Most {
		if m := mask.Of(i); uint64(m) != pow2(i) {
			t.Errorf("Of(%d): %x", i, m)
		}
	}
}

func TestOfLeavesItsList(t *testing.T) {
	l := []int{3, -1, 0, 64, 3}
	m := mask.Of(l...)
	m.With(l...)
	m.Without(l...)
	if !slices.Equal(l, []int{3, -1, 0, 64, 3}) {
		t.Error(l)
	}
	l[0] = 9
	if m != 9 {
		t.Error(m)
	}
}

func TestFull(t *testing.T) {
	for _, n := range anyNumber() {
		var want slow
		for i := range want {
			want[i] = i < n
		}
		if m := mask.Full(n); m != want.mask() {
			t.Errorf("Full(%d): %x", n, m)
		}
	}
	for _, x := range []struct {
		n    int
		want mask.Mask
	}{{math.MinInt, 0}, {-1, 0}, {0, 0}, {1, 1}, {3, 7}, {63, 1<<63 - 1}, {64, 1<<64 - 1}, {65, 1<<64 - 1}, {math.MaxInt, 1<<64 - 1}} {
		if m := mask.Full(x.n); m != x.want {
			t.Errorf("Full(%d): %x, not %x", x.n, m, x.want)
		}
	}
}

func TestHas(t *testing.T) {
	for _, m := range masks() {
		s := slowOf(m)
		for i := range mask.Most {
			if m.Has(i) != s[i] {
				t.Errorf("%x.Has(%d): %v", m, i, m.Has(i))
			}
		}
		for _, i := range outside() {
			if m.Has(i) {
				t.Errorf("%x.Has(%d)", m, i)
			}
		}
	}
}

func TestWithAndWithout(t *testing.T) {
	lists := [][]int{nil, {0}, {63}, {64}, {-1}, {1, 0}, {5, 5}, {-64, 7, 64, 71}, {62, 0, 33, 31, 32}, outside(), inside(), anyNumber()}
	for _, m := range masks() {
		for _, l := range lists {
			with, without := slowOf(m), slowOf(m)
			for _, i := range l {
				if i >= 0 && i < mask.Most {
					with[i], without[i] = true, false
				}
			}
			if n := m.With(l...); n != with.mask() {
				t.Errorf("%x.With(%v): %x", m, l, n)
			}
			if n := m.Without(l...); n != without.mask() {
				t.Errorf("%x.Without(%v): %x", m, l, n)
			}
		}
	}
	m := mask.Of(3, 0)
	m.With(7)
	m.Without(3)
	if m != 9 {
		t.Errorf("a mask changed: %x", m)
	}
}

func TestLenAndList(t *testing.T) {
	for _, m := range masks() {
		want := slowOf(m).list()
		if m.Len() != len(want) {
			t.Errorf("%x.Len(): %d", m, m.Len())
		}
		if !slices.Equal(m.List(), want) {
			t.Errorf("%x.List(): %v", m, m.List())
		}
	}
	if l := mask.Of(3, 0, 3, 64).List(); !slices.Equal(l, []int{0, 3}) {
		t.Error(l)
	}
	if l := mask.Of().List(); len(l) != 0 {
		t.Error(l)
	}
}

func TestListIsNew(t *testing.T) {
	m := mask.Of(3, 0)
	l := m.List()
	l[0], l[1] = 8, 9
	if k := m.List(); !slices.Equal(k, []int{0, 3}) {
		t.Error(k)
	}
}

// P1.2

func TestNext(t *testing.T) {
	for _, m := range masks() {
		s := slowOf(m)
		for _, from := range anyNumber() {
			want, there := s.next(from)
			if i, is := m.Next(from); i != want || is != there {
				t.Errorf("%x.Next(%d): %d, %v", m, from, i, is)
			}
		}
	}
	for _, x := range []struct {
		from, want int
		there      bool
	}{{math.MinInt, 0, true}, {-1, 0, true}, {0, 0, true}, {1, 3, true}, {3, 3, true}, {4, 0, false}, {63, 0, false}, {64, 0, false}, {math.MaxInt, 0, false}} {
		if i, is := mask.Of(3, 0).Next(x.from); i != x.want || is != x.there {
			t.Errorf("Of(3, 0).Next(%d): %d, %v", x.from, i, is)
		}
	}
	if i, is := mask.Of(63).Next(63); i != 63 || !is {
		t.Error(i, is)
	}
}

func TestAround(t *testing.T) {
	for _, m := range masks() {
		s := slowOf(m)
		for _, from := range anyNumber() {
			want, there := s.around(from)
			if i, is := m.Around(from); i != want || is != there {
				t.Errorf("%x.Around(%d): %d, %v", m, from, i, is)
			}
		}
	}
	for _, x := range []struct{ from, want int }{{math.MinInt, 2}, {-1, 2}, {2, 2}, {3, 5}, {5, 5}, {6, 2}, {63, 2}, {64, 2}, {math.MaxInt, 2}} {
		if i, is := mask.Of(5, 2).Around(x.from); i != x.want || !is {
			t.Errorf("Of(5, 2).Around(%d): %d, %v", x.from, i, is)
		}
	}
}

func TestNextAndAroundOfTheEmptyMask(t *testing.T) {
	for _, from := range anyNumber() {
		if i, is := mask.Of().Next(from); i != 0 || is {
			t.Errorf("Next(%d): %d, %v", from, i, is)
		}
		if i, is := mask.Of().Around(from); i != 0 || is {
			t.Errorf("Around(%d): %d, %v", from, i, is)
		}
	}
}

// P1.3

func TestTurn(t *testing.T) {
	for _, m := range masks() {
		s := slowOf(m)
		for _, n := range anyNumber() {
			if k := m.Turn(n); k != s.turn(n).mask() {
				t.Errorf("%x.Turn(%d): %x", m, n, k)
			}
		}
	}
	for _, x := range []struct {
		n    int
		want mask.Mask
	}{{0, mask.Of(0, 3)}, {1, mask.Of(2, 63)}, {-1, mask.Of(1, 4)}, {3, mask.Of(0, 61)}, {63, mask.Of(1, 4)}, {64, mask.Of(0, 3)}, {-64, mask.Of(0, 3)},
		{65, mask.Of(2, 63)}, {math.MaxInt, mask.Of(1, 4)}, {math.MinInt, mask.Of(0, 3)}, {math.MinInt + 1, mask.Of(2, 63)}} {
		if k := mask.Of(3, 0).Turn(x.n); k != x.want {
			t.Errorf("Of(3, 0).Turn(%d): %v", x.n, k.List())
		}
	}
}

func TestTurnAndBack(t *testing.T) {
	for _, m := range masks() {
		for _, n := range anyNumber() {
			if k := m.Turn(n).Turn(-n); k != m {
				t.Errorf("%x turned by %d and back: %x", m, n, k)
			}
		}
	}
}

func TestGoingAround(t *testing.T) {
	for _, m := range masks() {
		for _, begin := range anyNumber() {
			first := walk(m, begin, m.Len())
			if sorted := slices.Sorted(slices.Values(first)); !slices.Equal(sorted, m.List()) {
				t.Fatalf("%x from %d on: %v", m, begin, first)
			}
			if twice := walk(m, begin, 2*m.Len()); !slices.Equal(twice, append(first, first...)) {
				t.Fatalf("%x from %d on, twice: %v", m, begin, twice)
			}
		}
	}
}

// walk is the first n numbers that are met by going on from behind each one.
func walk(m mask.Mask, from, n int) []int {
	var l []int
	for range n {
		i, is := m.Around(from)
		if !is {
			return nil
		}
		l = append(l, i)
		from = i + 1
	}
	return l
}

// The chapter's examples.

func TestExamples(t *testing.T) {
	m := mask.Of(3, 0, 3, 64)
	if m != 9 || !slices.Equal(m.List(), []int{0, 3}) {
		t.Error(m, m.List())
	}
	if i, is := mask.Of(3, 0).Around(4); i != 0 || !is {
		t.Error(i, is)
	}
	if i, is := mask.Of(3, 0).Next(4); i != 0 || is {
		t.Error(i, is)
	}
	if l := mask.Of(3, 0).Turn(1).List(); !slices.Equal(l, []int{2, 63}) {
		t.Error(l)
	}
}

// P1 and P2: every call ends without a panic at all arguments, and answers the same again.

func TestSameCallsSameAnswers(t *testing.T) {
	if !slices.Equal(answers(), answers()) {
		t.Error("the same calls have other answers")
	}
}

// answers are those of all calls, as words in a row.
func answers() []uint64 {
	var l []uint64
	put := func(m mask.Mask) { l = append(l, uint64(m)) }
	is := func(b bool) {
		if b {
			l = append(l, 1)
		} else {
			l = append(l, 0)
		}
	}
	found := func(i int, there bool) {
		l = append(l, uint64(i))
		is(there)
	}
	for _, n := range anyNumber() {
		put(mask.Of(n))
		put(mask.Full(n))
	}
	for _, m := range masks() {
		for _, n := range anyNumber() {
			put(m.With(n))
			put(m.Without(n))
			put(m.Turn(n))
			found(m.Next(n))
			found(m.Around(n))
			is(m.Has(n))
		}
		l = append(l, uint64(m.Len()))
		for _, i := range m.List() {
			l = append(l, uint64(i))
		}
	}
	return l
}
