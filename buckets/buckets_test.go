package buckets_test

import (
	"math"
	"math/big"
	"reflect"
	"runtime"
	"slices"
	"strconv"
	"testing"
	"weak"

	"detent/api"
	"detent/buckets"
)

// greatest is the greatest word.
const greatest = math.MaxUint64

// row is a table told in another way than the package does it: all keys stand in one row, whatever their buckets, the one that came last first; a chain is sifted from it. What a table answers is held against it.
type row[V any] struct {
	buckets, room int
	keys          []uint64
	values        map[uint64]V
}

func (r *row[V]) put(key uint64, v V) (bool, api.Errno) {
	_, is := r.values[key]
	if !is && len(r.keys) == r.room {
		return false, api.ErrFull
	}
	if !is {
		r.keys = append([]uint64{key}, r.keys...)
	}
	r.values[key] = v
	return is, api.OK
}

func (r *row[V]) del(l ...uint64) int {
	before := len(r.keys)
	r.keys = slices.DeleteFunc(r.keys, func(k uint64) bool { return slices.Contains(l, k) })
	for _, k := range l {
		delete(r.values, k)
	}
	return before - len(r.keys)
}

// chains are those of all buckets.
func (r *row[V]) chains() [][]uint64 {
	l := make([][]uint64, r.buckets)
	for _, k := range r.keys {
		b := bucketOf(k, r.buckets)
		l[b] = append(l[b], k)
	}
	return l
}

// bucketOf is a key's bucket among so many, multiplied by halves.
func bucketOf(key uint64, buckets int) int {
	high, low := key>>32, key&0xffffffff
	const c, d = 0x9e3779b9, 0x7f4a7c15
	upper := (low*d>>32 + low*c&0xffffffff + high*d&0xffffffff) & 0xffffffff
	return int(upper % uint64(buckets))
}

// in is so many keys of one bucket among so many, the least ones.
func in(bucket, buckets, n int) []uint64 {
	var l []uint64
	for k := uint64(0); len(l) < n; k++ {
		if bucketOf(k, buckets) == bucket {
			l = append(l, k)
		}
	}
	return l
}

// pair is a table beside its row: each of its methods does the same with both, and looks at everything that the table tells.
type pair[V any] struct {
	t     *testing.T
	b     *buckets.Table[V]
	r     *row[V]
	same  func(a, b V) bool
	asked []uint64 // the keys that are asked for behind each call
}

func newPair[V any](t *testing.T, n, room int, same func(a, b V) bool, asked ...uint64) *pair[V] {
	t.Helper()
	p := &pair[V]{t: t, b: made[V](t, n, room), same: same, asked: asked}
	p.r = &row[V]{buckets: n, room: room, values: map[uint64]V{}}
	p.look("New")
	return p
}

// numberPair is one with ints as values, that is asked for the keys from 0 on, two more than it has room for, and for the greatest.
func numberPair(t *testing.T, n, room int) *pair[int] {
	t.Helper()
	return newPair(t, n, room, equal[int], append(upTo(0, room+2), greatest)...)
}

// fullPair is one that holds the keys from 0 on, put in their order, each with a value of its own.
func fullPair(t *testing.T, n, room int) *pair[int] {
	t.Helper()
	p := numberPair(t, n, room)
	for _, k := range upTo(0, room) {
		p.put(k, int(k)+1000)
	}
	return p
}

func equal[V comparable](a, b V) bool { return a == b }

func made[V any](t *testing.T, n, room int) *buckets.Table[V] {
	t.Helper()
	b, e := buckets.New[V](n, room)
	if e != api.OK || b == nil {
		t.Fatalf("New(%d, %d): %v, %d", n, room, b, e)
	}
	return b
}

// upTo is the keys from the first on, the last one less than end.
func upTo(first, end int) []uint64 {
	var l []uint64
	for x := first; x < end; x++ {
		l = append(l, uint64(x))
	}
	return l
}

// backTo is those keys from the last one on.
func backTo(first, end int) []uint64 {
	l := upTo(first, end)
	slices.Reverse(l)
	return l
}

// without is a row but for some keys.
func without(l []uint64, some ...uint64) []uint64 {
	return slices.DeleteFunc(slices.Clone(l), func(k uint64) bool { return slices.Contains(some, k) })
}

func (p *pair[V]) put(key uint64, v V) (bool, api.Errno) {
	p.t.Helper()
	want, wantErr := p.r.put(key, v)
	was, e := p.b.Put(key, v)
	if was != want || e != wantErr {
		p.t.Fatalf("%d buckets, room %d: Put(%d, %v): %v, %d, not %v, %d", p.r.buckets, p.r.room, key, v, was, e, want, wantErr)
	}
	p.look("Put")
	return was, e
}

func (p *pair[V]) del(l ...uint64) int {
	p.t.Helper()
	want := p.r.del(l...)
	n := p.b.Del(l...)
	if n != want {
		p.t.Fatalf("%d buckets, room %d: Del(%v): %d, not %d", p.r.buckets, p.r.room, l, n, want)
	}
	p.look("Del")
	return n
}

// look holds all that the table tells against the row.
func (p *pair[V]) look(behind string) {
	p.t.Helper()
	chains := p.r.chains()
	for i, want := range chains {
		if l := p.b.Chain(i); !slices.Equal(l, want) {
			p.t.Fatalf("%d buckets, room %d, behind %s: Chain(%d): %v, not %v", p.r.buckets, p.r.room, behind, i, l, want)
		}
	}
	if l := p.b.Keys(); !slices.Equal(l, slices.Concat(chains...)) || p.b.Len() != len(p.r.keys) {
		p.t.Fatalf("%d buckets, room %d, behind %s: Keys, Len: %v, %d, not %v", p.r.buckets, p.r.room, behind, l, p.b.Len(), chains)
	}
	for _, k := range p.asked {
		want, wantIs := p.r.values[k]
		if v, is := p.b.Get(k); !p.same(v, want) || is != wantIs {
			p.t.Fatalf("%d buckets, room %d, behind %s: Get(%d): %v, %v, not %v, %v", p.r.buckets, p.r.room, behind, k, v, is, want, wantIs)
		}
	}
}

// holds tells if the table's chains, one behind the other, aren't just these.
func holds[V any](t *testing.T, b *buckets.Table[V], want ...uint64) {
	t.Helper()
	if l := b.Keys(); !slices.Equal(l, want) || b.Len() != len(want) {
		t.Errorf("Keys, Len: %v, %d, not %v", l, b.Len(), want)
	}
}

// gets tells if that key hasn't that value.
func gets[V comparable](t *testing.T, b *buckets.Table[V], key uint64, want V) {
	t.Helper()
	if v, is := b.Get(key); v != want || !is {
		t.Errorf("Get(%d): %v, %v, not %v", key, v, is, want)
	}
}

// lacks tells if that key is there.
func lacks[V any](t *testing.T, b *buckets.Table[V], key uint64) {
	t.Helper()
	if v, is := b.Get(key); is || !reflect.ValueOf(&v).Elem().IsZero() {
		t.Errorf("Get(%d): %v, %v", key, v, is)
	}
}

// numbers gives numbers that look like chance, the same ones for the same seed.
func numbers(seed uint64) func(n int) int {
	return func(n int) int {
		seed = seed*6364136223846793005 + 1442695040888963407
		return int(seed >> 33 % uint64(n))
	}
}

// someSizes are buckets and rooms of the tables of most tests.
func someSizes() [][2]int {
	var l [][2]int
	for _, n := range []int{1, 2, 3, 63, 64} {
		for _, room := range []int{1, 2, 3, 63, 64} {
			l = append(l, [2]int{n, room})
		}
	}
	return l
}

// someKeys are keys at the edges.
func someKeys() []uint64 {
	return []uint64{0, 1, 2, 3, 63, 64, 65, 1<<31 - 1, 1 << 31, 1<<32 - 1, 1 << 32, 1<<32 + 1, 1<<63 - 1, 1 << 63, 1<<63 + 1, greatest - 1, greatest}
}

// P21.1: New.

func TestSizes(t *testing.T) {
	edges := []int{math.MinInt, math.MinInt + 1, -65, -64, -2, -1, 0, 1, 2, 63, 64, 65, 66, 128, 256, math.MaxInt - 1, math.MaxInt}
	for _, n := range edges {
		for _, room := range edges {
			is := n >= 1 && n <= 64 && room >= 1 && room <= 64
			b, e := buckets.New[int](n, room)
			if (b != nil) != is || (e == api.OK) != is || !is && e != api.ErrRange {
				t.Errorf("New(%d, %d): %v, %d", n, room, b, e)
			}
			s, e := buckets.New[[]string](n, room)
			if (s != nil) != is || (e == api.OK) != is || !is && e != api.ErrRange {
				t.Errorf("New of slices (%d, %d): %v, %d", n, room, s, e)
			}
		}
	}
	for n := 1; n <= 64; n++ {
		for room := 1; room <= 64; room++ {
			if b, e := buckets.New[string](n, room); b == nil || e != api.OK {
				t.Errorf("New(%d, %d): %v, %d", n, room, b, e)
			}
		}
	}
	if buckets.Most != 64 {
		t.Error(buckets.Most)
	}
}

func TestNewTableIsEmpty(t *testing.T) {
	for _, size := range someSizes() {
		p := numberPair(t, size[0], size[1])
		holds(t, p.b)
		for _, k := range someKeys() {
			lacks(t, p.b, k)
			if n := p.b.Del(k); n != 0 {
				t.Errorf("%v: Del(%d): %d", size, k, n)
			}
		}
		for i := -1; i <= 64; i++ {
			if l := p.b.Chain(i); len(l) != 0 {
				t.Errorf("%v: Chain(%d): %v", size, i, l)
			}
		}
		holds(t, p.b)
	}
}

// TestEachSizeIsWhole: there is room for just so many keys, wherever they stand, and there are just so many buckets.
func TestEachSizeIsWhole(t *testing.T) {
	for size := 1; size <= 64; size++ {
		for _, n := range []int{1, size} {
			b := made[int](t, n, size)
			for _, k := range upTo(0, size) {
				if was, e := b.Put(k, int(k)); was || e != api.OK {
					t.Fatalf("%d buckets, room %d: Put(%d): %v, %d", n, size, k, was, e)
				}
			}
			if was, e := b.Put(greatest, 5); was || e != api.ErrFull {
				t.Errorf("%d buckets, room %d: one more: %v, %d", n, size, was, e)
			}
			if b.Len() != size || len(b.Keys()) != size {
				t.Errorf("%d buckets, room %d: %d, %v", n, size, b.Len(), b.Keys())
			}
			seen := 0
			for i := range n {
				seen += len(b.Chain(i))
			}
			if seen != size {
				t.Errorf("%d buckets, room %d: %d in the chains", n, size, seen)
			}
		}
	}
}

// P21.1: Put.

func TestPutOfNewKeys(t *testing.T) {
	p := newPair(t, 1, 4, equal[int], someKeys()...)
	for i, k := range []uint64{2, greatest, 0, 1} {
		if was, e := p.put(k, 10+i); was || e != api.OK {
			t.Error(k, was, e)
		}
	}
	holds(t, p.b, 1, 0, greatest, 2)
	gets(t, p.b, 2, 10)
	gets(t, p.b, greatest, 11)
	gets(t, p.b, 0, 12)
	gets(t, p.b, 1, 13)
}

// TestPutInEveryPlace: a key that is there, first, last or between, gets the new value, and keeps its place.
func TestPutInEveryPlace(t *testing.T) {
	for _, n := range []int{1, 2, 64} {
		for _, held := range []int{1, 2, 3, 5, 64} {
			for i := range held {
				p := numberPair(t, n, 64)
				chain := in(n-1, n, held)
				p.asked = chain
				for _, k := range chain {
					p.put(k, int(k))
				}
				back := slices.Clone(chain)
				slices.Reverse(back)
				for _, v := range []int{-5, 0, -5} {
					if was, e := p.put(chain[i], v); !was || e != api.OK {
						t.Fatalf("%d buckets: Put(%d) again: %v, %d", n, chain[i], was, e)
					}
					gets(t, p.b, chain[i], v)
				}
				if l := p.b.Chain(n - 1); !slices.Equal(l, back) {
					t.Errorf("%d buckets: %v, not %v", n, l, back)
				}
			}
		}
	}
}

// TestPutOfTheEdges: of the keys at the edges, each for itself, and each beside all others.
func TestPutOfTheEdges(t *testing.T) {
	for _, n := range []int{1, 2, 3, 63, 64} {
		all := newPair(t, n, 64, equal[int], someKeys()...)
		for i, k := range someKeys() {
			p := newPair(t, n, 1, equal[int], someKeys()...)
			p.put(k, 5)
			holds(t, p.b, k)
			if was, e := p.put(k, 6); !was || e != api.OK {
				t.Error(k, was, e)
			}
			gets(t, p.b, k, 6)
			all.put(k, i)
		}
		for i, k := range someKeys() {
			gets(t, all.b, k, i)
			all.put(k, -i)
		}
		for _, k := range someKeys() {
			if all.del(k) != 1 {
				t.Error("Del", k)
			}
		}
	}
}

// TestOneKeyTooMany: behind ErrFull all is as it was.
func TestOneKeyTooMany(t *testing.T) {
	for _, size := range someSizes() {
		p := fullPair(t, size[0], size[1])
		before := p.b.Keys()
		for _, k := range []uint64{uint64(size[1]), uint64(size[1]) + 1, 1 << 32, 1 << 63, greatest} {
			for range 2 {
				if was, e := p.put(k, 77); was || e != api.ErrFull {
					t.Errorf("%v: Put(%d): %v, %d", size, k, was, e)
				}
				lacks(t, p.b, k)
			}
		}
		holds(t, p.b, before...)
		for _, k := range upTo(0, size[1]) {
			gets(t, p.b, k, int(k)+1000)
		}
	}
}

// TestHeldKeysOfAFullTable: they are put all the same.
func TestHeldKeysOfAFullTable(t *testing.T) {
	for _, size := range someSizes() {
		p := fullPair(t, size[0], size[1])
		before := p.b.Keys()
		for _, k := range upTo(0, size[1]) {
			if was, e := p.put(k, -int(k)); !was || e != api.OK {
				t.Errorf("%v: Put(%d): %v, %d", size, k, was, e)
			}
			p.put(greatest, 1)
			gets(t, p.b, k, -int(k))
		}
		holds(t, p.b, before...)
	}
}

// TestSeveralInOneBucket: the one that came last stands first, and keys of other buckets don't matter.
func TestSeveralInOneBucket(t *testing.T) {
	for _, n := range []int{1, 64} {
		p := numberPair(t, n, 64)
		some, others := in(n/2, n, 5), in(n-1, n, 9)[5:]
		for i := range 4 {
			p.put(some[i], i)
			p.put(others[i], -i)
		}
		p.put(some[1], 50)
		p.put(some[4], 4)
		want := []uint64{some[4], some[3], some[2], some[1], some[0]}
		if l := without(p.b.Chain(n/2), others...); !slices.Equal(l, want) {
			t.Errorf("%d buckets: %v, not %v", n, l, want)
		}
		gets(t, p.b, some[1], 50)
	}
}

// P21.1: Get.

// TestGetBesideOthers: a key that isn't there has no value, though its bucket holds others, behind each Put and each Del.
func TestGetBesideOthers(t *testing.T) {
	for _, n := range []int{1, 2, 3, 64} {
		chain := in(0, n, 6)
		p := newPair(t, n, 64, equal[int], chain...)
		for i, k := range chain {
			for j, other := range chain {
				if j < i {
					gets(t, p.b, other, j+1)
				} else {
					lacks(t, p.b, other)
				}
			}
			p.put(k, i+1)
		}
		for i, k := range chain {
			p.del(k)
			for j, other := range chain {
				if j > i {
					gets(t, p.b, other, j+1)
				} else {
					lacks(t, p.b, other)
				}
			}
		}
	}
}

// TestAValueThatIsZero is told apart from none.
func TestAValueThatIsZero(t *testing.T) {
	b := made[int](t, 2, 2)
	b.Put(5, 0)
	gets(t, b, 5, 0)
	lacks(t, b, 6)
	if was, e := b.Put(5, 1); !was || e != api.OK {
		t.Error(was, e)
	}
	b.Put(5, 0)
	if b.Del(5) != 1 {
		t.Error("Del of a key with the zero value")
	}
	lacks(t, b, 5)
}

// P21.1: Del.

func TestDelOfNothing(t *testing.T) {
	for _, size := range someSizes() {
		for _, p := range []*pair[int]{numberPair(t, size[0], size[1]), fullPair(t, size[0], size[1])} {
			before := p.b.Keys()
			if p.del() != 0 || p.del([]uint64{}...) != 0 {
				t.Error("Del()")
			}
			holds(t, p.b, before...)
		}
	}
}

// TestDelInEveryPlace: first, last, each one between, and the only one of a chain; the others keep their order.
func TestDelInEveryPlace(t *testing.T) {
	for _, n := range []int{1, 2, 64} {
		for _, held := range []int{1, 2, 3, 5, 64} {
			for i := range held {
				p := numberPair(t, n, 64)
				chain := in(n-1, n, held)
				p.asked = chain
				for _, k := range chain {
					p.put(k, int(k)+1)
				}
				slices.Reverse(chain)
				if p.del(chain[i]) != 1 {
					t.Fatalf("%d buckets: Del(%d)", n, chain[i])
				}
				rest := without(chain, chain[i])
				if l := p.b.Chain(n - 1); !slices.Equal(l, rest) {
					t.Errorf("%d buckets: Del(%d): %v, not %v", n, chain[i], l, rest)
				}
				if p.del(chain[i]) != 0 {
					t.Errorf("%d buckets: Del(%d) once more", n, chain[i])
				}
				p.put(chain[i], 7)
				if l := p.b.Chain(n - 1); !slices.Equal(l, append([]uint64{chain[i]}, rest...)) {
					t.Errorf("%d buckets: Put(%d) behind Del: %v", n, chain[i], l)
				}
				gets(t, p.b, chain[i], 7)
			}
		}
	}
}

func TestDelOfSeveral(t *testing.T) {
	for _, x := range []struct {
		l, rest []uint64
	}{
		{[]uint64{0}, []uint64{4, 3, 2, 1}},
		{[]uint64{4}, []uint64{3, 2, 1, 0}},
		{[]uint64{2}, []uint64{4, 3, 1, 0}},
		{[]uint64{0, 1}, []uint64{4, 3, 2}},
		{[]uint64{1, 0}, []uint64{4, 3, 2}},
		{[]uint64{4, 3}, []uint64{2, 1, 0}},
		{[]uint64{3, 1}, []uint64{4, 2, 0}},
		{[]uint64{0, 4, 2}, []uint64{3, 1}},
		{[]uint64{2, 2}, []uint64{4, 3, 1, 0}},
		{[]uint64{2, 2, 2, 0, 2, 0}, []uint64{4, 3, 1}},
		{[]uint64{9}, []uint64{4, 3, 2, 1, 0}},
		{[]uint64{9, 9, greatest}, []uint64{4, 3, 2, 1, 0}},
		{[]uint64{9, 2, 9, 0, greatest}, []uint64{4, 3, 1}},
		{[]uint64{4, 3, 2, 1, 0}, nil},
		{[]uint64{0, 1, 2, 3, 4, 0, 1, 2, 3, 4, 9}, nil},
	} {
		for _, n := range []int{1, 2, 3, 64} {
			p := fullPair(t, n, 5)
			if gone := p.del(x.l...); gone != 5-len(x.rest) {
				t.Errorf("%d buckets: Del(%v): %d", n, x.l, gone)
			}
			if n == 1 {
				holds(t, p.b, x.rest...)
			}
			for _, k := range x.rest {
				gets(t, p.b, k, int(k)+1000)
			}
			for _, k := range x.l {
				lacks(t, p.b, k)
			}
			if p.del(x.l...) != 0 {
				t.Errorf("%d buckets: Del(%v) once more", n, x.l)
			}
		}
	}
}

func TestDelOfKeysThatAreNotThere(t *testing.T) {
	for _, size := range someSizes() {
		for _, held := range []int{0, 1, size[1]} {
			p := numberPair(t, size[0], size[1])
			for _, k := range upTo(0, held) {
				p.put(k, 5)
			}
			before := p.b.Keys()
			absent := append(upTo(held, 70), 1<<32, 1<<63, greatest)
			if p.del(absent...) != 0 {
				t.Errorf("%v, %d keys: Del", size, held)
			}
			for _, k := range absent {
				if p.b.Del(k, k) != 0 {
					t.Errorf("%v, %d keys: Del(%d)", size, held, k)
				}
			}
			holds(t, p.b, before...)
		}
	}
}

// TestDelOfAll: in one call and in one each, from the first on and from the last on.
func TestDelOfAll(t *testing.T) {
	for _, size := range someSizes() {
		for _, l := range [][]uint64{upTo(0, size[1]), backTo(0, size[1])} {
			p := fullPair(t, size[0], size[1])
			if p.del(l...) != size[1] {
				t.Errorf("%v: Del of all", size)
			}
			holds(t, p.b)
			if p.del(l...) != 0 {
				t.Errorf("%v: Del of an empty table", size)
			}
			q := fullPair(t, size[0], size[1])
			for _, k := range l {
				if q.del(k) != 1 {
					t.Errorf("%v: Del(%d)", size, k)
				}
			}
			holds(t, q.b)
			q.put(5, 5)
			holds(t, q.b, 5)
		}
	}
}

// TestDelMakesRoom: for as many keys as are gone, in whichever bucket.
func TestDelMakesRoom(t *testing.T) {
	for _, size := range someSizes() {
		for _, n := range []int{1, size[1]/2 + 1, size[1]} {
			p := fullPair(t, size[0], size[1])
			p.del(append(upTo(0, n), 0, greatest, 1<<40)...)
			for i := range n {
				if was, e := p.put(1<<40+uint64(i), i); was || e != api.OK {
					t.Fatalf("%v: Put behind Del: %v, %d", size, was, e)
				}
			}
			if was, e := p.put(0, 5); was || e != api.ErrFull {
				t.Errorf("%v: Put of a key whose room is taken: %v, %d", size, was, e)
			}
		}
	}
}

// TestADelOfWhatWasNeverThereMakesNoRoom, be it of the key that had none.
func TestADelOfWhatWasNeverThereMakesNoRoom(t *testing.T) {
	for _, size := range someSizes() {
		p := fullPair(t, size[0], size[1])
		k := uint64(size[1])
		p.put(k, 5)
		p.del(k, greatest, k)
		if was, e := p.put(k, 5); was || e != api.ErrFull {
			t.Errorf("%v: %v, %d", size, was, e)
		}
	}
}

// TestPutAgainBehindDel: the key stands first, with its new value alone.
func TestPutAgainBehindDel(t *testing.T) {
	b := made[int](t, 1, 3)
	for _, k := range upTo(0, 3) {
		b.Put(k, int(k))
	}
	for i := range 30 {
		last := b.Keys()[2]
		if b.Del(last) != 1 {
			t.Fatal(i)
		}
		lacks(t, b, last)
		if was, e := b.Put(last, 100+i); was || e != api.OK {
			t.Fatal(i, was, e)
		}
		gets(t, b, last, 100+i)
		if b.Keys()[0] != last {
			t.Fatal(i, b.Keys(), last)
		}
	}
}

// P21.1 and P21.2: all calls in all orders.

// TestAllShortRows: all rows of some calls, of keys that share a bucket and that don't, each in a table of its own.
func TestAllShortRows(t *testing.T) {
	calls := []func(p *pair[int], v int){
		func(p *pair[int], v int) { p.put(0, v) },
		func(p *pair[int], v int) { p.put(1, v) },
		func(p *pair[int], v int) { p.put(2, v) },
		func(p *pair[int], _ int) { p.del(0) },
		func(p *pair[int], _ int) { p.del(1) },
		func(p *pair[int], _ int) { p.del(2) },
		func(p *pair[int], _ int) { p.del(2, 0) },
		func(p *pair[int], _ int) { p.del(0, 1, 0) },
	}
	const long = 4
	for size := range 6 {
		n, room := size/3+1, size%3+1
		for x := range 1 << (3 * long) {
			p := newPair(t, n, room, equal[int], 0, 1, 2)
			for i := range long {
				calls[x>>(3*i)&7](p, 10+i)
			}
		}
	}
}

// TestLikeChance: many calls with keys that look like chance, near each other and far.
func TestLikeChance(t *testing.T) {
	for _, size := range someSizes() {
		next := numbers(uint64(size[0]*100 + size[1]))
		var keys []uint64
		for i := range size[1] + 3 {
			keys = append(keys, uint64(i)*[]uint64{1, 1 << 32, 0x0123456789abcdef, greatest}[next(4)])
		}
		p := newPair(t, size[0], size[1], equal[int], keys...)
		for i := range 600 {
			if next(3) == 0 {
				var l []uint64
				for range next(5) {
					l = append(l, keys[next(len(keys))])
				}
				p.del(l...)
			} else {
				p.put(keys[next(len(keys))], i)
			}
		}
	}
}

// TestOverAndOver: the same keys come and go, many thousand times, and nothing of it stays.
func TestOverAndOver(t *testing.T) {
	for _, size := range [][2]int{{1, 1}, {1, 64}, {2, 2}, {64, 1}, {64, 64}} {
		b := made[int](t, size[0], size[1])
		for i := range 30000 {
			k := uint64(i % (2 * size[1]))
			if was, e := b.Put(k, i); was || e != api.OK {
				t.Fatalf("%v, round %d: %v, %d", size, i, was, e)
			}
			if was, e := b.Put(k, -i); !was || e != api.OK || b.Len() != 1 {
				t.Fatalf("%v, round %d again: %v, %d", size, i, was, e)
			}
			if v, is := b.Get(k); v != -i || !is {
				t.Fatalf("%v, round %d: %d, %v", size, i, v, is)
			}
			if b.Del(k, k) != 1 || b.Len() != 0 {
				t.Fatalf("%v, round %d: Del", size, i)
			}
		}
		holds(t, b)
	}
}

// TestAroundAndAround: of a full table the last of the first chain makes room for another key, again and again.
func TestAroundAndAround(t *testing.T) {
	for _, size := range [][2]int{{1, 1}, {1, 64}, {3, 5}, {64, 64}} {
		p := fullPair(t, size[0], size[1])
		for i := range 2000 {
			first := p.b.Keys()[0]
			chain := p.b.Chain(p.b.Bucket(first))
			k := uint64(size[1] + i)
			if p.del(chain[len(chain)-1]) != 1 {
				t.Fatal(size, i)
			}
			if was, e := p.put(k, i); was || e != api.OK {
				t.Fatal(size, i, was, e)
			}
		}
	}
}

// P21.2: Bucket.

// bigBucket is a key's bucket by numbers without an end.
func bigBucket(key uint64, n int) int {
	x := new(big.Int).SetUint64(key)
	factor, _ := new(big.Int).SetString("9e3779b97f4a7c15", 16)
	x.Mul(x, factor)
	x.Mod(x, new(big.Int).Lsh(big.NewInt(1), 64))
	x.Rsh(x, 32)
	return int(x.Mod(x, big.NewInt(int64(n))).Int64())
}

func TestBucketsOfSomeKeys(t *testing.T) {
	for _, x := range []struct {
		key  uint64
		want [5]int // among 1, 2, 3, 63 and 64
	}{
		{0, [5]int{0, 0, 0, 0, 0}},
		{1, [5]int{0, 0x9e3779b9 % 2, 0x9e3779b9 % 3, 0x9e3779b9 % 63, 0x9e3779b9 % 64}},
		{2, [5]int{0, 0x3c6ef372 % 2, 0x3c6ef372 % 3, 0x3c6ef372 % 63, 0x3c6ef372 % 64}},
		{3, [5]int{0, 0xdaa66d2c % 2, 0xdaa66d2c % 3, 0xdaa66d2c % 63, 0xdaa66d2c % 64}},
		{1 << 32, [5]int{0, 0x7f4a7c15 % 2, 0x7f4a7c15 % 3, 0x7f4a7c15 % 63, 0x7f4a7c15 % 64}},
		{1 << 63, [5]int{0, 0x80000000 % 2, 0x80000000 % 3, 0x80000000 % 63, 0x80000000 % 64}},
		{greatest, [5]int{0, 0x61c88646 % 2, 0x61c88646 % 3, 0x61c88646 % 63, 0x61c88646 % 64}},
	} {
		for i, n := range []int{1, 2, 3, 63, 64} {
			if b := made[int](t, n, 1).Bucket(x.key); b != x.want[i] {
				t.Errorf("%d buckets: Bucket(%d): %d, not %d", n, x.key, b, x.want[i])
			}
		}
	}
}

// TestBucketsOfManyKeys: also where the product passes 2^64, for each number of buckets, whatever the table holds.
func TestBucketsOfManyKeys(t *testing.T) {
	for n := 1; n <= 64; n++ {
		b := made[string](t, n, 2)
		keys := append(someKeys(), upTo(0, 40)...)
		for bit := range 64 {
			keys = append(keys, 1<<bit, 1<<bit-1, greatest<<bit, greatest-1<<bit)
		}
		for _, k := range keys {
			want := bigBucket(k, n)
			if x := b.Bucket(k); x != want || bucketOf(k, n) != want {
				t.Fatalf("%d buckets: Bucket(%d): %d, %d, not %d", n, k, x, bucketOf(k, n), want)
			}
			b.Put(k, "x")
			if x := b.Bucket(k); x != want || !slices.Equal(b.Chain(x), []uint64{k}) {
				t.Fatalf("%d buckets: Bucket(%d), which is there: %d, %v", n, k, x, b.Chain(x))
			}
			b.Del(k)
		}
	}
}

// P21.2: Chain, Keys, Len.

func TestChainOfNoBucket(t *testing.T) {
	for _, size := range someSizes() {
		p := fullPair(t, size[0], size[1])
		for _, i := range []int{math.MinInt, math.MinInt + 1, -65, -64, -1, size[0], size[0] + 1, 65, 128, 1 << 32, -1 << 32, math.MaxInt - 1, math.MaxInt} {
			if l := p.b.Chain(i); len(l) != 0 {
				t.Errorf("%v: Chain(%d): %v", size, i, l)
			}
		}
	}
}

// TestChainOfEachBucket: each of all keys stands in the chain of its bucket, and in no other one.
func TestChainOfEachBucket(t *testing.T) {
	for _, n := range []int{1, 2, 3, 63, 64} {
		b := made[int](t, n, 64)
		for _, k := range upTo(0, 64) {
			b.Put(k, 1)
		}
		empty := 0
		for i := range n {
			chain := b.Chain(i)
			if len(chain) == 0 {
				empty++
			}
			for _, k := range upTo(0, 64) {
				if slices.Contains(chain, k) != (bigBucket(k, n) == i) {
					t.Errorf("%d buckets: Chain(%d): %v, and %d", n, i, chain, k)
				}
			}
		}
		if n == 64 && empty == 0 {
			t.Error("no bucket is without keys")
		}
	}
}

// TestKeysGoByBuckets: those of a lower bucket stand ahead, however late they came.
func TestKeysGoByBuckets(t *testing.T) {
	for _, n := range []int{2, 3, 64} {
		b := made[int](t, n, 64)
		var want []uint64
		for i := range n {
			two := in(i, n, 2)
			if n == 64 && i%2 == 1 {
				continue
			}
			want = append(want, two[1], two[0])
		}
		for _, i := range []int{1, 0} {
			for j := len(want) - 2 + i; j >= 0; j -= 2 {
				b.Put(want[j], j)
			}
		}
		holds(t, b, want...)
	}
}

func TestWhatIsTold(t *testing.T) {
	for _, n := range []int{1, 3, 64} {
		p := numberPair(t, n, 64)
		for i := range 64 {
			p.put(uint64(i*37%64), i)
			if p.b.Len() != i+1 || len(p.b.Keys()) != i+1 {
				t.Fatal(n, i, p.b.Len())
			}
		}
		for i := range 64 {
			k := p.b.Keys()[(i*7)%(64-i)]
			if p.del(k) != 1 || p.b.Len() != 63-i {
				t.Fatal(n, i, p.b.Len())
			}
		}
		holds(t, p.b)
	}
}

// TestAskingChangesNothing: a table that was asked goes on like one that wasn't.
func TestAskingChangesNothing(t *testing.T) {
	a, b := made[int](t, 3, 4), made[int](t, 3, 4)
	next := numbers(7)
	for i := range 1000 {
		for j := range 6 {
			b.Get(uint64(j))
			b.Bucket(uint64(j))
			b.Chain(j - 1)
		}
		b.Keys()
		b.Len()
		k := uint64(next(6))
		if next(3) == 0 {
			if a.Del(k) != b.Del(k) {
				t.Fatal("Del", k)
			}
		} else {
			was, e := a.Put(k, i)
			if x, y := b.Put(k, i); x != was || y != e {
				t.Fatal("Put", k)
			}
		}
		if !slices.Equal(a.Keys(), b.Keys()) {
			t.Fatal(a.Keys(), b.Keys())
		}
	}
}

// P21.1 and P21.2: a list is new memory, and what is handed in is neither changed nor kept.

func TestListsAreNewMemory(t *testing.T) {
	for _, n := range []int{1, 2, 64} {
		p := fullPair(t, n, 64)
		before := p.b.Keys()
		tells := []func() []uint64{p.b.Keys}
		for i := range n {
			tells = append(tells, func() []uint64 { return p.b.Chain(i) })
		}
		for _, tell := range tells {
			l, other := tell(), tell()
			for i := range l[:cap(l)] {
				l[:cap(l)][i] = 1 << 50
			}
			if slices.Contains(other, 1<<50) {
				t.Errorf("%d buckets: two lists share their memory", n)
			}
			p.look("a list that is changed")
		}
		chain := p.b.Chain(0)
		was := slices.Clone(chain)
		p.put(0, 5)
		p.del(chain[len(chain)-1], 7)
		p.put(1<<40, 5)
		if !slices.Equal(chain, was) {
			t.Errorf("%d buckets: a table that is changed changes a list: %v", n, chain)
		}
		holds(t, fullPair(t, n, 64).b, before...)
	}
}

func TestDelLeavesItsRowAlone(t *testing.T) {
	for _, n := range []int{1, 2, 64} {
		p := fullPair(t, n, 6)
		row := []uint64{3, 3, 1, 2, 1, 3, 9, 5, 4}
		want := slices.Clone(row)
		p.del(row[:6]...)
		p.put(3, 1)
		p.put(1, 1)
		p.del(row[:2]...)
		if !slices.Equal(row, want) {
			t.Errorf("%d buckets: the row was changed: %v", n, row)
		}
		before := p.b.Keys()
		for i := range row {
			row[i] = uint64(i)
		}
		p.look("a row that is changed")
		holds(t, p.b, before...)
	}
}

// P21.1 to P21.3, of values of unlike types.

type pupil struct {
	name string
	n    [2]uint64
	l    []int
}

func TestValuesOfUnlikeTypes(t *testing.T) {
	ofType(t, 0, 1, -1, math.MinInt, math.MaxInt)
	ofType(t, uint64(0), 1, 1<<63, greatest, 5)
	ofType(t, int8(0), 1, -1, -128, 127)
	ofType(t, "", "a", "b", "ab", "a\x00")
	ofType(t, false, true, false, true, true)
	ofType(t, [3]byte{}, [3]byte{1}, [3]byte{0, 1}, [3]byte{0, 0, 1}, [3]byte{1, 1, 1})
	ofType(t, [4]uint64{}, [4]uint64{1, 2, 3, 4}, [4]uint64{greatest}, [4]uint64{0, 0, 0, 1}, [4]uint64{4, 3, 2, 1})
	ofType(t, pupil{}, pupil{name: "a"}, pupil{n: [2]uint64{1}}, pupil{l: []int{1}}, pupil{"a", [2]uint64{1, 1}, []int{2}})
	ofType(t, nil, []int{1}, []int{}, []int{1, 2}, []int{2, 1})
	ofType(t, nil, map[string]int{"a": 1}, map[string]int{}, map[string]int{"b": 1}, map[string]int{"a": 2})
	ofType(t, nil, new(1), new(2), new(3), new(4))
	ofType(t, 0, 0.5, -0.5, math.Inf(1), math.Inf(-1))
	ofType(t, 0, 1i, 1, 1+1i, -1i)
	ofType[any](t, nil, 0, "", []int{1}, pupil{})
	ofType[error](t, nil, strconv.ErrRange, strconv.ErrSyntax, strconv.ErrRange, strconv.ErrSyntax)
	ofType(t, struct{}{}, struct{}{}, struct{}{}, struct{}{}, struct{}{})
	ofType(t, api.OK, api.ErrFull, api.ErrNone, api.ErrState, api.ErrRange)
}

// ofType is of five values, the first of them the zero value.
func ofType[V any](t *testing.T, l ...V) {
	t.Helper()
	same := func(a, b V) bool { return reflect.DeepEqual(a, b) }
	for _, n := range []int{1, 2, 64} {
		p := newPair(t, n, 5, same, upTo(0, 7)...)
		for k, v := range l {
			p.put(uint64(k), v)
		}
		p.put(5, l[1])
		for k := range l {
			for _, v := range l {
				p.put(uint64(k), v)
			}
		}
		p.del(1, 3, 6)
		p.put(5, l[0])
		p.put(6, l[1])
		next := numbers(5)
		for range 100 {
			if next(3) == 0 {
				p.del(uint64(next(7)))
			} else {
				p.put(uint64(next(7)), l[next(5)])
			}
		}
	}
	var b *buckets.Table[V]
	for _, v := range l {
		if was, e := b.Put(1, v); was || e != api.ErrState {
			t.Error(was, e)
		}
	}
	lacks(t, b, 1)
}

// TestValuesThatCannotBeCompared are put and got like others.
func TestValuesThatCannotBeCompared(t *testing.T) {
	b := made[any](t, 1, 3)
	b.Put(1, math.NaN())
	b.Put(2, func() int { return 7 })
	b.Put(3, []any{[]int{5}})
	if v, is := b.Get(1); !is || !math.IsNaN(v.(float64)) {
		t.Error(v, is)
	}
	if v, is := b.Get(2); !is || v.(func() int)() != 7 {
		t.Error(is)
	}
	if was, e := b.Put(3, []any{[]int{6}}); !was || e != api.OK {
		t.Error(was, e)
	}
	if v, is := b.Get(3); !is || v.([]any)[0].([]int)[0] != 6 {
		t.Error(v, is)
	}
	if b.Del(1, 2, 3) != 3 {
		t.Error(b.Keys())
	}
}

// TestAnArrayAsAValueIsCopied: what it was taken from may change, and what is told.
func TestAnArrayAsAValueIsCopied(t *testing.T) {
	b := made[[2]int](t, 1, 2)
	v := [2]int{1, 2}
	b.Put(5, v)
	v[0] = 9
	gets(t, b, 5, [2]int{1, 2})
	v, _ = b.Get(5)
	v[1] = 9
	gets(t, b, 5, [2]int{1, 2})
}

// P21.3: what follows.

// TestFoundWhateverBecomesOfOthers: a key has the value that was put last, while others come, change and go in its bucket and elsewhere.
func TestFoundWhateverBecomesOfOthers(t *testing.T) {
	for _, size := range someSizes() {
		if size[1] == 1 {
			continue
		}
		for _, who := range []uint64{0, 1, 1 << 32, greatest} {
			b := made[int](t, size[0], size[1])
			next := numbers(who + uint64(size[0]))
			b.Put(who, -1)
			value := -1
			for i := range 500 {
				other := uint64(next(100)) + 2
				switch next(5) {
				case 0:
					b.Del(other, other+1)
				case 1:
					value = -2 - i
					if was, e := b.Put(who, value); !was || e != api.OK {
						t.Fatal(size, who, was, e)
					}
				case 2:
					b.Del(without(b.Keys(), who)...)
				default:
					b.Put(other, i)
				}
				gets(t, b, who, value)
			}
			if b.Del(who) != 1 {
				t.Error(size, who)
			}
			lacks(t, b, who)
		}
	}
}

// TestAFullTablePutsNobodyOut, whoever asks for room, until one is deleted.
func TestAFullTablePutsNobodyOut(t *testing.T) {
	for _, size := range someSizes() {
		p := fullPair(t, size[0], size[1])
		before := p.b.Keys()
		next := numbers(uint64(size[1]) + 200)
		for i := range 300 {
			k := uint64(next(3*size[1] + 1))
			was, e := p.put(k, i)
			if held := k < uint64(size[1]); was != held || (e == api.OK) != held {
				t.Fatal(size, k, was, e)
			}
			if !slices.Equal(p.b.Keys(), before) {
				t.Fatal(size, p.b.Keys(), before)
			}
		}
	}
}

func TestTablesAreApart(t *testing.T) {
	a, b := made[int](t, 2, 2), made[int](t, 2, 2)
	a.Put(5, 1)
	a.Put(6, 2)
	holds(t, b)
	b.Put(6, 3)
	b.Put(7, 4)
	a.Del(6, 7)
	holds(t, a, 5)
	gets(t, a, 5, 1)
	gets(t, b, 6, 3)
	gets(t, b, 7, 4)
	lacks(t, b, 5)
}

func TestNilTable(t *testing.T) {
	nilTable(t, 5)
	nilTable(t, "x")
	nilTable(t, true)
	nilTable(t, [2]int{1})
	nilTable(t, pupil{name: "x"})
	nilTable(t, []int{1})
	nilTable[any](t, 5)
}

func nilTable[V any](t *testing.T, v V) {
	t.Helper()
	var b *buckets.Table[V]
	var none V
	for range 2 {
		for _, k := range someKeys() {
			for _, x := range []V{v, none} {
				if was, e := b.Put(k, x); was || e != api.ErrState {
					t.Errorf("Put(%d, %v): %v, %d", k, x, was, e)
				}
			}
			lacks(t, b, k)
			if b.Bucket(k) != 0 || b.Del(k) != 0 {
				t.Errorf("Bucket, Del(%d): %d, %d", k, b.Bucket(k), b.Del(k))
			}
		}
		if b.Del() != 0 || b.Del(someKeys()...) != 0 || len(b.Keys()) != 0 || b.Len() != 0 {
			t.Error(b.Del(), b.Keys(), b.Len())
		}
		for _, i := range []int{math.MinInt, -1, 0, 1, 63, 64, math.MaxInt} {
			if l := b.Chain(i); len(l) != 0 {
				t.Errorf("Chain(%d): %v", i, l)
			}
		}
	}
}

// TestTableThatNewDidNotMake: such a table has no room, and no bucket.
func TestTableThatNewDidNotMake(t *testing.T) {
	b := new(buckets.Table[int])
	for range 2 {
		for _, k := range someKeys() {
			if was, e := b.Put(k, 5); was || e != api.ErrFull {
				t.Error(was, e)
			}
			lacks(t, b, k)
			if b.Bucket(k) != 0 || b.Del(k, k) != 0 {
				t.Error(b.Bucket(k))
			}
		}
		for _, i := range []int{math.MinInt, -1, 0, 1, math.MaxInt} {
			if l := b.Chain(i); len(l) != 0 {
				t.Error(i, l)
			}
		}
		holds(t, b)
	}
}

// TestWhatIsGoneIsKeptNoMore: a table holds on to no value whose key is deleted, that another one took the place of, or that had no room.
func TestWhatIsGoneIsKeptNoMore(t *testing.T) {
	type big struct{ l [64]*int }
	for _, n := range []int{1, 2, 64} {
		b := made[*big](t, n, 4)
		var gone []weak.Pointer[big]
		fresh := func() *big {
			v := &big{}
			gone = append(gone, weak.Make(v))
			return v
		}
		last := &big{}
		for range 50 {
			for _, k := range upTo(0, 6) {
				b.Put(k, fresh())
			}
			b.Del(1, 3)
			b.Put(0, fresh())
			b.Put(5, fresh())
			b.Del(5, 0)
			b.Put(2, last)
		}
		runtime.GC()
		for i, w := range gone {
			if w.Value() != nil {
				t.Fatalf("%d buckets: the value %d is kept", n, i)
			}
		}
		if v, is := b.Get(2); v != last || !is {
			t.Error(v, is)
		}
	}
}

// The chapter's example.

func TestExamples(t *testing.T) {
	b, e := buckets.New[int](1, 2)
	if b == nil || e != api.OK {
		t.Fatal(b, e)
	}
	for _, k := range []uint64{5, 6} {
		if was, e := b.Put(k, int(k)*10); was || e != api.OK {
			t.Error(k, was, e)
		}
	}
	holds(t, b, 6, 5)
	if was, e := b.Put(5, 51); !was || e != api.OK {
		t.Error(was, e)
	}
	holds(t, b, 6, 5)
	gets(t, b, 5, 51)
	gets(t, b, 6, 60)
	if was, e := b.Put(7, 70); was || e != api.ErrFull {
		t.Error(was, e)
	}
	lacks(t, b, 7)
	if n := b.Del(6, 6); n != 1 {
		t.Error(n)
	}
	holds(t, b, 5)
}

// P1 and P2: every call ends without a panic at all arguments, and answers the same again.

func TestSameCallsSameAnswers(t *testing.T) {
	first := answers()
	for range 5 {
		if !slices.Equal(answers(), first) {
			t.Fatal("the same calls have other answers")
		}
	}
}

// answers are those of all calls, as numbers in a row.
func answers() []int {
	var l []int
	told := func(is bool) int {
		if is {
			return 1
		}
		return 0
	}
	sizes := []int{math.MinInt, -1, 0, 1, 2, 63, 64, 65, math.MaxInt}
	for i, n := range sizes {
		b, e := buckets.New[string](n, sizes[(i+3)%len(sizes)])
		l = append(l, int(e))
		next := numbers(uint64(n))
		for range 300 {
			k := uint64(next(70)) * 0x0123456789abcdef
			switch next(5) {
			case 0:
				l = append(l, b.Del(k, 5, uint64(next(70))))
			case 1:
				for _, key := range append(b.Keys(), b.Chain(next(66)-1)...) {
					l = append(l, int(key))
				}
			default:
				was, e := b.Put(k, strconv.Itoa(next(70)))
				l = append(l, told(was), int(e))
			}
			v, is := b.Get(k)
			l = append(l, len(v), told(is), b.Len(), b.Bucket(k))
		}
	}
	return l
}
