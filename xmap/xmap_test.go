package xmap_test

import (
	"cmp"
	"math"
	"slices"
	"testing"

	"detent/api"
	"detent/arena"
	"detent/xmap"
)

type handle = arena.Handle

// greatest is the greatest word.
const greatest = math.MaxUint64

// The kinds and ways to put, by their numbers.
const (
	array, hash, lru       = 0, 1, 2
	anyHow, ifNew, ifThere = 0, 1, 2
)

// elem is an element of a book.
type elem struct {
	key    uint64
	value  [4]uint64
	linked int // the number of the deed that linked it; 0, if it isn't linked any more
	used   int // and of the one that used it last
}

// book is a map told in another way than the package does it: whatever slots hold stands in one heap by its handle, deeds are numbered, and who is linked, in which order, and whom an LRU map puts out, follows from these numbers. What a map answers is held against it.
type book struct {
	kind, entries, words int
	closed               bool
	had                  []int // how many elements each slot has had
	held                 map[handle]*elem
	deeds                int
}

func newBook(kind, entries, words int) *book {
	b := &book{kind: kind, entries: entries, words: words, had: make([]int, 2*entries), held: map[handle]*elem{}}
	if kind == array {
		for k := range entries {
			b.link(uint64(k), [4]uint64{})
		}
	}
	return b
}

func (b *book) deed() int {
	b.deeds++
	return b.deeds
}

// free is the slots that hold nothing, and aren't worn.
func (b *book) free() []int {
	var l []int
	for slot, n := range b.had {
		if b.held[handle{Slot: slot, Gen: n}] == nil && n < 255 {
			l = append(l, slot)
		}
	}
	return l
}

func (b *book) link(key uint64, value [4]uint64) handle {
	slot := b.free()[0]
	b.had[slot]++
	h := handle{Slot: slot, Gen: b.had[slot]}
	b.held[h] = &elem{key: key, value: value, linked: b.deed()}
	b.held[h].used = b.held[h].linked
	return h
}

// linked is all that are, in the order of Keys.
func (b *book) linked() []handle {
	var l []handle
	for h, x := range b.held {
		if x.linked > 0 {
			l = append(l, h)
		}
	}
	slices.SortFunc(l, func(g, h handle) int { return b.compare(b.held[g], b.held[h]) })
	return l
}

func (b *book) compare(x, y *elem) int {
	switch b.kind {
	case array:
		return cmp.Compare(x.key, y.key)
	case lru:
		return cmp.Compare(x.used, y.used)
	}
	return cmp.Or(cmp.Compare(bucketOf(x.key), bucketOf(y.key)), cmp.Compare(y.linked, x.linked))
}

// bucketOf is a key's bucket among eight, multiplied by halves.
func bucketOf(key uint64) int {
	high, low := key>>32, key&0xffffffff
	const c, d = 0x9e3779b9, 0x7f4a7c15
	return int((low*d>>32 + low*c&0xffffffff + high*d&0xffffffff) & 7)
}

func (b *book) keys() []uint64 {
	var l []uint64
	for _, h := range b.linked() {
		l = append(l, b.held[h].key)
	}
	return l
}

func (b *book) look(key uint64) (handle, api.Errno) {
	for h, x := range b.held {
		if x.linked > 0 && x.key == key {
			return h, api.OK
		}
	}
	return handle{}, api.ErrNone
}

func (b *book) find(key uint64) (handle, api.Errno) {
	h, e := b.look(key)
	if e == api.OK {
		b.held[h].used = b.deed()
	}
	return h, e
}

func (b *book) put(how int, key uint64, l []uint64) (xmap.Putting, api.Errno) {
	if how != anyHow && how != ifNew && how != ifThere || len(l) > b.words {
		return xmap.Putting{}, api.ErrArg
	}
	if b.closed {
		return xmap.Putting{}, api.ErrGone
	}
	if h, e := b.look(key); e == api.OK {
		if how == ifNew {
			return xmap.Putting{}, api.ErrTwice
		}
		b.held[h].value, b.held[h].used = valueOf(l), b.deed()
		return xmap.Putting{H: h}, api.OK
	}
	return b.putNew(how, key, l)
}

func (b *book) putNew(how int, key uint64, l []uint64) (xmap.Putting, api.Errno) {
	linked := b.linked()
	full := len(linked) == b.entries
	switch {
	case b.kind == array:
		return xmap.Putting{}, api.ErrRange
	case how == ifThere:
		return xmap.Putting{}, api.ErrNone
	case full && b.kind == hash:
		return xmap.Putting{}, api.ErrFull
	case len(b.free()) == 0:
		return xmap.Putting{}, api.ErrMem
	}
	var p xmap.Putting
	if full {
		p.Out, p.Gone = true, linked[0]
		b.held[p.Gone].linked = 0
	}
	p.H = b.link(key, valueOf(l))
	return p, api.OK
}

// valueOf is these words, and zeros behind them.
func valueOf(l []uint64) [4]uint64 {
	var v [4]uint64
	for i, x := range l {
		v[i] = x
	}
	return v
}

func (b *book) del(key uint64) (handle, api.Errno) {
	if b.kind == array {
		return handle{}, api.ErrPerm
	}
	h, e := b.look(key)
	if e == api.OK {
		b.held[h].linked = 0
	}
	return h, e
}

func (b *book) at(h handle) (*elem, api.Errno) {
	if h.Slot < 0 || h.Slot >= 2*b.entries {
		return nil, api.ErrRange
	}
	if b.held[h] == nil {
		return nil, api.ErrStale
	}
	return b.held[h], api.OK
}

func (b *book) drop(h handle) api.Errno {
	x, e := b.at(h)
	if e != api.OK {
		return e
	}
	if x.linked > 0 {
		return api.ErrBusy
	}
	delete(b.held, h)
	return api.OK
}

func (b *book) word(h handle, at int) (*uint64, api.Errno) {
	x, e := b.at(h)
	if e != api.OK {
		return nil, e
	}
	if at < 0 || at >= b.words {
		return nil, api.ErrArg
	}
	return &x.value[at], api.OK
}

func (b *book) close() []handle {
	l := b.linked()
	for _, h := range l {
		b.held[h].linked = 0
	}
	b.closed = true
	return l
}

// pair is a map beside its book: each of its methods does the same with both, and looks at all that the map tells, and doesn't change by telling.
type pair struct {
	t     *testing.T
	m     *xmap.Map
	b     *book
	brief bool // then it looks at little behind each call
	stamp uint64
}

func made(t *testing.T, kind, entries, words int) *xmap.Map {
	t.Helper()
	m, e := xmap.New(kind, entries, words)
	if e != api.OK || m == nil {
		t.Fatalf("New(%d, %d, %d): %v, %d", kind, entries, words, m, e)
	}
	return m
}

func newPair(t *testing.T, kind, entries, words int) *pair {
	t.Helper()
	p := &pair{t: t, m: made(t, kind, entries, words), b: newBook(kind, entries, words)}
	p.see("New")
	return p
}

func (p *pair) fail(what string, got ...any) {
	p.t.Helper()
	p.t.Fatalf("kind %d, %d entries, %d words: %s: %v", p.b.kind, p.b.entries, p.b.words, what, got)
}

// row is so many words that were never put before.
func (p *pair) row(n int) []uint64 {
	var l []uint64
	for range n {
		p.stamp++
		l = append(l, p.stamp*0x0101010101010101)
	}
	return l
}

func (p *pair) find(key uint64) handle {
	p.t.Helper()
	want, wrong := p.b.find(key)
	h, e := p.m.Find(key)
	if h != want || e != wrong {
		p.fail("Find", key, h, e, "not", want, wrong)
	}
	p.see("Find")
	return h
}

func (p *pair) put(how int, key uint64, l ...uint64) (xmap.Putting, api.Errno) {
	p.t.Helper()
	want, wrong := p.b.put(how, key, l)
	x, e := p.m.Put(how, key, l...)
	if x != want || e != wrong {
		p.fail("Put", how, key, l, x, e, "not", want, wrong)
	}
	p.see("Put")
	return x, e
}

// fill puts a value of new words.
func (p *pair) fill(key uint64) handle {
	p.t.Helper()
	x, e := p.put(anyHow, key, p.row(p.b.words)...)
	if e != api.OK {
		p.fail("Put", key, e)
	}
	return x.H
}

func (p *pair) del(key uint64) handle {
	p.t.Helper()
	want, wrong := p.b.del(key)
	h, e := p.m.Del(key)
	if h != want || e != wrong {
		p.fail("Del", key, h, e, "not", want, wrong)
	}
	p.see("Del")
	return h
}

func (p *pair) free(h handle) api.Errno {
	p.t.Helper()
	want := p.b.drop(h)
	e := p.m.Free(h)
	if e != want {
		p.fail("Free", h, e, "not", want)
	}
	p.see("Free")
	return e
}

// drop unlinks and frees.
func (p *pair) drop(key uint64) handle {
	p.t.Helper()
	h := p.del(key)
	p.free(h)
	return h
}

func (p *pair) store(h handle, at int, x uint64) {
	p.t.Helper()
	w, want := p.b.word(h, at)
	if want == api.OK {
		*w = x
	}
	if e := p.m.Store(h, at, x); e != want {
		p.fail("Store", h, at, e, "not", want)
	}
	p.see("Store")
}

func (p *pair) close() {
	p.t.Helper()
	want := p.b.close()
	if l := p.m.Close(); !slices.Equal(l, want) {
		p.fail("Close", l, "not", want)
	}
	p.see("Close")
}

// see holds what the map tells against the book; little of it, if it is to be brief.
func (p *pair) see(behind string) {
	p.t.Helper()
	if l := p.m.Keys(); !slices.Equal(l, p.b.keys()) || p.m.Len() != len(l) {
		p.fail("Keys, Len behind "+behind, l, p.m.Len(), "not", p.b.keys())
	}
	if p.m.Held() != len(p.b.held) || p.m.Kind() != p.b.kind || p.m.Words() != p.b.words {
		p.fail("Held, Kind, Words behind "+behind, p.m.Held(), p.m.Kind(), p.m.Words(), "not", len(p.b.held))
	}
	if p.brief {
		return
	}
	for _, key := range someKeys() {
		p.look(key)
	}
	for _, h := range p.handles(-1, 0, 1) {
		p.ask(h, -1, 0, p.b.words-1, p.b.words)
	}
}

// seeAll asks for every word of every handle, the right ones and the wrong ones.
func (p *pair) seeAll() {
	p.t.Helper()
	brief := p.brief
	p.brief = false
	p.see("all")
	p.brief = brief
	for _, h := range p.wide() {
		p.ask(h, math.MinInt, math.MinInt+1, -2, -1, 0, 1, 2, 3, 4, 5, 16, 1<<32, math.MaxInt)
	}
}

func (p *pair) look(key uint64) {
	p.t.Helper()
	want, wrong := p.b.look(key)
	if h, e := p.m.Look(key); h != want || e != wrong {
		p.fail("Look", key, h, e, "not", want, wrong)
	}
}

// ask asks for all that a handle leads to.
func (p *pair) ask(h handle, at ...int) {
	p.t.Helper()
	x, wrong := p.b.at(h)
	if x == nil {
		x = &elem{}
	}
	if key, e := p.m.Key(h); key != x.key || e != wrong {
		p.fail("Key", h, key, e, "not", x.key, wrong)
	}
	if p.m.Linked(h) != (x.linked > 0) {
		p.fail("Linked", h, p.m.Linked(h))
	}
	for _, i := range at {
		var want uint64
		w, wrong := p.b.word(h, i)
		if w != nil {
			want = *w
		}
		if x, e := p.m.Load(h, i); x != want || e != wrong {
			p.fail("Load", h, i, x, e, "not", want, wrong)
		}
	}
}

// handles is those of each slot's last generation, and of generations so far from it, the zero one, and some of slots that aren't there.
func (p *pair) handles(away ...int) []handle {
	l := []handle{{}, {Slot: -1, Gen: 1}, {Slot: 2 * p.b.entries, Gen: 1}}
	for slot, n := range p.b.had {
		for _, a := range away {
			l = append(l, handle{Slot: slot, Gen: n + a})
		}
	}
	return l
}

func (p *pair) wide() []handle {
	l := p.handles(-256, -2, -1, 0, 1, 2, 255, 256, 1<<32, math.MinInt, math.MaxInt-255)
	for slot := range p.b.had {
		for _, gen := range []int{-1, 0, 1, 2, 254, 255, 256} {
			l = append(l, handle{Slot: slot, Gen: gen})
		}
	}
	for _, slot := range []int{math.MinInt, math.MinInt + 1, -16, -1, 2 * p.b.entries, 2*p.b.entries + 1, 64, 1 << 32, -1 << 32, math.MaxInt} {
		for _, gen := range []int{math.MinInt, -1, 0, 1, 2, 255, math.MaxInt} {
			l = append(l, handle{Slot: slot, Gen: gen})
		}
	}
	return l
}

// someKeys are keys at the edges, and those that most tests put.
func someKeys() []uint64 {
	return []uint64{0, 1, 2, 3, 4, 5, 6, 7, 8, 9, 11, 22, 1<<32 - 1, 1 << 32, 1 << 63, greatest - 1, greatest}
}

// each does with a new pair of each kind, of so many entries and words.
func each(t *testing.T, entries, words []int, do func(p *pair)) {
	t.Helper()
	for _, kind := range []int{array, hash, lru} {
		for _, n := range entries {
			for _, w := range words {
				do(newPair(t, kind, n, w))
			}
		}
	}
}

// all is the numbers from 1 on.
func all(n int) []int {
	var l []int
	for i := range n {
		l = append(l, i+1)
	}
	return l
}

// upTo is the keys from the first on, the last one less than end.
func upTo(first, end int) []uint64 {
	var l []uint64
	for x := first; x < end; x++ {
		l = append(l, uint64(x))
	}
	return l
}

// conditions is what a map may have become: each does with a new one until it is so.
func conditions() []func(p *pair) {
	return []func(p *pair){
		func(p *pair) {},
		(*pair).fillOne,
		(*pair).fillAll,
		(*pair).unlinkOne,
		(*pair).freeOne,
		(*pair).takeAll,
		(*pair).takeAllUnlinked,
		(*pair).takeAllFull,
		func(p *pair) { p.fillAll(); p.close() },
		func(p *pair) { p.close() },
		func(p *pair) { p.takeAll(); p.close() },
		func(p *pair) { p.fillAll(); h, _ := p.m.Look(0); p.close(); p.free(h) },
	}
}

func (p *pair) fillOne() {
	if p.b.kind == array {
		p.fill(0)
		return
	}
	p.fill(greatest)
}

// fillAll: as many are linked as there is room for, by the keys from 0 on.
func (p *pair) fillAll() {
	for _, k := range upTo(0, p.b.entries) {
		p.fill(k)
	}
}

func (p *pair) unlinkOne() {
	p.fillAll()
	p.del(uint64(p.b.entries / 2))
}

func (p *pair) freeOne() {
	p.fillAll()
	if p.b.kind != array {
		p.drop(uint64(p.b.entries / 2))
		p.fill(0)
	}
}

// takeAll: no slot is free, and there is room for one more linked element.
func (p *pair) takeAll() {
	p.fillAll()
	if p.b.kind == array {
		return
	}
	for len(p.b.free()) > 0 {
		p.del(0)
		p.fill(0)
	}
	p.del(0)
}

// takeAllUnlinked: no slot is free, and none is linked.
func (p *pair) takeAllUnlinked() {
	if p.b.kind == array {
		return
	}
	for range 2 {
		p.fillAll()
		for _, k := range upTo(0, p.b.entries) {
			p.del(k)
		}
	}
}

// takeAllFull: no slot is free, and as many are linked as there is room for.
func (p *pair) takeAllFull() {
	p.fillAll()
	if p.b.kind == array {
		return
	}
	for len(p.b.free()) > 0 {
		p.del(0)
		p.fill(0)
	}
}

// become brings a new pair into a condition, without a look at each step, and looks at all of it then.
func become(t *testing.T, kind, entries, words int, condition func(p *pair)) *pair {
	t.Helper()
	p := newPair(t, kind, entries, words)
	p.brief = true
	condition(p)
	p.brief = false
	p.see("all that was done")
	return p
}

// eachCondition does with a pair of each kind in each condition; again makes another one like it.
func eachCondition(t *testing.T, entries, words []int, do func(p *pair, again func() *pair)) {
	t.Helper()
	for _, kind := range []int{array, hash, lru} {
		for _, n := range entries {
			for _, w := range words {
				for _, condition := range conditions() {
					again := func() *pair { return become(t, kind, n, w, condition) }
					do(again(), again)
				}
			}
		}
	}
}

// numbers gives numbers that look like chance, the same ones for the same seed.
func numbers(seed uint64) func(n int) int {
	return func(n int) int {
		seed = seed*6364136223846793005 + 1442695040888963407
		return int(seed >> 33 % uint64(n))
	}
}

// holds tells if the map's keys aren't just these.
func holds(t *testing.T, m *xmap.Map, want ...uint64) {
	t.Helper()
	if l := m.Keys(); !slices.Equal(l, want) || m.Len() != len(want) {
		t.Errorf("Keys, Len: %v, %d, not %v", l, m.Len(), want)
	}
}

// puts tells if Put doesn't answer so.
func puts(t *testing.T, m *xmap.Map, key uint64, l []uint64, want xmap.Putting, wrong api.Errno) {
	t.Helper()
	if p, e := m.Put(xmap.Any, key, l...); p != want || e != wrong {
		t.Errorf("Put(%d): %v, %d, not %v, %d", key, p, e, want, wrong)
	}
}

// loads tells if the handle's value isn't these words.
func loads(t *testing.T, m *xmap.Map, h handle, want ...uint64) {
	t.Helper()
	if m.Words() != len(want) {
		t.Errorf("Words: %d, not %d", m.Words(), len(want))
	}
	for at, w := range want {
		if x, e := m.Load(h, at); x != w || e != api.OK {
			t.Errorf("Load(%v, %d): %d, %d, not %d", h, at, x, e, w)
		}
	}
}

func TestNumbersOfKinds(t *testing.T) {
	if xmap.Array != 0 || xmap.Hash != 1 || xmap.LRU != 2 {
		t.Error(xmap.Array, xmap.Hash, xmap.LRU)
	}
	if xmap.Any != 0 || xmap.Fresh != 1 || xmap.There != 2 || xmap.MaxEntries != 8 {
		t.Error(xmap.Any, xmap.Fresh, xmap.There, xmap.MaxEntries)
	}
}

// P22.1: New.

func TestSizes(t *testing.T) {
	kinds := []int{0, 1, 2, -1, 3, -2, 4, 1 << 32, math.MinInt, math.MinInt + 1, math.MaxInt}
	entries := []int{1, 2, 7, 8, 0, 9, -1, 10, -8, 16, 64, 1<<32 + 1, math.MinInt, math.MaxInt}
	words := []int{1, 2, 3, 4, 0, 5, -1, 6, -4, 8, 1<<32 + 1, math.MinInt, math.MaxInt}
	for _, kind := range kinds {
		for _, n := range entries {
			for _, w := range words {
				want := api.OK
				if kind != 0 && kind != 1 && kind != 2 {
					want = api.ErrKind
				} else if n < 1 || n > 8 || w < 1 || w > 4 {
					want = api.ErrRange
				}
				if m, e := xmap.New(kind, n, w); e != want || (m != nil) != (want == api.OK) {
					t.Errorf("New(%d, %d, %d): %v, %d, not %d", kind, n, w, m, e, want)
				}
			}
		}
	}
}

// TestErrorsOfNew: each alone, and several at once.
func TestErrorsOfNew(t *testing.T) {
	for _, x := range []struct {
		kind, entries, words int
		want                 api.Errno
	}{
		{-1, 1, 1, api.ErrKind}, {3, 8, 4, api.ErrKind}, {math.MinInt, 1, 1, api.ErrKind}, {math.MaxInt, 1, 1, api.ErrKind},
		{-1, 0, 1, api.ErrKind}, {3, 1, 0, api.ErrKind}, {3, 9, 5, api.ErrKind}, {-1, -1, -1, api.ErrKind},
		{0, 0, 1, api.ErrRange}, {1, 9, 1, api.ErrRange}, {2, -1, 1, api.ErrRange},
		{0, 1, 0, api.ErrRange}, {1, 1, 5, api.ErrRange}, {2, 1, -1, api.ErrRange},
		{0, 0, 0, api.ErrRange}, {1, 9, 5, api.ErrRange}, {2, -1, 5, api.ErrRange},
	} {
		if m, e := xmap.New(x.kind, x.entries, x.words); m != nil || e != x.want {
			t.Errorf("New(%d, %d, %d): %v, %d", x.kind, x.entries, x.words, m, e)
		}
	}
}

// TestNewMap: what a new one tells, of each kind and size.
func TestNewMap(t *testing.T) {
	for _, kind := range []int{0, 1, 2} {
		for n := 1; n <= 8; n++ {
			for w := 1; w <= 4; w++ {
				p := newPair(t, kind, n, w)
				p.seeAll()
				m, want := p.m, upTo(0, n)
				if kind != array {
					want = nil
				}
				holds(t, m, want...)
				if m.Held() != len(want) || m.Kind() != kind || m.Words() != w {
					t.Errorf("New(%d, %d, %d): Held %d, Kind %d, Words %d", kind, n, w, m.Held(), m.Kind(), m.Words())
				}
			}
		}
	}
}

// TestNewArray: its elements stand in the slots of their keys, with values of 0.
func TestNewArray(t *testing.T) {
	for n := 1; n <= 8; n++ {
		m := made(t, xmap.Array, n, 4)
		for i := range n {
			h := handle{Slot: i, Gen: 1}
			if got, e := m.Find(uint64(i)); got != h || e != api.OK {
				t.Errorf("%d entries: Find(%d): %v, %d", n, i, got, e)
			}
			if key, e := m.Key(h); key != uint64(i) || e != api.OK || !m.Linked(h) {
				t.Errorf("%d entries: Key(%v): %d, %d", n, h, key, e)
			}
			loads(t, m, h, 0, 0, 0, 0)
		}
		for i := n; i < 2*n; i++ {
			h := handle{Slot: i, Gen: 1}
			if _, e := m.Key(h); e != api.ErrStale || m.Linked(h) {
				t.Errorf("%d entries: Key(%v): %d", n, h, e)
			}
		}
		for _, k := range []uint64{uint64(n), uint64(n) + 1, 1 << 32, 1 << 63, greatest} {
			if h, e := m.Find(k); h != (handle{}) || e != api.ErrNone {
				t.Errorf("%d entries: Find(%d): %v, %d", n, k, h, e)
			}
		}
	}
}

// P22.1: Find and Look.

func TestFindInEachCondition(t *testing.T) {
	eachCondition(t, []int{1, 2, 3, 8}, []int{1, 4}, func(p *pair, _ func() *pair) {
		for range 2 {
			for _, key := range someKeys() {
				p.look(key)
				p.find(key)
				p.look(key)
			}
		}
		p.seeAll()
	})
}

// TestFindOfOneKey: linked, unlinked, freed, and linked again, with the keys at the edges.
func TestFindOfOneKey(t *testing.T) {
	for _, kind := range []int{hash, lru} {
		for _, key := range someKeys() {
			m := made(t, kind, 2, 1)
			finds := func(want handle, wrong api.Errno) {
				t.Helper()
				if h, e := m.Look(key); h != want || e != wrong {
					t.Errorf("Look(%d): %v, %d, not %v, %d", key, h, e, want, wrong)
				}
				if h, e := m.Find(key); h != want || e != wrong {
					t.Errorf("Find(%d): %v, %d, not %v, %d", key, h, e, want, wrong)
				}
			}
			finds(handle{}, api.ErrNone)
			m.Put(xmap.Any, key^1, 4)
			finds(handle{}, api.ErrNone)
			m.Put(xmap.Any, key, 5)
			finds(handle{Slot: 1, Gen: 1}, api.OK)
			m.Del(key)
			finds(handle{}, api.ErrNone)
			m.Free(handle{Slot: 1, Gen: 1})
			finds(handle{}, api.ErrNone)
			m.Put(xmap.Any, key, 6)
			finds(handle{Slot: 1, Gen: 2}, api.OK)
			m.Close()
			finds(handle{}, api.ErrNone)
		}
	}
}

// TestFindUsesLookDoesNot: of an LRU map; of the others neither changes the order.
func TestFindUsesLookDoesNot(t *testing.T) {
	m := made(t, xmap.LRU, 3, 1)
	for k := range uint64(3) {
		m.Put(xmap.Any, k+5, 1)
	}
	for _, x := range []struct {
		find, look uint64
		want       []uint64
	}{
		{7, 5, []uint64{5, 6, 7}},
		{5, 6, []uint64{6, 7, 5}},
		{7, 6, []uint64{6, 5, 7}},
		{8, 6, []uint64{6, 5, 7}},
		{6, 5, []uint64{5, 7, 6}},
		{6, 5, []uint64{5, 7, 6}},
	} {
		m.Find(x.find)
		m.Look(x.look)
		holds(t, m, x.want...)
	}
	each(t, []int{1, 2, 8}, []int{1}, func(p *pair) {
		p.fillAll()
		before := p.m.Keys()
		for _, k := range append(before, before...) {
			p.look(k)
		}
		holds(t, p.m, before...)
		for _, k := range []int{5, 0, 7, 7, 3, 0, 1} {
			p.find(uint64(k % p.b.entries))
			p.look(before[0])
		}
		if p.b.kind != lru {
			holds(t, p.m, before...)
		}
	})
}

// P22.2: Put.

// rows are values of as many words as the edges name, for values of so many.
func rows(words int) [][]uint64 {
	l := [][]uint64{nil, {}, {0}}
	for _, n := range []int{1, words, words + 1, words + 2, 5, 64} {
		var row []uint64
		for i := range n {
			row = append(row, greatest-uint64(i))
		}
		l = append(l, row)
	}
	return l
}

// TestPutInEachCondition: each how, each number of words, of keys that are linked and that aren't. Behind an error all is as it was.
func TestPutInEachCondition(t *testing.T) {
	hows := []int{0, 1, 2, -1, 3, 4, 1 << 32, math.MinInt, math.MaxInt}
	eachCondition(t, []int{1, 2, 8}, []int{1, 4}, func(p *pair, again func() *pair) {
		for _, how := range hows {
			p.seeAll()
			for _, key := range []uint64{0, uint64(p.b.entries) - 1, uint64(p.b.entries), greatest} {
				for _, row := range rows(p.b.words) {
					p.brief = true
					if _, e := p.put(how, key, row...); e == api.OK {
						p.seeAll()
						p = again()
					}
				}
			}
		}
		p.seeAll()
	})
}

// TestErrorsOfPut: each alone.
func TestErrorsOfPut(t *testing.T) {
	wrong := func(m *xmap.Map, how int, key uint64, want api.Errno, l ...uint64) {
		t.Helper()
		keys, held := m.Keys(), m.Held()
		if p, e := m.Put(how, key, l...); p != (xmap.Putting{}) || e != want {
			t.Errorf("kind %d: Put(%d, %d, %v): %v, %d, not %d", m.Kind(), how, key, l, p, e, want)
		}
		if m.Held() != held {
			t.Errorf("kind %d: Held: %d, not %d", m.Kind(), m.Held(), held)
		}
		holds(t, m, keys...)
	}
	for _, kind := range []int{array, hash, lru} {
		m := made(t, kind, 2, 2)
		m.Put(xmap.Any, 0, 7)
		for _, how := range []int{-1, 3, math.MinInt, math.MaxInt} {
			wrong(m, how, 0, api.ErrArg)
			wrong(m, how, 9, api.ErrArg)
		}
		wrong(m, xmap.Any, 0, api.ErrArg, 1, 2, 3)
		wrong(m, xmap.Fresh, 0, api.ErrTwice, 8)
		loads(t, m, handle{Slot: 0, Gen: 1}, 7, 0)
		m.Close()
		wrong(m, xmap.Any, 0, api.ErrGone)
		wrong(m, xmap.Fresh, 9, api.ErrGone, 5)
		wrong(m, xmap.There, 0, api.ErrGone, 5)
	}
	a, h, l := made(t, xmap.Array, 2, 2), made(t, xmap.Hash, 2, 2), made(t, xmap.LRU, 2, 2)
	wrong(a, xmap.Any, 2, api.ErrRange, 5)
	wrong(a, xmap.Fresh, greatest, api.ErrRange, 5)
	wrong(h, xmap.There, 2, api.ErrNone, 5)
	wrong(l, xmap.There, 2, api.ErrNone, 5)
	h.Put(xmap.Any, 5)
	h.Put(xmap.Any, 6)
	wrong(h, xmap.Any, 7, api.ErrFull, 5)
	wrong(h, xmap.Fresh, 7, api.ErrFull, 5)
	for _, m := range []*xmap.Map{made(t, xmap.Hash, 1, 1), made(t, xmap.LRU, 1, 1)} {
		m.Put(xmap.Any, 5)
		m.Del(5)
		m.Put(xmap.Any, 6)
		m.Del(6)
		wrong(m, xmap.Any, 7, api.ErrMem, 5)
		wrong(m, xmap.Fresh, 5, api.ErrMem, 5)
	}
}

// TestSeveralErrorsOfPut: of several the one that is named first.
func TestSeveralErrorsOfPut(t *testing.T) {
	wrong := func(m *xmap.Map, how int, key uint64, want api.Errno, l ...uint64) {
		t.Helper()
		if p, e := m.Put(how, key, l...); p != (xmap.Putting{}) || e != want {
			t.Errorf("kind %d: Put(%d, %d, %v): %v, %d, not %d", m.Kind(), how, key, l, p, e, want)
		}
	}
	for _, kind := range []int{array, hash, lru} {
		m := made(t, kind, 1, 1)
		m.Put(xmap.Any, 0)
		wrong(m, xmap.Fresh, 0, api.ErrArg, 1, 2) // too many words, and linked
		wrong(m, xmap.There, 5, api.ErrArg, 1, 2) // and not linked
		wrong(m, xmap.Any, 5, api.ErrArg, 1, 2)   // and of an array, a full Hash
		wrong(m, 3, 5, api.ErrArg, 1, 2)
		m.Close()
		wrong(m, xmap.Fresh, 0, api.ErrArg, 1, 2)
		wrong(m, 3, 0, api.ErrArg)
		wrong(m, xmap.There, 5, api.ErrGone)
		wrong(m, xmap.Any, 5, api.ErrGone)
	}
	a := made(t, xmap.Array, 1, 1)
	wrong(a, xmap.There, 5, api.ErrRange)
	h := made(t, xmap.Hash, 1, 1)
	h.Put(xmap.Any, 5)
	wrong(h, xmap.There, 6, api.ErrNone) // and full
	h.Del(5)
	h.Put(xmap.Any, 6)
	wrong(h, xmap.There, 5, api.ErrNone) // and full, and no slot
	wrong(h, xmap.Any, 5, api.ErrFull)   // and no slot
	wrong(h, xmap.Fresh, 6, api.ErrTwice)
	puts(t, h, 6, []uint64{9}, xmap.Putting{H: handle{Slot: 1, Gen: 1}}, api.OK)
	h.Del(6)
	wrong(h, xmap.There, 5, api.ErrNone) // and no slot
	wrong(h, xmap.Any, 5, api.ErrMem)
	l := made(t, xmap.LRU, 1, 1)
	l.Put(xmap.Any, 5)
	l.Put(xmap.Any, 6)
	wrong(l, xmap.There, 7, api.ErrNone) // and no slot
	wrong(l, xmap.Any, 7, api.ErrMem)
	holds(t, l, 6)
}

// TestWordsOfAValue: fewer words leave zeros behind them, whatever stood there.
func TestWordsOfAValue(t *testing.T) {
	for _, kind := range []int{array, hash, lru} {
		for words := 1; words <= 4; words++ {
			for n := 0; n <= words; n++ {
				for _, how := range []int{xmap.Any, xmap.There} {
					m := made(t, kind, 2, words)
					whole, some := []uint64{9, 8, 7, 6}[:words], []uint64{1, 2, 3, 4}[:n]
					p, e := m.Put(xmap.Any, 1, whole...)
					if e != api.OK {
						t.Fatal(e)
					}
					loads(t, m, p.H, whole...)
					if q, e := m.Put(how, 1, some...); q != (xmap.Putting{H: p.H}) || e != api.OK {
						t.Errorf("kind %d: Put(%d) of %d words: %v, %d", kind, how, n, q, e)
					}
					want := append(slices.Clone(some), make([]uint64, words-n)...)
					loads(t, m, p.H, want...)
					if kind == array {
						loads(t, m, handle{Slot: 0, Gen: 1}, make([]uint64, words)...)
					}
				}
			}
		}
	}
}

// TestNewValuesHaveNothingOfOldOnes: a slot that is used again holds zeros behind the words that are put.
func TestNewValuesHaveNothingOfOldOnes(t *testing.T) {
	for _, kind := range []int{hash, lru} {
		m := made(t, kind, 1, 4)
		p, _ := m.Put(xmap.Any, 5, 1, 2, 3, 4)
		m.Del(5)
		m.Free(p.H)
		q, e := m.Put(xmap.Any, 6, 9)
		if q.H != (handle{Slot: 0, Gen: 2}) || e != api.OK {
			t.Error(q, e)
		}
		loads(t, m, q.H, 9, 0, 0, 0)
	}
}

func TestPutKeepsHandleAndPlace(t *testing.T) {
	each(t, []int{1, 2, 3, 8}, []int{1, 3}, func(p *pair) {
		p.fillAll()
		for i, k := range []int{0, 5, 2, 2, 7, 1} {
			key := uint64(k % p.b.entries)
			before, _ := p.m.Look(key)
			keys := p.m.Keys()
			how := []int{xmap.Any, xmap.There}[i%2]
			if x, e := p.put(how, key, p.row(1)...); x != (xmap.Putting{H: before}) || e != api.OK {
				t.Error(x, e)
			}
			if p.b.kind != lru {
				holds(t, p.m, keys...)
			}
		}
	})
}

// TestPutUses: of an LRU map, of a key that is linked; ErrTwice uses nobody, nor any other error.
func TestPutUses(t *testing.T) {
	m := made(t, xmap.LRU, 3, 1)
	for _, k := range []uint64{5, 6, 7} {
		m.Put(xmap.Fresh, k, k)
	}
	for _, x := range []struct {
		how  int
		key  uint64
		l    []uint64
		want []uint64
	}{
		{xmap.Any, 5, []uint64{1}, []uint64{6, 7, 5}},
		{xmap.There, 6, nil, []uint64{7, 5, 6}},
		{xmap.Any, 6, []uint64{2}, []uint64{7, 5, 6}},
		{xmap.Fresh, 7, []uint64{1}, []uint64{7, 5, 6}},
		{xmap.Any, 7, []uint64{1, 2}, []uint64{7, 5, 6}},
		{3, 7, nil, []uint64{7, 5, 6}},
		{xmap.There, 9, nil, []uint64{7, 5, 6}},
		{xmap.There, 7, nil, []uint64{5, 6, 7}},
	} {
		m.Put(x.how, x.key, x.l...)
		holds(t, m, x.want...)
	}
}

// TestPutFreshAndThere tell by whether the key is linked, whatever was unlinked.
func TestPutFreshAndThere(t *testing.T) {
	for _, kind := range []int{hash, lru} {
		m := made(t, kind, 4, 1)
		for gen := 1; gen <= 3; gen++ {
			if p, e := m.Put(xmap.There, 5, 1); p != (xmap.Putting{}) || e != api.ErrNone {
				t.Error(p, e)
			}
			h := handle{Slot: 0, Gen: gen}
			if p, e := m.Put(xmap.Fresh, 5, 1); p != (xmap.Putting{H: h}) || e != api.OK {
				t.Error(p, e)
			}
			if p, e := m.Put(xmap.Fresh, 5, 2); p != (xmap.Putting{}) || e != api.ErrTwice {
				t.Error(p, e)
			}
			loads(t, m, h, 1)
			if p, e := m.Put(xmap.There, 5, 3); p != (xmap.Putting{H: h}) || e != api.OK {
				t.Error(p, e)
			}
			loads(t, m, h, 3)
			m.Del(5)
			m.Free(h)
		}
	}
}

// P22.2: who is put out.

// TestPutsOutTheOldest: one behind the other, with room for 1 to 8 entries; who was put out keeps slot and value until it is freed.
func TestPutsOutTheOldest(t *testing.T) {
	for n := 1; n <= 8; n++ {
		p := newPair(t, lru, n, 2)
		p.fillAll()
		for i := range n {
			gone, _ := p.m.Look(uint64(i))
			x, e := p.put(xmap.Any, uint64(100+i), p.row(2)...)
			if want := (xmap.Putting{H: handle{Slot: n + i, Gen: 1}, Gone: gone, Out: true}); x != want || e != api.OK {
				t.Errorf("%d entries: %v, %d, not %v", n, x, e, want)
			}
			if key, e := p.m.Key(gone); key != uint64(i) || e != api.OK || p.m.Linked(gone) {
				t.Errorf("%d entries: Key(%v): %d, %d", n, gone, key, e)
			}
			if p.m.Len() != n || p.m.Held() != n+i+1 {
				t.Errorf("%d entries: Len %d, Held %d", n, p.m.Len(), p.m.Held())
			}
		}
		p.seeAll()
		holds(t, p.m, upTo(100, 100+n)...)
		for i := range n {
			p.free(handle{Slot: i, Gen: 1})
		}
		p.seeAll()
	}
}

// TestWhoIsPutOut behind what was done with the oldest.
func TestWhoIsPutOut(t *testing.T) {
	for _, x := range []struct {
		name string
		do   func(m *xmap.Map)
		gone uint64 // 0: nobody
	}{
		{"nothing", func(m *xmap.Map) {}, 1},
		{"Find", func(m *xmap.Map) { m.Find(1) }, 2},
		{"Find of another", func(m *xmap.Map) { m.Find(2) }, 1},
		{"Find of two", func(m *xmap.Map) { m.Find(2); m.Find(1) }, 3},
		{"Find of nobody", func(m *xmap.Map) { m.Find(9) }, 1},
		{"Find of all", func(m *xmap.Map) { m.Find(3); m.Find(2); m.Find(1) }, 3},
		{"Put", func(m *xmap.Map) { m.Put(xmap.Any, 1) }, 2},
		{"Put There", func(m *xmap.Map) { m.Put(xmap.There, 1) }, 2},
		{"Put Fresh", func(m *xmap.Map) { m.Put(xmap.Fresh, 1) }, 1},
		{"Look", func(m *xmap.Map) { m.Look(1) }, 1},
		{"Load", func(m *xmap.Map) { m.Load(handle{Slot: 0, Gen: 1}, 0) }, 1},
		{"Store", func(m *xmap.Map) { m.Store(handle{Slot: 0, Gen: 1}, 0, 5) }, 1},
		{"Key", func(m *xmap.Map) { m.Key(handle{Slot: 0, Gen: 1}) }, 1},
		{"Linked", func(m *xmap.Map) { m.Linked(handle{Slot: 0, Gen: 1}) }, 1},
		{"Free", func(m *xmap.Map) { m.Free(handle{Slot: 0, Gen: 1}) }, 1},
		{"Keys", func(m *xmap.Map) { m.Keys() }, 1},
		{"Del", func(m *xmap.Map) { m.Del(1) }, 0},
		{"Del of another", func(m *xmap.Map) { m.Del(3) }, 0},
		{"Del and Put", func(m *xmap.Map) { m.Del(1); m.Put(xmap.Any, 1) }, 2},
		{"Del of the second and Put", func(m *xmap.Map) { m.Del(2); m.Put(xmap.Any, 2) }, 1},
		{"Del of nobody", func(m *xmap.Map) { m.Del(9) }, 1},
	} {
		m := made(t, xmap.LRU, 3, 1)
		handles := map[uint64]handle{}
		for _, k := range []uint64{1, 2, 3} {
			m.Put(xmap.Any, k)
		}
		x.do(m)
		for _, k := range []uint64{1, 2, 3} {
			handles[k], _ = m.Look(k)
		}
		p, e := m.Put(xmap.Any, 4)
		if e != api.OK || p.Out != (x.gone > 0) || p.Gone != handles[x.gone] {
			t.Errorf("behind %s: %v, %d, not %v", x.name, p, e, handles[x.gone])
		}
		if h, e := m.Look(4); h != p.H || e != api.OK {
			t.Errorf("behind %s: %v, %d", x.name, h, e)
		}
		if _, e := m.Look(x.gone); x.gone > 0 && e != api.ErrNone {
			t.Errorf("behind %s: %d", x.name, e)
		}
	}
}

// TestRoomForOne: every new key puts out the one before.
func TestRoomForOne(t *testing.T) {
	m := made(t, xmap.LRU, 1, 1)
	puts(t, m, 5, []uint64{50}, xmap.Putting{H: handle{Slot: 0, Gen: 1}}, api.OK)
	puts(t, m, 6, []uint64{60}, xmap.Putting{H: handle{Slot: 1, Gen: 1}, Gone: handle{Slot: 0, Gen: 1}, Out: true}, api.OK)
	puts(t, m, 5, []uint64{51}, xmap.Putting{}, api.ErrMem)
	holds(t, m, 6)
	loads(t, m, handle{Slot: 0, Gen: 1}, 50)
	m.Free(handle{Slot: 0, Gen: 1})
	puts(t, m, 5, []uint64{51}, xmap.Putting{H: handle{Slot: 0, Gen: 2}, Gone: handle{Slot: 1, Gen: 1}, Out: true}, api.OK)
	puts(t, m, 5, []uint64{52}, xmap.Putting{H: handle{Slot: 0, Gen: 2}}, api.OK)
	m.Del(5)
	puts(t, m, 7, nil, xmap.Putting{}, api.ErrMem)
	m.Free(handle{Slot: 0, Gen: 2})
	puts(t, m, 7, nil, xmap.Putting{H: handle{Slot: 0, Gen: 3}}, api.OK)
	loads(t, m, handle{Slot: 0, Gen: 3}, 0)
	loads(t, m, handle{Slot: 1, Gen: 1}, 60)
	holds(t, m, 7)
}

// TestAFullHashPutsNobodyOut, whoever asks for room, and however many slots are free.
func TestAFullHashPutsNobodyOut(t *testing.T) {
	for n := 1; n <= 8; n++ {
		p := newPair(t, hash, n, 1)
		p.fillAll()
		before := p.m.Keys()
		for _, how := range []int{xmap.Any, xmap.Fresh} {
			for _, key := range []uint64{uint64(n), 1 << 32, greatest} {
				if x, e := p.put(how, key, 5); x != (xmap.Putting{}) || e != api.ErrFull {
					t.Errorf("%d entries: %v, %d", n, x, e)
				}
			}
		}
		holds(t, p.m, before...)
		if p.m.Held() != n {
			t.Error(n, p.m.Held())
		}
		p.del(0)
		p.fill(77)
		p.put(xmap.Any, 0, 1)
		p.seeAll()
	}
}

// TestNoSlot: then nobody is put out, and whose key is linked is put all the same; what is freed makes room, the least slot first.
func TestNoSlot(t *testing.T) {
	for _, kind := range []int{hash, lru} {
		for n := 1; n <= 8; n++ {
			for _, condition := range []func(p *pair){(*pair).takeAll, (*pair).takeAllUnlinked, (*pair).takeAllFull} {
				p := become(t, kind, n, 2, condition)
				keys, want := p.m.Keys(), api.ErrMem
				if kind == hash && len(keys) == n {
					want = api.ErrFull
				}
				for _, key := range []uint64{uint64(n), greatest} {
					if x, e := p.put(xmap.Any, key, 5, 6); x != (xmap.Putting{}) || e != want {
						t.Errorf("kind %d, %d entries: %v, %d", kind, n, x, e)
					}
				}
				holds(t, p.m, keys...)
				for _, key := range keys {
					if x, e := p.put(xmap.Any, key, 7, 8); x.Out || e != api.OK {
						t.Errorf("kind %d, %d entries: %v, %d", kind, n, x, e)
					}
				}
				p.seeAll()
				p.freeUnlinked()
				p.put(xmap.Any, greatest, 5, 6)
				p.seeAll()
			}
		}
	}
}

// freeUnlinked frees who isn't linked, from the last slot on.
func (p *pair) freeUnlinked() {
	p.t.Helper()
	l := p.handles(0)
	slices.Reverse(l)
	for _, h := range l {
		if !p.m.Linked(h) {
			p.free(h)
		}
	}
}

// TestOneFreeMakesRoomForOne: a new element takes just the slot that was freed.
func TestOneFreeMakesRoomForOne(t *testing.T) {
	for _, kind := range []int{hash, lru} {
		for n := 1; n <= 8; n++ {
			for slot := range 2 * n {
				p := become(t, kind, n, 1, (*pair).takeAllUnlinked)
				p.free(handle{Slot: slot, Gen: 1})
				if x, e := p.put(xmap.Fresh, 7, 5); x != (xmap.Putting{H: handle{Slot: slot, Gen: 2}}) || e != api.OK {
					t.Errorf("kind %d, %d entries: %v, %d", kind, n, x, e)
				}
				want := api.ErrMem
				if kind == hash && n == 1 {
					want = api.ErrFull
				}
				if x, e := p.put(xmap.Fresh, 8, 5); x != (xmap.Putting{}) || e != want {
					t.Errorf("kind %d, %d entries: %v, %d", kind, n, x, e)
				}
			}
		}
	}
}

// P22.3: Del.

func TestDelInEachCondition(t *testing.T) {
	eachCondition(t, []int{1, 2, 3, 8}, []int{1, 4}, func(p *pair, again func() *pair) {
		for _, key := range someKeys() {
			p.del(key)
			p.del(key)
			p.put(xmap.Any, key, 5)
			p.del(key)
			p = again()
		}
		for _, key := range someKeys() {
			p.del(key)
		}
		p.seeAll()
	})
}

func TestDelOfAnArray(t *testing.T) {
	m := made(t, xmap.Array, 2, 1)
	m.Put(xmap.Any, 1, 7)
	for range 2 {
		for _, key := range []uint64{0, 1, 2, greatest} {
			if h, e := m.Del(key); h != (handle{}) || e != api.ErrPerm {
				t.Errorf("Del(%d): %v, %d", key, h, e)
			}
		}
		holds(t, m, 0, 1)
		loads(t, m, handle{Slot: 1, Gen: 1}, 7)
	}
	m.Close()
	if h, e := m.Del(0); h != (handle{}) || e != api.ErrPerm {
		t.Error(h, e)
	}
}

// TestDelMakesRoom in a full map, and what may be put behind it.
func TestDelMakesRoom(t *testing.T) {
	for _, kind := range []int{hash, lru} {
		m := made(t, kind, 2, 1)
		m.Put(xmap.Any, 5, 50)
		m.Put(xmap.Any, 6, 60)
		if h, e := m.Del(5); h != (handle{Slot: 0, Gen: 1}) || e != api.OK {
			t.Error(h, e)
		}
		if h, e := m.Del(5); h != (handle{}) || e != api.ErrNone {
			t.Error(h, e)
		}
		puts(t, m, 7, []uint64{70}, xmap.Putting{H: handle{Slot: 2, Gen: 1}}, api.OK)
		m.Del(6)
		puts(t, m, 5, []uint64{51}, xmap.Putting{H: handle{Slot: 3, Gen: 1}}, api.OK)
		loads(t, m, handle{Slot: 0, Gen: 1}, 50)
		loads(t, m, handle{Slot: 3, Gen: 1}, 51)
		if m.Linked(handle{Slot: 0, Gen: 1}) || !m.Linked(handle{Slot: 3, Gen: 1}) || m.Held() != 4 || m.Len() != 2 {
			t.Error(m.Held(), m.Len())
		}
		if key, e := m.Key(handle{Slot: 0, Gen: 1}); key != 5 || e != api.OK {
			t.Error(key, e)
		}
	}
}

// P22.3: Free.

func TestFreeInEachCondition(t *testing.T) {
	eachCondition(t, []int{1, 2, 8}, []int{1, 4}, func(p *pair, again func() *pair) {
		for _, h := range p.wide() {
			p.brief = true
			if p.free(h) == api.OK {
				p.free(h)
				p.seeAll()
				p = again()
			}
		}
		p.seeAll()
		for range 2 {
			for _, h := range p.wide() {
				p.free(h)
			}
		}
		p.seeAll()
	})
}

func TestErrorsOfFree(t *testing.T) {
	for _, kind := range []int{hash, lru} {
		m := made(t, kind, 3, 1)
		frees := func(h handle, want api.Errno) {
			t.Helper()
			if e := m.Free(h); e != want {
				t.Errorf("kind %d: Free(%v): %d, not %d", kind, h, e, want)
			}
		}
		frees(handle{}, api.ErrStale)
		m.Put(xmap.Any, 5)
		m.Put(xmap.Any, 6)
		m.Del(6)
		for _, slot := range []int{-1, 6, 7, math.MinInt, math.MaxInt} {
			frees(handle{Slot: slot, Gen: 1}, api.ErrRange)
			frees(handle{Slot: slot, Gen: 0}, api.ErrRange)
		}
		frees(handle{Slot: 0, Gen: 1}, api.ErrBusy)
		frees(handle{Slot: 0, Gen: 0}, api.ErrStale)
		frees(handle{Slot: 0, Gen: 2}, api.ErrStale)
		frees(handle{Slot: 1, Gen: 0}, api.ErrStale)
		frees(handle{Slot: 1, Gen: 2}, api.ErrStale)
		frees(handle{Slot: 5, Gen: 1}, api.ErrStale)
		frees(handle{Slot: 1, Gen: 1}, api.OK)
		frees(handle{Slot: 1, Gen: 1}, api.ErrStale)
		frees(handle{Slot: 1, Gen: 2}, api.ErrStale)
		if m.Held() != 1 || m.Len() != 1 || !m.Linked(handle{Slot: 0, Gen: 1}) {
			t.Error(m.Held(), m.Len())
		}
		m.Put(xmap.Any, 6)
		frees(handle{Slot: 1, Gen: 1}, api.ErrStale)
		frees(handle{Slot: 1, Gen: 2}, api.ErrBusy)
	}
	m := made(t, xmap.Array, 2, 1)
	if e := m.Free(handle{Slot: 1, Gen: 1}); e != api.ErrBusy {
		t.Error(e)
	}
	if e := m.Free(handle{Slot: 2, Gen: 1}); e != api.ErrStale {
		t.Error(e)
	}
	if e := m.Free(handle{Slot: 4, Gen: 1}); e != api.ErrRange {
		t.Error(e)
	}
	m.Close()
	if e := m.Free(handle{Slot: 1, Gen: 1}); e != api.OK || m.Held() != 1 {
		t.Error(e, m.Held())
	}
}

// TestFreeOfAnotherElementOfTheKey: the one that is linked stays.
func TestFreeOfAnotherElementOfTheKey(t *testing.T) {
	for _, kind := range []int{hash, lru} {
		p := newPair(t, kind, 2, 2)
		first := p.fill(5)
		p.del(5)
		second := p.fill(5)
		if p.m.Linked(first) || !p.m.Linked(second) {
			t.Error("Linked")
		}
		if p.free(second) != api.ErrBusy || p.free(first) != api.OK {
			t.Error("Free")
		}
		if p.find(5) != second {
			t.Error("Find")
		}
		p.seeAll()
	}
}

// P22.3: Close.

func TestCloseInEachCondition(t *testing.T) {
	eachCondition(t, all(8), []int{1, 4}, func(p *pair, again func() *pair) {
		p.close()
		p.close()
		p.seeAll()
		for _, how := range []int{-1, 0, 1, 2, 3} {
			for _, key := range []uint64{0, 5, uint64(p.b.entries), greatest} {
				p.put(how, key)
				p.put(how, key, 5)
				p.put(how, key, 1, 2, 3, 4, 5)
			}
		}
		for _, h := range p.handles(0) {
			p.store(h, 0, 77)
			p.free(h)
		}
		p.close()
		p.put(xmap.Any, 0, 1)
		p.seeAll()
	})
}

// TestCloseTellsInTheOrderOfKeys, and just once.
func TestCloseTellsInTheOrderOfKeys(t *testing.T) {
	each(t, all(8), []int{1}, func(p *pair) {
		p.fillAll()
		if p.b.kind != array {
			p.del(uint64(p.b.entries / 3))
			p.fill(99)
		}
		p.find(uint64(p.b.entries - 1))
		var want []handle
		for _, key := range p.m.Keys() {
			h, _ := p.m.Look(key)
			want = append(want, h)
		}
		held := p.m.Held()
		if l := p.m.Close(); !slices.Equal(l, want) || len(l) != p.b.entries {
			p.fail("Close", l, "not", want)
		}
		if l := p.m.Close(); len(l) != 0 {
			p.fail("Close again", l)
		}
		if p.m.Len() != 0 || len(p.m.Keys()) != 0 || p.m.Held() != held {
			p.fail("Len, Keys, Held", p.m.Len(), p.m.Keys(), p.m.Held())
		}
		for _, h := range want {
			if _, e := p.m.Key(h); e != api.OK || p.m.Linked(h) {
				p.fail("Key, Linked", h, e)
			}
			if e := p.m.Free(h); e != api.OK {
				p.fail("Free", h, e)
			}
		}
	})
}

func TestCloseOfAnEmptyMap(t *testing.T) {
	for _, kind := range []int{hash, lru} {
		m := made(t, kind, 2, 1)
		for range 2 {
			if l := m.Close(); len(l) != 0 {
				t.Error(kind, l)
			}
			for _, how := range []int{xmap.Any, xmap.Fresh, xmap.There} {
				if p, e := m.Put(how, 5, 1); p != (xmap.Putting{}) || e != api.ErrGone {
					t.Error(kind, how, p, e)
				}
			}
		}
		if m.Kind() != kind || m.Words() != 1 || m.Held() != 0 {
			t.Error(m.Kind(), m.Words(), m.Held())
		}
	}
}

// P22.4: Load, Store, Key and Linked.

func TestStoreInEachCondition(t *testing.T) {
	eachCondition(t, []int{1, 2, 8}, []int{1, 2, 4}, func(p *pair, _ func() *pair) {
		p.brief = true
		for _, h := range p.wide() {
			for _, at := range []int{math.MinInt, -2, -1, 0, 1, 2, 3, 4, 5, 1 << 32, math.MaxInt} {
				p.store(h, at, p.row(1)[0])
			}
		}
		p.seeAll()
	})
}

// TestStoreChangesOneWord, and no other one, of this element alone.
func TestStoreChangesOneWord(t *testing.T) {
	each(t, []int{1, 3, 8}, all(4), func(p *pair) {
		p.fillAll()
		for _, h := range p.handles(0) {
			for at := range p.b.words {
				for _, x := range []uint64{0, 5, greatest} {
					p.store(h, at, x)
				}
			}
		}
		p.seeAll()
	})
}

// TestErrorsOfLoadAndStore: the arena's ahead of ErrArg; an unlinked element has its words, a freed one has none.
func TestErrorsOfLoadAndStore(t *testing.T) {
	for _, kind := range []int{hash, lru} {
		m := made(t, kind, 2, 3)
		for _, k := range []uint64{5, 6} {
			m.Put(xmap.Any, k, k, k+1, k+2)
		}
		m.Del(6)
		m.Put(xmap.Any, 7)
		m.Del(7)
		m.Free(handle{Slot: 2, Gen: 1})
		for _, x := range []struct {
			h    handle
			at   int
			want uint64
			e    api.Errno
		}{
			{handle{Slot: 0, Gen: 1}, 0, 5, api.OK}, {handle{Slot: 0, Gen: 1}, 2, 7, api.OK},
			{handle{Slot: 1, Gen: 1}, 0, 6, api.OK}, {handle{Slot: 1, Gen: 1}, 2, 8, api.OK},
			{handle{Slot: 0, Gen: 1}, -1, 0, api.ErrArg}, {handle{Slot: 0, Gen: 1}, 3, 0, api.ErrArg},
			{handle{Slot: 1, Gen: 1}, -1, 0, api.ErrArg}, {handle{Slot: 1, Gen: 1}, 3, 0, api.ErrArg},
			{handle{Slot: 1, Gen: 1}, math.MinInt, 0, api.ErrArg}, {handle{Slot: 1, Gen: 1}, math.MaxInt, 0, api.ErrArg},
			{handle{Slot: 2, Gen: 1}, 0, 0, api.ErrStale}, {handle{Slot: 2, Gen: 1}, 3, 0, api.ErrStale},
			{handle{Slot: 2, Gen: 2}, 0, 0, api.ErrStale}, {handle{Slot: 2, Gen: 2}, -1, 0, api.ErrStale},
			{handle{Slot: 3, Gen: 1}, 0, 0, api.ErrStale}, {handle{}, 0, 0, api.ErrStale}, {handle{}, 9, 0, api.ErrStale},
			{handle{Slot: 4, Gen: 1}, 0, 0, api.ErrRange}, {handle{Slot: 4, Gen: 1}, 3, 0, api.ErrRange},
			{handle{Slot: -1, Gen: 1}, 0, 0, api.ErrRange}, {handle{Slot: -1, Gen: 1}, -1, 0, api.ErrRange},
		} {
			if w, e := m.Load(x.h, x.at); w != x.want || e != x.e {
				t.Errorf("Load(%v, %d): %d, %d, not %d, %d", x.h, x.at, w, e, x.want, x.e)
			}
			if e := m.Store(x.h, x.at, x.want+100); e != x.e {
				t.Errorf("Store(%v, %d): %d, not %d", x.h, x.at, e, x.e)
			}
		}
		loads(t, m, handle{Slot: 0, Gen: 1}, 105, 6, 107)
		loads(t, m, handle{Slot: 1, Gen: 1}, 106, 7, 108)
	}
}

func TestKeyAndLinked(t *testing.T) {
	for _, kind := range []int{hash, lru} {
		for _, key := range someKeys() {
			m := made(t, kind, 2, 1)
			h := handle{Slot: 0, Gen: 1}
			tells := func(h handle, want uint64, wrong api.Errno, linked bool) {
				t.Helper()
				if k, e := m.Key(h); k != want || e != wrong || m.Linked(h) != linked {
					t.Errorf("Key, Linked(%v): %d, %d, %v", h, k, e, m.Linked(h))
				}
			}
			tells(h, 0, api.ErrStale, false)
			m.Put(xmap.Any, key, 1)
			tells(h, key, api.OK, true)
			tells(handle{Slot: 0, Gen: 2}, 0, api.ErrStale, false)
			tells(handle{Slot: 0, Gen: 0}, 0, api.ErrStale, false)
			tells(handle{Slot: 1, Gen: 1}, 0, api.ErrStale, false)
			tells(handle{Slot: 4, Gen: 1}, 0, api.ErrRange, false)
			tells(handle{Slot: -1, Gen: 1}, 0, api.ErrRange, false)
			tells(handle{Slot: math.MinInt, Gen: 1}, 0, api.ErrRange, false)
			tells(handle{Slot: math.MaxInt, Gen: 1}, 0, api.ErrRange, false)
			m.Del(key)
			tells(h, key, api.OK, false)
			m.Put(xmap.Any, key, 1)
			tells(h, key, api.OK, false)
			tells(handle{Slot: 1, Gen: 1}, key, api.OK, true)
			m.Free(h)
			tells(h, 0, api.ErrStale, false)
			m.Close()
			tells(handle{Slot: 1, Gen: 1}, key, api.OK, false)
		}
	}
}

// P22.4: Keys.

// TestKeysOfAHash as a table of eight buckets has them: 0, 6, 11 and 22 stand in bucket 0, 1 and 12 in 1, 2 in 2, 3 in 4, 5 in 7.
func TestKeysOfAHash(t *testing.T) {
	m := made(t, xmap.Hash, 8, 1)
	for _, x := range []struct {
		key  uint64
		want []uint64
	}{
		{3, []uint64{3}},
		{0, []uint64{0, 3}},
		{5, []uint64{0, 3, 5}},
		{6, []uint64{6, 0, 3, 5}},
		{12, []uint64{6, 0, 12, 3, 5}},
		{11, []uint64{11, 6, 0, 12, 3, 5}},
		{0, []uint64{11, 6, 0, 12, 3, 5}}, // it keeps its place
		{1, []uint64{11, 6, 0, 1, 12, 3, 5}},
		{2, []uint64{11, 6, 0, 1, 12, 2, 3, 5}},
		{22, []uint64{11, 6, 0, 1, 12, 2, 3, 5}}, // it has no room
	} {
		m.Put(xmap.Any, x.key)
		holds(t, m, x.want...)
	}
	m.Find(0)
	holds(t, m, 11, 6, 0, 1, 12, 2, 3, 5)
	m.Del(6)
	holds(t, m, 11, 0, 1, 12, 2, 3, 5)
	m.Put(xmap.Any, 22)
	holds(t, m, 22, 11, 0, 1, 12, 2, 3, 5)
	m.Del(0)
	m.Put(xmap.Any, 0) // it comes anew
	holds(t, m, 0, 22, 11, 1, 12, 2, 3, 5)
}

// TestKeysOfAHashOfFewEntries: there are eight buckets, whatever its room.
func TestKeysOfAHashOfFewEntries(t *testing.T) {
	for n := 2; n <= 8; n++ {
		for a := range uint64(12) {
			for b := range uint64(12) {
				if a == b {
					continue
				}
				m := made(t, xmap.Hash, n, 1)
				m.Put(xmap.Any, a)
				m.Put(xmap.Any, b)
				if bucketOf(a) < bucketOf(b) {
					holds(t, m, a, b)
				} else {
					holds(t, m, b, a)
				}
			}
		}
	}
}

func TestKeysOfAnLRU(t *testing.T) {
	m := made(t, xmap.LRU, 3, 1)
	for _, x := range []struct {
		do   func()
		want []uint64
	}{
		{func() {}, nil},
		{func() { m.Put(xmap.Any, 9) }, []uint64{9}},
		{func() { m.Put(xmap.Any, 5) }, []uint64{9, 5}},
		{func() { m.Put(xmap.Any, 7) }, []uint64{9, 5, 7}},
		{func() { m.Find(9) }, []uint64{5, 7, 9}},
		{func() { m.Put(xmap.Any, 7) }, []uint64{5, 9, 7}},
		{func() { m.Del(9) }, []uint64{5, 7}},
		{func() { m.Put(xmap.Any, 9) }, []uint64{5, 7, 9}},
		{func() { m.Put(xmap.Any, 0) }, []uint64{7, 9, 0}},
		{func() { m.Del(7) }, []uint64{9, 0}},
		{func() { m.Del(7) }, []uint64{9, 0}},
		{func() { m.Put(xmap.Any, 9, 1) }, []uint64{0, 9}},
		{func() { m.Close() }, nil},
		{func() { m.Find(9) }, nil},
	} {
		x.do()
		holds(t, m, x.want...)
	}
}

// TestKeysOfAnArray rise, whatever was put and found last.
func TestKeysOfAnArray(t *testing.T) {
	for n := 1; n <= 8; n++ {
		m := made(t, xmap.Array, n, 1)
		for i := range 3 * n {
			m.Put(xmap.Any, uint64(n-1-i%n), 5)
			m.Find(uint64(i * 3 % n))
			holds(t, m, upTo(0, n)...)
		}
	}
}

// TestHeldIsSlotsNotLinks.
func TestHeldIsSlotsNotLinks(t *testing.T) {
	for _, kind := range []int{hash, lru} {
		m := made(t, kind, 2, 1)
		counts := func(linked, held int) {
			t.Helper()
			if m.Len() != linked || m.Held() != held {
				t.Errorf("kind %d: Len %d, Held %d, not %d, %d", kind, m.Len(), m.Held(), linked, held)
			}
		}
		counts(0, 0)
		m.Put(xmap.Any, 5)
		m.Put(xmap.Any, 6)
		counts(2, 2)
		m.Put(xmap.Any, 6)
		counts(2, 2)
		m.Del(5)
		counts(1, 2)
		m.Put(xmap.Any, 5)
		counts(2, 3)
		m.Free(handle{Slot: 0, Gen: 1})
		counts(2, 2)
		m.Close()
		counts(0, 2)
		m.Free(handle{Slot: 1, Gen: 1})
		counts(0, 1)
		m.Free(handle{Slot: 1, Gen: 1})
		counts(0, 1)
		m.Free(handle{Slot: 2, Gen: 1})
		counts(0, 0)
	}
}

// Lists that are told are new memory; what is handed in is neither changed nor kept.

func TestListsAreNewMemory(t *testing.T) {
	each(t, all(8), []int{1}, func(p *pair) {
		p.fillAll()
		l, other := p.m.Keys(), p.m.Keys()
		was := slices.Clone(other)
		for i := range l[:cap(l)] {
			l[:cap(l)][i] = 1 << 50
		}
		if !slices.Equal(other, was) {
			p.fail("two lists share their memory", other)
		}
		p.see("a list that is changed")
		p.find(0)
		p.fill(uint64(p.b.entries) - 1)
		p.del(0)
		if !slices.Equal(other, was) {
			p.fail("a map that is changed changes a list", other)
		}
		p.b.close()
		for _, h := range [][]handle{p.m.Close(), p.m.Close()} {
			for i := range h[:cap(h)] {
				h[:cap(h)][i] = handle{Slot: 1, Gen: 77}
			}
			p.seeAll()
		}
	})
}

func TestPutLeavesItsRowAlone(t *testing.T) {
	for _, kind := range []int{array, hash, lru} {
		for words := 1; words <= 4; words++ {
			for n := 0; n <= words; n++ {
				m := made(t, kind, 2, words)
				row := []uint64{11, 12, 13, 14, 15, 16}
				for range 2 {
					p, e := m.Put(xmap.Any, 1, row[:n]...)
					if e != api.OK || !slices.Equal(row, []uint64{11, 12, 13, 14, 15, 16}) {
						t.Fatal(e, row)
					}
					want := append(slices.Clone(row[:n]), make([]uint64, words-n)...)
					for i := range row {
						row[i] = 1 << 50
					}
					loads(t, m, p.H, want...)
					for i := range words {
						m.Store(p.H, i, 5)
					}
					if !slices.Equal(row, slices.Repeat([]uint64{1 << 50}, 6)) {
						t.Error("Store changes a row:", row)
					}
					row = []uint64{11, 12, 13, 14, 15, 16}
				}
				m.Put(xmap.Any, 1, row...)
				if !slices.Equal(row, []uint64{11, 12, 13, 14, 15, 16}) {
					t.Error(row)
				}
			}
		}
	}
}

// P22.5: what follows.

// TestUnlinkedValuesStay: whoever is unlinked is found no more, but its value is as it was until it is freed, whatever becomes of others.
func TestUnlinkedValuesStay(t *testing.T) {
	for _, kind := range []int{hash, lru} {
		for n := 1; n <= 8; n++ {
			p := newPair(t, kind, n, 4)
			h := p.fill(5)
			want := p.b.held[h].value
			p.del(5)
			next := numbers(uint64(n))
			p.brief = true
			for range 600 {
				key := uint64(next(n + 3))
				p.put(xmap.Any, key, p.row(next(5))...)
				if next(2) == 0 {
					p.drop(key)
				}
				if p.m.Linked(h) {
					p.fail("Linked", h)
				}
				loads(t, p.m, h, want[:]...)
				if x, e := p.m.Key(h); x != 5 || e != api.OK {
					p.fail("Key", h, x, e)
				}
			}
			p.m.Store(h, 3, 77)
			want[3] = 77
			loads(t, p.m, h, want[:]...)
			p.m.Free(h)
			if x, e := p.m.Load(h, 3); x != 0 || e != api.ErrStale {
				p.fail("Load", h, x, e)
			}
		}
	}
}

// TestOverAndOver: the same keys are put, deleted and freed until every slot is worn; from then on nothing new is put, and nobody is put out for it.
func TestOverAndOver(t *testing.T) {
	for _, kind := range []int{hash, lru} {
		for _, n := range []int{1, 2, 8} {
			p := newPair(t, kind, n, 1)
			p.brief = true
			gone := map[handle]bool{}
			for i := 0; len(p.b.free()) > 1; i++ {
				key := uint64(i % 3)
				if gone[p.fill(key)] {
					p.fail("a handle is told twice", key)
				}
				gone[p.drop(key)] = true
			}
			if len(gone) != 2*n*255-p.b.left() {
				p.fail("handles", len(gone))
			}
			p.wearOut()
			p.seeAll()
			for h := range gone {
				p.ask(h, 0)
				if e := p.m.Store(h, 0, 5); e != api.ErrStale {
					p.fail("Store", h, e)
				}
				if e := p.m.Free(h); e != api.ErrStale {
					p.fail("Free", h, e)
				}
			}
			p.seeAll()
		}
	}
}

// left is how many elements the slots can still take, one behind the other.
func (b *book) left() int {
	n := 0
	for _, had := range b.had {
		n += 255 - had
	}
	return n
}

// wearOut leaves one element linked, in the last generation of its slot, and no slot free.
func (p *pair) wearOut() {
	p.t.Helper()
	for len(p.b.free()) > 0 {
		if p.m.Len() > 0 {
			p.drop(9)
		}
		p.fill(9)
	}
	keys := p.m.Keys()
	for _, key := range []uint64{5, 6, greatest} {
		if x, e := p.put(xmap.Any, key, 1); e == api.OK {
			p.fail("Put", key, x)
		}
	}
	holds(p.t, p.m, keys...)
	p.fill(9)
}

// TestPutOutOverAndOver: an LRU map goes on as long as who was put out is freed.
func TestPutOutOverAndOver(t *testing.T) {
	for _, n := range []int{1, 3, 8} {
		p := newPair(t, lru, n, 2)
		p.brief = true
		next := numbers(uint64(n))
		rounds := 0
		for len(p.b.free()) > 0 {
			x, e := p.put(xmap.Any, uint64(next(n+4)), p.row(2)...)
			if e != api.OK {
				p.fail("Put", e)
			}
			if x.Out {
				p.free(x.Gone)
				rounds++
			}
			p.find(uint64(next(n + 4)))
		}
		if rounds < 250 {
			p.fail("rounds", rounds)
		}
		p.seeAll()
	}
}

// TestManyDeeds of all kinds, against the book.
func TestManyDeeds(t *testing.T) {
	each(t, all(8), []int{1, 3, 4}, func(p *pair) {
		next := numbers(uint64(p.b.kind*100 + p.b.entries*10 + p.b.words))
		keys := []uint64{0, 1, 2, 3, 5, 6, 7, 8, 11, 22, 1 << 32, greatest}
		keys = keys[:min(len(keys), p.b.entries+4)]
		p.brief = true
		for i := range 1500 {
			p.anyDeed(next, keys)
			if i%50 == 0 {
				p.seeAll()
			}
		}
		p.seeAll()
		p.close()
		for range 100 {
			p.anyDeed(next, keys)
		}
		p.seeAll()
	})
}

func (p *pair) anyDeed(next func(n int) int, keys []uint64) {
	p.t.Helper()
	key := keys[next(len(keys))]
	hs := p.handles(0)
	h := hs[next(len(hs))]
	switch next(10) {
	case 0, 1:
		p.find(key)
	case 2, 3, 4:
		p.put(next(3), key, p.row(next(p.b.words+1))...)
	case 5:
		p.put(next(5)-1, key, p.row(next(p.b.words+2))...)
	case 6:
		p.del(key)
	case 7, 8:
		p.free(h)
	default:
		p.store(h, next(p.b.words+2)-1, p.row(1)[0])
	}
}

func TestMapsAreApart(t *testing.T) {
	for _, kind := range []int{array, hash, lru} {
		a, b := newPair(t, kind, 2, 2), newPair(t, kind, 2, 2)
		a.fillAll()
		b.seeAll()
		b.put(xmap.Any, 1, 5, 6)
		b.close()
		a.seeAll()
		a.put(xmap.Any, 0, 7)
		b.seeAll()
	}
}

// TestAskingChangesNothing: a map that was asked goes on like one that wasn't.
func TestAskingChangesNothing(t *testing.T) {
	for _, kind := range []int{array, hash, lru} {
		asked, quiet := newPair(t, kind, 3, 2), newPair(t, kind, 3, 2)
		asked.brief, quiet.brief = true, true
		next, same := numbers(7), numbers(7)
		keys := upTo(0, 6)
		for range 500 {
			asked.seeAll()
			asked.anyDeed(next, keys)
			quiet.anyDeed(same, keys)
		}
		quiet.seeAll()
	}
}

// TestNilMap: it is ErrState, however wrong the rest is.
func TestNilMap(t *testing.T) {
	var m *xmap.Map
	edges := []int{math.MinInt, -1, 0, 1, 2, 3, 4, 15, 16, 255, math.MaxInt}
	for _, key := range someKeys() {
		for _, ask := range []func(uint64) (handle, api.Errno){m.Find, m.Look, m.Del} {
			if h, e := ask(key); h != (handle{}) || e != api.ErrState {
				t.Error("Find, Look, Del", h, e)
			}
		}
		for _, how := range edges {
			for _, l := range [][]uint64{nil, {1}, {1, 2, 3, 4}, {1, 2, 3, 4, 5}} {
				if p, e := m.Put(how, key, l...); p != (xmap.Putting{}) || e != api.ErrState {
					t.Error("Put", p, e)
				}
			}
		}
	}
	for _, slot := range edges {
		for _, n := range edges {
			h := handle{Slot: slot, Gen: n}
			if x, e := m.Load(h, n); x != 0 || e != api.ErrState {
				t.Error("Load", x, e)
			}
			if e := m.Store(h, n, 5); e != api.ErrState {
				t.Error("Store", e)
			}
			if key, e := m.Key(h); key != 0 || e != api.ErrState {
				t.Error("Key", key, e)
			}
			if e := m.Free(h); e != api.ErrState || m.Linked(h) {
				t.Error("Free", e)
			}
		}
	}
	for range 2 {
		if len(m.Close()) != 0 || len(m.Keys()) != 0 || m.Len() != 0 || m.Held() != 0 || m.Kind() != 0 || m.Words() != 0 {
			t.Error(m.Keys(), m.Len(), m.Held(), m.Kind(), m.Words())
		}
	}
}

// TestMapThatNewDidNotMake: it holds nothing, and takes nothing.
func TestMapThatNewDidNotMake(t *testing.T) {
	m := new(xmap.Map)
	for range 2 {
		for _, key := range someKeys() {
			for _, how := range []int{-1, 0, 1, 2, 3} {
				if p, e := m.Put(how, key); p != (xmap.Putting{}) || e == api.OK {
					t.Error("Put", p, e)
				}
				if p, e := m.Put(how, key, 1); p != (xmap.Putting{}) || e == api.OK {
					t.Error("Put", p, e)
				}
			}
			for _, ask := range []func(uint64) (handle, api.Errno){m.Find, m.Look, m.Del} {
				if h, e := ask(key); h != (handle{}) || e == api.OK {
					t.Error(h, e)
				}
			}
		}
		for _, h := range []handle{{}, {Slot: 0, Gen: 1}, {Slot: -1, Gen: 1}} {
			if _, e := m.Key(h); e == api.OK || m.Free(h) == api.OK || m.Linked(h) || m.Store(h, 0, 5) == api.OK {
				t.Error(h, e)
			}
			if x, e := m.Load(h, 0); x != 0 || e == api.OK {
				t.Error(x, e)
			}
		}
		holds(t, m)
		if m.Held() != 0 || len(m.Close()) != 0 {
			t.Error(m.Held())
		}
	}
}

// The chapter's examples.

func TestExamples(t *testing.T) {
	m := made(t, xmap.LRU, 2, 1)
	puts(t, m, 5, []uint64{50}, xmap.Putting{H: handle{Slot: 0, Gen: 1}}, api.OK)
	puts(t, m, 6, []uint64{60}, xmap.Putting{H: handle{Slot: 1, Gen: 1}}, api.OK)
	if h, e := m.Find(5); h != (handle{Slot: 0, Gen: 1}) || e != api.OK {
		t.Error(h, e)
	}
	puts(t, m, 7, []uint64{70}, xmap.Putting{H: handle{Slot: 2, Gen: 1}, Gone: handle{Slot: 1, Gen: 1}, Out: true}, api.OK)
	holds(t, m, 5, 7)
	if m.Held() != 3 {
		t.Error(m.Held())
	}
	m = made(t, xmap.Hash, 1, 1)
	puts(t, m, 5, []uint64{50}, xmap.Putting{H: handle{Slot: 0, Gen: 1}}, api.OK)
	puts(t, m, 6, nil, xmap.Putting{}, api.ErrFull)
	m.Del(5)
	puts(t, m, 6, nil, xmap.Putting{H: handle{Slot: 1, Gen: 1}}, api.OK)
	h, _ := m.Del(6)
	puts(t, m, 7, nil, xmap.Putting{}, api.ErrMem)
	if e := m.Free(h); e != api.OK {
		t.Error(e)
	}
	puts(t, m, 7, nil, xmap.Putting{H: handle{Slot: 1, Gen: 2}}, api.OK)
}

// P1 and P2: every call ends without a panic at all arguments, and answers the same again.

func TestSameCallsSameAnswers(t *testing.T) {
	first := answers()
	for range 5 {
		if !slices.Equal(answers(), first) {
			t.Fatal("the same calls have other answers")
		}
	}
}

// answers are those of all calls, as numbers in a row.
func answers() []int {
	var l []int
	edges := []int{math.MinInt, -1, 0, 1, 2, 4, 8, 9, math.MaxInt}
	for i, kind := range []int{-1, 0, 1, 2, 3} {
		for _, n := range edges {
			m, e := xmap.New(kind, n, edges[(n&3+i)%len(edges)])
			l = append(l, int(e), m.Kind(), m.Words())
			next := numbers(uint64(i))
			edge := func() int { return edges[next(len(edges))] }
			for range 200 {
				key := uint64(next(12))
				h := handle{Slot: next(18) - 1, Gen: next(6)}
				if next(8) == 0 {
					h = handle{Slot: edge(), Gen: edge()}
				}
				p, e := m.Put(next(5)-1, key, make([]uint64, next(6))...)
				l = append(l, p.H.Slot, p.H.Gen, p.Gone.Slot, p.Gone.Gen, int(e))
				q, e := m.Find(uint64(next(12)))
				l = append(l, q.Slot, q.Gen, int(e))
				q, e = m.Look(key)
				l = append(l, q.Slot, q.Gen, int(e), int(m.Store(h, edge(), key)))
				x, e := m.Load(h, edge())
				l = append(l, int(x), int(e), m.Len(), m.Held())
				if next(3) == 0 {
					q, e = m.Del(key)
					l = append(l, q.Slot, q.Gen, int(e), int(m.Free(q)), int(m.Free(h)))
				}
				for _, k := range m.Keys() {
					l = append(l, int(k))
				}
			}
			for range 2 {
				for _, h := range m.Close() {
					key, e := m.Key(h)
					l = append(l, h.Slot, h.Gen, int(key), int(e))
				}
			}
		}
	}
	return l
}
