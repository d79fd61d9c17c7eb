package copier_test

import (
	"bytes"
	"math"
	"math/big"
	"slices"
	"testing"

	"detent/api"
	"detent/copier"
	"detent/user"
)

// sight is what a try meets: what the memory's pages are, its bytes, and whether the copy may wait. A nil memory has no pages.
type sight struct {
	none  bool
	pages []int
	bytes []byte
	wait  bool
}

// meet is what a try of that memory would meet.
func meet(m *user.Mem, wait bool) sight {
	s := sight{none: m == nil, wait: wait}
	for page := range m.Size() / 16 {
		s.pages = append(s.pages, m.State(page))
	}
	s.bytes, _ = m.Peek(0, m.Size())
	return s
}

// tale is a copy told in another way than the package does it: it keeps all that its tries met, and what the copy tells is found in that row each time it is asked.
type tale struct {
	out     bool
	addr, n int
	b       []byte // those of a copy out
	tries   []sight
}

// found is what a try comes to, from byte to byte, by numbers that don't run over; and the page that isn't there.
func (l *tale) found(s sight) (int, api.Errno) {
	end := new(big.Int).Add(big.NewInt(int64(l.addr)), big.NewInt(int64(l.n)))
	if s.none || l.addr < 0 || end.Cmp(big.NewInt(int64(16*len(s.pages)))) > 0 {
		return 0, api.ErrFault
	}
	for i := range l.n {
		page := (l.addr + i) / 16
		switch {
		case s.pages[page] == user.Bad, s.pages[page] == user.Absent && !s.wait:
			return 0, api.ErrFault
		case s.pages[page] == user.Absent:
			return page, api.ErrWait
		}
	}
	return 0, api.OK
}

// last is what the last try came to; a copy that was never tried has none.
func (l *tale) last() (int, api.Errno, bool) {
	if len(l.tries) == 0 {
		return 0, api.OK, false
	}
	page, e := l.found(l.tries[len(l.tries)-1])
	return page, e, true
}

func (l *tale) over() bool {
	_, e, tried := l.last()
	return tried && e != api.ErrWait
}

func (l *tale) try(s sight) api.Errno {
	if l.over() {
		return api.ErrState
	}
	l.tries = append(l.tries, s)
	_, e, _ := l.last()
	return e
}

func (l *tale) page() (int, bool) {
	page, e, tried := l.last()
	return page, tried && e == api.ErrWait
}

func (l *tale) bytes() []byte {
	_, e, _ := l.last()
	switch {
	case l.out:
		return l.b
	case !l.over():
		return nil
	case e == api.OK:
		return l.tries[len(l.tries)-1].bytes[l.addr : l.addr+l.n]
	}
	return make([]byte, l.n)
}

// pair is a copy beside its tale: each of its methods does the same with both, looks at all that they tell then, and ends the test if they part.
type pair struct {
	t *testing.T
	c *copier.Copy
	l *tale
}

func newIn(t *testing.T, addr, n int) *pair {
	t.Helper()
	p := &pair{t: t, c: in(t, addr, n), l: &tale{addr: addr, n: n}}
	p.look()
	return p
}

func newOut(t *testing.T, addr int, b ...byte) *pair {
	t.Helper()
	was := slices.Clone(b)
	p := &pair{t: t, c: out(t, addr, b...), l: &tale{out: true, addr: addr, n: len(b), b: was}}
	if !bytes.Equal(b, was) {
		t.Fatalf("Out(%d, %v) made them %v", addr, was, b)
	}
	p.look()
	return p
}

// bothWays are a copy in and a copy out of that piece.
func bothWays(t *testing.T, addr, n int) []*pair {
	t.Helper()
	return []*pair{newIn(t, addr, n), newOut(t, addr, stamped(addr, n)...)}
}

func in(t *testing.T, addr, n int) *copier.Copy {
	t.Helper()
	c, e := copier.In(addr, n)
	if e != api.OK || c == nil {
		t.Fatalf("In(%d, %d): %v, %d", addr, n, c, e)
	}
	return c
}

func out(t *testing.T, addr int, b ...byte) *copier.Copy {
	t.Helper()
	c, e := copier.Out(addr, b...)
	if e != api.OK || c == nil {
		t.Fatalf("Out(%d, %d bytes): %v, %d", addr, len(b), c, e)
	}
	return c
}

// try holds the answer against the tale, and the memory against what it was: other bytes than those of a copy out that succeeded are as before, and so are all pages.
func (p *pair) try(m *user.Mem, wait bool) api.Errno {
	p.t.Helper()
	was := meet(m, wait)
	want := p.l.try(was)
	e := p.c.Try(m, wait)
	if e != want {
		p.t.Fatalf("%s, pages %v: Try(.., %v): %d, not %d", p, was.pages, wait, e, want)
	}
	then := slices.Clone(was.bytes)
	if p.l.out && want == api.OK {
		then = slices.Concat(was.bytes[:p.l.addr], p.l.b, was.bytes[p.l.addr+p.l.n:])
	}
	is := meet(m, wait)
	if !bytes.Equal(is.bytes, then) {
		p.t.Fatalf("%s, pages %v: Try(.., %v) told %d, and left the bytes %v, not %v", p, was.pages, wait, e, is.bytes, then)
	}
	if !slices.Equal(is.pages, was.pages) {
		p.t.Fatalf("%s, pages %v: Try(.., %v) made them %v", p, was.pages, wait, is.pages)
	}
	p.look()
	return e
}

// look holds what the copy tells against the tale, twice, since telling changes nothing.
func (p *pair) look() {
	p.t.Helper()
	for range 2 {
		if b, want := p.c.Bytes(), p.l.bytes(); !bytes.Equal(b, want) {
			p.t.Fatalf("%s: Bytes: %v, not %v", p, b, want)
		}
		page, is := p.c.Page()
		if want, wanted := p.l.page(); page != want || is != wanted {
			p.t.Fatalf("%s: Page: %d, %v, not %d, %v", p, page, is, want, wanted)
		}
		if is, want := p.c.Over(), p.l.over(); is != want {
			p.t.Fatalf("%s: Over: %v", p, is)
		}
		if n, want := p.c.Tries(), len(p.l.tries); n != want {
			p.t.Fatalf("%s: Tries: %d, not %d", p, n, want)
		}
	}
}

// String names the copy where a test tells of it.
func (p *pair) String() string {
	name := "In("
	if p.l.out {
		name = "Out("
	}
	return name + big.NewInt(int64(p.l.addr)).String() + ", " + big.NewInt(int64(p.l.n)).String() + ") behind " + big.NewInt(int64(len(p.l.tries))).String()
}

// made is a memory of a page of each of the states, whose bytes are all other than 0.
func made(t *testing.T, states ...int) *user.Mem {
	t.Helper()
	m, e := user.New(len(states))
	if e != api.OK {
		t.Fatal(e)
	}
	m.Poke(0, stamped(len(states), m.Size())...)
	for page, s := range states {
		do(m, page, s)
	}
	return m
}

// do is Bring, Evict or Break, by what the page is to be.
func do(m *user.Mem, page, state int) {
	switch state {
	case user.Absent:
		m.Evict(page)
	case user.Present:
		m.Bring(page)
	default:
		m.Break(page)
	}
}

// stamped are n bytes that differ from those of other seeds, and of which none is 0.
func stamped(seed, n int) []byte {
	l := make([]byte, n)
	for i := range l {
		l[i] = byte(1 + (uint64(seed)*37+uint64(i)*11)%255)
	}
	return l
}

// everyStates are all rows of states of so many pages.
func everyStates(pages int) [][]int {
	if pages == 0 {
		return [][]int{nil}
	}
	var l [][]int
	for _, row := range everyStates(pages - 1) {
		for s := range 3 {
			l = append(l, append(slices.Clone(row), s))
		}
	}
	return l
}

// addresses are those at the edges of so many bytes, and of pages in them.
func addresses(size int) []int {
	l := []int{math.MinInt, math.MinInt + 1, -1 << 32, -size - 1, -size, -64, -17, -16, -15, -1,
		0, 1, 14, 15, 16, 17, size/2 - 1, size / 2, size - 17, size - 16, size - 15, size - 2, size - 1, size, size + 1, size + 15, size + 16, size + 17,
		255, 256, 257, 1 << 32, 1<<32 + 1, math.MaxInt - size, math.MaxInt - 64, math.MaxInt - 16, math.MaxInt - 1, math.MaxInt}
	slices.Sort(l)
	return slices.Compact(l)
}

// lengths are those of copies, at the edges of pages.
func lengths() []int {
	return []int{0, 1, 2, 15, 16, 17, 18, 31, 32, 33, 34, 47, 48, 49, 63, 64}
}

// noLengths are those that no copy has.
func noLengths() []int {
	return []int{math.MinInt, math.MinInt + 1, -1 << 32, -256, -65, -64, -2, -1, 65, 66, 127, 128, 255, 256, 257, 320, 1 << 32, 1<<32 + 1, math.MaxInt - 1, math.MaxInt}
}

// numbers gives numbers that look like chance, and are the same each time.
func numbers(seed uint64) func(below int) int {
	x := seed
	return func(below int) int {
		x = x*6364136223846793005 + 1442695040888963407
		return int((x ^ x>>29) >> 7 % uint64(below))
	}
}

func wantTry(t *testing.T, c *copier.Copy, m *user.Mem, wait bool, want api.Errno) {
	t.Helper()
	if e := c.Try(m, wait); e != want {
		t.Errorf("Try(.., %v): %d, not %d", wait, e, want)
	}
}

// wantNew, wantWaits and wantOver hold what a copy tells when it was never tried, while it waits, and when it is over.

func wantNew(t *testing.T, c *copier.Copy, b ...byte) {
	t.Helper()
	wantTold(t, c, 0, false, false, 0, b...)
}

func wantWaits(t *testing.T, c *copier.Copy, page, tries int, b ...byte) {
	t.Helper()
	wantTold(t, c, page, true, false, tries, b...)
}

func wantOver(t *testing.T, c *copier.Copy, tries int, b ...byte) {
	t.Helper()
	wantTold(t, c, 0, false, true, tries, b...)
}

func wantTold(t *testing.T, c *copier.Copy, page int, waits, over bool, tries int, b ...byte) {
	t.Helper()
	if l := c.Bytes(); !bytes.Equal(l, b) {
		t.Errorf("Bytes: %v, not %v", l, b)
	}
	if p, is := c.Page(); p != page || is != waits {
		t.Errorf("Page: %d, %v, not %d, %v", p, is, page, waits)
	}
	if is := c.Over(); is != over {
		t.Errorf("Over: %v", is)
	}
	if n := c.Tries(); n != tries {
		t.Errorf("Tries: %d, not %d", n, tries)
	}
}

func wantPeek(t *testing.T, m *user.Mem, addr int, want ...byte) {
	t.Helper()
	if l, e := m.Peek(addr, len(want)); e != api.OK || !bytes.Equal(l, want) {
		t.Errorf("the bytes from %d on: %v, %d, not %v", addr, l, e, want)
	}
}

// P14.1

func TestMost(t *testing.T) {
	if copier.Most != 64 {
		t.Error(copier.Most)
	}
}

func TestInOfSoMany(t *testing.T) {
	for _, addr := range addresses(32) {
		for n := range 65 {
			wantNew(t, in(t, addr, n))
		}
		for _, n := range noLengths() {
			if c, e := copier.In(addr, n); c != nil || e != api.ErrArg {
				t.Errorf("In(%d, %d): %v, %d", addr, n, c, e)
			}
		}
	}
}

func TestOutOfSoMany(t *testing.T) {
	for _, addr := range addresses(32) {
		for n := range 65 {
			wantNew(t, out(t, addr, stamped(n, n)...), stamped(n, n)...)
		}
		for _, n := range noLengths() {
			if n < 0 || n > 1000 {
				continue
			}
			if c, e := copier.Out(addr, stamped(n, n)...); c != nil || e != api.ErrArg {
				t.Errorf("Out(%d, %d bytes): %v, %d", addr, n, c, e)
			}
		}
	}
	if c, e := copier.Out(0, make([]byte, 1<<16+1)...); c != nil || e != api.ErrArg {
		t.Error(c, e)
	}
}

// TestTryAtTheEdges: of memories whose pages are all of one kind, and some of 16 pages of all kinds.
func TestTryAtTheEdges(t *testing.T) {
	for pages := 1; pages <= 16; pages++ {
		for s := range 4 {
			states := slices.Repeat([]int{s}, pages)
			if s == 3 {
				for page := range states {
					states[page] = (1 + page*page/3) % 3
				}
			}
			for _, addr := range addresses(16 * pages) {
				for _, n := range lengths() {
					for k := range 4 {
						p := bothWays(t, addr, n)[k/2]
						m := made(t, states...)
						p.try(m, k%2 == 0)
						p.try(m, k%2 == 1)
					}
				}
			}
		}
	}
}

// TestTryEveryPiece: of memories of one to three pages, whatever these are.
func TestTryEveryPiece(t *testing.T) {
	for pages := 1; pages <= 3; pages++ {
		for _, states := range everyStates(pages) {
			m := made(t, states...)
			for addr := -1; addr <= 16*pages+1; addr++ {
				for n := range 16*pages + 2 - max(addr, 0) {
					newIn(t, addr, n).try(m, true)
					newIn(t, addr, n).try(m, false)
				}
			}
		}
	}
}

func TestTryOutEveryPiece(t *testing.T) {
	for _, states := range everyStates(2) {
		for addr := -1; addr <= 33; addr++ {
			for n := range 34 - max(addr, 0) {
				m := made(t, states...)
				newOut(t, addr, stamped(3, n)...).try(m, true)
				newOut(t, addr, stamped(4, n)...).try(m, false)
			}
		}
	}
}

// TestTryByPages tells what is expected of rows of four pages without the tale.
func TestTryByPages(t *testing.T) {
	const a, p, b = user.Absent, user.Present, user.Bad
	cases := []struct {
		states  []int
		addr, n int
		wait    api.Errno // of one that may wait
		page    int
		once    api.Errno // of one that may not
	}{
		{[]int{p, p, p, p}, 0, 64, api.OK, 0, api.OK},
		{[]int{a, a, a, a}, 0, 64, api.ErrWait, 0, api.ErrFault},
		{[]int{b, b, b, b}, 0, 64, api.ErrFault, 0, api.ErrFault},
		{[]int{a, p, a, a}, 16, 16, api.OK, 0, api.OK},
		{[]int{p, a, p, p}, 20, 3, api.ErrWait, 1, api.ErrFault},
		{[]int{p, b, p, p}, 20, 3, api.ErrFault, 0, api.ErrFault},
		{[]int{p, p, a, p}, 31, 2, api.ErrWait, 2, api.ErrFault},
		{[]int{a, p, p, a}, 31, 2, api.OK, 0, api.OK},
		{[]int{p, p, b, p}, 31, 2, api.ErrFault, 0, api.ErrFault},
		{[]int{p, a, b, p}, 0, 64, api.ErrWait, 1, api.ErrFault},
		{[]int{p, b, a, p}, 0, 64, api.ErrFault, 0, api.ErrFault},
		{[]int{a, p, p, b}, 15, 34, api.ErrWait, 0, api.ErrFault},
		{[]int{b, p, p, a}, 15, 34, api.ErrFault, 0, api.ErrFault},
		{[]int{b, p, p, a}, 16, 33, api.ErrWait, 3, api.ErrFault},
		{[]int{b, a, b, a}, 63, 1, api.ErrWait, 3, api.ErrFault},
		{[]int{b, p, p, p}, 15, 1, api.ErrFault, 0, api.ErrFault},
		{[]int{b, p, p, p}, 16, 1, api.OK, 0, api.OK},
		{[]int{p, a, p, p}, 0, 16, api.OK, 0, api.OK},
		{[]int{p, a, p, p}, 0, 17, api.ErrWait, 1, api.ErrFault},
	}
	for _, x := range cases {
		for _, wait := range []bool{true, false} {
			want, page := x.wait, x.page
			if !wait {
				want, page = x.once, 0
			}
			for k, p := range bothWays(t, x.addr, x.n) {
				m := made(t, x.states...)
				if e := p.try(m, wait); e != want {
					t.Errorf("%d: pages %v: a copy of (%d, %d), which may wait: %v: %d, not %d", k, x.states, x.addr, x.n, wait, e, want)
				}
				if is, waits := p.c.Page(); is != page || waits != (want == api.ErrWait) {
					t.Errorf("%d: pages %v: a copy of (%d, %d) waits for %d, %v", k, x.states, x.addr, x.n, is, waits)
				}
			}
		}
	}
}

// TestTryOfNothing: a piece of no bytes is in no page, but has to be within the memory.
func TestTryOfNothing(t *testing.T) {
	for s := range 3 {
		for _, wait := range []bool{true, false} {
			m := made(t, s, s)
			for addr := range 33 {
				for _, p := range bothWays(t, addr, 0) {
					if e := p.try(m, wait); e != api.OK {
						t.Errorf("pages %d: of nothing at %d: %d", s, addr, e)
					}
					wantOver(t, p.c, 1)
				}
			}
			for _, addr := range []int{math.MinInt, -1, 33, 34, 64, math.MaxInt} {
				for _, p := range bothWays(t, addr, 0) {
					if e := p.try(m, wait); e != api.ErrFault {
						t.Errorf("pages %d: of nothing at %d: %d", s, addr, e)
					}
					wantOver(t, p.c, 1)
				}
			}
		}
	}
}

// TestTryAtTheEnd: one byte behind the end it fails, whatever the pages are, and doesn't wait.
func TestTryAtTheEnd(t *testing.T) {
	for s, want := range []api.Errno{api.ErrWait, api.OK, api.ErrFault} {
		for n := 1; n <= 32; n++ {
			for _, p := range bothWays(t, 32-n, n) {
				if e := p.try(made(t, s, s), true); e != want {
					t.Errorf("pages %d: %d bytes to the end: %d, not %d", s, n, e, want)
				}
			}
			for _, p := range bothWays(t, 33-n, n) {
				if e := p.try(made(t, s, s), true); e != api.ErrFault {
					t.Errorf("pages %d: %d bytes to behind the end: %d", s, n, e)
				}
			}
		}
		for _, p := range bothWays(t, 0, 33) {
			if e := p.try(made(t, s, s), true); e != api.ErrFault {
				t.Errorf("pages %d: one byte more than there are: %d", s, e)
			}
		}
	}
}

func TestTryOfNilMemory(t *testing.T) {
	for _, addr := range addresses(16) {
		for _, n := range lengths() {
			for _, wait := range []bool{true, false} {
				c := in(t, addr, n)
				wantTry(t, c, nil, wait, api.ErrFault)
				wantOver(t, c, 1, make([]byte, n)...)
				wantTry(t, c, nil, wait, api.ErrState)
				c = out(t, addr, stamped(2, n)...)
				wantTry(t, c, nil, wait, api.ErrFault)
				wantOver(t, c, 1, stamped(2, n)...)
				wantTry(t, c, nil, wait, api.ErrState)
			}
		}
	}
}

// TestNilMemoryWhileWaiting: one that waits fails with it, too.
func TestNilMemoryWhileWaiting(t *testing.T) {
	for _, p := range bothWays(t, 3, 5) {
		p.try(made(t, user.Absent), true)
		if e := p.try(nil, true); e != api.ErrFault {
			t.Error(e)
		}
	}
}

func TestPageCame(t *testing.T) {
	for _, p := range bothWays(t, 10, 20) {
		m := made(t, user.Absent, user.Absent, user.Absent)
		wants := []struct {
			state, page int
			want        api.Errno
		}{{user.Absent, 0, api.ErrWait}, {user.Present, 0, api.ErrWait}, {user.Present, 2, api.ErrWait}, {user.Present, 1, api.OK}}
		for i, x := range wants {
			do(m, x.page, x.state)
			if e := p.try(m, true); e != x.want {
				t.Errorf("%d: %d, not %d", i, e, x.want)
			}
		}
		if p.c.Tries() != 4 {
			t.Error(p.c.Tries())
		}
	}
}

// TestPageWentAgain: a try begins from the beginning, so that a page that was there may be waited for again.
func TestPageWentAgain(t *testing.T) {
	for _, p := range bothWays(t, 10, 20) {
		m := made(t, user.Absent, user.Absent)
		p.try(m, true)
		do(m, 0, user.Present)
		do(m, 0, user.Absent)
		p.try(m, true)
		if page, is := p.c.Page(); page != 0 || !is {
			t.Error(page, is)
		}
		do(m, 0, user.Present)
		p.try(m, true)
		if page, is := p.c.Page(); page != 1 || !is {
			t.Error(page, is)
		}
		do(m, 0, user.Absent)
		do(m, 1, user.Present)
		p.try(m, true)
		if page, is := p.c.Page(); page != 0 || !is {
			t.Error(page, is)
		}
		do(m, 0, user.Present)
		if e := p.try(m, true); e != api.OK || p.c.Tries() != 5 {
			t.Error(e, p.c.Tries())
		}
	}
}

func TestPageBecameBad(t *testing.T) {
	for _, x := range []struct{ came, broke int }{{-1, 0}, {0, 0}, {0, 1}, {1, 0}} {
		for _, p := range bothWays(t, 10, 20) {
			m := made(t, user.Absent, user.Absent)
			p.try(m, true)
			do(m, x.came, user.Present)
			p.try(m, true)
			do(m, x.broke, user.Bad)
			if e := p.try(m, true); e != api.ErrFault || p.c.Tries() != 3 {
				t.Error(x, e, p.c.Tries())
			}
		}
	}
}

// TestLaterPageBecameBad: it is waited for the first one still; when that came, the copy fails.
func TestLaterPageBecameBad(t *testing.T) {
	for _, p := range bothWays(t, 10, 30) {
		m := made(t, user.Absent, user.Absent, user.Absent)
		p.try(m, true)
		do(m, 2, user.Bad)
		if e := p.try(m, true); e != api.ErrWait {
			t.Error(e)
		}
		do(m, 0, user.Present)
		if e := p.try(m, true); e != api.ErrWait {
			t.Error(e)
		}
		do(m, 1, user.Present)
		if e := p.try(m, true); e != api.ErrFault {
			t.Error(e)
		}
	}
}

// TestMayWaitNoMore: whether it may wait is told anew with each try.
func TestMayWaitNoMore(t *testing.T) {
	for _, p := range bothWays(t, 10, 20) {
		m := made(t, user.Present, user.Absent)
		for range 3 {
			p.try(m, true)
		}
		if e := p.try(m, false); e != api.ErrFault || p.c.Tries() != 4 {
			t.Error(e, p.c.Tries())
		}
		do(m, 1, user.Present)
		p.try(m, true)
	}
	for _, p := range bothWays(t, 10, 20) {
		m := made(t, user.Present, user.Absent)
		p.try(m, true)
		do(m, 1, user.Present)
		if e := p.try(m, false); e != api.OK {
			t.Error(e)
		}
	}
}

// TestTryOfOneThatIsOver: ErrState, whatever would make it succeed, wait or fail; the same bytes, the same number of tries.
func TestTryOfOneThatIsOver(t *testing.T) {
	for _, first := range []int{user.Present, user.Bad, user.Absent} {
		for _, p := range bothWays(t, 10, 20) {
			m := made(t, user.Present, first)
			p.try(m, false)
			told := p.c.Bytes()
			m.Poke(0, stamped(9, 32)...)
			for _, s := range []int{user.Present, user.Absent, user.Bad} {
				do(m, 1, s)
				for _, other := range []*user.Mem{m, nil, made(t, user.Present, user.Present)} {
					for _, wait := range []bool{true, false} {
						if e := p.try(other, wait); e != api.ErrState {
							t.Errorf("page %d, then %d: %d", first, s, e)
						}
					}
				}
			}
			if n := p.c.Tries(); n != 1 {
				t.Errorf("Tries: %d", n)
			}
			if !bytes.Equal(p.c.Bytes(), told) {
				t.Errorf("Bytes: %v, not %v", p.c.Bytes(), told)
			}
		}
	}
}

func TestAnotherMemory(t *testing.T) {
	for _, p := range bothWays(t, 10, 20) {
		a, b, c := made(t, user.Present, user.Absent), made(t, user.Absent, user.Absent, user.Present), made(t, user.Present, user.Present)
		c.Poke(0, stamped(77, 32)...)
		p.try(a, true)
		if page, is := p.c.Page(); page != 1 || !is {
			t.Error(page, is)
		}
		p.try(b, true)
		if page, is := p.c.Page(); page != 0 || !is {
			t.Error(page, is)
		}
		if e := p.try(c, true); e != api.OK || p.c.Tries() != 3 {
			t.Error(e, p.c.Tries())
		}
		if !p.l.out && !bytes.Equal(p.c.Bytes(), stamped(77, 32)[10:30]) {
			t.Error(p.c.Bytes())
		}
		if e := p.try(a, true); e != api.ErrState {
			t.Error(e)
		}
	}
	// One whose memory is less: the piece isn't within it.
	for _, p := range bothWays(t, 10, 20) {
		p.try(made(t, user.Absent, user.Present), true)
		if e := p.try(made(t, user.Absent), true); e != api.ErrFault {
			t.Error(e)
		}
	}
}

// P14.2

// TestToldOfIn: what a copy in tells at each of its times.
func TestToldOfIn(t *testing.T) {
	m := made(t, user.Present, user.Absent)
	m.Poke(14, 1, 2, 3, 4)
	c := in(t, 14, 4)
	wantNew(t, c)
	for tries := 1; tries <= 5; tries++ {
		wantTry(t, c, m, true, api.ErrWait)
		wantWaits(t, c, 1, tries)
	}
	do(m, 1, user.Present)
	wantWaits(t, c, 1, 5)
	wantTry(t, c, m, true, api.OK)
	wantOver(t, c, 6, 1, 2, 3, 4)
	wantTry(t, c, m, true, api.ErrState)
	wantOver(t, c, 6, 1, 2, 3, 4)

	c = in(t, 14, 4)
	wantTry(t, c, m, false, api.OK)
	wantOver(t, c, 1, 1, 2, 3, 4)

	do(m, 1, user.Absent)
	c = in(t, 14, 4)
	wantTry(t, c, m, true, api.ErrWait)
	do(m, 1, user.Bad)
	wantWaits(t, c, 1, 1)
	wantTry(t, c, m, true, api.ErrFault)
	wantOver(t, c, 2, 0, 0, 0, 0)
	wantTry(t, c, m, true, api.ErrState)
	wantOver(t, c, 2, 0, 0, 0, 0)

	c = in(t, 14, 4)
	wantTry(t, c, m, false, api.ErrFault)
	wantOver(t, c, 1, 0, 0, 0, 0)
}

// TestToldOfOut: a copy out tells its bytes at all times, also when it has failed.
func TestToldOfOut(t *testing.T) {
	m := made(t, user.Present, user.Absent)
	c := out(t, 14, 1, 2, 3, 4)
	wantNew(t, c, 1, 2, 3, 4)
	for tries := 1; tries <= 5; tries++ {
		wantTry(t, c, m, true, api.ErrWait)
		wantWaits(t, c, 1, tries, 1, 2, 3, 4)
	}
	do(m, 1, user.Present)
	wantWaits(t, c, 1, 5, 1, 2, 3, 4)
	wantTry(t, c, m, true, api.OK)
	wantOver(t, c, 6, 1, 2, 3, 4)
	wantPeek(t, m, 14, 1, 2, 3, 4)
	m.Poke(14, 9, 9, 9, 9)
	wantTry(t, c, m, true, api.ErrState)
	wantOver(t, c, 6, 1, 2, 3, 4)
	wantPeek(t, m, 14, 9, 9, 9, 9)

	do(m, 1, user.Absent)
	c = out(t, 14, 1, 2, 3, 4)
	wantTry(t, c, m, true, api.ErrWait)
	do(m, 1, user.Bad)
	wantTry(t, c, m, true, api.ErrFault)
	wantOver(t, c, 2, 1, 2, 3, 4)
	wantTry(t, c, m, true, api.ErrState)
	wantOver(t, c, 2, 1, 2, 3, 4)

	c = out(t, 14, 1, 2, 3, 4)
	wantTry(t, c, m, false, api.ErrFault)
	wantOver(t, c, 1, 1, 2, 3, 4)
	wantPeek(t, m, 14, 9, 9, 9, 9)
}

// TestZerosOfEveryLength: as many as there would have been bytes, wherever the piece was.
func TestZerosOfEveryLength(t *testing.T) {
	for n := range 65 {
		for _, addr := range []int{math.MinInt, -1, 0, 60, 127, 128, 129, math.MaxInt} {
			for k := range 4 {
				c := in(t, addr, n)
				want := make([]byte, n)
				switch {
				case k == 0:
					wantTry(t, c, nil, true, api.ErrFault)
				case k == 1 && n > 0:
					wantTry(t, c, made(t, 2, 2, 2, 2, 2, 2, 2, 2), true, api.ErrFault)
				case k == 2 && n > 0:
					wantTry(t, c, made(t, 0, 0, 0, 0, 0, 0, 0, 0), false, api.ErrFault)
				case addr < 0 || addr > 16:
					wantTry(t, c, made(t, 1), false, api.ErrFault)
				default:
					continue
				}
				wantOver(t, c, 1, want...)
			}
		}
	}
}

// TestPageByPage: a copy of five pages waits for one behind the other, the last one as well as the first.
func TestPageByPage(t *testing.T) {
	for addr := 1; addr < 16; addr++ {
		for _, p := range bothWays(t, 16*11+addr, 64) {
			m := made(t, make([]int, 16)...)
			for i := range 5 {
				if e := p.try(m, true); e != api.ErrWait {
					t.Fatal(i, e)
				}
				if page, is := p.c.Page(); page != 11+i || !is {
					t.Errorf("%d: %d, %v", i, page, is)
				}
				do(m, 11+i, user.Present)
			}
			if e := p.try(m, true); e != api.OK || p.c.Tries() != 6 {
				t.Error(e, p.c.Tries())
			}
		}
	}
}

// TestBytesAreNew: who changes what was told changes neither the copy, nor the memory, nor what was told before.
func TestBytesAreNew(t *testing.T) {
	for _, wait := range []bool{true, false} {
		for _, states := range [][]int{{1, 1}, {1, 0}, {1, 2}} {
			for _, p := range bothWays(t, 10, 20) {
				m := made(t, states...)
				for range 3 {
					was := meet(m, wait)
					a, b := p.c.Bytes(), p.c.Bytes()
					for i := range a {
						a[i] ^= 255
					}
					_ = append(a, 1, 2, 3)
					if !bytes.Equal(b, p.l.bytes()) {
						t.Errorf("%s: two lists share", p)
					}
					p.look()
					if !bytes.Equal(meet(m, wait).bytes, was.bytes) {
						t.Errorf("%s: a list shares with the memory", p)
					}
					p.try(m, wait)
				}
			}
		}
	}
}

// TestBytesOfNothingAreNew: one who lays something behind them doesn't lay it into the copy.
func TestBytesOfNothingAreNew(t *testing.T) {
	m := made(t, user.Present)
	l := stamped(5, 10)
	for _, p := range []*pair{newIn(t, 4, 0), newOut(t, 4), newOut(t, 4, l[:0]...)} {
		for range 2 {
			_ = append(p.c.Bytes(), 9, 9)
			p.look()
			wantPeek(t, m, 0, stamped(1, 16)...)
			p.try(m, true)
		}
	}
	if !bytes.Equal(l, stamped(5, 10)) {
		t.Error(l)
	}
}

func TestOutKeepsNothing(t *testing.T) {
	for _, n := range []int{1, 2, 15, 20, 64} {
		m := made(t, user.Present, user.Present, user.Absent, user.Present, user.Present)
		b := stamped(3, n)
		was := slices.Clone(b)
		c := out(t, 1, b...)
		for i := range b {
			b[i] ^= 255
		}
		wantNew(t, c, was...)
		if c.Try(m, true) == api.ErrWait {
			wantWaits(t, c, 2, 1, was...)
			do(m, 2, user.Present)
			wantTry(t, c, m, true, api.OK)
		}
		wantPeek(t, m, 1, was...)
		for i := range b {
			b[i]++
		}
		wantPeek(t, m, 1, was...)
		wantOver(t, c, c.Tries(), was...)
	}
}

// TestOutChangesNothingHandedIn: nor what stands behind it.
func TestOutChangesNothingHandedIn(t *testing.T) {
	l := stamped(4, 80)
	for _, b := range [][]byte{l[3:9], l[3:67], l[3:68], l[5:5]} {
		m := made(t, user.Present, user.Present, user.Present, user.Present, user.Present)
		c, e := copier.Out(2, b...)
		if len(b) > 64 {
			if e != api.ErrArg {
				t.Error(e)
			}
		} else {
			wantTry(t, c, m, true, api.OK)
			_ = append(c.Bytes(), 1)
			m.Poke(0, make([]byte, 80)...)
		}
		if !bytes.Equal(l, stamped(4, 80)) {
			t.Fatal(l)
		}
	}
}

// P14.3

// TestBytesOfTheLastTry: a copy in tells what the memory had then: not what it had at an earlier try, nor what it has now.
func TestBytesOfTheLastTry(t *testing.T) {
	m := made(t, user.Present, user.Absent)
	c := in(t, 14, 4)
	m.Poke(14, 1, 2, 3, 4)
	wantTry(t, c, m, true, api.ErrWait)
	m.Poke(14, 5, 6, 7, 8)
	wantWaits(t, c, 1, 1)
	wantTry(t, c, m, true, api.ErrWait)
	m.Poke(15, 9)
	do(m, 1, user.Present)
	m.Poke(16, 10)
	wantTry(t, c, m, true, api.OK)
	wantOver(t, c, 3, 5, 9, 10, 8)
	m.Poke(14, 11, 12, 13, 14)
	wantOver(t, c, 3, 5, 9, 10, 8)
	do(m, 1, user.Bad)
	do(m, 0, user.Absent)
	wantOver(t, c, 3, 5, 9, 10, 8)
}

// TestZerosStay: those of a copy that has failed, though the pages come and the bytes be others.
func TestZerosStay(t *testing.T) {
	m := made(t, user.Present, user.Absent)
	c := in(t, 14, 4)
	wantTry(t, c, m, false, api.ErrFault)
	do(m, 1, user.Present)
	m.Poke(14, 1, 2, 3, 4)
	wantTry(t, c, m, true, api.ErrState)
	wantOver(t, c, 1, 0, 0, 0, 0)
}

// TestOutChangesNothingAheadOfItsEnd: not even in those pages that are there.
func TestOutChangesNothingAheadOfItsEnd(t *testing.T) {
	m := made(t, user.Present, user.Present, user.Absent)
	want := stamped(3, 48)
	c := out(t, 10, stamped(50, 30)...)
	wantPeek(t, m, 0, want...)
	for range 3 {
		wantTry(t, c, m, true, api.ErrWait)
		wantPeek(t, m, 0, want...)
	}
	do(m, 2, user.Bad)
	wantTry(t, c, m, true, api.ErrFault)
	wantPeek(t, m, 0, want...)
	c = out(t, 10, stamped(50, 39)...)
	wantTry(t, c, m, true, api.ErrFault)
	wantPeek(t, m, 0, want...)

	m = made(t, user.Present, user.Present, user.Present)
	c = out(t, 10, stamped(50, 30)...)
	wantTry(t, c, m, true, api.OK)
	wantPeek(t, m, 0, slices.Concat(want[:10], stamped(50, 30), want[40:])...)
}

// TestOutOverWhatWasPoked: what was poked between two tries is overwritten in its piece alone.
func TestOutOverWhatWasPoked(t *testing.T) {
	m := made(t, user.Absent)
	c := out(t, 4, 1, 2, 3)
	wantTry(t, c, m, true, api.ErrWait)
	m.Poke(0, 90, 91, 92, 93, 94, 95, 96, 97)
	wantPeek(t, m, 0, 90, 91, 92, 93, 94, 95, 96, 97)
	do(m, 0, user.Present)
	wantTry(t, c, m, true, api.OK)
	wantPeek(t, m, 0, 90, 91, 92, 93, 1, 2, 3, 97)
}

func TestOverBehindOneTry(t *testing.T) {
	for pages := 1; pages <= 4; pages++ {
		for _, states := range everyStates(pages) {
			for _, x := range [][2]int{{0, 0}, {0, 1}, {0, 16}, {15, 2}, {5, 40}, {0, 64}, {1, 64}, {-1, 4}, {16 * pages, 0}, {16*pages - 1, 1}} {
				for _, p := range bothWays(t, x[0], x[1]) {
					e := p.try(made(t, states...), false)
					if e != api.OK && e != api.ErrFault || !p.c.Over() || p.c.Tries() != 1 {
						t.Errorf("pages %v, piece %v: %d, %v, %d", states, x, e, p.c.Over(), p.c.Tries())
					}
				}
			}
		}
	}
}

// TestAllWays: every row of five steps with a copy of two pages.
func TestAllWays(t *testing.T) {
	steps := []func(*pair, *user.Mem){
		func(p *pair, m *user.Mem) { do(m, 0, user.Present) },
		func(p *pair, m *user.Mem) { do(m, 0, user.Absent) },
		func(p *pair, m *user.Mem) { do(m, 0, user.Bad) },
		func(p *pair, m *user.Mem) { do(m, 1, user.Present) },
		func(p *pair, m *user.Mem) { do(m, 1, user.Absent) },
		func(p *pair, m *user.Mem) { m.Poke(15, 3, 4) },
		func(p *pair, m *user.Mem) { p.try(m, true) },
		func(p *pair, m *user.Mem) { p.try(m, false) },
	}
	n := len(steps)
	for way := range n * n * n * n * n {
		for _, p := range bothWays(t, 14, 4) {
			m := made(t, user.Absent, user.Present)
			for rest, i := way, 0; i < 5; rest, i = rest/n, i+1 {
				steps[rest%n](p, m)
			}
			p.try(m, true)
			p.try(m, true)
		}
	}
}

// TestLikeTheTale: many copies under way with three memories, in and out of one another.
func TestLikeTheTale(t *testing.T) {
	for seed := range 40 {
		next := numbers(uint64(seed))
		var mems []*user.Mem
		for range 3 {
			mems = append(mems, made(t, make([]int, 1+next(6))...))
		}
		var pairs []*pair
		for range 600 {
			m := mems[next(3)]
			switch next(6) {
			case 0:
				pairs = append(pairs, bothWays(t, next(100)-2, next(65))[next(2)])
			case 1:
				m.Poke(next(m.Size()), byte(next(256)))
			case 2, 3:
				do(m, next(6), next(40)*3/80)
			case 4:
				if next(30) == 0 {
					do(m, next(6), user.Bad)
				}
			default:
				if len(pairs) > 0 {
					pairs[next(len(pairs))].try(m, next(4) > 0)
				}
			}
		}
		for _, p := range pairs {
			p.look()
		}
	}
}

func TestNil(t *testing.T) {
	var c *copier.Copy
	m := made(t, user.Present, user.Absent)
	for _, other := range []*user.Mem{m, nil} {
		for _, wait := range []bool{true, false} {
			wantTry(t, c, other, wait, api.ErrState)
			wantNew(t, c)
		}
	}
	wantPeek(t, m, 0, stamped(2, 32)...)
}

// TestZero: a copy that neither In nor Out made is over; its calls end, and don't panic.
func TestZero(t *testing.T) {
	var c copier.Copy
	m := made(t, user.Present, user.Absent)
	for _, other := range []*user.Mem{m, nil} {
		for _, wait := range []bool{true, false} {
			wantOver(t, &c, 0)
			wantTry(t, &c, other, wait, api.ErrState)
		}
	}
	wantOver(t, &c, 0)
	wantPeek(t, m, 0, stamped(2, 32)...)
}

// TestZeroMemory: one that New did not make has no pages, so that only the empty piece at 0 is within it.
func TestZeroMemory(t *testing.T) {
	for _, addr := range addresses(16) {
		for _, n := range lengths() {
			for _, p := range bothWays(t, addr, n) {
				p.try(new(user.Mem), true)
			}
		}
	}
}

// The rules of all layers: a copy changes itself alone, beside the memory that a copy out is to change.

func TestCopiesAreApart(t *testing.T) {
	m := made(t, user.Present, user.Absent)
	pairs := append(bothWays(t, 14, 4), bothWays(t, 14, 4)...)
	pairs = append(pairs, newIn(t, 0, 16), newOut(t, 16, 7))
	for _, p := range pairs {
		p.try(m, true)
		for _, other := range pairs {
			other.look()
		}
	}
	do(m, 1, user.Present)
	for _, p := range slices.Backward(pairs) {
		p.try(m, true)
		for _, other := range pairs {
			other.look()
		}
	}
}

// TestCopyByValueIsApart: a copy is a value, of which another has all that it had.
func TestCopyByValueIsApart(t *testing.T) {
	for _, p := range bothWays(t, 14, 4) {
		m := made(t, user.Present, user.Absent)
		p.try(m, true)
		c := *p.c
		wantWaits(t, &c, 1, 1, p.l.bytes()...)
		was := stamped(2, 32)
		do(m, 1, user.Present)
		wantTry(t, &c, m, true, api.OK)
		p.look()
		if p.l.out {
			wantOver(t, &c, 2, p.l.b...)
		} else {
			wantOver(t, &c, 2, was[14:18]...)
		}
		do(m, 1, user.Bad)
		if e := p.try(m, true); e != api.ErrFault {
			t.Error(e)
		}
		if !p.l.out {
			wantOver(t, &c, 2, was[14:18]...)
		}
	}
}

// P2

func TestSameAgain(t *testing.T) {
	run := func() []int {
		next := numbers(31)
		var l []int
		m := made(t, make([]int, 5)...)
		c := in(t, 0, 64)
		for range 3000 {
			switch next(4) {
			case 0:
				c, _ = copier.In(next(70), next(30))
			case 1:
				c, _ = copier.Out(next(70), stamped(next(9), next(30))...)
			case 2:
				do(m, next(5), next(40)*3/80)
			}
			e := c.Try(m, next(3) > 0)
			page, is := c.Page()
			if !is {
				page--
			}
			l = append(l, int(e), page, c.Tries())
			all, _ := m.Peek(0, m.Size())
			for _, b := range append(all, c.Bytes()...) {
				l = append(l, int(b))
			}
		}
		return l
	}
	if !slices.Equal(run(), run()) {
		t.Error("another time, other answers")
	}
}

func TestExample(t *testing.T) {
	m, _ := user.New(2)
	m.Bring(0)
	m.Poke(14, 1, 2, 3, 4)
	once := in(t, 14, 4)
	wantTry(t, once, m, false, api.ErrFault)
	wantOver(t, once, 1, 0, 0, 0, 0)
	c := in(t, 14, 4)
	wantTry(t, c, m, true, api.ErrWait)
	wantWaits(t, c, 1, 1)
	m.Bring(1)
	wantTry(t, c, m, true, api.OK)
	wantOver(t, c, 2, 1, 2, 3, 4)
	wantOver(t, once, 1, 0, 0, 0, 0)
}
