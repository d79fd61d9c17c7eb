package user_test

import (
	"bytes"
	"math"
	"math/big"
	"slices"
	"testing"

	"detent/api"
	"detent/user"
)

// poke is one that was taken, in a book.
type poke struct {
	addr int
	b    []byte
}

// deed is something that was done with a page, and wasn't refused.
type deed struct {
	page, state int
}

// book is a memory told in another way than the package does it: it keeps a row of the pokes and one of the deeds, of which the last one tells. What a memory answers is held against it.
type book struct {
	pages int
	pokes []poke
	deeds []deed
}

func (b *book) size() int {
	return 16 * b.pages
}

// within asks by numbers that don't run over.
func (b *book) within(addr, n int) bool {
	end := new(big.Int).Add(big.NewInt(int64(addr)), big.NewInt(int64(n)))
	return addr >= 0 && n >= 0 && end.Cmp(big.NewInt(int64(b.size()))) <= 0
}

func (b *book) poke(addr int, l ...byte) api.Errno {
	if !b.within(addr, len(l)) {
		return api.ErrRange
	}
	b.pokes = append(b.pokes, poke{addr, slices.Clone(l)})
	return api.OK
}

func (b *book) byteAt(addr int) byte {
	for _, p := range slices.Backward(b.pokes) {
		if addr >= p.addr && addr < p.addr+len(p.b) {
			return p.b[addr-p.addr]
		}
	}
	return 0
}

func (b *book) peek(addr, n int) ([]byte, api.Errno) {
	if !b.within(addr, n) {
		return nil, api.ErrRange
	}
	var l []byte
	for i := range n {
		l = append(l, b.byteAt(addr+i))
	}
	return l, api.OK
}

func (b *book) isPage(page int) bool {
	return page >= 0 && page <= b.pages-1
}

func (b *book) state(page int) int {
	if !b.isPage(page) {
		return 2
	}
	for _, d := range slices.Backward(b.deeds) {
		if d.page == page {
			return d.state
		}
	}
	return 0
}

// do is Bring, Evict or Break, by what the page is to be.
func (b *book) do(page, state int) api.Errno {
	if !b.isPage(page) {
		return api.ErrRange
	}
	// By what it is to be, and what it is: absent, present, bad.
	wrong := [3][3]api.Errno{
		{api.ErrNone, api.OK, api.ErrNone},
		{api.OK, api.ErrTwice, api.ErrFault},
		{api.OK, api.OK, api.ErrTwice},
	}
	e := wrong[state][b.state(page)]
	if e == api.OK {
		b.deeds = append(b.deeds, deed{page, state})
	}
	return e
}

func (b *book) states() []int {
	var l []int
	for page := range b.pages {
		l = append(l, b.state(page))
	}
	return l
}

// touch goes from byte to byte, by what the pages are.
func (b *book) touch(states []int, addr, n int) (int, api.Errno) {
	if !b.within(addr, n) {
		return 0, api.ErrRange
	}
	for i := range n {
		page := (addr + i) / 16
		switch states[page] {
		case 0:
			return page, api.ErrWait
		case 2:
			return page, api.ErrFault
		}
	}
	return 0, api.OK
}

// pair is a memory beside its book: each of its methods does the same with both, looks at all that they tell then, and ends the test if they part.
type pair struct {
	t *testing.T
	m *user.Mem
	b *book
}

func newPair(t *testing.T, pages int) *pair {
	t.Helper()
	p := &pair{t: t, m: made(t, pages), b: &book{pages: pages}}
	p.look()
	return p
}

// pairOf has a page of each of the states.
func pairOf(t *testing.T, states ...int) *pair {
	t.Helper()
	p := &pair{t: t, m: made(t, len(states)), b: &book{pages: len(states)}}
	for page, s := range states {
		if s != user.Absent {
			p.step(page, s)
		}
	}
	p.look()
	return p
}

func made(t *testing.T, pages int) *user.Mem {
	t.Helper()
	m, e := user.New(pages)
	if e != api.OK || m == nil {
		t.Fatalf("New(%d): %v, %d", pages, m, e)
	}
	return m
}

func (p *pair) poke(addr int, l ...byte) {
	p.t.Helper()
	was := slices.Clone(l)
	want := p.b.poke(addr, l...)
	if e := p.m.Poke(addr, l...); e != want {
		p.t.Fatalf("%d pages: Poke(%d, %d bytes): %d, not %d", p.b.pages, addr, len(l), e, want)
	}
	if !bytes.Equal(l, was) {
		p.t.Fatalf("%d pages: Poke(%d, %v) made them %v", p.b.pages, addr, was, l)
	}
	p.look()
}

func (p *pair) peek(addr, n int) {
	p.t.Helper()
	want, wrong := p.b.peek(addr, n)
	l, e := p.m.Peek(addr, n)
	if e != wrong || !bytes.Equal(l, want) {
		p.t.Fatalf("%d pages: Peek(%d, %d): %v, %d, not %v, %d", p.b.pages, addr, n, l, e, want, wrong)
	}
}

func (p *pair) do(page, state int) {
	p.t.Helper()
	p.step(page, state)
	p.look()
}

// step does without looking at all the rest.
func (p *pair) step(page, state int) {
	p.t.Helper()
	was := p.b.state(page)
	want := p.b.do(page, state)
	if e := doTo(p.m, page, state); e != want {
		p.t.Fatalf("%d pages: page %d, which is %d, is to be %d: %d, not %d", p.b.pages, page, was, state, e, want)
	}
}

// doTo is Bring, Evict or Break, by what the page is to be.
func doTo(m *user.Mem, page, state int) api.Errno {
	switch state {
	case user.Absent:
		return m.Evict(page)
	case user.Present:
		return m.Bring(page)
	}
	return m.Break(page)
}

func (p *pair) touch(addr, n int) {
	p.t.Helper()
	p.touchBy(p.b.states(), addr, n)
}

func (p *pair) touchBy(states []int, addr, n int) {
	p.t.Helper()
	want, wrong := p.b.touch(states, addr, n)
	if page, e := p.m.Touch(addr, n); page != want || e != wrong {
		p.t.Fatalf("pages %v: Touch(%d, %d): %d, %d, not %d, %d", states, addr, n, page, e, want, wrong)
	}
}

// look holds what the memory tells against the book: its size, all bytes, what pages are, and touches of whole pages.
func (p *pair) look() {
	p.t.Helper()
	if n := p.m.Size(); n != p.b.size() {
		p.t.Fatalf("%d pages: Size: %d", p.b.pages, n)
	}
	p.peek(0, p.b.size())
	states := p.b.states()
	for page := -1; page <= p.b.pages; page++ {
		if s, want := p.m.State(page), p.b.state(page); s != want {
			p.t.Fatalf("%d pages: State(%d): %d, not %d", p.b.pages, page, s, want)
		}
	}
	for from := range states {
		for to := range len(states) + 1 {
			p.touchBy(states, 16*from, 16*(to-from))
		}
	}
}

// lookAtAllPieces touches and peeks at all pieces, and at some that aren't within.
func (p *pair) lookAtAllPieces() {
	p.t.Helper()
	states := p.b.states()
	for addr := -2; addr <= p.b.size()+2; addr++ {
		for n := -2; n <= p.b.size()+2-max(addr, 0); n++ {
			p.touchBy(states, addr, n)
			p.peek(addr, n)
		}
	}
}

// stamped are n bytes that differ from those of other seeds, and of which none is 0.
func stamped(seed, n int) []byte {
	l := make([]byte, n)
	for i := range l {
		l[i] = byte(1 + (seed*37+i*11)%255)
	}
	return l
}

// fill makes every byte another one than 0.
func (p *pair) fill() {
	p.t.Helper()
	p.poke(0, stamped(p.b.pages, p.b.size())...)
}

// addresses are those at the edges of so many bytes, and of pages in them.
func addresses(size int) []int {
	l := []int{math.MinInt, math.MinInt + 1, -1 << 32, -size - 1, -size, -17, -16, -15, -1,
		0, 1, 14, 15, 16, 17, size/2 - 1, size / 2, size - 17, size - 16, size - 15, size - 2, size - 1, size, size + 1, size + 15, size + 16, size + 17,
		255, 256, 257, 1 << 32, 1<<32 + 1, math.MaxInt - size, math.MaxInt - 16, math.MaxInt - 1, math.MaxInt}
	slices.Sort(l)
	return slices.Compact(l)
}

// noPages are numbers of none, where there are so many.
func noPages(pages int) []int {
	l := []int{math.MinInt, math.MinInt + 1, -1 << 32, -256, -17, -16, -15, -2, -1, pages, pages + 1, 2 * pages, 16, 17, 31, 32, 255, 256, 257, 1 << 32, 1<<32 + 1, math.MaxInt - 1, math.MaxInt}
	return slices.DeleteFunc(l, func(page int) bool { return page >= 0 && page < pages })
}

// numbers gives numbers that look like chance, and are the same each time.
func numbers(seed uint64) func(below int) int {
	x := seed
	return func(below int) int {
		x = x*6364136223846793005 + 1442695040888963407
		return int((x ^ x>>29) >> 7 % uint64(below))
	}
}

// everyStates are all rows of states of so many pages.
func everyStates(pages int) [][]int {
	if pages == 0 {
		return [][]int{nil}
	}
	var l [][]int
	for _, row := range everyStates(pages - 1) {
		for s := range 3 {
			l = append(l, append(slices.Clone(row), s))
		}
	}
	return l
}

func wantPoke(t *testing.T, m *user.Mem, want api.Errno, addr int, b ...byte) {
	t.Helper()
	if e := m.Poke(addr, b...); e != want {
		t.Errorf("Poke(%d, %d bytes): %d, not %d", addr, len(b), e, want)
	}
}

func wantPeek(t *testing.T, m *user.Mem, wrong api.Errno, addr, n int, want ...byte) {
	t.Helper()
	if l, e := m.Peek(addr, n); e != wrong || !bytes.Equal(l, want) {
		t.Errorf("Peek(%d, %d): %v, %d, not %v, %d", addr, n, l, e, want, wrong)
	}
}

func wantTouch(t *testing.T, m *user.Mem, addr, n, want int, wrong api.Errno) {
	t.Helper()
	if page, e := m.Touch(addr, n); page != want || e != wrong {
		t.Errorf("Touch(%d, %d): %d, %d, not %d, %d", addr, n, page, e, want, wrong)
	}
}

func wantDone(t *testing.T, m *user.Mem, page, state int, want api.Errno) {
	t.Helper()
	if e := doTo(m, page, state); e != want {
		t.Errorf("page %d is to be %d: %d, not %d", page, state, e, want)
	}
}

func wantStates(t *testing.T, m *user.Mem, want ...int) {
	t.Helper()
	for page, s := range want {
		if n := m.State(page); n != s {
			t.Errorf("State(%d): %d, not %d", page, n, s)
		}
	}
}

func TestConstants(t *testing.T) {
	if user.Absent != 0 || user.Present != 1 || user.Bad != 2 {
		t.Error(user.Absent, user.Present, user.Bad)
	}
}

// P13.1

func TestNew(t *testing.T) {
	for pages := 1; pages <= 16; pages++ {
		m := made(t, pages)
		if n := m.Size(); n != 16*pages {
			t.Errorf("%d pages: Size: %d", pages, n)
		}
		wantPeek(t, m, api.OK, 0, 16*pages, make([]byte, 16*pages)...)
		wantStates(t, m, make([]int, pages)...)
		wantTouch(t, m, 0, 16*pages, 0, api.ErrWait)
	}
}

func TestNewOfNoSuchNumber(t *testing.T) {
	for _, pages := range []int{math.MinInt, math.MinInt + 1, -1 << 32, -17, -16, -2, -1, 0, 17, 18, 32, 64, 255, 256, 257, 1 << 32, 1<<32 + 1, math.MaxInt - 1, math.MaxInt} {
		if m, e := user.New(pages); m != nil || e != api.ErrRange {
			t.Errorf("New(%d): %v, %d", pages, m, e)
		}
	}
}

func TestPoke(t *testing.T) {
	p := newPair(t, 3)
	p.poke(0, 5)
	p.poke(47, 6, 7)
	p.poke(47, 6)
	p.poke(14, 1, 2, 3, 4)
	wantPeek(t, p.m, api.OK, 13, 6, 0, 1, 2, 3, 4, 0)
	p.poke(15, 0, 255)
	wantPeek(t, p.m, api.OK, 13, 6, 0, 1, 0, 255, 4, 0)
	p.poke(0, stamped(1, 48)...)
	p.poke(0, stamped(2, 49)...)
	p.poke(1, stamped(3, 47)...)
	p.poke(1, stamped(4, 48)...)
	p.poke(-1, stamped(5, 3)...)
}

// TestPokeEveryPiece: of memories of one to three pages.
func TestPokeEveryPiece(t *testing.T) {
	for pages := 1; pages <= 3; pages++ {
		size := 16 * pages
		for addr := -2; addr <= size+2; addr++ {
			p := newPair(t, pages)
			p.fill()
			for n := 0; n <= size+2; n += pages {
				p.poke(addr, stamped(addr+7*n+1, n)...)
				p.b.forget()
			}
		}
	}
}

// forget makes one poke of all: a book that is written for long is slow.
func (b *book) forget() {
	l, _ := b.peek(0, b.size())
	b.pokes = []poke{{0, l}}
}

func TestPokeAtTheEdges(t *testing.T) {
	for _, pages := range []int{1, 2, 3, 15, 16} {
		size := 16 * pages
		p := newPair(t, pages)
		p.fill()
		for i, addr := range addresses(size) {
			for _, n := range []int{0, 1, 2, 15, 16, 17, size - 1, size, size + 1, size + 16, 256, 257, 1000} {
				p.poke(addr, stamped(i+n, n)...)
			}
			for _, end := range []int{size - 1, size, size + 1, size + 2} {
				if n := end - addr; addr >= -1 && n >= 0 {
					p.poke(addr, stamped(i+n, n)...)
				}
			}
			p.b.forget()
		}
	}
}

func TestPokeOfNothing(t *testing.T) {
	for pages := 1; pages <= 16; pages++ {
		size := 16 * pages
		p := newPair(t, pages)
		p.fill()
		for _, addr := range append(addresses(size), addresses(256)...) {
			want := api.OK
			if addr < 0 || addr > size {
				want = api.ErrRange
			}
			wantPoke(t, p.m, want, addr)
			wantPoke(t, p.m, want, addr, []byte{}...)
			p.look()
		}
	}
}

// TestPokeWholeOrNot: one that isn't within changes nothing, though much of it would be.
func TestPokeWholeOrNot(t *testing.T) {
	for pages := 1; pages <= 16; pages++ {
		size := 16 * pages
		m := made(t, pages)
		for _, addr := range []int{0, 1, size - 16, size - 2, size - 1} {
			wantPoke(t, m, api.ErrRange, addr, stamped(9, size-addr+1)...)
		}
		wantPoke(t, m, api.ErrRange, -1, stamped(9, size)...)
		wantPoke(t, m, api.ErrRange, -1, stamped(9, 2)...)
		wantPeek(t, m, api.OK, 0, size, make([]byte, size)...)
	}
}

func TestPeek(t *testing.T) {
	p := newPair(t, 3)
	p.fill()
	for _, piece := range [][2]int{{0, 1}, {0, 16}, {3, 4}, {15, 1}, {15, 2}, {16, 1}, {14, 20}, {0, 48}, {1, 47}, {47, 1}, {48, 0}, {0, 0}, {20, 0}} {
		want := stamped(3, 48)[piece[0] : piece[0]+piece[1]]
		wantPeek(t, p.m, api.OK, piece[0], piece[1], want...)
	}
	for _, piece := range [][2]int{{0, 49}, {1, 48}, {47, 2}, {48, 1}, {49, 0}, {-1, 0}, {-1, 1}, {-1, 2}, {-1, 49}, {0, -1}, {48, -1}, {49, -1}} {
		wantPeek(t, p.m, api.ErrRange, piece[0], piece[1])
	}
}

func TestPeekAtEveryPiece(t *testing.T) {
	for pages := 1; pages <= 3; pages++ {
		p := newPair(t, pages)
		p.fill()
		p.lookAtAllPieces()
	}
}

func TestPeekAtTheEdges(t *testing.T) {
	for pages := 1; pages <= 16; pages++ {
		size := 16 * pages
		p := newPair(t, pages)
		p.fill()
		p.b.forget()
		for _, addr := range addresses(size) {
			for _, n := range append(addresses(size), size-addr-1, size-addr, size-addr+1, math.MaxInt-addr, math.MaxInt-addr+1, math.MinInt-addr) {
				p.peek(addr, n)
			}
		}
	}
}

func TestBytesWhateverThePagesAre(t *testing.T) {
	for _, states := range everyStates(3) {
		p := pairOf(t, states...)
		p.poke(3, 8, 9)
		p.poke(15, 1, 2)
		p.poke(47, 5)
		p.poke(0, stamped(6, 48)...)
		p.poke(14, stamped(7, 20)...)
		p.poke(40, stamped(8, 9)...)
		p.lookAtAllPieces()
	}
}

func TestPokeKeepsNothing(t *testing.T) {
	p := newPair(t, 2)
	l := stamped(4, 32)
	for _, piece := range [][2]int{{0, 32}, {14, 4}, {31, 1}, {0, 0}, {31, 2}} {
		b := slices.Clone(l[:piece[1]])
		p.poke(piece[0], b...)
		for i := range b {
			b[i] ^= 255
		}
		p.look()
	}
}

// TestPokeLeavesWhatStandsBehind: nothing is laid behind what is handed in, though there be room.
func TestPokeLeavesWhatStandsBehind(t *testing.T) {
	m := made(t, 2)
	l := stamped(4, 40)
	wantPoke(t, m, api.OK, 8, l[3:9]...)
	wantPoke(t, m, api.ErrRange, 31, l[3:9]...)
	wantPoke(t, m, api.OK, 31, l[:0]...)
	if !bytes.Equal(l, stamped(4, 40)) {
		t.Error(l)
	}
}

func TestPeekIsNew(t *testing.T) {
	p := newPair(t, 2)
	p.fill()
	for _, piece := range [][2]int{{0, 32}, {0, 16}, {14, 4}, {31, 1}} {
		a, _ := p.m.Peek(piece[0], piece[1])
		b, _ := p.m.Peek(piece[0], piece[1])
		was := slices.Clone(b)
		for i := range a {
			a[i] ^= 255
		}
		a = append(a, 1, 2, 3)
		p.look()
		if !bytes.Equal(b, was) {
			t.Errorf("two peeks at %v share", piece)
		}
		p.poke(piece[0], make([]byte, piece[1])...)
		p.fill()
		p.poke(piece[0], a[:piece[1]]...)
		if !bytes.Equal(b, was) {
			t.Errorf("a peek at %v shares with the memory", piece)
		}
		p.fill()
	}
}

// TestPeekOfNothingIsNew: one who lays something behind it doesn't lay it into the memory.
func TestPeekOfNothingIsNew(t *testing.T) {
	p := newPair(t, 2)
	for _, addr := range []int{0, 5, 16, 31, 32} {
		l, e := p.m.Peek(addr, 0)
		if e != api.OK || len(l) != 0 {
			t.Errorf("Peek(%d, 0): %v, %d", addr, l, e)
		}
		_ = append(l, 9, 9)
		p.look()
	}
}

// P13.2

// TestOfEachState: Bring, Evict and Break of an absent, a present and a bad page, the first, a middle and the last one.
func TestOfEachState(t *testing.T) {
	cases := []struct {
		is, toBe int
		want     api.Errno
		then     int
	}{
		{user.Absent, user.Present, api.OK, user.Present},
		{user.Present, user.Present, api.ErrTwice, user.Present},
		{user.Bad, user.Present, api.ErrFault, user.Bad},
		{user.Absent, user.Absent, api.ErrNone, user.Absent},
		{user.Present, user.Absent, api.OK, user.Absent},
		{user.Bad, user.Absent, api.ErrNone, user.Bad},
		{user.Absent, user.Bad, api.OK, user.Bad},
		{user.Present, user.Bad, api.OK, user.Bad},
		{user.Bad, user.Bad, api.ErrTwice, user.Bad},
	}
	for pages := 1; pages <= 16; pages++ {
		for page := range pages {
			for _, c := range cases {
				states := make([]int, pages)
				for i := range states {
					states[i] = (i + page) % 3
				}
				states[page] = c.is
				p := pairOf(t, states...)
				wantDone(t, p.m, page, c.toBe, c.want)
				states[page] = c.then
				wantStates(t, p.m, states...)
			}
		}
	}
}

func TestOfNoPage(t *testing.T) {
	for pages := 1; pages <= 16; pages++ {
		for s := range 3 {
			p := pairOf(t, slices.Repeat([]int{s}, pages)...)
			for _, page := range noPages(pages) {
				wantDone(t, p.m, page, user.Present, api.ErrRange)
				wantDone(t, p.m, page, user.Absent, api.ErrRange)
				wantDone(t, p.m, page, user.Bad, api.ErrRange)
				if n := p.m.State(page); n != user.Bad {
					t.Errorf("%d pages: State(%d): %d", pages, page, n)
				}
			}
			p.look()
		}
	}
}

func TestOneBehindTheOther(t *testing.T) {
	p := newPair(t, 2)
	p.do(1, user.Present)
	p.do(1, user.Absent)
	p.do(1, user.Present)
	p.do(1, user.Present)
	p.do(1, user.Absent)
	p.do(1, user.Absent)
	wantStates(t, p.m, user.Absent, user.Absent)
	p.do(1, user.Bad)
	p.do(1, user.Bad)
	p.do(1, user.Present)
	p.do(1, user.Absent)
	wantStates(t, p.m, user.Absent, user.Bad)
	p.do(0, user.Present)
	p.do(0, user.Bad)
	p.do(0, user.Absent)
	wantStates(t, p.m, user.Bad, user.Bad)
}

func TestBadForEver(t *testing.T) {
	next := numbers(13)
	p := pairOf(t, user.Absent, user.Bad, user.Present)
	for range 500 {
		p.do(next(5)-1, next(3))
		p.poke(next(50)-1, stamped(next(9), next(20))...)
		p.b.forget()
		if n := p.m.State(1); n != user.Bad {
			t.Fatalf("State(1): %d", n)
		}
	}
}

func TestSize(t *testing.T) {
	for pages := 1; pages <= 16; pages++ {
		m := made(t, pages)
		for page := range pages {
			for _, s := range []int{user.Present, user.Absent, user.Bad} {
				wantDone(t, m, page, s, api.OK)
				if n := m.Size(); n != 16*pages {
					t.Errorf("%d pages: Size: %d", pages, n)
				}
			}
		}
		wantPoke(t, m, api.OK, 0, 1, 2, 3)
		if n := m.Size(); n != 16*pages {
			t.Errorf("%d pages: Size: %d", pages, n)
		}
	}
}

// P13.3

// TestTouchEveryPiece: of memories of one to four pages, whatever these are.
func TestTouchEveryPiece(t *testing.T) {
	for pages := 1; pages <= 4; pages++ {
		for _, states := range everyStates(pages) {
			p := pairOf(t, states...)
			for addr := -1; addr <= p.b.size()+1; addr++ {
				for n := -1; n <= p.b.size()+1-max(addr, 0); n++ {
					p.touchBy(states, addr, n)
				}
			}
		}
	}
}

func TestTouchAtTheEdges(t *testing.T) {
	for pages := 1; pages <= 16; pages++ {
		size := 16 * pages
		for s := range 3 {
			p := pairOf(t, slices.Repeat([]int{s}, pages)...)
			for _, addr := range addresses(size) {
				for _, n := range append(addresses(size), size-addr-1, size-addr, size-addr+1, math.MaxInt-addr, math.MaxInt-addr+1, math.MinInt-addr) {
					p.touch(addr, n)
				}
			}
		}
	}
}

func TestTouchOfNothing(t *testing.T) {
	for s := range 3 {
		m := pairOf(t, s, s, s).m
		for addr := range 49 {
			wantTouch(t, m, addr, 0, 0, api.OK)
		}
		for _, addr := range []int{math.MinInt, -16, -1, 49, 50, 64, math.MaxInt} {
			wantTouch(t, m, addr, 0, 0, api.ErrRange)
		}
	}
}

// TestTouchOfNoPiece: no page is told then, though the first one isn't present.
func TestTouchOfNoPiece(t *testing.T) {
	for _, states := range [][]int{{0, 0}, {1, 0}, {1, 1}, {2, 2}, {1, 2}} {
		m := pairOf(t, states...).m
		for _, piece := range [][2]int{{0, 33}, {16, 17}, {31, 2}, {32, 1}, {33, 0}, {-1, 1}, {-1, 2}, {-1, 18}, {20, -1}, {20, -5}, {32, -16}, {0, math.MinInt}, {20, math.MaxInt}, {math.MaxInt, math.MaxInt}, {math.MinInt, math.MinInt}, {math.MinInt, math.MaxInt}, {math.MaxInt, math.MinInt}} {
			wantTouch(t, m, piece[0], piece[1], 0, api.ErrRange)
		}
	}
}

func TestTouchToTheEndOfAPage(t *testing.T) {
	for _, c := range []struct {
		state int
		want  api.Errno
	}{{user.Absent, api.ErrWait}, {user.Bad, api.ErrFault}} {
		m := pairOf(t, user.Present, c.state, user.Present).m
		wantTouch(t, m, 0, 16, 0, api.OK)
		wantTouch(t, m, 0, 17, 1, c.want)
		wantTouch(t, m, 10, 6, 0, api.OK)
		wantTouch(t, m, 10, 7, 1, c.want)
		wantTouch(t, m, 15, 1, 0, api.OK)
		wantTouch(t, m, 15, 2, 1, c.want)
		wantTouch(t, m, 16, 1, 1, c.want)
		wantTouch(t, m, 31, 1, 1, c.want)
		wantTouch(t, m, 31, 17, 1, c.want)
		wantTouch(t, m, 32, 16, 0, api.OK)
		wantTouch(t, m, 32, 17, 0, api.ErrRange)
		wantTouch(t, m, 0, 48, 1, c.want)
	}
}

func TestTouchTellsTheFirst(t *testing.T) {
	cases := []struct {
		states []int
		page   int
		want   api.Errno
	}{
		{[]int{1, 1, 1, 1}, 0, api.OK},
		{[]int{0, 1, 1, 1}, 0, api.ErrWait},
		{[]int{1, 0, 1, 1}, 1, api.ErrWait},
		{[]int{1, 1, 1, 0}, 3, api.ErrWait},
		{[]int{2, 1, 1, 1}, 0, api.ErrFault},
		{[]int{1, 1, 2, 1}, 2, api.ErrFault},
		{[]int{1, 1, 1, 2}, 3, api.ErrFault},
		{[]int{1, 2, 0, 1}, 1, api.ErrFault},
		{[]int{1, 0, 2, 1}, 1, api.ErrWait},
		{[]int{0, 1, 1, 2}, 0, api.ErrWait},
		{[]int{2, 1, 1, 0}, 0, api.ErrFault},
		{[]int{0, 0, 0, 0}, 0, api.ErrWait},
		{[]int{2, 2, 2, 2}, 0, api.ErrFault},
	}
	for _, c := range cases {
		m := pairOf(t, c.states...).m
		wantTouch(t, m, 0, 64, c.page, c.want)
		wantTouch(t, m, 15, 34, c.page, c.want)
		wantTouch(t, m, 15, 48, c.page, c.want)
	}
}

// TestTouchOfSixteenPages: one of them isn't present, and the pieces begin and end about pages' ends.
func TestTouchOfSixteenPages(t *testing.T) {
	for page := range 16 {
		for _, s := range []int{user.Absent, user.Bad} {
			states := slices.Repeat([]int{user.Present}, 16)
			states[page] = s
			p := pairOf(t, states...)
			for at := range 17 {
				for end := at; end < 17; end++ {
					for _, from := range []int{16*at - 1, 16 * at, 16*at + 1} {
						for _, to := range []int{16*end - 1, 16 * end, 16*end + 1} {
							p.touchBy(states, from, to-from)
						}
					}
				}
			}
		}
	}
}

func TestTouchChangesNothing(t *testing.T) {
	for _, states := range everyStates(3) {
		p := pairOf(t, states...)
		p.fill()
		for addr := -1; addr <= 49; addr++ {
			for n := -1; n <= 49; n += 5 {
				p.m.Touch(addr, n)
			}
		}
		p.look()
		wantStates(t, p.m, states...)
	}
}

func TestTouchAgain(t *testing.T) {
	p := newPair(t, 4)
	for page := range 4 {
		wantTouch(t, p.m, 0, 64, page, api.ErrWait)
		wantTouch(t, p.m, 0, 64, page, api.ErrWait)
		p.do(page, user.Present)
	}
	wantTouch(t, p.m, 0, 64, 0, api.OK)
	p.do(2, user.Absent)
	wantTouch(t, p.m, 0, 64, 2, api.ErrWait)
	p.do(2, user.Bad)
	wantTouch(t, p.m, 0, 64, 2, api.ErrFault)
}

// P13.4

func TestPagesChangeNoBytes(t *testing.T) {
	p := newPair(t, 3)
	p.fill()
	want, _ := p.m.Peek(0, 48)
	for page := -1; page <= 3; page++ {
		for _, s := range []int{1, 1, 0, 0, 1, 2, 2, 1, 0} {
			p.do(page, s)
			wantPeek(t, p.m, api.OK, 0, 48, want...)
		}
	}
}

func TestBytesChangeNoPage(t *testing.T) {
	for _, states := range everyStates(3) {
		p := pairOf(t, states...)
		for addr := -1; addr <= 48; addr += 7 {
			for _, n := range []int{0, 1, 2, 16, 17, 48} {
				p.m.Poke(addr, stamped(addr+1, n)...)
				p.m.Peek(addr, n)
				wantStates(t, p.m, states...)
			}
		}
		p.m.Poke(0, slices.Repeat([]byte{1}, 48)...)
		wantStates(t, p.m, states...)
	}
}

// TestAllWays: every row of five steps on a memory of two pages.
func TestAllWays(t *testing.T) {
	steps := []func(*pair){
		func(p *pair) { p.step(0, user.Present) },
		func(p *pair) { p.step(0, user.Absent) },
		func(p *pair) { p.step(0, user.Bad) },
		func(p *pair) { p.step(1, user.Present) },
		func(p *pair) { p.step(1, user.Absent) },
		func(p *pair) { p.step(1, user.Bad) },
		func(p *pair) { p.poke(15, 3, 4) },
		func(p *pair) { p.poke(16, 5) },
		func(p *pair) { p.poke(31, 6, 7) },
	}
	n := len(steps)
	for way := range n * n * n * n * n {
		p := &pair{t: t, m: made(t, 2), b: &book{pages: 2}}
		for rest := way; rest > 0; rest /= n {
			steps[rest%n](p)
		}
		p.look()
		p.touch(15, 1)
		p.touch(15, 2)
		p.touch(16, 1)
		p.touch(32, 0)
	}
}

func TestLikeTheBook(t *testing.T) {
	for pages := 1; pages <= 16; pages++ {
		next := numbers(uint64(pages))
		size := 16 * pages
		p := newPair(t, pages)
		for range 400 {
			addr := next(size+3) - 1
			switch next(6) {
			case 0:
				p.poke(addr, stamped(next(100), next(size-max(addr, 0)+3))...)
			case 1:
				p.poke(addr, stamped(next(100), next(40))...)
			case 2:
				p.do(next(pages+2)-1, user.Absent)
			case 3:
				p.do(next(pages+2)-1, user.Present)
			case 4:
				if next(8) == 0 {
					p.do(next(pages+2)-1, user.Bad)
				}
			default:
				p.touch(addr, next(size+5)-1)
				p.peek(addr, next(size+5)-1)
			}
			if len(p.b.pokes) > 30 {
				p.b.forget()
			}
		}
	}
}

func TestNil(t *testing.T) {
	var m *user.Mem
	if n := m.Size(); n != 0 {
		t.Errorf("Size: %d", n)
	}
	for _, at := range addresses(16) {
		for _, s := range []int{user.Absent, user.Present, user.Bad} {
			wantDone(t, m, at, s, api.ErrState)
		}
		if n := m.State(at); n != user.Bad {
			t.Errorf("State(%d): %d", at, n)
		}
		wantPoke(t, m, api.ErrState, at)
		wantPoke(t, m, api.ErrState, at, 1, 2)
		for _, n := range addresses(16) {
			wantPeek(t, m, api.ErrState, at, n)
			wantTouch(t, m, at, n, 0, api.ErrState)
		}
	}
}

// TestZero: a memory that New did not make has no pages; its calls end, and don't panic.
func TestZero(t *testing.T) {
	var m user.Mem
	if n := m.Size(); n != 0 {
		t.Errorf("Size: %d", n)
	}
	for _, page := range noPages(0) {
		for _, s := range []int{user.Absent, user.Present, user.Bad} {
			wantDone(t, &m, page, s, api.ErrRange)
		}
		if n := m.State(page); n != user.Bad {
			t.Errorf("State(%d): %d", page, n)
		}
	}
	for _, at := range addresses(16) {
		for _, n := range addresses(16) {
			want := api.ErrRange
			if at == 0 && n == 0 {
				want = api.OK
			}
			wantPeek(t, &m, want, at, n)
			wantTouch(t, &m, at, n, 0, want)
		}
		wantPoke(t, &m, api.ErrRange, at, 1)
	}
	wantPoke(t, &m, api.OK, 0)
}

// The rules of all layers: a memory changes itself alone.

func TestMemoriesAreApart(t *testing.T) {
	a, b := newPair(t, 2), newPair(t, 2)
	a.fill()
	b.look()
	b.poke(15, 1, 2)
	a.look()
	a.do(0, user.Present)
	b.look()
	b.do(1, user.Bad)
	a.look()
	a.do(0, user.Absent)
	b.do(0, user.Present)
	a.look()
}

// TestCopyIsApart: a memory is a value, of which a copy has all.
func TestCopyIsApart(t *testing.T) {
	p := pairOf(t, user.Present, user.Absent)
	p.fill()
	c := *p.m
	wantPeek(t, &c, api.OK, 0, 32, stamped(2, 32)...)
	wantStates(t, &c, user.Present, user.Absent)
	wantPoke(t, &c, api.OK, 15, 7, 7)
	wantDone(t, &c, 0, user.Bad, api.OK)
	wantDone(t, &c, 1, user.Present, api.OK)
	p.look()
	p.poke(0, 9)
	p.do(1, user.Bad)
	wantPeek(t, &c, api.OK, 0, 1, stamped(2, 1)...)
	wantStates(t, &c, user.Bad, user.Present)
}

// P2

func TestSameAgain(t *testing.T) {
	run := func() []int {
		next := numbers(31)
		m := made(t, 5)
		var l []int
		for range 3000 {
			e := m.Poke(next(82)-1, stamped(next(50), next(30))...)
			done := doTo(m, next(7)-1, next(41)/20)
			b, wrong := m.Peek(next(82)-1, next(30)-1)
			page, touched := m.Touch(next(82)-1, next(60)-1)
			l = append(l, int(e), int(done), int(wrong), page, int(touched), m.State(next(7)-1), m.Size())
			for _, x := range b {
				l = append(l, int(x))
			}
		}
		return l
	}
	if !slices.Equal(run(), run()) {
		t.Error("another time, other answers")
	}
}

func TestExamples(t *testing.T) {
	m := made(t, 2)
	wantDone(t, m, 0, user.Present, api.OK)
	wantTouch(t, m, 10, 6, 0, api.OK)
	wantTouch(t, m, 10, 7, 1, api.ErrWait)
	wantDone(t, m, 1, user.Bad, api.OK)
	wantTouch(t, m, 10, 7, 1, api.ErrFault)
	wantTouch(t, m, 30, 3, 0, api.ErrRange)
}
