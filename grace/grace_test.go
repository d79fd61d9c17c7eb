package grace_test

import (
	"math"
	"slices"
	"testing"

	"detent/api"
	"detent/grace"
	"detent/mask"
	"detent/sect"
)

// section is one that a reader began: told apart from its others by being another thing, not by a stamp.
type section struct {
	deep int
}

// callback is one in a book; its period is nil, as long as it has none.
type callback struct {
	cpu, id int
	period  *period
}

// period is a grace period in a book: the very sections that are left of those that were open when it began.
type period struct {
	gen   int
	open  map[int]*section
	place int
	over  bool
}

// book is a domain told in another way than the package does it: it keeps every grace period that began, the very sections that each waits for, and one row of the callbacks of all CPUs. What a domain answers is held against it.
type book struct {
	cpus    int
	in      map[int]*section
	row     []*callback
	periods []*period
	asked   bool // is the next one wanted by a ticket?
}

func (b *book) enter(l ...int) api.Errno {
	for _, r := range l {
		if r < 0 || r > 63 {
			return api.ErrRange
		}
		if b.in[r] == nil {
			b.in[r] = &section{}
		}
		if b.in[r].deep == 8 {
			return api.ErrFull
		}
		b.in[r].deep++
	}
	return api.OK
}

func (b *book) exit(r int) (bool, api.Errno) {
	if r < 0 || r > 63 {
		return false, api.ErrRange
	}
	s := b.in[r]
	if s == nil {
		return false, api.ErrState
	}
	s.deep--
	if s.deep == 0 {
		delete(b.in, r)
	}
	return s.deep == 0, api.OK
}

func (b *book) call(cpu int, ids ...int) api.Errno {
	if cpu < 0 || cpu > b.cpus-1 {
		return api.ErrRange
	}
	for _, id := range ids {
		n := 0
		for _, c := range b.row {
			if c.cpu == cpu {
				n++
			}
		}
		if n == 64 {
			return api.ErrFull
		}
		b.row = append(b.row, &callback{cpu: cpu, id: id})
	}
	return api.OK
}

func (b *book) ticket() int {
	b.asked = true
	return len(b.periods) + 1
}

func (b *book) barrier() int {
	greatest := 0
	for _, c := range b.row {
		if c.period == nil {
			return len(b.periods) + 1
		}
		greatest = max(greatest, c.period.gen)
	}
	return greatest
}

// running is the grace period that runs, nil if none does.
func (b *book) running() *period {
	for _, p := range b.periods {
		if !p.over {
			return p
		}
	}
	return nil
}

func (b *book) over(ticket int) bool {
	return ticket < 1 || ticket <= len(b.periods) && b.periods[ticket-1].over
}

func (b *book) poll() []int {
	var told []int
	if p := b.running(); p != nil {
		p.look(16)
		if len(p.open) == 0 {
			p.over = true
			told = b.tell()
		}
	}
	unknown := slices.ContainsFunc(b.row, func(c *callback) bool { return c.period == nil })
	if b.running() == nil && (b.asked || unknown) {
		b.begin()
	}
	return told
}

// tell takes out the callbacks whose grace period is over, by CPU.
func (b *book) tell() []int {
	var told []int
	for cpu := range b.cpus {
		for _, c := range b.row {
			if c.cpu == cpu && c.period != nil && c.period.over {
				told = append(told, c.id)
			}
		}
	}
	b.row = slices.DeleteFunc(b.row, func(c *callback) bool { return c.period != nil && c.period.over })
	return told
}

func (b *book) begin() {
	p := &period{gen: len(b.periods) + 1, open: map[int]*section{}}
	for r, s := range b.in {
		p.open[r] = s
	}
	for _, c := range b.row {
		if c.period == nil {
			c.period = p
		}
	}
	b.periods = append(b.periods, p)
	b.asked = false
}

// look walks over all 64 readers from the place on, and looks at no more than so many holdouts.
func (p *period) look(most int) {
	from := p.place
	for i := range 64 {
		r := (from + i) % 64
		s := p.open[r]
		if s == nil || most == 0 {
			continue
		}
		most--
		p.place = (r + 1) % 64
		if s.deep == 0 {
			delete(p.open, r)
		}
	}
}

func maskOf(m map[int]*section) mask.Mask {
	var x mask.Mask
	for r := range m {
		x |= 1 << r
	}
	return x
}

// pair is a domain beside its book: each of its methods does the same with both, looks at all that they tell then, and ends the test if they part.
type pair struct {
	t *testing.T
	g *grace.Grace
	b *book
}

func newPair(t *testing.T, cpus int, in ...int) *pair {
	t.Helper()
	p := &pair{t: t, g: domain(t, cpus), b: &book{cpus: cpus, in: map[int]*section{}}}
	p.enter(in...)
	return p
}

func (p *pair) enter(l ...int) {
	p.t.Helper()
	was := slices.Clone(l)
	want := p.b.enter(l...)
	if e := p.g.Enter(l...); e != want || !slices.Equal(l, was) {
		p.t.Fatalf("Enter(%v): %d, not %d, and %v", was, e, want, l)
	}
	p.look()
}

func (p *pair) exit(l ...int) {
	p.t.Helper()
	for _, r := range l {
		ended, wrong := p.b.exit(r)
		if is, e := p.g.Exit(r); is != ended || e != wrong {
			p.t.Fatalf("Exit(%d): %v, %d, not %v, %d", r, is, e, ended, wrong)
		}
		p.look()
	}
}

// leave is out of sections, however deep.
func (p *pair) leave(l ...int) {
	p.t.Helper()
	for _, r := range l {
		for p.b.in[r] != nil {
			p.exit(r)
		}
	}
}

func (p *pair) call(cpu int, ids ...int) {
	p.t.Helper()
	was := slices.Clone(ids)
	want := p.b.call(cpu, ids...)
	if e := p.g.Call(cpu, ids...); e != want {
		p.t.Fatalf("of %d: Call(%d, %v): %d, not %d", p.b.cpus, cpu, was, e, want)
	}
	if !slices.Equal(ids, was) {
		p.t.Fatalf("Call(%d, %v) changed what it was handed: %v", cpu, was, ids)
	}
	clear(ids) // what is handed in isn't kept
	p.look()
}

func (p *pair) ticket() int {
	p.t.Helper()
	want := p.b.ticket()
	if n := p.g.Ticket(); n != want {
		p.t.Fatalf("Ticket: %d, not %d", n, want)
	}
	p.look()
	return want
}

func (p *pair) barrier() int {
	p.t.Helper()
	want := p.b.barrier()
	if n := p.g.Barrier(); n != want {
		p.t.Fatalf("Barrier: %d, not %d", n, want)
	}
	p.look()
	return want
}

func (p *pair) poll() []int {
	p.t.Helper()
	want := p.b.poll()
	if l := p.g.Poll(); !slices.Equal(l, want) {
		p.t.Fatalf("of %d: Poll: %v, not %v", p.b.cpus, l, want)
	}
	p.look()
	return want
}

// look holds all that the domain tells against the book.
func (p *pair) look() {
	p.t.Helper()
	gen := len(p.b.periods)
	done, holdouts := gen, mask.Mask(0)
	run := p.b.running()
	if run != nil {
		done, holdouts = gen-1, maskOf(run.open)
	}
	wantTells(p.t, p.g, gen, done, run != nil, len(p.b.row), holdouts.List()...)
	if m, want := p.g.In(), maskOf(p.b.in); m != want {
		p.t.Fatalf("In: %v, not %v", m.List(), want.List())
	}
	for r := -1; r < 65; r++ {
		deep := 0
		if s := p.b.in[r]; s != nil {
			deep = s.deep
		}
		if n := p.g.Depth(r); n != deep {
			p.t.Fatalf("Depth(%d): %d, not %d", r, n, deep)
		}
	}
	for _, ticket := range []int{math.MinInt, -1, 0, 1, gen - 2, gen - 1, gen, gen + 1, gen + 2, math.MaxInt} {
		if is, want := p.g.Over(ticket), p.b.over(ticket); is != want {
			p.t.Fatalf("Over(%d): %v, not %v", ticket, is, want)
		}
	}
}

// domain is a new one.
func domain(t *testing.T, cpus int) *grace.Grace {
	t.Helper()
	g, e := grace.New(cpus)
	if g == nil || e != api.OK {
		t.Fatalf("New(%d): %v, %d", cpus, g, e)
	}
	return g
}

func enter(t *testing.T, g *grace.Grace, l ...int) {
	t.Helper()
	if e := g.Enter(l...); e != api.OK {
		t.Fatalf("Enter(%v): %d", l, e)
	}
}

func exit(t *testing.T, g *grace.Grace, l ...int) {
	t.Helper()
	for _, r := range l {
		if _, e := g.Exit(r); e != api.OK {
			t.Fatalf("Exit(%d): %d", r, e)
		}
	}
}

func wantTells(t *testing.T, g *grace.Grace, gen, done int, running bool, waiting int, holdouts ...int) {
	t.Helper()
	if n := g.Gen(); n != gen {
		t.Fatalf("Gen: %d, not %d", n, gen)
	}
	if n := g.Done(); n != done {
		t.Fatalf("Done: %d, not %d", n, done)
	}
	if is := g.Running(); is != running {
		t.Fatalf("Running: %v, not %v", is, running)
	}
	if n := g.Waiting(); n != waiting {
		t.Fatalf("Waiting: %d, not %d", n, waiting)
	}
	if m := g.Holdouts(); m != mask.Of(holdouts...) {
		t.Fatalf("Holdouts: %v, not %v", m.List(), holdouts)
	}
}

func wantCall(t *testing.T, g *grace.Grace, want api.Errno, cpu int, ids ...int) {
	t.Helper()
	if e := g.Call(cpu, ids...); e != want {
		t.Fatalf("Call(%d, %v): %d, not %d", cpu, ids, e, want)
	}
}

func wantTicket(t *testing.T, g *grace.Grace, want int) {
	t.Helper()
	if n := g.Ticket(); n != want {
		t.Fatalf("Ticket: %d, not %d", n, want)
	}
}

func wantBarrier(t *testing.T, g *grace.Grace, want int) {
	t.Helper()
	if n := g.Barrier(); n != want {
		t.Fatalf("Barrier: %d, not %d", n, want)
	}
}

func wantPoll(t *testing.T, g *grace.Grace, want ...int) {
	t.Helper()
	if l := g.Poll(); !slices.Equal(l, want) {
		t.Fatalf("Poll: %v, not %v", l, want)
	}
}

// wantOver: all generations up to one are over, and no other.
func wantOver(t *testing.T, g *grace.Grace, last int) {
	t.Helper()
	for _, ticket := range []int{math.MinInt, math.MinInt + 1, -1 << 32, -2, -1, 0, 1, 2, 3, 4, 5, last - 1, last, last + 1, last + 2, 64, 1 << 31, 1 << 32, math.MaxInt - 1, math.MaxInt} {
		if is := g.Over(ticket); is != (ticket <= last) {
			t.Fatalf("Over(%d): %v, and %d is done", ticket, is, last)
		}
	}
}

// row is so many numbers, from one on.
func row(from, many int) []int {
	var l []int
	for i := range many {
		l = append(l, from+i)
	}
	return l
}

// all are the numbers of all readers.
func all() []int {
	return row(0, 64)
}

// noReaders are numbers of none.
func noReaders() []int {
	return []int{math.MinInt, math.MinInt + 1, -1 << 32, -64, -63, -2, -1, 64, 65, 127, 128, 256, 1 << 32, 1<<32 + 1, math.MaxInt - 1, math.MaxInt}
}

// noCPUs are numbers of none in a domain of so many.
func noCPUs(cpus int) []int {
	return []int{math.MinInt, math.MinInt + 1, -1 << 32, -cpus - 1, -cpus, -2, -1, cpus, cpus + 1, 2 * cpus, 64, 65, 128, 256, 1 << 32, 1<<32 + 1, math.MaxInt - 1, math.MaxInt}
}

// numbers gives numbers that look like chance, and are the same each time.
func numbers(seed uint64) func(below int) int {
	x := seed
	return func(below int) int {
		x = x*6364136223846793005 + 1442695040888963407
		return int((x ^ x>>29) >> 7 % uint64(below))
	}
}

func TestBudget(t *testing.T) {
	if grace.Budget != 16 {
		t.Error(grace.Budget)
	}
}

// P12.1

func TestNew(t *testing.T) {
	for cpus := 1; cpus <= 64; cpus++ {
		p := newPair(t, cpus)
		wantTells(t, p.g, 0, 0, false, 0)
		wantOver(t, p.g, 0)
		wantBarrier(t, p.g, 0)
		for cpu := range cpus {
			p.call(cpu, cpu)
		}
		p.call(cpus, cpus)
		wantTells(t, p.g, 0, 0, false, cpus)
		wantPoll(t, p.g)
		wantPoll(t, p.g, row(0, cpus)...)
	}
}

func TestNewOfNoSuchNumber(t *testing.T) {
	for _, cpus := range []int{math.MinInt, math.MinInt + 1, -1 << 32, -64, -1, 0, 65, 66, 128, 256, 1 << 32, 1<<32 + 1, math.MaxInt - 1, math.MaxInt} {
		if g, e := grace.New(cpus); g != nil || e != api.ErrRange {
			t.Errorf("New(%d): %v, %d", cpus, g, e)
		}
	}
}

// wantSections: a domain's readers are as those of sections.
func wantSections(t *testing.T, g *grace.Grace, s *sect.Sections) {
	t.Helper()
	if g.In() != s.In() {
		t.Fatalf("In: %v, not %v", g.In().List(), s.In().List())
	}
	for _, r := range append(noReaders(), all()...) {
		if g.Depth(r) != s.Depth(r) {
			t.Fatalf("Depth(%d): %d, not %d", r, g.Depth(r), s.Depth(r))
		}
	}
}

// TestSections: to enter and to leave a domain is as with sections, whatever grace periods run.
func TestSections(t *testing.T) {
	g, s := domain(t, 2), new(sect.Sections)
	wantSections(t, g, s)
	for _, x := range []struct {
		in, out []int
	}{
		{nil, []int{0}}, // it is outside: ErrState
		{[]int{4, 4}, nil},
		{[]int{9}, []int{4, 4, 4, 9}},
		{[]int{0, 63}, nil},
		{[]int{-1}, []int{-1, 64, math.MinInt, math.MaxInt}}, // ErrRange
		{[]int{64, 5}, nil},
		{[]int{6, 64, 7}, []int{63}}, // 6 stays, 7 doesn't enter
		{[]int{math.MinInt}, []int{6}},
		{[]int{math.MaxInt}, nil},
		{slices.Repeat([]int{8}, 7), nil},
		{[]int{8, 8, 10}, []int{8}}, // the ninth: ErrFull, and 10 doesn't enter
		{[]int{8}, nil},
		{[]int{11, 8, 12}, slices.Repeat([]int{8}, 9)},
		{slices.Repeat([]int{13}, 20), nil},
	} {
		if a, b := g.Enter(x.in...), s.Enter(x.in...); a != b {
			t.Fatalf("Enter(%v): %d, not %d", x.in, a, b)
		}
		wantSections(t, g, s)
		for _, r := range x.out {
			a, e := g.Exit(r)
			if b, f := s.Exit(r); a != b || e != f {
				t.Fatalf("Exit(%d): %v, %d, not %v, %d", r, a, e, b, f)
			}
			wantSections(t, g, s)
		}
		g.Ticket()
		g.Poll()
		wantSections(t, g, s)
	}
	if g.Depth(13) != 8 || g.Depth(6) != 0 || g.Depth(11) != 1 || g.Depth(12) != 0 {
		t.Error(g.In().List())
	}
}

func TestEnterAndExitOfNoReader(t *testing.T) {
	p := newPair(t, 1, 5)
	for _, r := range noReaders() {
		if e := p.g.Enter(r); e != api.ErrRange {
			t.Errorf("Enter(%d): %d", r, e)
		}
		if is, e := p.g.Exit(r); is || e != api.ErrRange {
			t.Errorf("Exit(%d): %v, %d", r, is, e)
		}
		if n := p.g.Depth(r); n != 0 {
			t.Errorf("Depth(%d): %d", r, n)
		}
		p.look()
	}
}

// TestPromoted: the sections' other calls are the domain's, too.
func TestPromoted(t *testing.T) {
	g := domain(t, 1)
	enter(t, g, 4, 4, 9)
	if g.Stamp() != 2 || g.Since(9) != 2 || g.Open(1) != mask.Of(4) {
		t.Error(g.Stamp(), g.Since(9), g.Open(1).List())
	}
}

func TestCall(t *testing.T) {
	for _, cpus := range []int{1, 2, 3, 63, 64} {
		for _, cpu := range []int{0, cpus / 2, cpus - 1} {
			p := newPair(t, cpus)
			p.call(cpu)
			p.poll() // there is none that one begins for
			wantTells(t, p.g, 0, 0, false, 0)
			p.call(cpu, 7)
			p.call(cpu, 8, 9, 1)
			p.call(cpu, 8, 8)
			p.call(cpu, -1, 0, math.MinInt, math.MaxInt, -1)
			p.call(cpu)
			wantTells(t, p.g, 0, 0, false, 11)
			wantPoll(t, p.g)
			wantPoll(t, p.g, 7, 8, 9, 1, 8, 8, -1, 0, math.MinInt, math.MaxInt, -1)
			wantTells(t, p.g, 1, 1, false, 0)
		}
	}
}

func TestCallOnNoCPU(t *testing.T) {
	for _, cpus := range []int{1, 2, 5, 63, 64} {
		p := newPair(t, cpus)
		for _, cpu := range noCPUs(cpus) {
			for _, ids := range [][]int{nil, {}, {5}, {7, 8, 9}, row(0, 65)} {
				wantCall(t, p.g, api.ErrRange, cpu, ids...)
				p.poll()
			}
		}
		wantTells(t, p.g, 0, 0, false, 0)
		p.call(cpus-1, 5)
		p.call(0, 6)
		for _, cpu := range noCPUs(cpus) {
			wantCall(t, p.g, api.ErrRange, cpu, 7)
			p.look()
		}
	}
}

// TestCallToTheLast: a CPU takes 64, be they without a generation or of one; what stands ahead of the one that has no room stays.
func TestCallToTheLast(t *testing.T) {
	g := domain(t, 2)
	enter(t, g, 3)
	wantCall(t, g, api.OK, 1, row(0, 63)...)
	wantPoll(t, g)
	wantCall(t, g, api.ErrFull, 1, 63, 64, 65)
	wantTells(t, g, 1, 0, true, 64, 3)
	for range 3 {
		wantCall(t, g, api.ErrFull, 1, 66)
		wantCall(t, g, api.OK, 1)
		wantTells(t, g, 1, 0, true, 64, 3)
	}
	wantCall(t, g, api.OK, 0, 70) // another CPU has room
	exit(t, g, 3)
	wantPoll(t, g, row(0, 63)...)
	wantCall(t, g, api.OK, 1, 64) // there is room again
	wantPoll(t, g, 70, 63)
	wantPoll(t, g, 64)
	wantTells(t, g, 3, 3, false, 0)
	for _, at := range []int{1, 3, 31, 64, 65, 200} {
		p := newPair(t, 2)
		for from := 0; from < 64+at; from += at {
			p.call(1, row(from, at)...)
		}
		p.poll()
		if told := p.poll(); !slices.Equal(told, row(0, 64)) {
			t.Errorf("%d at once: %v", at, told)
		}
	}
}

// TestCallKeepsNothing: what is handed in, and what lies behind it, is neither kept nor changed.
func TestCallKeepsNothing(t *testing.T) {
	ids := []int{5, 6, 7, 8}
	g := domain(t, 1)
	wantCall(t, g, api.OK, 0, ids[1:3]...)
	if !slices.Equal(ids, []int{5, 6, 7, 8}) {
		t.Error(ids)
	}
	clear(ids)
	wantPoll(t, g)
	wantCall(t, g, api.OK, 0, ids[:1]...)
	ids[0] = 9
	wantPoll(t, g, 6, 7)
	wantPoll(t, g, 0)
	if !slices.Equal(ids, []int{9, 0, 0, 0}) {
		t.Error(ids)
	}
}

func TestEnterKeepsNothing(t *testing.T) {
	l := []int{5, 6, 7, 8}
	g := domain(t, 1)
	enter(t, g, l[1:3]...)
	if !slices.Equal(l, []int{5, 6, 7, 8}) {
		t.Error(l)
	}
	clear(l)
	if g.In() != mask.Of(6, 7) {
		t.Error(g.In().List())
	}
}

func TestTicket(t *testing.T) {
	g := domain(t, 1)
	for range 3 { // several in a row are one
		wantTicket(t, g, 1)
		wantTells(t, g, 0, 0, false, 0)
		wantOver(t, g, 0)
	}
	wantPoll(t, g)
	wantTells(t, g, 1, 0, true, 0)
	wantOver(t, g, 0)
	wantPoll(t, g)
	wantTells(t, g, 1, 1, false, 0) // it was wanted once
	wantOver(t, g, 1)
	for range 3 {
		wantPoll(t, g)
		wantTells(t, g, 1, 1, false, 0)
	}
	wantTicket(t, g, 2) // behind one that is over
	wantTicket(t, g, 2)
	wantOver(t, g, 1)
	wantPoll(t, g)
	wantTells(t, g, 2, 1, true, 0)
	wantPoll(t, g)
	wantOver(t, g, 2)
	wantTells(t, g, 2, 2, false, 0)
}

// TestTicketWhileOneRuns: that one began without it, so that it is of the next one.
func TestTicketWhileOneRuns(t *testing.T) {
	g := domain(t, 1)
	enter(t, g, 7)
	wantTicket(t, g, 1)
	wantPoll(t, g)
	for range 4 {
		wantTicket(t, g, 2)
		wantPoll(t, g)
		wantTells(t, g, 1, 0, true, 0, 7)
	}
	exit(t, g, 7)
	wantPoll(t, g)
	wantTells(t, g, 2, 1, true, 0)
	wantOver(t, g, 1)
	wantTicket(t, g, 3)
	wantPoll(t, g)
	wantTells(t, g, 3, 2, true, 0)
	wantPoll(t, g)
	wantTells(t, g, 3, 3, false, 0)
	wantOver(t, g, 3)
	wantPoll(t, g)
	wantTells(t, g, 3, 3, false, 0)
}

// TestTicketBesideCallbacks: both ask for the same one.
func TestTicketBesideCallbacks(t *testing.T) {
	g := domain(t, 1)
	wantCall(t, g, api.OK, 0, 5)
	wantTicket(t, g, 1)
	wantPoll(t, g)
	wantPoll(t, g, 5)
	wantTells(t, g, 1, 1, false, 0)
	wantTicket(t, g, 2)
	wantCall(t, g, api.OK, 0, 6)
	wantTicket(t, g, 2)
	wantPoll(t, g)
	wantPoll(t, g, 6)
	wantTells(t, g, 2, 2, false, 0)
	wantPoll(t, g)
	wantTells(t, g, 2, 2, false, 0)
}

func TestBarrier(t *testing.T) {
	g := domain(t, 2)
	wantBarrier(t, g, 0) // without a callback
	if !g.Over(g.Barrier()) {
		t.Error("a barrier of nothing isn't over")
	}
	enter(t, g, 7)
	wantTicket(t, g, 1)
	wantPoll(t, g)
	wantBarrier(t, g, 0) // while one runs that has none
	wantCall(t, g, api.OK, 1, 5)
	wantBarrier(t, g, 2) // without a generation
	wantCall(t, g, api.OK, 0, 6, 7)
	wantBarrier(t, g, 2)
	exit(t, g, 7)
	enter(t, g, 8)
	wantPoll(t, g)
	wantTells(t, g, 2, 1, true, 3, 8)
	wantBarrier(t, g, 2) // of one generation
	wantCall(t, g, api.OK, 1)
	wantBarrier(t, g, 2)
	wantCall(t, g, api.OK, 0, 8)
	wantBarrier(t, g, 3) // some of one, and some without
	wantPoll(t, g)
	wantBarrier(t, g, 3)
	exit(t, g, 8)
	wantPoll(t, g, 6, 7, 5)
	wantBarrier(t, g, 3)
	wantOver(t, g, 2)
	wantPoll(t, g, 8)
	wantOver(t, g, 3)
	wantBarrier(t, g, 0) // none is left
	wantPoll(t, g)
	wantTells(t, g, 3, 3, false, 0)
	wantBarrier(t, g, 0)
}

// TestBarrierWantsNothing: what it answers without a callback, or of such as have their generation, makes none begin.
func TestBarrierWantsNothing(t *testing.T) {
	g := domain(t, 1)
	for range 3 {
		wantBarrier(t, g, 0)
		wantPoll(t, g)
		wantTells(t, g, 0, 0, false, 0)
	}
	enter(t, g, 7)
	wantCall(t, g, api.OK, 0, 5)
	wantBarrier(t, g, 1)
	wantTells(t, g, 0, 0, false, 1)
	wantPoll(t, g)
	for range 3 {
		wantBarrier(t, g, 1)
		wantPoll(t, g)
		wantTells(t, g, 1, 0, true, 1, 7)
	}
	exit(t, g, 7)
	wantPoll(t, g, 5)
	wantTells(t, g, 1, 1, false, 0)
	wantTicket(t, g, 2) // a ticket isn't a barrier's matter
	wantBarrier(t, g, 0)
	wantPoll(t, g)
	wantBarrier(t, g, 0)
	wantPoll(t, g)
	wantTells(t, g, 2, 2, false, 0)
}

// TestBarrierOfSeveralGenerations: on several CPUs, whichever of them has the newest one. Two that are known at once are those of the one that runs, and those of none yet.
func TestBarrierOfSeveralGenerations(t *testing.T) {
	for _, first := range []int{0, 1, 2} {
		for _, second := range []int{0, 1, 2} {
			g := domain(t, 3)
			enter(t, g, 0)
			wantCall(t, g, api.OK, first, 5)
			wantPoll(t, g)
			wantBarrier(t, g, 1)
			wantCall(t, g, api.OK, second, 6)
			wantBarrier(t, g, 2)
			exit(t, g, 0)
			enter(t, g, 1)
			wantPoll(t, g, 5)
			wantBarrier(t, g, 2)
			wantCall(t, g, api.OK, first, 7)
			wantBarrier(t, g, 3)
			exit(t, g, 1)
			wantPoll(t, g, 6)
			wantBarrier(t, g, 3)
			wantPoll(t, g, 7)
			wantBarrier(t, g, 0)
			wantTells(t, g, 3, 3, false, 0)
		}
	}
}

func TestOver(t *testing.T) {
	g := domain(t, 1)
	wantOver(t, g, 0)
	enter(t, g, 7)
	wantOver(t, g, 0)
	wantTicket(t, g, 1)
	wantOver(t, g, 0) // it is only wanted
	wantPoll(t, g)
	wantOver(t, g, 0) // it runs
	exit(t, g, 7)
	wantOver(t, g, 0) // though nobody is inside: no poll has seen it
	wantPoll(t, g)
	wantOver(t, g, 1)
	for gen := 2; gen < 20; gen++ {
		wantTicket(t, g, gen)
		wantOver(t, g, gen-1)
		wantPoll(t, g)
		wantOver(t, g, gen-1)
		wantPoll(t, g)
		wantOver(t, g, gen)
	}
}

// P12.2

// TestPollOfANewDomain: nothing is asked for, so that none begins, whoever is inside.
func TestPollOfANewDomain(t *testing.T) {
	p := newPair(t, 2)
	for range 20 {
		p.poll()
		wantTells(t, p.g, 0, 0, false, 0)
	}
	p.enter(0, 5, 63)
	for range 20 {
		p.poll()
		wantTells(t, p.g, 0, 0, false, 0)
	}
}

// TestPollWithNobodyInside: one poll begins it, and the next one finds it over, no sooner.
func TestPollWithNobodyInside(t *testing.T) {
	p := newPair(t, 2)
	p.call(1, 9)
	wantTells(t, p.g, 0, 0, false, 1)
	wantPoll(t, p.g)
	wantTells(t, p.g, 1, 0, true, 1)
	wantPoll(t, p.g, 9)
	wantTells(t, p.g, 1, 1, false, 0)
	for range 3 {
		wantPoll(t, p.g)
		wantTells(t, p.g, 1, 1, false, 0)
	}
}

func TestPollWithReadersInside(t *testing.T) {
	for _, in := range [][]int{{0}, {63}, {5, 6}, {0, 31, 63}, row(20, 16)} {
		g := domain(t, 1)
		enter(t, g, in...)
		wantCall(t, g, api.OK, 0, 9)
		for range 5 {
			wantPoll(t, g)
			wantTells(t, g, 1, 0, true, 1, in...)
		}
		for i, r := range in {
			wantPoll(t, g)
			wantTells(t, g, 1, 0, true, 1, in[i:]...)
			exit(t, g, r)
			wantTells(t, g, 1, 0, true, 1, in[i:]...) // no poll has seen it
		}
		wantPoll(t, g, 9)
		wantTells(t, g, 1, 1, false, 0)
	}
}

// TestPollOfNestedReaders: only who is quite out has left.
func TestPollOfNestedReaders(t *testing.T) {
	g := domain(t, 1)
	enter(t, g, slices.Repeat([]int{4}, 8)...)
	wantTicket(t, g, 1)
	wantPoll(t, g)
	for range 7 {
		exit(t, g, 4)
		wantPoll(t, g)
		wantTells(t, g, 1, 0, true, 0, 4)
	}
	enter(t, g, 4)
	exit(t, g, 4, 4)
	wantPoll(t, g)
	wantTells(t, g, 1, 1, false, 0)
}

// TestPollOfMany: of more than 16 a poll looks at 16, rising and around.
func TestPollOfMany(t *testing.T) {
	for n := 1; n <= 64; n++ {
		g := domain(t, 1)
		in := row(64-n, n)
		enter(t, g, in...)
		wantTicket(t, g, 1)
		wantPoll(t, g)
		wantTells(t, g, 1, 0, true, 0, in...)
		exit(t, g, in...)
		for len(in) > 0 {
			wantTells(t, g, 1, 0, true, 0, in...)
			wantPoll(t, g)
			in = in[min(16, len(in)):]
		}
		wantTells(t, g, 1, 1, false, 0)
	}
}

// TestPollOfManyWhoStay: each poll goes on where the one before it ended.
func TestPollOfManyWhoStay(t *testing.T) {
	g := domain(t, 1)
	enter(t, g, row(0, 40)...)
	wantTicket(t, g, 1)
	wantPoll(t, g)
	wantPoll(t, g) // 0 to 15
	exit(t, g, 0, 15, 16, 31, 32, 39)
	wantTells(t, g, 1, 0, true, 0, row(0, 40)...)
	wantPoll(t, g) // 16 to 31
	wantTells(t, g, 1, 0, true, 0, slices.Concat(row(0, 16), row(17, 14), row(32, 8))...)
	wantPoll(t, g) // 32 to 39, 0 to 7
	wantTells(t, g, 1, 0, true, 0, slices.Concat(row(1, 15), row(17, 14), row(33, 6))...)
	wantPoll(t, g) // 8 to 15, 17 to 24
	wantTells(t, g, 1, 0, true, 0, slices.Concat(row(1, 14), row(17, 14), row(33, 6))...)
}

// TestEachLooksFromTheFirstOn: the scan of the next one doesn't go on where the last one's ended.
func TestEachLooksFromTheFirstOn(t *testing.T) {
	g := domain(t, 1)
	enter(t, g, row(0, 20)...)
	wantTicket(t, g, 1)
	wantPoll(t, g)
	wantTicket(t, g, 2)
	exit(t, g, row(0, 20)...)
	enter(t, g, row(0, 20)...)
	wantPoll(t, g)
	wantTells(t, g, 1, 0, true, 0, row(16, 4)...)
	wantPoll(t, g)
	wantTells(t, g, 2, 1, true, 0, row(0, 20)...)
	exit(t, g, row(0, 20)...)
	wantPoll(t, g)
	wantTells(t, g, 2, 1, true, 0, row(16, 4)...)
}

// TestPollOfOneWhoCameBack: it is inside, but in another section.
func TestPollOfOneWhoCameBack(t *testing.T) {
	g := domain(t, 1)
	enter(t, g, 5, 8)
	wantCall(t, g, api.OK, 0, 9)
	wantPoll(t, g)
	exit(t, g, 5)
	enter(t, g, 5)
	wantTells(t, g, 1, 0, true, 1, 5, 8)
	wantPoll(t, g)
	wantTells(t, g, 1, 0, true, 1, 8)
	exit(t, g, 8)
	enter(t, g, 8, 8)
	wantPoll(t, g, 9)
	wantTells(t, g, 1, 1, false, 0)
	if g.In() != mask.Of(5, 8) {
		t.Error(g.In().List())
	}
}

// TestPollOfNewcomers: who came behind the begin isn't waited for; who came behind the call, or the ticket, but ahead of the begin, is.
func TestPollOfNewcomers(t *testing.T) {
	g := domain(t, 1)
	enter(t, g, 5)
	wantCall(t, g, api.OK, 0, 9)
	wantTicket(t, g, 1)
	enter(t, g, 6)
	wantPoll(t, g)
	enter(t, g, 7)
	wantTells(t, g, 1, 0, true, 1, 5, 6)
	exit(t, g, 5)
	wantPoll(t, g)
	wantTells(t, g, 1, 0, true, 1, 6)
	exit(t, g, 6)
	wantPoll(t, g, 9)
	wantTells(t, g, 1, 1, false, 0)
	wantTicket(t, g, 2) // of the next one it is
	wantPoll(t, g)
	wantTells(t, g, 2, 1, true, 0, 7)
}

// TestWhoLeftAheadOfTheBegin isn't waited for.
func TestWhoLeftAheadOfTheBegin(t *testing.T) {
	g := domain(t, 1)
	enter(t, g, 5, 6)
	wantCall(t, g, api.OK, 0, 9)
	exit(t, g, 5, 6)
	enter(t, g, 6)
	wantPoll(t, g)
	wantTells(t, g, 1, 0, true, 1, 6)
}

// TestBeganWithNobodyInside: nobody becomes a holdout later.
func TestBeganWithNobodyInside(t *testing.T) {
	g := domain(t, 1)
	wantCall(t, g, api.OK, 0, 9)
	wantPoll(t, g)
	enter(t, g, all()...)
	wantTells(t, g, 1, 0, true, 1)
	wantPoll(t, g, 9)
	wantTells(t, g, 1, 1, false, 0)
}

// TestPollBeginsTheNext: the poll at which one is over begins the next one, if it is asked for, and none otherwise.
func TestPollBeginsTheNext(t *testing.T) {
	for _, x := range []struct {
		name  string
		ask   func(g *grace.Grace)
		begin bool
		told  []int
	}{
		{"nothing", func(g *grace.Grace) {}, false, nil},
		{"Barrier", func(g *grace.Grace) { g.Barrier() }, false, nil},
		{"Call of nothing", func(g *grace.Grace) { g.Call(0) }, false, nil},
		{"Call on no CPU", func(g *grace.Grace) { g.Call(2, 5) }, false, nil},
		{"Enter", func(g *grace.Grace) { g.Enter(1, 1) }, false, nil},
		{"Over", func(g *grace.Grace) { g.Over(2) }, false, nil},
		{"Call", func(g *grace.Grace) { g.Call(1, 5, 6) }, true, []int{5, 6}},
		{"Ticket", func(g *grace.Grace) { g.Ticket() }, true, nil},
		{"both", func(g *grace.Grace) { g.Ticket(); g.Call(0, 5) }, true, []int{5}},
		{"Call and Barrier", func(g *grace.Grace) { g.Call(0, 5); g.Barrier() }, true, []int{5}},
	} {
		g := domain(t, 2)
		wantTicket(t, g, 1)
		wantCall(t, g, api.OK, 0, 9)
		wantPoll(t, g)
		x.ask(g)
		wantPoll(t, g, 9)
		gen := 1
		if x.begin {
			gen = 2
		}
		if g.Gen() != gen || g.Done() != 1 || g.Running() != x.begin || g.Waiting() != len(x.told) {
			t.Errorf("%s: Gen %d, Done %d, Running %v", x.name, g.Gen(), g.Done(), g.Running())
		}
		wantPoll(t, g, x.told...)
		wantTells(t, g, gen, gen, false, 0)
		wantPoll(t, g)
		wantTells(t, g, gen, gen, false, 0)
	}
}

// TestNoneBeginsWhileOneRuns: however much is asked for.
func TestNoneBeginsWhileOneRuns(t *testing.T) {
	p := newPair(t, 2, 7)
	p.ticket()
	p.poll()
	for i := range 10 {
		p.ticket()
		p.call(i%2, i)
		p.poll()
		wantTells(t, p.g, 1, 0, true, i+1, 7)
	}
}

// TestCalledWhileOneRuns: such callbacks get the next one's generation, though they be called just behind the begin, or just ahead of the end.
func TestCalledWhileOneRuns(t *testing.T) {
	g := domain(t, 2)
	enter(t, g, 7)
	wantCall(t, g, api.OK, 1, 1)
	wantPoll(t, g)
	wantCall(t, g, api.OK, 1, 2)
	wantPoll(t, g)
	wantCall(t, g, api.OK, 0, 3)
	exit(t, g, 7)
	wantCall(t, g, api.OK, 1, 4)
	enter(t, g, 8)
	wantBarrier(t, g, 2)
	wantPoll(t, g, 1)
	wantTells(t, g, 2, 1, true, 3, 8)
	wantBarrier(t, g, 2)
	wantCall(t, g, api.OK, 0, 5)
	wantBarrier(t, g, 3)
	wantPoll(t, g)
	exit(t, g, 8)
	wantPoll(t, g, 3, 2, 4)
	wantTells(t, g, 3, 2, true, 1)
	wantPoll(t, g, 5)
	wantTells(t, g, 3, 3, false, 0)
}

// TestPollTellsByCPU: not by when they were called, nor by number.
func TestPollTellsByCPU(t *testing.T) {
	g := domain(t, 64)
	wantCall(t, g, api.OK, 63, 9)
	wantCall(t, g, api.OK, 5, 8, 1, 7)
	wantCall(t, g, api.OK, 63, 3)
	wantCall(t, g, api.OK, 0, 6)
	wantCall(t, g, api.OK, 5, 7, -4)
	wantCall(t, g, api.OK, 62, 5)
	wantCall(t, g, api.OK, 0, 2)
	wantPoll(t, g)
	wantCall(t, g, api.OK, 1, 11) // of the next one
	wantPoll(t, g, 6, 2, 8, 1, 7, 7, -4, 5, 9, 3)
	wantPoll(t, g, 11)
}

// TestPollIsNew: what was told stays as it was told, and to change it changes nothing.
func TestPollIsNew(t *testing.T) {
	g := domain(t, 2)
	wantCall(t, g, api.OK, 0, 5, 6)
	wantCall(t, g, api.OK, 1, 7)
	wantPoll(t, g)
	wantCall(t, g, api.OK, 0, row(10, 62)...)
	a := g.Poll()
	wantCall(t, g, api.OK, 1, 8, 9)
	b := g.Poll()
	if !slices.Equal(a, []int{5, 6, 7}) || !slices.Equal(b, row(10, 62)) {
		t.Fatal(a, b)
	}
	clear(append(a[:0], 1, 2, 3))
	clear(b)
	wantPoll(t, g, 8, 9)
	if slices.Max(a) != 0 || slices.Max(b) != 0 {
		t.Error(a, b)
	}
}

// TestToldOnce: what was told is told no more.
func TestToldOnce(t *testing.T) {
	g := domain(t, 1)
	wantCall(t, g, api.OK, 0, 5)
	wantPoll(t, g)
	wantPoll(t, g, 5)
	for gen := range 5 {
		wantTicket(t, g, gen+2)
		wantPoll(t, g)
		wantPoll(t, g)
	}
	wantTells(t, g, 6, 6, false, 0)
}

// TestTells: all that a domain tells, behind each call.
func TestTells(t *testing.T) {
	p := newPair(t, 2)
	wantTells(t, p.g, 0, 0, false, 0)
	p.enter(5, 5, 9)
	wantTells(t, p.g, 0, 0, false, 0)
	p.call(1, 1, 2)
	wantTells(t, p.g, 0, 0, false, 2)
	p.ticket()
	p.barrier()
	wantTells(t, p.g, 0, 0, false, 2)
	p.exit(5)
	p.poll()
	wantTells(t, p.g, 1, 0, true, 2, 5, 9)
	p.call(0, 3)
	wantTells(t, p.g, 1, 0, true, 3, 5, 9)
	p.exit(5)
	p.enter(6)
	wantTells(t, p.g, 1, 0, true, 3, 5, 9)
	p.poll()
	wantTells(t, p.g, 1, 0, true, 3, 9)
	p.ticket()
	p.barrier()
	p.exit(9)
	wantTells(t, p.g, 1, 0, true, 3, 9)
	p.poll()
	wantTells(t, p.g, 2, 1, true, 1, 6)
	p.exit(6)
	p.poll()
	wantTells(t, p.g, 2, 2, false, 0)
	p.enter(6)
	p.barrier()
	wantTells(t, p.g, 2, 2, false, 0)
	p.ticket()
	wantTells(t, p.g, 2, 2, false, 0)
	p.poll()
	wantTells(t, p.g, 3, 2, true, 0, 6)
}

// TestAskingChangesNothing: what is told stays, however often it is asked.
func TestAskingChangesNothing(t *testing.T) {
	p := newPair(t, 2, 3, 5)
	p.call(0, 7)
	p.poll()
	p.call(1, 8)
	for range 5 {
		p.look()
		p.barrier()
		wantTells(t, p.g, 1, 0, true, 2, 3, 5)
	}
}

// P12.3

// room is a domain whose sections are things, beside what waits for them; it keeps nothing of generations' scans.
type room struct {
	t    *testing.T
	g    *grace.Grace
	in   map[int]*section
	open []*waiter // callbacks by number, tickets by order
}

// waiter is a callback, or a ticket, with the very sections that were open when it was called or taken.
type waiter struct {
	open   []*section
	ticket int // 0 of a callback
	ended  bool
}

func newRoom(t *testing.T, cpus int) *room {
	t.Helper()
	return &room{t: t, g: domain(t, cpus), in: map[int]*section{}}
}

func (m *room) enter(r int) {
	if m.g.Enter(r) != api.OK {
		return
	}
	if m.in[r] == nil {
		m.in[r] = &section{}
	}
	m.in[r].deep++
}

func (m *room) exit(r int) {
	if _, e := m.g.Exit(r); e != api.OK {
		return
	}
	m.in[r].deep--
	if m.in[r].deep == 0 {
		delete(m.in, r)
	}
}

func (m *room) wait(ticket int) {
	w := &waiter{ticket: ticket}
	for _, s := range m.in {
		w.open = append(w.open, s)
	}
	m.open = append(m.open, w)
}

// call is of a callback whose number is its place among the waiters.
func (m *room) call(cpu int) {
	if m.g.Call(cpu, len(m.open)) == api.OK {
		m.wait(0)
	}
}

func (m *room) ticket() {
	m.wait(m.g.Ticket())
}

// poll ends the test if anything is told, or over, too early.
func (m *room) poll() {
	m.t.Helper()
	for _, id := range m.g.Poll() {
		if w := m.open[id]; w.ended || w.ticket != 0 {
			m.t.Fatalf("%d was told, though it doesn't wait", id)
		}
		m.end(id)
	}
	for i, w := range m.open {
		if w.ticket != 0 && !w.ended && m.g.Over(w.ticket) {
			m.end(i)
		}
	}
}

func (m *room) end(i int) {
	m.t.Helper()
	for _, s := range m.open[i].open {
		if s.deep > 0 {
			m.t.Fatalf("%d, of ticket %d, has ended, and a section that was open is still so", i, m.open[i].ticket)
		}
	}
	m.open[i].ended = true
}

// left are how many still wait.
func (m *room) left() int {
	n := 0
	for _, w := range m.open {
		if !w.ended {
			n++
		}
	}
	return n
}

// stir does one thing or another; the more readers there are, the more of them leave at once, so that grace periods come to their ends.
func (m *room) stir(next func(int) int, readers, cpus int) {
	m.t.Helper()
	switch next(10) {
	case 0, 1:
		m.enter(next(readers))
	case 2, 3, 4:
		for range 1 + readers/3 {
			m.exit(next(readers))
		}
	case 5, 6:
		m.call(next(cpus))
	case 7:
		m.ticket()
	default:
		m.poll()
	}
}

// TestNothingEndsTooEarly: no callback is told, and no ticket is over, while a section that was open when it was called, or taken, is still open; and all end at last, though readers come and go.
func TestNothingEndsTooEarly(t *testing.T) {
	for _, readers := range []int{1, 2, 5, 20, 64} {
		for seed := range uint64(12) {
			next := numbers(seed + 100*uint64(readers))
			m := newRoom(t, 3)
			for range 1500 {
				m.stir(next, readers, 3)
			}
			if len(m.open) < 100 || m.left() == len(m.open) {
				t.Fatalf("%d readers, %d: %d of %d are left", readers, seed, m.left(), len(m.open))
			}
			for r := range readers {
				for m.in[r] != nil {
					m.exit(r)
				}
			}
			for range 8 {
				m.poll()
			}
			if n := m.left(); n != 0 {
				t.Fatalf("%d readers, %d: %d are left", readers, seed, n)
			}
		}
	}
}

// TestNotToldWhileOpen: whoever the reader is, and whether one runs when the callback is called, and the ticket taken, or not.
func TestNotToldWhileOpen(t *testing.T) {
	for r := range 64 {
		for _, runs := range []bool{false, true} {
			m := newRoom(t, 1)
			if runs {
				m.ticket()
				m.poll()
			}
			m.enter(r)
			m.call(0)
			m.ticket()
			for other := range 64 {
				m.enter(other)
				m.poll()
				if other != r {
					m.exit(other)
				}
				m.poll()
			}
			if n := m.left(); n != 2 {
				t.Fatalf("%d: %d are left", r, n)
			}
			m.exit(r)
			m.poll()
			m.enter(r) // if it was deeper, it still is
			if n := m.left(); n != 2 {
				t.Fatalf("%d: %d are left", r, n)
			}
			m.exit(r)
			m.exit(r)
			for range 8 {
				m.poll()
			}
			if n := m.left(); n != 0 {
				t.Fatalf("%d: %d are left", r, n)
			}
		}
	}
}

// TestBarrierIsOver: then all callbacks that there were have been told.
func TestBarrierIsOver(t *testing.T) {
	for _, readers := range []int{1, 4, 30} {
		for seed := range uint64(12) {
			next := numbers(seed + 1000*uint64(readers))
			m := newRoom(t, 4)
			barriers := map[int]int{} // how many waiters there were, by ticket
			seen := 0
			for range 1500 {
				m.stir(next, readers, 4)
				if next(5) == 0 {
					barriers[m.g.Barrier()] = len(m.open)
				}
				for ticket, were := range barriers {
					if !m.g.Over(ticket) {
						continue
					}
					for i, w := range m.open[:were] {
						if w.ticket == 0 && !w.ended {
							t.Fatalf("barrier %d is over, and %d isn't told", ticket, i)
						}
					}
					delete(barriers, ticket)
					seen++
				}
			}
			if seen < 10 {
				t.Errorf("%d readers, %d: %d barriers", readers, seed, seen)
			}
		}
	}
}

// TestBarrierEnds: its ticket is over in the end, though nobody asks for anything else.
func TestBarrierEnds(t *testing.T) {
	for polls := range 6 { // ahead of the barrier
		g := domain(t, 2)
		enter(t, g, 3)
		wantCall(t, g, api.OK, 0, 5)
		for i := range polls {
			g.Poll()
			if i == 2 {
				wantCall(t, g, api.OK, 1, 6)
			}
		}
		ticket := g.Barrier()
		exit(t, g, 3)
		for range 8 {
			g.Poll()
		}
		if !g.Over(ticket) || g.Waiting() != 0 || g.Gen() != ticket {
			t.Errorf("behind %d polls: barrier %d, and %d is done", polls, ticket, g.Done())
		}
	}
}

// TestEightPolls are enough for all that waits, when nobody is inside any more: also if all 64 are waited for, and callbacks and tickets wait for that one, and for the next.
func TestEightPolls(t *testing.T) {
	for _, cpus := range []int{1, 64} {
		for ahead := range 12 { // polls before they leave
			g := domain(t, cpus)
			enter(t, g, all()...)
			enter(t, g, all()...)
			for cpu := range cpus {
				wantCall(t, g, api.OK, cpu, row(0, 32)...)
			}
			last := g.Ticket()
			for range ahead {
				g.Poll()
			}
			for cpu := range cpus {
				wantCall(t, g, api.OK, cpu, row(32, 32)...)
			}
			last = max(last, g.Ticket(), g.Barrier())
			for range 2 {
				exit(t, g, all()...)
			}
			told := 0
			for range 8 {
				told += len(g.Poll())
			}
			if told != 64*cpus || g.Waiting() != 0 || g.Running() || !g.Over(last) {
				t.Errorf("of %d, behind %d: %d were told, %d wait, %d is done", cpus, ahead, told, g.Waiting(), g.Done())
			}
			wantTells(t, g, last, last, false, 0)
		}
	}
}

// TestAllWays goes through all rows of some steps of a few readers and two CPUs.
func TestAllWays(t *testing.T) {
	steps := []func(p *pair){
		func(p *pair) { p.poll() },
		func(p *pair) { p.call(0, 1, 2) },
		func(p *pair) { p.call(1, 3) },
		func(p *pair) { p.ticket() },
		func(p *pair) { p.barrier() },
		func(p *pair) { p.enter(5) },
		func(p *pair) { p.exit(5) },
		func(p *pair) { p.exit(9); p.enter(9) },
	}
	rows := 1
	for range 5 {
		rows *= len(steps)
	}
	for n := range rows {
		p := newPair(t, 2, 9)
		if n%2 == 1 {
			p.ticket()
			p.poll()
		}
		rest := n
		for range 5 {
			steps[rest%len(steps)](p)
			rest /= len(steps)
		}
		p.leave(5, 9)
		p.poll()
		p.poll()
		p.poll()
	}
}

// TestLikeTheBook does many things one behind the other, of few readers and CPUs and of all.
func TestLikeTheBook(t *testing.T) {
	for _, readers := range []int{1, 3, 10, 64} {
		for _, cpus := range []int{1, 2, 64} {
			for seed := range uint64(6) {
				p := newPair(t, cpus)
				next := numbers(seed + 100*uint64(readers) + 10000*uint64(cpus))
				for range 700 {
					p.stir(next, readers)
				}
				if p.g.Done() < 3 {
					t.Errorf("%d readers, %d CPUs, %d: %d is done", readers, cpus, seed, p.g.Done())
				}
				p.leave(all()...)
				for range 8 {
					p.poll()
				}
				if p.g.Waiting() != 0 || p.g.Running() {
					t.Fatalf("%d readers, %d CPUs, %d: %d wait", readers, cpus, seed, p.g.Waiting())
				}
			}
		}
	}
}

// stir does one thing or another, now and then of readers and CPUs that aren't there.
func (p *pair) stir(next func(int) int, readers int) {
	p.t.Helper()
	some := func() []int {
		var l []int
		for range next(12) {
			l = append(l, 64-next(readers+1))
		}
		return l
	}
	switch next(12) {
	case 0, 1:
		p.enter(some()...)
	case 2, 3:
		p.exit(some()...)
	case 4:
		for range 1 + readers/8 {
			p.leave(some()...)
		}
	case 5:
		p.leave(some()...)
		p.enter(some()...)
	case 6:
		p.call(next(p.b.cpus+2)-1, row(next(1000)-500, next(20))...)
	case 7:
		p.ticket()
	case 8:
		p.barrier()
	default:
		p.poll()
	}
}

func TestNil(t *testing.T) {
	var g *grace.Grace
	for range 2 {
		for _, r := range append(noReaders(), all()...) {
			if e := g.Enter(r); e != api.ErrState {
				t.Errorf("Enter(%d): %d", r, e)
			}
			if is, e := g.Exit(r); is || e != api.ErrState {
				t.Errorf("Exit(%d): %v, %d", r, is, e)
			}
			if n := g.Depth(r); n != 0 {
				t.Errorf("Depth(%d): %d", r, n)
			}
		}
		if e := g.Enter(); e != api.ErrState {
			t.Error(e)
		}
		if m := g.In(); m != 0 {
			t.Error(m.List())
		}
		for _, cpu := range append(noCPUs(1), 0) {
			wantCall(t, g, api.ErrState, cpu)
			wantCall(t, g, api.ErrState, cpu, 5)
			wantCall(t, g, api.ErrState, cpu, row(0, 65)...)
		}
		wantTicket(t, g, 0)
		wantBarrier(t, g, 0)
		for _, ticket := range []int{math.MinInt, -1, 0, 1, 2, math.MaxInt} {
			if g.Over(ticket) {
				t.Errorf("Over(%d)", ticket)
			}
		}
		wantPoll(t, g)
		wantTells(t, g, 0, 0, false, 0)
	}
}

// TestZero: a domain that New did not make has neither readers nor callbacks; its calls end, and don't panic.
func TestZero(t *testing.T) {
	var g grace.Grace
	for range 2 {
		if e := g.Enter(5); e != api.ErrState {
			t.Error(e)
		}
		if is, e := g.Exit(5); is || e != api.ErrState {
			t.Error(is, e)
		}
		if g.Depth(5) != 0 || g.In() != 0 {
			t.Error(g.Depth(5), g.In().List())
		}
		wantCall(t, &g, api.ErrState, 0, 5)
		wantBarrier(t, &g, 0)
		wantPoll(t, &g)
		wantTells(t, &g, 0, 0, false, 0)
	}
	wantTicket(t, &g, 1)
	wantPoll(t, &g)
	wantPoll(t, &g)
	wantOver(t, &g, 1)
}

// The rules of all layers.

func TestDomainsAreApart(t *testing.T) {
	a, b := newPair(t, 2, 3), newPair(t, 2, 4)
	a.call(0, 5)
	b.call(0, 6, 7)
	a.poll()
	b.look()
	a.ticket()
	b.look()
	b.poll()
	a.look()
	a.exit(3)
	a.poll()
	b.look()
	b.exit(4)
	b.poll()
	a.look()
}

// P2

func TestSameAgain(t *testing.T) {
	run := func() []int {
		next := numbers(33)
		g := domain(t, 5)
		var told []int
		for range 800 {
			told = append(told, int(g.Enter(next(70), next(70))), int(g.Call(next(7)-1, row(next(100), next(9))...)))
			for range 3 {
				is, e := g.Exit(next(66))
				told = append(told, int(e))
				if is {
					told = append(told, -1)
				}
			}
			if next(5) == 0 {
				told = append(told, g.Ticket(), g.Barrier())
			}
			told = append(told, g.Poll()...)
			told = append(told, g.Gen(), g.Done(), g.Waiting(), int(g.In()), int(g.Holdouts()))
		}
		return told
	}
	if !slices.Equal(run(), run()) {
		t.Error("another time, other answers")
	}
}

func TestExamples(t *testing.T) {
	g := domain(t, 1)
	enter(t, g, 5)
	wantCall(t, g, api.OK, 0, 9)
	wantPoll(t, g)
	if !g.Running() || g.Gen() != 1 {
		t.Error(g.Running(), g.Gen())
	}
	wantPoll(t, g)
	exit(t, g, 5)
	wantPoll(t, g, 9)
}
