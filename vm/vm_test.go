package vm_test

import (
	"encoding/binary"
	"math"
	"slices"
	"strconv"
	"strings"
	"testing"

	"detent/alu"
	"detent/api"
	"detent/arena"
	"detent/check"
	"detent/frame"
	"detent/isa"
	"detent/vm"
)

// Words told otherwise than the package does it.
const (
	half = 9223372036854775808  // 2^63
	last = 18446744073709551615 // 2^64-1
)

// numbers gives words that look like chance, and are the same each time.
func numbers(seed uint64) func() uint64 {
	x := seed
	return func() uint64 {
		x = x*6364136223846793005 + 1442695040888963407
		y := (x ^ x>>33) * 0xff51afd7ed558ccd
		return y ^ y>>29
	}
}

// ref is one of some references, of which no two are alike.
func ref(k int) frame.Val {
	return frame.RefTo(k%4, arena.Handle{Slot: k % 16, Gen: 1 + k})
}

// odd are things that neither Num nor RefTo makes; they are handed in whole all the same.
func odd() []frame.Val {
	return []frame.Val{
		{Map: 3, H: arena.Handle{Slot: 2, Gen: 9}, N: 5},
		{Ref: true, Map: -1, H: arena.Handle{Slot: math.MinInt, Gen: math.MaxInt}, N: last},
		{Ref: true}, {Map: math.MaxInt}, {H: arena.Handle{Gen: -3}},
	}
}

// extremes are ints that are neither a fuel nor any number of a run's.
func extremes() []int {
	return []int{math.MinInt, math.MinInt + 1, -1 << 32, -257, -256, -64, -2, -1, 257, 258, 512, 65535, 1 << 32, 1<<32 + 1, 1 << 62, math.MaxInt - 1, math.MaxInt}
}

// written is a program of instructions' texts, with a semicolon between.
func written(t *testing.T, text string) []isa.Ins {
	t.Helper()
	var code []isa.Ins
	for _, line := range strings.Split(text, "; ") {
		name, uses, _ := strings.Cut(line, " ")
		i := isa.Ins{Op: -1}
		for op := 73; op >= 0; op-- {
			if isa.Name(op) == name {
				i.Op = op // the least one of that name has a number, if there is such a one
			}
		}
		var regs, nums []int
		for _, use := range strings.Split(uses, ", ") {
			n, e := strconv.Atoi(strings.TrimPrefix(use, "r"))
			if e == nil && strings.HasPrefix(use, "r") {
				regs = append(regs, n)
			} else if e == nil {
				nums = append(nums, n)
			}
		}
		if class := isa.Class(i.Op); len(regs) == 2 && (class == isa.Alu || class == isa.Jump) {
			i.Op += isa.Reg
		}
		if name == "stst" {
			regs = append([]int{0}, regs...)
		}
		regs = append(regs, 0, 0)
		i.Dst, i.Src = regs[0], regs[1]
		if class := isa.Class(i.Op); len(nums) > 0 && (class == isa.Jump || class == isa.Memory) {
			i.Off, nums = nums[len(nums)-1], nums[:len(nums)-1]
		}
		if len(nums) > 0 {
			i.Imm = nums[0]
		}
		if isa.Text(i) != line {
			t.Fatalf("%q is %+v, %q", line, i, isa.Text(i))
		}
		code = append(code, i)
	}
	return code
}

// sight is all that a run tells but by Go.
type sight struct {
	at, fuel   int
	asks, over bool
	code       api.Errno
	result     uint64
	regs       [10]frame.Val
	stack      [8]frame.Val // of a reference Read tells no more than that it is one
}

// seen is what a run tells now.
func seen(t *testing.T, r *vm.Run) sight {
	t.Helper()
	s := sight{at: r.At(), fuel: r.Fuel(), asks: r.Asks(), over: r.Over(), code: r.Code(), result: r.Result()}
	for k := range s.regs {
		v, e := r.Reg(k)
		if e != api.OK {
			t.Fatalf("Reg(%d): %d", k, e)
		}
		s.regs[k] = v
	}
	for at := range s.stack {
		b, e := r.Read(at, 1)
		switch {
		case e == api.ErrPerm && len(b) == 0:
			s.stack[at] = frame.Val{Ref: true}
		case e == api.OK && len(b) == 8:
			s.stack[at] = frame.Num(binary.LittleEndian.Uint64(b))
		default:
			t.Fatalf("Read(%d, 1): %v, %d", at, b, e)
		}
	}
	return s
}

// moment is what a run is at one time, told by its instructions' texts; one leads to another, and stays as it is.
type moment struct {
	sight
	words [8]frame.Val
	trap  vm.Trap
}

// first is a run's at its beginning.
func first(fuel int, l ...frame.Val) moment {
	m := moment{sight: sight{fuel: fuel}}
	for k, v := range l {
		m.regs[k+1] = v
	}
	return m
}

// shown is what a run of that moment tells.
func (m moment) shown() sight {
	for at, v := range m.words {
		m.stack[at] = frame.Num(v.N)
		if v.Ref {
			m.stack[at] = frame.Val{Ref: true}
		}
	}
	return m.sight
}

// ended is the one in which it is over with an error, where it stands.
func (m moment) ended(e api.Errno) moment {
	m.asks, m.over, m.code, m.trap = false, true, e, vm.Trap{Kind: 1}
	return m
}

// asking is the one in which it waits.
func (m moment) asking(trap vm.Trap) moment {
	m.asks, m.trap = true, trap
	return m
}

// number is that of a register's text, or of a number's.
func number(use string) int {
	n, _ := strconv.Atoi(strings.TrimPrefix(use, "r"))
	return n
}

// thing is what a text stands for: a register, or a number as a word.
func (m moment) thing(use string) frame.Val {
	if strings.HasPrefix(use, "r") {
		return m.regs[number(use)]
	}
	return frame.Num(uint64(number(use)))
}

// next is the one behind one more instruction, if it goes; else it is the same.
func (m moment) next(code []isa.Ins) moment {
	switch {
	case m.over || m.asks:
		return m
	case m.fuel == 0:
		return m.ended(16)
	}
	m.fuel--
	i := code[m.at]
	name, text, _ := strings.Cut(isa.Text(i), " ")
	uses := strings.Split(text, ", ")
	switch name {
	case "exit":
		m = m.ended(0)
		m.result = m.regs[0].N
		return m
	case "call":
		return m.asking(vm.Trap{Kind: 2, Helper: number(uses[0]), Args: [5]frame.Val(m.regs[1:6])})
	case "ldv":
		if from := m.thing(uses[1]); from.Ref {
			return m.asking(vm.Trap{Kind: 3, Ref: from, Off: number(uses[2])})
		}
		return m.ended(17)
	case "stv":
		to, what := m.thing(uses[0]), m.thing(uses[2])
		if to.Ref && !what.Ref {
			return m.asking(vm.Trap{Kind: 4, Ref: to, Off: number(uses[1]), N: what.N})
		}
		return m.ended(17)
	case "ldst":
		m.regs[number(uses[0])] = m.words[number(uses[1])]
	case "stst":
		m.words[number(uses[0])] = m.thing(uses[1])
	case "mov":
		m.regs[number(uses[0])] = m.thing(uses[1])
	case "ja":
		m.at += number(uses[0])
	default:
		a, b := m.thing(uses[0]), m.thing(uses[min(1, len(uses)-1)])
		if name[0] == 'j' {
			if goes, _ := alu.Jumps(i.Op, a.N, b.N); goes {
				m.at += number(uses[2])
			}
			break
		}
		if a.Ref || b.Ref {
			return m.ended(17)
		}
		n, _ := alu.Do(i.Op, a.N, b.N)
		m.regs[number(uses[0])] = frame.Num(n)
	}
	m.at++
	return m
}

// given is the one behind an answer.
func (m moment) given(code []isa.Ins, v frame.Val, e api.Errno) (moment, api.Errno) {
	switch {
	case !m.asks:
		return m, 6
	case e != 0:
		return m.ended(e), 0
	}
	text := isa.Text(code[m.at])
	switch name, uses, _ := strings.Cut(text, " "); name {
	case "call":
		m.regs[0] = v
	case "ldv":
		to, _, _ := strings.Cut(uses, ",")
		m.regs[number(to)] = v
	}
	m.asks, m.trap = false, vm.Trap{}
	m.at++
	return m, 0
}

// pair is a run beside its moment: each of its methods does the same with both, and looks at all that they tell then.
type pair struct {
	t    *testing.T
	r    *vm.Run
	m    moment
	code []isa.Ins
}

// newPair is a run of instructions' texts.
func newPair(t *testing.T, fuel int, text string, l ...frame.Val) *pair {
	t.Helper()
	return pairOf(t, written(t, text), fuel, l...)
}

func pairOf(t *testing.T, code []isa.Ins, fuel int, l ...frame.Val) *pair {
	t.Helper()
	r, e := vm.New(check.Prog{Code: code, Sleeps: true}, fuel, l...)
	if r == nil || e != api.OK {
		t.Fatalf("New of %v, %d, %+v: %v, %d", code, fuel, l, r, e)
	}
	p := &pair{t: t, r: r, m: first(fuel, l...), code: code}
	p.look("New")
	return p
}

// look: that both tell the same, and that nothing is changed by asking them on where they don't go on.
func (p *pair) look(what string) {
	p.t.Helper()
	want := p.m.shown()
	if s := seen(p.t, p.r); s != want {
		p.t.Fatalf("%s: it tells\n%+v, not\n%+v", what, s, want)
	}
	still := []int{0, -1, math.MinInt}
	if p.m.asks || p.m.over {
		still = append(still, 1, 2, math.MaxInt, 1)
	}
	for _, n := range still {
		if trap := p.r.Go(n); trap != p.m.trap {
			p.t.Fatalf("%s: Go(%d) where it doesn't go on: %+v, not %+v", what, n, trap, p.m.trap)
		}
	}
	if s := seen(p.t, p.r); s != want {
		p.t.Fatalf("%s: behind Go where it doesn't go on it tells\n%+v, not\n%+v", what, s, want)
	}
}

func (p *pair) goes(n int) vm.Trap {
	p.t.Helper()
	for k := 0; k < n && !p.m.over && !p.m.asks; k++ {
		p.m = p.m.next(p.code)
	}
	trap := p.r.Go(n)
	if trap != p.m.trap {
		p.t.Fatalf("Go(%d): %+v, not %+v", n, trap, p.m.trap)
	}
	p.look("Go(" + strconv.Itoa(n) + ")")
	return trap
}

func (p *pair) give(v frame.Val, e api.Errno) api.Errno {
	p.t.Helper()
	m, want := p.m.given(p.code, v, e)
	p.m = m
	got := p.r.Give(v, e)
	if got != want {
		p.t.Fatalf("Give(%+v, %d): %d, not %d", v, e, got, want)
	}
	p.look("Give")
	return got
}

func (p *pair) end(e api.Errno) api.Errno {
	p.t.Helper()
	want := api.ErrState
	if !p.m.over {
		p.m, want = p.m.ended(e), api.OK
	}
	got := p.r.End(e)
	if got != want {
		p.t.Fatalf("End(%d): %d, not %d", e, got, want)
	}
	p.look("End")
	return got
}

func (p *pair) write(at int, n uint64) {
	p.t.Helper()
	if e := p.r.Write(at, binary.LittleEndian.AppendUint64(nil, n)...); e != api.OK {
		p.t.Fatalf("Write(%d): %d", at, e)
	}
	p.m.words[at] = frame.Num(n)
	p.look("Write")
}

// wantSight: what a run tells, told without the model; registers and the stack are those of the model.
func (p *pair) wantSight(at, fuel int, asks, over bool, code api.Errno, result uint64) {
	p.t.Helper()
	r := p.r
	if r.At() != at || r.Fuel() != fuel || r.Asks() != asks || r.Over() != over || r.Code() != code || r.Result() != result {
		p.t.Errorf("at %d, fuel %d, asks %v, over %v, code %d, result %d, not %d, %d, %v, %v, %d, %d",
			r.At(), r.Fuel(), r.Asks(), r.Over(), r.Code(), r.Result(), at, fuel, asks, over, code, result)
	}
}

func wantTrap(t *testing.T, what string, got, want vm.Trap) {
	t.Helper()
	if got != want {
		t.Errorf("%s: %+v, not %+v", what, got, want)
	}
}

// P19.1

func TestKinds(t *testing.T) {
	if l := []int{vm.Went, vm.Over, vm.Calls, vm.Loads, vm.Stores}; !slices.Equal(l, []int{0, 1, 2, 3, 4}) {
		t.Error(l)
	}
}

// many is so many instructions, of which the last one is exit.
func many(n int) []isa.Ins {
	code := make([]isa.Ins, n)
	for k := range code {
		code[k] = isa.Ins{Op: isa.Add, Dst: 1, Imm: 1}
	}
	if n > 0 {
		code[n-1] = isa.Ins{Op: isa.Exit}
	}
	return code
}

// wrong are programs that Check refuses, with each of its errors.
func wrong() []struct {
	code []isa.Ins
	e    api.Errno
} {
	exit := isa.Ins{Op: isa.Exit}
	return []struct {
		code []isa.Ins
		e    api.Errno
	}{
		{nil, 8}, {[]isa.Ins{}, 8}, {many(65), 8}, {many(66), 8}, {many(1000), 8},
		{[]isa.Ins{{Op: 13}, exit}, 11}, {[]isa.Ins{{Op: -1}, exit}, 11}, {[]isa.Ins{{Op: math.MaxInt}, exit}, 11},
		{[]isa.Ins{{Op: isa.Mov, Dst: 10}, exit}, 2}, {[]isa.Ins{{Op: isa.Mov, Imm: 1 << 31}, exit}, 2},
		{[]isa.Ins{{Op: isa.Mov, Src: 1}, exit}, 9}, {[]isa.Ins{{Op: isa.Exit, Imm: 1}}, 9},
		{[]isa.Ins{{Op: isa.LdStack, Off: 8}, exit}, 2}, {[]isa.Ins{{Op: isa.LdStack, Off: -1}, exit}, 2}, {[]isa.Ins{{Op: isa.StStack, Off: 8}, exit}, 2}, {[]isa.Ins{{Op: isa.StStack, Off: -1}, exit}, 2},
		{[]isa.Ins{{Op: isa.LdVal, Src: 1, Off: 4}, exit}, 2}, {[]isa.Ins{{Op: isa.LdVal, Src: 1, Off: -1}, exit}, 2}, {[]isa.Ins{{Op: isa.StVal, Dst: 1, Off: 4}, exit}, 2}, {[]isa.Ins{{Op: isa.StVal, Dst: 1, Off: -1}, exit}, 2},
		{[]isa.Ins{{Op: isa.Jeq, Off: 1}, exit}, 2}, {[]isa.Ins{{Op: isa.Jeq, Off: -2}, exit}, 2}, {[]isa.Ins{{Op: isa.Ja}}, 2}, {[]isa.Ins{{Op: isa.Ja, Off: -2}}, 2},
		{[]isa.Ins{{Op: isa.Call, Imm: 0}, exit}, 4}, {[]isa.Ins{{Op: isa.Call, Imm: 17}, exit}, 4}, {[]isa.Ins{{Op: isa.Call, Imm: -1}, exit}, 4},
		{[]isa.Ins{{Op: isa.Call, Imm: 16}, exit}, 17},
		{[]isa.Ins{{Op: isa.Mov}}, 10}, {[]isa.Ins{exit, {Op: isa.Call, Imm: 1}}, 10}, {[]isa.Ins{{Op: isa.Jeq, Off: -1}}, 10},
		{[]isa.Ins{exit, exit}, 19}, {[]isa.Ins{{Op: isa.Ja, Off: 1}, {Op: isa.Mov}, exit}, 19},
	}
}

// TestNewOfWrongPrograms: what Check tells comes ahead of what is wrong with the fuel and with the things.
func TestNewOfWrongPrograms(t *testing.T) {
	for _, c := range wrong() {
		was := slices.Clone(c.code)
		for _, fuel := range append(extremes(), 0, 1, 2, 256) {
			for _, n := range []int{0, 1, 5, 6, 20} {
				if r, e := vm.New(check.Prog{Code: c.code}, fuel, make([]frame.Val, n)...); r != nil || e != c.e {
					t.Errorf("New of %+v, fuel %d, %d things: %v, %d, not %d", c.code, fuel, n, r, e, c.e)
				}
			}
		}
		if !slices.Equal(c.code, was) {
			t.Errorf("New made %+v %+v", was, c.code)
		}
	}
}

func TestNewOfOnesThatSleep(t *testing.T) {
	code := written(t, "call 16; exit")
	if r, e := vm.New(check.Prog{Code: code, Sleeps: true}, 9); r == nil || e != api.OK {
		t.Errorf("pause in one that sleeps: %v, %d", r, e)
	}
	if r, e := vm.New(check.Prog{Code: code}, 9); r != nil || e != api.ErrPerm {
		t.Errorf("pause in one that doesn't sleep: %v, %d", r, e)
	}
	if r, e := vm.New(check.Prog{}, 9); r != nil || e != api.ErrLong {
		t.Errorf("the zero program: %v, %d", r, e)
	}
	if r, e := vm.New(check.Prog{Sleeps: true}, 0, make([]frame.Val, 6)...); r != nil || e != api.ErrLong {
		t.Errorf("no instruction, no fuel, six things: %v, %d", r, e)
	}
}

// TestNewOfEachFuel: that isn't from 1 to 256 comes ahead of too many things.
func TestNewOfEachFuel(t *testing.T) {
	right := check.Prog{Code: written(t, "mov r0, 7; exit")}
	for _, fuel := range append(extremes(), 0) {
		for _, n := range []int{0, 1, 5, 6, 7, 100} {
			if r, e := vm.New(right, fuel, make([]frame.Val, n)...); r != nil || e != api.ErrRange {
				t.Errorf("New of fuel %d, %d things: %v, %d", fuel, n, r, e)
			}
		}
	}
	for fuel := 1; fuel <= 256; fuel++ {
		p := newPair(t, fuel, "mov r0, 7; exit")
		p.wantSight(0, fuel, false, false, api.OK, 0)
		for _, n := range []int{6, 7, 100} {
			if r, e := vm.New(right, fuel, make([]frame.Val, n)...); r != nil || e != api.ErrLong {
				t.Errorf("New of fuel %d, %d things: %v, %d", fuel, n, r, e)
			}
		}
	}
}

// TestNewOfThings: of each number of them up to five, words and references among them in each way.
func TestNewOfThings(t *testing.T) {
	right := check.Prog{Code: written(t, "mov r0, 7; exit")}
	for n := range 6 {
		for kinds := range 1 << n {
			var l []frame.Val
			for k := range n {
				v := frame.Num(last - uint64(k))
				if kinds>>k&1 == 1 {
					v = ref(k)
				}
				l = append(l, v)
			}
			was := slices.Clone(l)
			r, e := vm.New(right, 256, l...)
			if r == nil || e != api.OK {
				t.Fatalf("New of %+v: %v, %d", l, r, e)
			}
			want := sight{fuel: 256}
			copy(want.regs[1:], was)
			for k := range l {
				if l[k] != was[k] {
					t.Errorf("New made %+v %+v", was, l)
				}
				l[k] = frame.Num(77)
			}
			if s := seen(t, r); s != want {
				t.Errorf("New of %+v tells\n%+v, not\n%+v", was, s, want)
			}
		}
	}
	for _, v := range odd() {
		r, _ := vm.New(right, 1, v, v, v, v, v)
		for k := 1; k <= 5; k++ {
			if x, e := r.Reg(k); x != v || e != api.OK {
				t.Errorf("%+v was handed in, register %d is %+v", v, k, x)
			}
		}
	}
}

// TestNewOfTheLongest: of 64 instructions, each of which is done.
func TestNewOfTheLongest(t *testing.T) {
	p := pairOf(t, many(64), 64, frame.Num(5))
	wantTrap(t, "Go(63)", p.goes(63), vm.Trap{})
	p.wantSight(63, 1, false, false, api.OK, 0)
	if v, _ := p.r.Reg(1); v != frame.Num(68) {
		t.Error(v)
	}
	wantTrap(t, "Go(1)", p.goes(1), vm.Trap{Kind: vm.Over})
	p.wantSight(63, 0, false, true, api.OK, 0)
	one := newPair(t, 1, "exit")
	wantTrap(t, "Go(1)", one.goes(1), vm.Trap{Kind: vm.Over})
	one.wantSight(0, 0, false, true, api.OK, 0)
}

// TestNewKeepsNothing: neither instructions nor things that are changed behind New change anything in the run, and the run changes nothing in them.
func TestNewKeepsNothing(t *testing.T) {
	code := append(make([]isa.Ins, 0, 64), written(t, "add r1, 2; stst 3, r1; call 3; mov r0, r1; ldv r3, r2, 1; exit")...)
	things := append(make([]frame.Val, 0, 20), frame.Num(5), ref(2))
	p := pairOf(t, code, 20, things...)
	p.code = slices.Clone(code)
	change := func(k int) {
		code[k] = isa.Ins{Op: isa.Mov, Dst: 1, Imm: 99}
		things[k%2] = frame.Num(88)
		things = append(things[:2], frame.Num(66), frame.Num(66), frame.Num(66))[:2]
	}
	change(0)
	p.look("the first one is changed")
	p.goes(1)
	for k := range code {
		change(k)
	}
	p.goes(9)
	p.give(frame.Num(4), api.OK)
	p.goes(9)
	p.give(frame.Num(6), api.OK)
	wantTrap(t, "Go(9)", p.goes(9), vm.Trap{Kind: vm.Over})
	p.wantSight(5, 14, false, true, api.OK, 7)
	for k, i := range code {
		if i != (isa.Ins{Op: isa.Mov, Dst: 1, Imm: 99}) {
			t.Errorf("instruction %d is %+v", k, i)
		}
	}
	for k, v := range things[:2] {
		if v != frame.Num(88) {
			t.Errorf("thing %d is %+v", k, v)
		}
	}
}

// TestRunsAreApart: of one program, and of the same things.
func TestRunsAreApart(t *testing.T) {
	code := written(t, "add r1, 1; stst 0, r1; call 1; exit")
	things := []frame.Val{frame.Num(5), ref(2)}
	a, b := pairOf(t, code, 9, things...), pairOf(t, code, 9, things...)
	a.goes(9)
	b.look("the other one went")
	b.goes(2)
	a.look("the other one went")
	a.give(frame.Num(77), api.OK)
	a.goes(9)
	a.write(0, 3)
	b.look("the other one is over")
	b.goes(9)
	b.give(frame.Num(66), api.OK)
	b.goes(9)
	a.wantSight(3, 5, false, true, api.OK, 77)
	b.wantSight(3, 5, false, true, api.OK, 66)
	if !slices.Equal(things, []frame.Val{frame.Num(5), ref(2)}) {
		t.Error(things)
	}
}

// TestCopiesAreApart: a run by value is one of its own.
func TestCopiesAreApart(t *testing.T) {
	p := newPair(t, 9, "add r1, 1; stst 0, r1; call 1; add r0, r1; exit", frame.Num(5))
	p.goes(2)
	other := *p.r
	p.goes(9)
	p.give(frame.Num(4), api.OK)
	p.goes(9)
	p.write(0, 77)
	q := &pair{t: t, r: &other, m: first(9, frame.Num(5)).next(p.code).next(p.code), code: p.code}
	q.look("the one that it is a copy of is over")
	q.goes(9)
	q.give(frame.Num(1), api.OK)
	q.goes(9)
	p.look("its copy is over")
	p.wantSight(4, 4, false, true, api.OK, 10)
	q.wantSight(4, 4, false, true, api.OK, 7)
}

// TestGoOfEachNumber: of a run that would go ten instructions, with fuel for eight; told without the model.
func TestGoOfEachNumber(t *testing.T) {
	for _, c := range []struct {
		n, at, fuel int
		over        bool
		code        api.Errno
	}{
		{math.MinInt, 0, 8, false, 0}, {-1 << 32, 0, 8, false, 0}, {-1, 0, 8, false, 0}, {0, 0, 8, false, 0},
		{1, 1, 7, false, 0}, {2, 2, 6, false, 0}, {3, 3, 5, false, 0}, {7, 7, 1, false, 0}, {8, 8, 0, false, 0},
		{9, 8, 0, true, 16}, {10, 8, 0, true, 16}, {11, 8, 0, true, 16}, {256, 8, 0, true, 16}, {257, 8, 0, true, 16}, {1 << 32, 8, 0, true, 16}, {math.MaxInt, 8, 0, true, 16},
	} {
		p := pairOf(t, many(11), 8)
		want := vm.Trap{}
		if c.over {
			want.Kind = vm.Over
		}
		wantTrap(t, "Go", p.goes(c.n), want)
		p.wantSight(c.at, c.fuel, false, c.over, c.code, 0)
		if v, _ := p.r.Reg(1); v != frame.Num(uint64(c.at)) {
			t.Errorf("behind Go(%d) register 1 is %+v", c.n, v)
		}
		p.goes(0)
		p.goes(1)
		p.goes(math.MaxInt)
		p.wantSight(8, 0, false, true, api.ErrFuel, 0)
	}
}

// TestGoOfOneThatIsOver: it tells so again, however often, and nothing is changed.
func TestGoOfOneThatIsOver(t *testing.T) {
	over := vm.Trap{Kind: vm.Over}
	for _, c := range []struct {
		text string
		code api.Errno
	}{
		{"mov r0, 7; exit", 0}, {"mov r0, 7; add r2, 1; exit", 17}, {"mov r0, 7; ldv r3, r1, 0; exit", 17}, {"mov r0, 7; stv r1, 0, r1; exit", 17}, {"mov r0, 7; ja -1", 16},
	} {
		p := newPair(t, 9, c.text, frame.Num(5), ref(2))
		wantTrap(t, c.text, p.goes(20), over)
		for _, n := range append(extremes(), 0, 1, 2, 9, 256, 1, 1) {
			wantTrap(t, c.text, p.goes(n), over)
		}
		result := uint64(0)
		if c.code == 0 {
			result = 7
		}
		p.wantSight(1, p.m.fuel, false, true, c.code, result)
	}
}

// TestGoOfOneThatAsks: it asks the same again, however often, and nothing is changed.
func TestGoOfOneThatAsks(t *testing.T) {
	args := [5]frame.Val{frame.Num(5), ref(2), {}, {}, {}}
	for _, c := range []struct {
		text string
		want vm.Trap
	}{
		{"mov r0, 7; call 15; exit", vm.Trap{Kind: vm.Calls, Helper: 15, Args: args}},
		{"mov r0, 7; ldv r2, r2, 3; exit", vm.Trap{Kind: vm.Loads, Ref: ref(2), Off: 3}},
		{"mov r0, 7; stv r2, 2, r1; exit", vm.Trap{Kind: vm.Stores, Ref: ref(2), Off: 2, N: 5}},
	} {
		p := newPair(t, 9, c.text, frame.Num(5), ref(2))
		wantTrap(t, c.text, p.goes(20), c.want)
		for _, n := range append(extremes(), 0, 1, 2, 9, 256, 1, 1) {
			wantTrap(t, c.text, p.goes(n), c.want)
			p.wantSight(1, 7, true, false, api.OK, 0)
		}
		// What it asks stays as it was, though the stack is another one.
		p.write(0, 99)
		wantTrap(t, c.text, p.goes(1), c.want)
	}
}

// sumTexts are the operations of class Alu, but mov.
var sumTexts = strings.Fields("add sub mul div mod and or xor lsh rsh arsh neg")

// TestSums tells what is expected without the model, of 13 and 5 in the registers 1 and 2, or 5 as the number.
func TestSums(t *testing.T) {
	for name, want := range map[string]uint64{
		"add": 18, "sub": 8, "mul": 65, "div": 2, "mod": 3, "and": 5, "or": 13, "xor": 8, "lsh": 416, "rsh": 0, "arsh": 0, "mov": 5, "neg": last - 12,
	} {
		for _, by := range []string{", 5", ", r2"} {
			if name == "neg" {
				by = ""
			}
			p := newPair(t, 9, name+" r1"+by+"; mov r0, r1; exit", frame.Num(13), frame.Num(5))
			wantTrap(t, name, p.goes(1), vm.Trap{})
			p.wantSight(1, 8, false, false, api.OK, 0)
			wantTrap(t, name, p.goes(9), vm.Trap{Kind: vm.Over})
			p.wantSight(2, 6, false, true, api.OK, want)
		}
	}
	for _, n := range []string{"0", "1", "-1", "2147483647", "-2147483648"} {
		p := newPair(t, 9, "mov r0, "+n+"; exit")
		p.goes(2)
		want, _ := strconv.ParseInt(n, 10, 64)
		p.wantSight(1, 7, false, true, api.OK, uint64(want))
	}
}

// TestSumsOfReferences: each ends the run where it stands, and nothing is changed; mov copies whole.
func TestSumsOfReferences(t *testing.T) {
	for _, name := range sumTexts {
		texts := []string{name + " r1, 5", name + " r1, r2", name + " r2, r1", name + " r1, r1"}
		if name == "neg" {
			texts = []string{"neg r1"}
		}
		for _, text := range texts {
			p := newPair(t, 9, "mov r0, 7; "+text+"; exit", ref(1), frame.Num(5))
			wantTrap(t, text, p.goes(1), vm.Trap{})
			wantTrap(t, text, p.goes(1), vm.Trap{Kind: vm.Over})
			p.wantSight(1, 7, false, true, api.ErrPerm, 0)
			for k, want := range []frame.Val{frame.Num(7), ref(1), frame.Num(5)} {
				if v, _ := p.r.Reg(k); v != want {
					t.Errorf("%s: register %d is %+v", text, k, v)
				}
			}
		}
	}
	for _, v := range append(odd(), ref(9), frame.Num(half)) {
		p := newPair(t, 9, "mov r7, r1; mov r1, -1; mov r0, r7; exit", v)
		p.goes(9)
		p.wantSight(3, 5, false, true, api.OK, v.N)
		for k, want := range map[int]frame.Val{0: v, 1: frame.Num(last), 7: v} {
			if x, _ := p.r.Reg(k); x != want {
				t.Errorf("register %d is %+v, not %+v", k, x, want)
			}
		}
	}
}

// TestStack: at each word of the stack, with each register, of words and of references.
func TestStack(t *testing.T) {
	for at := range 8 {
		for k := range 10 {
			for _, v := range append(odd(), frame.Num(last), ref(5)) {
				word, reg, to := strconv.Itoa(at), "r"+strconv.Itoa(k), strconv.Itoa((k+3)%10)
				p := newPair(t, 9, "mov "+reg+", r1; mov r1, 9; stst "+word+", "+reg+"; ldst r"+to+", "+word+"; exit", v)
				p.goes(3)
				p.wantSight(3, 6, false, false, api.OK, 0)
				x, _ := p.r.Reg(k)
				p.goes(1)
				if y, _ := p.r.Reg((k + 3) % 10); y != x || k != 1 && x != v {
					t.Errorf("%+v, %s, word %d: %+v is loaded as %+v", v, reg, at, x, y)
				}
				p.goes(9)
				p.wantSight(4, 4, false, true, api.OK, p.m.regs[0].N)
			}
		}
	}
}

// jumpers are pairs of words, and the jumps that go of them.
func jumpers() []struct {
	a, b frame.Val
	goes string
} {
	return []struct {
		a, b frame.Val
		goes string
	}{
		{frame.Num(0), frame.Num(0), "jeq jge jle"}, {frame.Num(5), frame.Num(5), "jeq jge jle jset"},
		{frame.Num(7), frame.Num(5), "jne jgt jge jset jsgt"}, {frame.Num(5), frame.Num(7), "jne jlt jle jset jslt"},
		{frame.Num(last), frame.Num(1), "jne jgt jge jset jslt"}, {frame.Num(2), frame.Num(last - 7), "jne jlt jle jsgt"},
		{ref(1), frame.Num(0), "jne jgt jge jsgt"}, {ref(1), frame.Num(1), "jeq jge jle jset"}, {frame.Num(0), ref(3), "jne jlt jle jslt"}, {ref(1), ref(2), "jeq jge jle jset"},
		{frame.Val{Ref: true, N: 9}, frame.Num(8), "jne jgt jge jset jsgt"},
	}
}

// TestJumps: each, that goes and that doesn't, forward, back, onto itself, and to the next one, of a number and of a register; told without the model.
func TestJumps(t *testing.T) {
	for _, name := range strings.Fields("jeq jne jgt jge jlt jle jset jsgt jslt") {
		for _, c := range jumpers() {
			goes := slices.Contains(strings.Fields(c.goes), name)
			bys := []string{"r2"}
			if !c.b.Ref {
				bys = append(bys, strconv.FormatInt(int64(c.b.N), 10))
			}
			for _, by := range bys {
				for _, off := range []int{2, 1, 0, -1, -2, -3} {
					p := newPair(t, 9, "mov r3, 3; mov r4, 4; "+name+" r1, "+by+", "+strconv.Itoa(off)+"; mov r5, 5; mov r6, 6; exit", c.a, c.b)
					p.goes(2)
					at := 3
					if goes {
						at += off
					}
					wantTrap(t, name, p.goes(1), vm.Trap{})
					p.wantSight(at, 6, false, false, api.OK, 0)
					p.goes(1)
					p.goes(20)
				}
			}
		}
	}
}

func TestJumpsOfJa(t *testing.T) {
	for _, c := range []struct {
		text   string
		places []int
	}{
		{"ja 0; exit", []int{0, 1, 1}}, {"ja -1", []int{0, 0, 0, 0, 0, 0}}, {"jeq r1, r1, 1; exit; ja -2", []int{0, 2, 1, 1}},
		{"jne r1, r1, 2; mov r0, 1; ja 0; exit", []int{0, 1, 2, 3, 3}}, {"mov r0, 1; ja -2", []int{0, 1, 0, 1, 0, 1, 0}},
		{"jne r1, r1, 1; ja 2; mov r0, 9; exit; ja -3", []int{0, 1, 4, 2, 3, 3}},
	} {
		p := newPair(t, 200, c.text)
		for k, at := range c.places {
			if p.r.At() != at {
				t.Errorf("%s: behind %d it is at %d, not %d", c.text, k, p.r.At(), at)
			}
			p.goes(1)
		}
	}
}

// TestJumpsFar: over all of the longest program, and back.
func TestJumpsFar(t *testing.T) {
	code := many(64)
	code[0] = isa.Ins{Op: isa.Jeq, Dst: 1, Imm: 0, Off: 62}
	code[62] = isa.Ins{Op: isa.Jlt, Dst: 1, Imm: 1000, Off: -63}
	p := pairOf(t, code, 200)
	p.goes(1)
	p.wantSight(63, 199, false, false, api.OK, 0)
	p = pairOf(t, code, 200, frame.Num(5))
	p.goes(62)
	p.wantSight(62, 138, false, false, api.OK, 0)
	p.goes(1)
	p.wantSight(0, 137, false, false, api.OK, 0)
	p.goes(1)
	p.wantSight(1, 136, false, false, api.OK, 0)
	p.goes(200)
	p.wantSight(p.m.at, 0, false, true, api.ErrFuel, 0)
}

// TestExit: with a word and with a reference in register 0; a result is what it is then.
func TestExit(t *testing.T) {
	for _, v := range append(odd(), frame.Num(0), frame.Num(1), frame.Num(half), frame.Num(last), ref(3)) {
		p := newPair(t, 2, "mov r0, r1; exit", v)
		wantTrap(t, "exit", p.goes(2), vm.Trap{Kind: vm.Over})
		p.wantSight(1, 0, false, true, api.OK, v.N)
	}
	p := newPair(t, 2, "mov r0, r1; exit", ref(3))
	p.goes(2)
	p.wantSight(1, 0, false, true, api.OK, 1)
	p = newPair(t, 2, "mov r1, 5; exit", ref(3))
	p.goes(2)
	p.wantSight(1, 0, false, true, api.OK, 0)
}

// TestFuel: with just as much as it needs, and with each less; told without the model.
func TestFuel(t *testing.T) {
	for _, c := range []struct {
		text   string
		places [4]int // of those that it comes to
	}{
		{"mov r0, 7; mov r2, 2; mov r3, 3; exit", [4]int{0, 1, 2, 3}},
		{"mov r0, 7; ja 1; exit; ja -2", [4]int{0, 1, 3, 2}},
		{"mov r0, 7; jeq r0, 7, 0; stst 0, r0; exit", [4]int{0, 1, 2, 3}},
		{"mov r0, 7; jeq r0, 8, 0; ldst r4, 0; exit", [4]int{0, 1, 2, 3}},
	} {
		for fuel := 1; fuel <= 6; fuel++ {
			p := newPair(t, fuel, c.text)
			wantTrap(t, c.text, p.goes(100), vm.Trap{Kind: vm.Over})
			if fuel < 4 {
				p.wantSight(c.places[fuel], 0, false, true, api.ErrFuel, 0)
				continue
			}
			p.wantSight(c.places[3], fuel-4, false, true, api.OK, 7)
		}
		p := newPair(t, 3, c.text)
		p.goes(3)
		p.wantSight(c.places[3], 0, false, false, api.OK, 0)
		p.goes(0)
		p.wantSight(c.places[3], 0, false, false, api.OK, 0)
		p.goes(1)
		p.wantSight(c.places[3], 0, false, true, api.ErrFuel, 0)
	}
}

// TestFuelOfOnesThatAsk: each takes one when it asks, none when it is answered or asks again; without fuel it doesn't ask.
func TestFuelOfOnesThatAsk(t *testing.T) {
	for _, ask := range []string{"call 3", "ldv r3, r1, 0", "stv r1, 0, r2"} {
		text := "mov r0, 7; " + ask + "; exit"
		p := newPair(t, 1, text, ref(1), frame.Num(5))
		wantTrap(t, ask, p.goes(100), vm.Trap{Kind: vm.Over})
		p.wantSight(1, 0, false, true, api.ErrFuel, 0)

		p = newPair(t, 2, text, ref(1), frame.Num(5))
		if trap := p.goes(100); trap.Kind < vm.Calls {
			t.Errorf("%s with just as much fuel: %+v", ask, trap)
		}
		p.wantSight(1, 0, true, false, api.OK, 0)
		p.give(frame.Num(9), api.OK)
		p.wantSight(2, 0, false, false, api.OK, 0)
		wantTrap(t, ask, p.goes(100), vm.Trap{Kind: vm.Over})
		p.wantSight(2, 0, false, true, api.ErrFuel, 0)

		p = newPair(t, 3, text, ref(1), frame.Num(5))
		p.goes(100)
		p.goes(100)
		p.wantSight(1, 1, true, false, api.OK, 0)
		p.give(frame.Num(9), api.OK)
		p.wantSight(2, 1, false, false, api.OK, 0)
		p.goes(1)
		p.wantSight(2, 0, false, true, api.OK, p.m.regs[0].N)
	}
}

// TestFuelInACircle: however great it is, a run comes to its end.
func TestFuelInACircle(t *testing.T) {
	for fuel := 1; fuel <= 256; fuel++ {
		p := newPair(t, fuel, "add r0, 1; ja -2")
		wantTrap(t, "a circle", p.goes(math.MaxInt), vm.Trap{Kind: vm.Over})
		p.wantSight(fuel%2, 0, false, true, api.ErrFuel, 0)
		if v, _ := p.r.Reg(0); v != frame.Num(uint64((fuel+1)/2)) {
			t.Errorf("with fuel %d register 0 is %+v", fuel, v)
		}
		p = newPair(t, fuel, "ja -1")
		p.goes(fuel)
		p.wantSight(0, 0, false, false, api.OK, 0)
		p.goes(1)
		p.wantSight(0, 0, false, true, api.ErrFuel, 0)
	}
}

// TestCall: each helper, with its number and all five arguments, whatever it has of them.
func TestCall(t *testing.T) {
	for helper := 1; helper <= 16; helper++ {
		for kinds := range 32 {
			var args [5]frame.Val
			for k := range args {
				args[k] = frame.Num(uint64(100 + k))
				if kinds>>k&1 == 1 {
					args[k] = ref(k)
				}
			}
			p := newPair(t, 9, "mov r0, 7; mov r6, 8; call "+strconv.Itoa(helper)+"; exit", args[:]...)
			want := vm.Trap{Kind: vm.Calls, Helper: helper, Args: args}
			wantTrap(t, "call", p.goes(9), want)
			p.wantSight(2, 6, true, false, api.OK, 0)
			p.give(frame.Num(9), api.OK)
			p.goes(9)
			p.wantSight(3, 5, false, true, api.OK, 9)
		}
	}
	// The arguments are what the registers are then, whatever was handed in.
	p := newPair(t, 9, "mov r5, r1; mov r1, 4; call 1; exit", ref(3))
	wantTrap(t, "call", p.goes(9), vm.Trap{Kind: vm.Calls, Helper: 1, Args: [5]frame.Val{frame.Num(4), {}, {}, {}, ref(3)}})
	for _, v := range odd() {
		p := newPair(t, 9, "call 1; exit", v)
		wantTrap(t, "call", p.goes(1), vm.Trap{Kind: vm.Calls, Helper: 1, Args: [5]frame.Val{v, {}, {}, {}, {}}})
	}
}

// TestTrapsAreNewMemory: what is done with one changes nothing in the run.
func TestTrapsAreNewMemory(t *testing.T) {
	p := newPair(t, 9, "call 4; exit", frame.Num(5), ref(2))
	trap := p.goes(1)
	trap.Args[0], trap.Args[1], trap.Helper = frame.Num(77), frame.Num(77), 9
	p.look("what it asked is changed")
	p.give(frame.Num(3), api.OK)
	p.look("it is answered")
}

// TestLoad: of a reference and of a word, from each register into each, at each word of a value.
func TestLoad(t *testing.T) {
	for src := range 10 {
		for dst := range 10 {
			for off := range 4 {
				text := "mov r" + strconv.Itoa(src) + ", r1; ldv r" + strconv.Itoa(dst) + ", r" + strconv.Itoa(src) + ", " + strconv.Itoa(off) + "; exit"
				p := newPair(t, 9, text, ref(6))
				wantTrap(t, text, p.goes(9), vm.Trap{Kind: vm.Loads, Ref: ref(6), Off: off})
				p.wantSight(1, 7, true, false, api.OK, 0)
				p.give(frame.Num(last), api.OK)
				if v, _ := p.r.Reg(dst); v != frame.Num(last) {
					t.Errorf("%s: %+v", text, v)
				}
				p.wantSight(2, 7, false, false, api.OK, 0)
				p.goes(9)

				p = newPair(t, 9, text, frame.Num(1))
				wantTrap(t, text, p.goes(9), vm.Trap{Kind: vm.Over})
				p.wantSight(1, 7, false, true, api.ErrPerm, 0)
			}
		}
	}
	for _, v := range odd() {
		p := newPair(t, 9, "ldv r2, r1, 3; exit", v)
		want := vm.Trap{Kind: vm.Over}
		if v.Ref {
			want = vm.Trap{Kind: vm.Loads, Ref: v, Off: 3}
		}
		wantTrap(t, "ldv", p.goes(1), want)
	}
}

// TestStore: of each two kinds of things, in each two registers, at each word of a value; the word is a thing's N.
func TestStore(t *testing.T) {
	for dst := range 10 {
		for src := range 10 {
			for off := range 4 {
				for kinds := range 4 {
					l := []frame.Val{frame.Num(1), frame.Num(1000 + uint64(off))}
					for k := range l {
						if kinds>>k&1 == 1 {
							l[k] = ref(5 + k)
						}
					}
					// By way of the stack both come to where they are to be, the source last.
					text := "stst 0, r1; stst 1, r2; ldst r" + strconv.Itoa(dst) + ", 0; ldst r" + strconv.Itoa(src) + ", 1; stv r" + strconv.Itoa(dst) + ", " + strconv.Itoa(off) + ", r" + strconv.Itoa(src) + "; exit"
					p := newPair(t, 9, text, l...)
					trap := p.goes(9)
					if dst == src || kinds != 1 {
						wantTrap(t, text, trap, vm.Trap{Kind: vm.Over})
						p.wantSight(4, 4, false, true, api.ErrPerm, 0)
						continue
					}
					wantTrap(t, text, trap, vm.Trap{Kind: vm.Stores, Ref: l[0], Off: off, N: 1000 + uint64(off)})
					p.wantSight(4, 4, true, false, api.OK, 0)
				}
			}
		}
	}
	for _, to := range append(odd(), ref(1)) {
		for _, what := range append(odd(), frame.Num(0), frame.Num(last), ref(1)) {
			p := newPair(t, 9, "stv r1, 2, r2; exit", to, what)
			want := vm.Trap{Kind: vm.Over}
			if to.Ref && !what.Ref {
				want = vm.Trap{Kind: vm.Stores, Ref: to, Off: 2, N: what.N}
			}
			wantTrap(t, "stv", p.goes(1), want)
		}
	}
}

// P19.2

// TestGiveWhereNothingIsAsked: to a new run, to one that went, to one that was answered, and to one that is over in each way.
func TestGiveWhereNothingIsAsked(t *testing.T) {
	refused := func(p *pair) {
		t.Helper()
		for _, e := range []api.Errno{api.OK, api.ErrArg, api.ErrGone, -1, 99} {
			for _, v := range []frame.Val{{}, frame.Num(3), ref(3)} {
				if got := p.give(v, e); got != api.ErrState {
					t.Errorf("Give(%+v, %d): %d", v, e, got)
				}
			}
		}
	}
	text := "mov r0, 7; call 1; add r0, 1; exit"
	p := newPair(t, 9, text)
	refused(p)
	p.goes(1)
	refused(p)
	p.goes(1)
	if e := p.give(frame.Num(4), api.OK); e != api.OK {
		t.Error(e)
	}
	refused(p) // twice
	p.goes(1)
	refused(p)
	p.goes(1)
	refused(p)
	p.wantSight(3, 5, false, true, api.OK, 5)

	p = newPair(t, 1, text)
	p.goes(2)
	refused(p)
	p.wantSight(1, 0, false, true, api.ErrFuel, 0)

	p = newPair(t, 9, text)
	p.goes(2)
	if e := p.give(frame.Num(4), api.ErrMiss); e != api.OK {
		t.Error(e)
	}
	refused(p)
	p.wantSight(1, 7, false, true, api.ErrMiss, 0)

	for _, e := range []api.Errno{api.OK, api.ErrGone} {
		p = newPair(t, 9, text)
		p.goes(2)
		p.end(e)
		refused(p)
		p.wantSight(1, 7, false, true, e, 0)
	}
}

// TestGive: into which register an answer goes, and that all else is as it was; it is kept whole.
func TestGive(t *testing.T) {
	things := []frame.Val{ref(1), frame.Num(5), ref(3), frame.Num(6), ref(5)}
	head := "mov r0, 10; mov r6, 16; mov r7, 17; mov r8, 18; mov r9, 19; stst 0, r2; stst 7, r1; "
	for _, c := range []struct {
		ask string
		reg int // none, if it is below 0
	}{
		{"call 1", 0}, {"call 3", 0}, {"call 15", 0}, {"call 16", 0},
		{"ldv r0, r1, 0", 0}, {"ldv r1, r1, 1", 1}, {"ldv r2, r3, 2", 2}, {"ldv r3, r1, 3", 3}, {"ldv r8, r5, 0", 8}, {"ldv r9, r1, 0", 9},
		{"stv r1, 0, r2", -1}, {"stv r3, 3, r9", -1}, {"stv r5, 1, r0", -1},
	} {
		for _, v := range append(odd(), frame.Num(0), frame.Num(77), frame.Num(last), ref(40)) {
			p := newPair(t, 20, head+c.ask+"; exit", things...)
			p.goes(20)
			p.wantSight(7, 12, true, false, api.OK, 0)
			was := seen(t, p.r)
			if e := p.give(v, api.OK); e != api.OK {
				t.Errorf("%s: Give(%+v): %d", c.ask, v, e)
			}
			p.wantSight(8, 12, false, false, api.OK, 0)
			s := seen(t, p.r)
			for k := range s.regs {
				want := was.regs[k]
				if k == c.reg {
					want = v
				}
				if s.regs[k] != want {
					t.Errorf("%s: behind Give(%+v) register %d is %+v, not %+v", c.ask, v, k, s.regs[k], want)
				}
			}
			if s.stack != was.stack {
				t.Errorf("%s: behind Give(%+v) the stack is %+v, not %+v", c.ask, v, s.stack, was.stack)
			}
			p.goes(1)
			p.wantSight(8, 11, false, true, api.OK, s.regs[0].N)
		}
	}
}

// TestGiveAnError: the run is over with it, where it asked, and nothing is put anywhere.
func TestGiveAnError(t *testing.T) {
	for _, ask := range []string{"call 3", "ldv r3, r1, 0", "stv r1, 0, r2"} {
		for _, e := range []api.Errno{1, 2, 3, 6, 14, 15, 16, 17, 22, 23, -1, math.MaxInt, math.MinInt} {
			for _, v := range []frame.Val{{}, frame.Num(77), ref(4)} {
				p := newPair(t, 9, "mov r0, 7; "+ask+"; exit", ref(1), frame.Num(5))
				p.goes(9)
				was := seen(t, p.r)
				if got := p.give(v, e); got != api.OK {
					t.Errorf("%s: Give(%+v, %d): %d", ask, v, e, got)
				}
				p.wantSight(1, 7, false, true, e, 0)
				if s := seen(t, p.r); s.regs != was.regs || s.stack != was.stack {
					t.Errorf("%s: Give(%+v, %d) put something somewhere", ask, v, e)
				}
				wantTrap(t, ask, p.goes(9), vm.Trap{Kind: vm.Over})
			}
		}
	}
}

// TestGiveAReference: it is one from then on.
func TestGiveAReference(t *testing.T) {
	p := newPair(t, 9, "call 3; ldv r2, r0, 1; ldv r3, r2, 2; stv r2, 3, r3; exit")
	p.goes(9)
	p.give(ref(8), api.OK)
	wantTrap(t, "ldv", p.goes(9), vm.Trap{Kind: vm.Loads, Ref: ref(8), Off: 1})
	p.give(ref(9), api.OK)
	wantTrap(t, "ldv", p.goes(9), vm.Trap{Kind: vm.Loads, Ref: ref(9), Off: 2})
	p.give(frame.Num(3), api.OK)
	wantTrap(t, "stv", p.goes(9), vm.Trap{Kind: vm.Stores, Ref: ref(9), Off: 3, N: 3})
	p.give(ref(1), api.OK)
	p.goes(9)
	p.wantSight(4, 4, false, true, api.OK, 1)
}

// TestGiveInACircle: a jump back asks again, with what is there then.
func TestGiveInACircle(t *testing.T) {
	p := newPair(t, 256, "add r1, 1; call 15; jlt r1, 5, -3; exit")
	for k := uint64(1); k <= 5; k++ {
		wantTrap(t, "call", p.goes(256), vm.Trap{Kind: vm.Calls, Helper: 15, Args: [5]frame.Val{frame.Num(k), {}, {}, {}, {}}})
		p.give(frame.Num(100*k), api.OK)
		p.wantSight(2, 256-3*int(k)+1, false, false, api.OK, 0)
	}
	p.goes(256)
	p.wantSight(3, 256-16, false, true, api.OK, 500)
}

// ended are the errors that a run may be ended with.
func ended() []api.Errno {
	return []api.Errno{0, 1, 6, 16, 22, 23, -1, math.MaxInt, math.MinInt}
}

// TestEnd: of a new run, of one that goes, and of one that asks; then the result is 0.
func TestEnd(t *testing.T) {
	text := "mov r0, 7; mov r2, 9; call 3; exit"
	for _, e := range ended() {
		for _, c := range []struct{ n, at, fuel int }{{0, 0, 9}, {1, 1, 8}, {2, 2, 7}, {3, 2, 6}} {
			p := newPair(t, 9, text, ref(1))
			p.goes(c.n)
			if got := p.end(e); got != api.OK {
				t.Errorf("End(%d): %d", e, got)
			}
			p.wantSight(c.at, c.fuel, false, true, e, 0)
			wantTrap(t, "Go", p.goes(9), vm.Trap{Kind: vm.Over})
			for _, again := range ended() {
				if got := p.end(again); got != api.ErrState {
					t.Errorf("End(%d) of one that is over: %d", again, got)
				}
			}
			p.wantSight(c.at, c.fuel, false, true, e, 0)
		}
		// Behind an answer it stands at the next one.
		p := newPair(t, 9, text, ref(1))
		p.goes(9)
		p.give(frame.Num(4), api.OK)
		p.end(e)
		p.wantSight(3, 6, false, true, e, 0)
	}
}

// TestEndOfOneThatIsOver: what it is over with, and its result, stay.
func TestEndOfOneThatIsOver(t *testing.T) {
	for _, e := range ended() {
		p := newPair(t, 9, "mov r0, 7; exit")
		p.goes(9)
		if got := p.end(e); got != api.ErrState {
			t.Errorf("End(%d): %d", e, got)
		}
		p.wantSight(1, 7, false, true, api.OK, 7)

		p = newPair(t, 1, "mov r0, 7; exit")
		p.goes(9)
		if got := p.end(e); got != api.ErrState {
			t.Errorf("End(%d): %d", e, got)
		}
		p.wantSight(1, 0, false, true, api.ErrFuel, 0)

		p = newPair(t, 9, "mov r0, 7; add r1, 1; exit", ref(1))
		p.goes(9)
		if got := p.end(e); got != api.ErrState {
			t.Errorf("End(%d): %d", e, got)
		}
		p.wantSight(1, 7, false, true, api.ErrPerm, 0)
	}
}

// TestAsksAndOver: at each time of a run's.
func TestAsksAndOver(t *testing.T) {
	p := newPair(t, 9, "mov r0, 7; call 3; ldv r3, r0, 0; stv r0, 1, r3; exit")
	for _, c := range []struct {
		at, fuel int
		asks     bool
	}{{1, 8, false}, {1, 7, true}, {2, 6, true}, {3, 5, true}} {
		p.goes(1)
		p.wantSight(c.at, c.fuel, c.asks, false, api.OK, 0)
		if c.asks {
			v := frame.Num(6)
			if c.at == 1 {
				v = ref(2)
			}
			p.give(v, api.OK)
			p.wantSight(c.at+1, c.fuel, false, false, api.OK, 0)
		}
	}
	p.goes(1)
	p.wantSight(4, 4, false, true, api.OK, 1)
}

// TestReg: of each register, and of none, of a run that goes, that asks and that is over.
func TestReg(t *testing.T) {
	p := newPair(t, 9, "mov r9, 9; mov r0, r1; call 2; exit", ref(1), frame.Num(2), ref(3), frame.Num(4), ref(5))
	for _, n := range []int{0, 2, 1} {
		p.goes(n)
		for _, k := range append(extremes(), 10, 11, 16, 64) {
			if v, e := p.r.Reg(k); v != (frame.Val{}) || e != api.ErrRange {
				t.Errorf("Reg(%d): %+v, %d", k, v, e)
			}
		}
	}
	for k, want := range []frame.Val{ref(1), ref(1), frame.Num(2), ref(3), frame.Num(4), ref(5), {}, {}, {}, frame.Num(9)} {
		if v, e := p.r.Reg(k); v != want || e != api.OK {
			t.Errorf("Reg(%d): %+v, %d, not %+v", k, v, e, want)
		}
	}
	p.end(api.ErrGone)
	if v, e := p.r.Reg(3); v != ref(3) || e != api.OK {
		t.Errorf("Reg(3) of one that is over: %+v, %d", v, e)
	}
	if v, e := p.r.Reg(10); v != (frame.Val{}) || e != api.ErrRange {
		t.Errorf("Reg(10) of one that is over: %+v, %d", v, e)
	}
}

// wantStack: what Read and Write tell of a run, all of whose words but 5, a reference, are plain ones.
func wantStack(t *testing.T, what string, r *vm.Run) {
	t.Helper()
	b := []byte{1, 2, 3, 4, 5, 6, 7, 200, 9, 0, 0, 0, 0, 0, 0, 128}
	if e := r.Write(3, b...); e != api.OK {
		t.Errorf("%s: Write(3): %d", what, e)
	}
	if got, e := r.Read(3, 2); !slices.Equal(got, b) || e != api.OK {
		t.Errorf("%s: Read(3, 2): %v, %d", what, got, e)
	}
	b[0] = 99
	got, _ := r.Read(3, 1)
	if !slices.Equal(got, []byte{1, 2, 3, 4, 5, 6, 7, 200}) {
		t.Errorf("%s: what was written is kept: %v", what, got)
	}
	got[1] = 99
	if got, _ := r.Read(3, 1); !slices.Equal(got, []byte{1, 2, 3, 4, 5, 6, 7, 200}) {
		t.Errorf("%s: what was read is kept: %v", what, got)
	}
	if got, e := r.Read(5, 1); len(got) != 0 || e != api.ErrPerm {
		t.Errorf("%s: Read of a reference: %v, %d", what, got, e)
	}
	if got, e := r.Read(0, 8); len(got) != 0 || e != api.ErrPerm {
		t.Errorf("%s: Read of all: %v, %d", what, got, e)
	}
	if got, e := r.Read(8, 0); len(got) != 0 || e != api.OK {
		t.Errorf("%s: Read(8, 0): %v, %d", what, got, e)
	}
	if e := r.Write(0); e != api.OK {
		t.Errorf("%s: Write of nothing: %d", what, e)
	}
	for _, n := range append(extremes(), 9) {
		if got, e := r.Read(n, 1); len(got) != 0 || e != api.ErrArg {
			t.Errorf("%s: Read(%d, 1): %v, %d", what, n, got, e)
		}
		if got, e := r.Read(0, n); len(got) != 0 || e != api.ErrArg {
			t.Errorf("%s: Read(0, %d): %v, %d", what, n, got, e)
		}
		if e := r.Write(n, make([]byte, 8)...); e != api.ErrArg {
			t.Errorf("%s: Write(%d): %d", what, n, e)
		}
	}
	for _, n := range []int{1, 7, 9, 72} {
		if e := r.Write(0, make([]byte, n)...); e != api.ErrArg {
			t.Errorf("%s: Write of %d bytes: %d", what, n, e)
		}
	}
	if e := r.Write(7, make([]byte, 16)...); e != api.ErrArg {
		t.Errorf("%s: Write of two words at 7: %d", what, e)
	}
}

// TestReadAndWrite: of a run that goes, that asks, and that is over in each way.
func TestReadAndWrite(t *testing.T) {
	for _, over := range []api.Errno{0, 16, 17, 22} {
		text := "stst 5, r1; mov r0, 3; call 13; exit"
		if over == 17 {
			text = "stst 5, r1; mov r0, 3; call 13; add r1, 1; exit"
		}
		fuel := 9
		if over == 16 {
			fuel = 3
		}
		r, _ := vm.New(check.Prog{Code: written(t, text)}, fuel, ref(1))
		r.Go(2)
		wantStack(t, "of one that goes", r)
		r.Go(1)
		if !r.Asks() {
			t.Fatal("it doesn't ask")
		}
		wantStack(t, "of one that asks", r)
		if over == 22 {
			r.Give(frame.Num(1), 22)
		}
		r.Give(frame.Num(1), api.OK)
		r.Go(9)
		if !r.Over() || r.Code() != over {
			t.Fatal(r.Over(), r.Code())
		}
		wantStack(t, "of one that is over", r)
		if !r.Over() || r.Code() != over {
			t.Error(r.Over(), r.Code())
		}
	}
}

// TestWhatIsWrittenIsReadByTheRun: and what it stores is read; a word is written over a reference, too.
func TestWhatIsWrittenIsReadByTheRun(t *testing.T) {
	p := newPair(t, 20, "stst 2, r1; stst 3, r2; call 13; ldst r0, 2; ldst r4, 3; add r0, 1; stst 7, r0; exit", ref(1), frame.Num(77))
	p.goes(2)
	p.write(3, 66)
	p.goes(20)
	p.write(2, half)
	p.give(frame.Num(0), api.OK)
	p.goes(20)
	p.wantSight(7, 12, false, true, api.OK, half+1)
	if v, _ := p.r.Reg(4); v != frame.Num(66) {
		t.Errorf("register 4 is %+v", v)
	}
	if b, e := p.r.Read(7, 1); !slices.Equal(b, []byte{1, 0, 0, 0, 0, 0, 0, 128}) || e != api.OK {
		t.Errorf("Read(7, 1): %v, %d", b, e)
	}
}

// P19.3

// chance is a right program that looks like chance, and with what it begins.
func chance(next func() uint64) (check.Prog, int, []frame.Val) {
	below := func(n int) int { return int(next() % uint64(n)) }
	for {
		size := 1 + below(14)
		var code []isa.Ins
		for at := range size - 1 {
			code = append(code, oneOf(below, at, size))
		}
		end := isa.Ins{Op: isa.Exit}
		if below(3) == 0 {
			end = isa.Ins{Op: isa.Ja, Off: below(size) - size}
		}
		p := check.Prog{Code: append(code, end), Sleeps: below(2) == 0}
		if _, e := check.Check(p); e != api.OK {
			continue
		}
		var l []frame.Val
		for range below(6) {
			l = append(l, someThing(next))
		}
		return p, 1 + below(40), l
	}
}

// oneOf is an instruction for a place in a program of so many.
func oneOf(below func(n int) int, at, size int) isa.Ins {
	i := isa.Ins{Dst: below(6), Src: below(6)}
	target := below(size) - at - 1
	switch below(12) {
	case 0, 1:
		i.Op, i.Src, i.Imm = below(12), 0, below(7)-2
	case 2:
		i.Op = isa.Reg + below(12)
	case 3:
		i.Op = isa.Reg + isa.Mov
	case 4:
		i.Op, i.Src, i.Imm, i.Off = isa.Jeq+below(9), 0, below(4), target
	case 5:
		i.Op, i.Off = isa.Reg+isa.Jeq+below(9), target
	case 6:
		i.Op, i.Src, i.Off = isa.LdStack, 0, below(3)
	case 7:
		i.Op, i.Dst, i.Off = isa.StStack, 0, below(3)
	case 8:
		i.Op, i.Off = isa.LdVal, below(4)
	case 9:
		i.Op, i.Off = isa.StVal, below(4)
	case 10:
		i = isa.Ins{Op: isa.Call, Imm: 1 + below(16)}
	case 11:
		i = isa.Ins{Op: isa.Mov, Dst: i.Dst, Imm: below(5)}
	}
	return i
}

func someThing(next func() uint64) frame.Val {
	switch next() % 5 {
	case 0:
		return frame.Num(next() % 4)
	case 1:
		return frame.Num(next() >> (next() % 64))
	}
	return ref(int(next() % 50))
}

// ending is how a run ended, and all that it asked ahead of that.
type ending struct {
	sight
	asked []vm.Trap
	went  int // so many instructions were done by those who count them
}

// run goes on to the end of a run, by so many at once as steps tells, and answers each time.
func run(t *testing.T, p check.Prog, fuel int, l []frame.Val, seed uint64, steps func() int) ending {
	t.Helper()
	r, e := vm.New(p, fuel, l...)
	if e != api.OK {
		t.Fatalf("New: %d", e)
	}
	next := numbers(seed)
	var x ending
	for !r.Over() {
		left := r.Fuel()
		trap := r.Go(steps())
		x.went += left - r.Fuel()
		if trap.Kind >= vm.Calls {
			x.asked = append(x.asked, trap)
			r.Give(someThing(next), api.OK)
		}
	}
	x.sight = seen(t, r)
	return x
}

// TestHowFarAtOnce changes nothing in what a run asks, and how it ends.
func TestHowFarAtOnce(t *testing.T) {
	next := numbers(19)
	kinds, codes := map[int]int{}, map[api.Errno]int{}
	for round := range 3000 {
		p, fuel, l := chance(next)
		seed := uint64(round)
		want := run(t, p, fuel, l, seed, func() int { return math.MaxInt })
		for _, trap := range want.asked {
			kinds[trap.Kind]++
		}
		codes[want.code]++
		other := numbers(seed + 1)
		for k, steps := range []func() int{
			func() int { return 1 }, func() int { return 2 }, func() int { return fuel }, func() int { return fuel + 1 },
			func() int { return int(other()%7) - 1 }, func() int { return int(other()%uint64(fuel+2)) - 1 },
		} {
			got := run(t, p, fuel, l, seed, steps)
			if got.sight != want.sight || !slices.Equal(got.asked, want.asked) || got.went != want.went {
				t.Fatalf("%d: %+v, fuel %d, %+v: by steps %d\n%+v, not\n%+v", round, p, fuel, l, k, got, want)
			}
		}
	}
	for _, kind := range []int{vm.Calls, vm.Loads, vm.Stores} {
		if kinds[kind] < 100 {
			t.Errorf("%d was asked %d times: too few to tell anything", kind, kinds[kind])
		}
	}
	for _, code := range []api.Errno{0, 16, 17} {
		if codes[code] < 100 {
			t.Errorf("%d ended %d runs: too few to tell anything", code, codes[code])
		}
	}
}

// TestOverBehindItsFuel: no run does more instructions than it had fuel, if it is answered each time; one more step tells that it is over.
func TestOverBehindItsFuel(t *testing.T) {
	next := numbers(190)
	for range 3000 {
		p, fuel, l := chance(next)
		r, _ := vm.New(p, fuel, l...)
		went := 0
		for !r.Over() {
			left := r.Fuel()
			if trap := r.Go(1); trap.Kind >= vm.Calls {
				r.Give(someThing(next), api.OK)
			}
			took := left - r.Fuel()
			went += took
			if took != 1 && !(took == 0 && r.Code() == api.ErrFuel) || went > fuel {
				t.Fatalf("%+v: a step took %d, %d in all, of fuel %d", p, took, went, fuel)
			}
		}
		if r.Fuel() != fuel-went || r.Code() == api.ErrFuel && went != fuel {
			t.Fatalf("%+v: %d of fuel %d are left behind %d, code %d", p, r.Fuel(), fuel, went, r.Code())
		}
	}
}

// TestLikeTheModel: runs that go on by all calls there are, and are looked at behind each.
func TestLikeTheModel(t *testing.T) {
	next := numbers(1900)
	for range 2000 {
		prog, fuel, l := chance(next)
		r, e := vm.New(prog, fuel, l...)
		if e != api.OK {
			t.Fatalf("New of %+v: %d", prog, e)
		}
		p := &pair{t: t, r: r, m: first(fuel, l...), code: prog.Code}
		for range 25 {
			switch next() % 16 {
			case 0:
				p.goes(int(next() % 50))
			case 1, 2, 3, 4, 5:
				p.goes(int(next()%4) - 1)
			case 6:
				p.give(someThing(next), api.Errno(next()%8/7*(next()%23)))
			case 7:
				p.write(int(next()%8), next())
			case 8:
				if next()%6 == 0 {
					p.end(api.Errno(next() % 4))
				}
			default:
				p.goes(1)
				if p.m.asks {
					p.give(someThing(next), api.OK)
				}
			}
		}
	}
}

func TestNil(t *testing.T) {
	var r *vm.Run
	for range 2 {
		for _, n := range append(extremes(), 0, 1, 2) {
			wantTrap(t, "Go of nil", r.Go(n), vm.Trap{Kind: vm.Over})
			if v, e := r.Reg(n); v != (frame.Val{}) || e != api.ErrState {
				t.Errorf("Reg(%d) of nil: %+v, %d", n, v, e)
			}
			if b, e := r.Read(n, n); len(b) != 0 || e != api.ErrState {
				t.Errorf("Read(%d) of nil: %v, %d", n, b, e)
			}
			if e := r.Write(n, make([]byte, 8)...); e != api.ErrState {
				t.Errorf("Write(%d) of nil: %d", n, e)
			}
		}
		if e := r.Write(0); e != api.ErrState {
			t.Errorf("Write of nothing to nil: %d", e)
		}
		if e := r.Write(0, 1); e != api.ErrState {
			t.Errorf("Write of a byte to nil: %d", e)
		}
		for _, e := range ended() {
			if got := r.Give(ref(1), e); got != api.ErrState {
				t.Errorf("Give(%d) to nil: %d", e, got)
			}
			if got := r.End(e); got != api.ErrState {
				t.Errorf("End(%d) of nil: %d", e, got)
			}
		}
		if r.Asks() || !r.Over() || r.Code() != api.OK || r.Result() != 0 || r.Fuel() != 0 || r.At() != -1 {
			t.Error(r.Asks(), r.Over(), r.Code(), r.Result(), r.Fuel(), r.At())
		}
	}
}

// P1

// TestOfNoMaking: a run that New didn't make doesn't panic, and comes to its end.
func TestOfNoMaking(t *testing.T) {
	var r vm.Run
	for _, n := range append(extremes(), 0, 1) {
		r.Go(n)
		r.Reg(n)
		r.Read(n, n)
		r.Write(n, make([]byte, 8)...)
	}
	if r.Asks() || !r.Over() || r.Result() != 0 || r.Fuel() != 0 {
		t.Error(r.Asks(), r.Over(), r.Result(), r.Fuel())
	}
	r.At()
	r.Code()
	if e := r.Give(ref(1), api.OK); e != api.ErrState {
		t.Error(e)
	}
	if e := r.End(api.OK); e != api.ErrState {
		t.Error(e)
	}
}

// P2

// TestSameAgain: the same calls in the same order have the same answers.
func TestSameAgain(t *testing.T) {
	all := func() []ending {
		next := numbers(77)
		var l []ending
		for range 200 {
			p, fuel, things := chance(next)
			l = append(l, run(t, p, fuel, things, next(), func() int { return int(next() % 5) }))
		}
		return l
	}
	was, is := all(), all()
	for k := range was {
		if was[k].sight != is[k].sight || !slices.Equal(was[k].asked, is[k].asked) {
			t.Errorf("%+v, and then %+v", was[k], is[k])
		}
	}
}

func TestExamples(t *testing.T) {
	code := []isa.Ins{{Op: isa.Mov, Imm: 7}, {Op: isa.Exit}}
	r, e := vm.New(check.Prog{Code: code}, 2)
	if e != api.OK {
		t.Fatal(e)
	}
	wantTrap(t, "Go(1)", r.Go(1), vm.Trap{Kind: vm.Went})
	if r.At() != 1 {
		t.Error(r.At())
	}
	wantTrap(t, "Go(1)", r.Go(1), vm.Trap{Kind: vm.Over})
	if r.Code() != api.OK || r.Result() != 7 {
		t.Error(r.Code(), r.Result())
	}
	r, _ = vm.New(check.Prog{Code: code}, 1)
	wantTrap(t, "Go(9)", r.Go(9), vm.Trap{Kind: vm.Over})
	if r.Code() != api.ErrFuel || r.Result() != 0 {
		t.Error(r.Code(), r.Result())
	}
	r, _ = vm.New(check.Prog{Code: []isa.Ins{{Op: isa.Call, Imm: 1}, {Op: isa.Exit}}}, 9)
	wantTrap(t, "Go(9)", r.Go(9), vm.Trap{Kind: vm.Calls, Helper: 1})
	if e := r.Give(frame.Num(9), api.OK); e != api.OK {
		t.Error(e)
	}
	wantTrap(t, "Go(9)", r.Go(9), vm.Trap{Kind: vm.Over})
	if r.Code() != api.OK || r.Result() != 9 {
		t.Error(r.Code(), r.Result())
	}
}
