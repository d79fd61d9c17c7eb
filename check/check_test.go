package check_test

import (
	"math"
	"slices"
	"strconv"
	"strings"
	"testing"

	"detent/api"
	"detent/check"
	"detent/isa"
	"detent/mask"
)

// sheet is the chapter's list of helpers, as it stands there.
const sheet = "1 now 0, 2 cpu 0, 3 find 2, 4 put 4, 5 drop 2, 6 init 1, 7 callback 2, 8 start 4, 9 cancel 1, 10 stop 1, 11 work 2, 12 queue 1, 13 copyin 3, 14 copyout 3, 15 emit 1, 16 pause 0"

// helper is one of the sheet.
type helper struct {
	name string
	args int
}

// helpers are those of the sheet, by number.
func helpers() map[int]helper {
	l := map[int]helper{}
	for _, line := range strings.Split(sheet, ", ") {
		f := strings.Fields(line)
		id, _ := strconv.Atoi(f[0])
		args, _ := strconv.Atoi(f[2])
		l[id] = helper{f[1], args}
	}
	return l
}

// The kinds of operations by what comes behind them, and by what Off is of.
const (
	plain = "plain" // the next one comes, and Off is of nothing
	ja    = "ja"
	jump  = "jump" // any other one
	stack = "stack"
	value = "value"
	call  = "call"
	exit  = "exit"
	none  = "none" // no operation
)

// kindOf: an operation's, by its number.
func kindOf(op int) string {
	switch {
	case op >= 0 && op <= 12, op >= 16 && op <= 27:
		return plain
	case op == 32:
		return ja
	case op >= 33 && op <= 41, op >= 49 && op <= 57:
		return jump
	case op == 64, op == 65:
		return stack
	case op == 66, op == 67:
		return value
	case op == 72:
		return call
	case op == 73:
		return exit
	}
	return none
}

// opsOf are the operations of these kinds, rising.
func opsOf(of ...string) []int {
	var l []int
	for op := range 256 {
		if slices.Contains(of, kindOf(op)) {
			l = append(l, op)
		}
	}
	return l
}

// ops are all operations, rising.
func ops() []int {
	return opsOf(plain, ja, jump, stack, value, call, exit)
}

// noOps are numbers that are no operation: some of them are like one, when they are cut.
func noOps() []int {
	l := []int{math.MinInt, math.MinInt + 32, -1 << 32, -256, -224, -32, -2, 257, 288, 512, 1<<32 + 32, 1<<32 + 73, math.MaxInt - 16, math.MaxInt}
	for op := -1; op <= 256; op++ {
		if kindOf(op) == none {
			l = append(l, op)
		}
	}
	return l
}

// right is an operation's instruction that is right wherever it stands but at the end, in a program where it and 0 are.
func right(op int) isa.Ins {
	i := isa.Ins{Op: op}
	if kindOf(op) == call {
		i.Imm = check.Now
	}
	return i
}

// Instructions by their names.
func jaBy(off int) isa.Ins  { return isa.Ins{Op: 32, Off: off} }
func jeqBy(off int) isa.Ins { return isa.Ins{Op: 33, Dst: 1, Off: off} }
func callOf(n int) isa.Ins  { return isa.Ins{Op: 72, Imm: n} }
func movTo(n int) isa.Ins   { return isa.Ins{Op: 11, Imm: n} }
func end() isa.Ins          { return isa.Ins{Op: 73} }

// movs are so many that only go on to the next one.
func movs(n int) []isa.Ins {
	l := make([]isa.Ins, n)
	for k := range l {
		l[k] = movTo(k)
	}
	return l
}

// put is a program with an instruction put in at a place.
func put(code []isa.Ins, at int, i isa.Ins) []isa.Ins {
	l := slices.Clone(code)
	l[at] = i
	return l
}

// straight are so many, of which the last one is exit.
func straight(n int) []isa.Ins {
	return put(movs(n), n-1, end())
}

// leads is where a jump leads, and whether an instruction is there: that is asked of its Off, ahead of a sum that might run over.
func leads(code []isa.Ins, at int) (int, bool) {
	off, back, ahead := code[at].Off, -1-at, len(code)-2-at
	if off < back || off > ahead {
		return 0, false
	}
	return at + 1 + off, true
}

// follows: does the instruction to come behind the one at? Each of a program's is asked, one by one.
func follows(code []isa.Ins, at, to int) bool {
	goal, is := leads(code, at)
	leaps := is && goal == to
	switch kindOf(code[at].Op) {
	case exit:
		return false
	case ja:
		return leaps
	case jump:
		return leaps || to == at+1
	}
	return to == at+1
}

// nexts is Next told by follows, of one that is there.
func nexts(code []isa.Ins, at int) []int {
	var l []int
	for to := range code {
		if follows(code, at, to) {
			l = append(l, to)
		}
	}
	return l
}

// reached is Reached, by numbers: all is gone through over and over, from the last one to the first one, till nothing new comes.
func reached(code []isa.Ins) []int {
	code = code[:min(64, len(code))]
	is := make([]bool, len(code))
	for more := true; more; {
		more = false
		for to := len(code) - 1; to >= 0; to-- {
			now := to == 0
			for at := range code {
				now = now || is[at] && follows(code, at, to)
			}
			if now && !is[to] {
				is[to], more = true, true
			}
		}
	}
	var l []int
	for at := range is {
		if is[at] {
			l = append(l, at)
		}
	}
	return l
}

// fault is something that is wrong: the round it is looked for in, the instruction, the place in the order of one instruction, and the error.
type fault struct {
	round, at, rank int
	e               api.Errno
}

// faults are all that are wrong in a program, in no order that matters.
func faults(p check.Prog) []fault {
	var l []fault
	put := func(is bool, f fault) {
		if is {
			l = append(l, f)
		}
	}
	put(len(p.Code) == 0 || len(p.Code) > 64, fault{0, 0, 0, 8})
	live := reached(p.Code)
	for at, i := range p.Code {
		kind := kindOf(i.Op)
		_, there := leads(p.Code, at)
		put(!slices.Contains(live, at), fault{3, at, 0, 19})
		put(at == len(p.Code)-1 && kind != exit && kind != ja, fault{2, at, 4, 10})
		put(kind == call && i.Imm == 16 && !p.Sleeps, fault{2, at, 3, 17})
		put(kind == call && (i.Imm < 1 || i.Imm > 16), fault{2, at, 2, 4})
		put((kind == jump || kind == ja) && !there, fault{2, at, 1, 2})
		put(kind == stack && (i.Off < 0 || i.Off > 7), fault{2, at, 1, 2})
		put(kind == value && (i.Off < 0 || i.Off > 3), fault{2, at, 1, 2})
		put(isa.Check(i) != 0, fault{1, at, 0, isa.Check(i)})
	}
	return l
}

// first is the one of a program's faults that is told.
func first(p check.Prog) (int, api.Errno) {
	l := faults(p)
	if len(l) == 0 {
		return 0, 0
	}
	f := slices.MinFunc(l, func(a, b fault) int {
		return slices.Compare([]int{a.round, a.at, a.rank}, []int{b.round, b.at, b.rank})
	})
	return f.at, f.e
}

// numbers gives numbers that look like chance, and are the same each time.
func numbers(seed uint64) func(below int) int {
	x := seed
	return func(below int) int {
		x = x*6364136223846793005 + 1442695040888963407
		return int((x ^ x>>29) >> 7 % uint64(below))
	}
}

// anyIns is an instruction of those that next tells: most are right, in a program of so many, and some aren't.
func anyIns(next func(below int) int, n int) isa.Ins {
	all := ops()
	i := right(all[next(len(all))])
	switch kindOf(i.Op) {
	case ja, jump:
		i.Off = next(n+2) - n/2 - 1
	case stack:
		i.Off = next(40) % 9
	case value:
		i.Off = next(40) % 5
	case call:
		i.Imm = 1 + max(next(16), next(17))
	}
	switch next(60) {
	case 0:
		i.Dst = 10 * next(2)
	case 1:
		i.Op = noOps()[next(len(noOps()))]
	case 2:
		i.Off, i.Imm = next(3)-1, next(18)
	}
	return i
}

func anyCode(next func(below int) int, n int) []isa.Ins {
	l := make([]isa.Ins, n)
	for k := range l {
		l[k] = anyIns(next, n)
	}
	return l
}

// goodCode is one that is right, with jumps forward and back, calls of all but pause, and memory; each is reached, as all but the last one go on to the next one, or are jumped over by one ahead.
func goodCode(next func(below int) int, n int) []isa.Ins {
	l := make([]isa.Ins, n)
	for at := range l {
		fit := opsOf(plain, jump, stack, value, call)
		i := right(fit[next(len(fit))])
		switch kindOf(i.Op) {
		case jump:
			i.Off = next(n) - at - 1
		case stack:
			i.Off = next(8)
		case value:
			i.Off = next(4)
		case call:
			i.Imm = 1 + next(15)
		case plain:
			i.Dst = next(10)
		}
		l[at] = i
	}
	l[n-1] = end()
	if next(2) == 0 {
		l[n-1] = jaBy(next(n) - n)
	}
	if at := next(n); n > 4 && at+3 < n && at > 0 {
		// Behind at stands an end that is only leapt over, and one that only the leap reaches.
		l[at], l[at+1], l[at+2] = jeqBy(1), end(), movTo(7)
	}
	return l
}

func wantHelper(t *testing.T, id int, name string, args int, is bool) {
	t.Helper()
	if n, a, i := check.Helper(id); n != name || a != args || i != is {
		t.Errorf("Helper(%d): %q, %d, %v, not %q, %d, %v", id, n, a, i, name, args, is)
	}
}

func wantNext(t *testing.T, code []isa.Ins, at int, want ...int) {
	t.Helper()
	was := slices.Clone(code)
	if l := check.Next(code, at); !slices.Equal(l, want) {
		t.Errorf("Next(%v, %d): %v, not %v", code, at, l, want)
	}
	if !slices.Equal(code, was) {
		t.Errorf("Next(%v, %d) made them %v", was, at, code)
	}
}

func wantReached(t *testing.T, code []isa.Ins, want ...int) {
	t.Helper()
	was := slices.Clone(code)
	if m := check.Reached(code...); m != mask.Of(want...) {
		t.Errorf("Reached(%v): %v, not %v", code, m.List(), want)
	}
	if !slices.Equal(code, was) {
		t.Errorf("Reached(%v) made them %v", was, code)
	}
}

func wantCalls(t *testing.T, code []isa.Ins, want ...int) {
	t.Helper()
	was := slices.Clone(code)
	if m := check.Calls(code...); m != mask.Of(want...) {
		t.Errorf("Calls(%v): %v, not %v", code, m.List(), want)
	}
	if !slices.Equal(code, was) {
		t.Errorf("Calls(%v) made them %v", was, code)
	}
}

func wantProg(t *testing.T, p check.Prog, at int, wrong api.Errno) {
	t.Helper()
	was := slices.Clone(p.Code)
	if n, e := check.Check(p); n != at || e != wrong {
		t.Errorf("Check(%v, sleeps %v): %d, %d, not %d, %d", p.Code, p.Sleeps, n, e, at, wrong)
	}
	if !slices.Equal(p.Code, was) {
		t.Errorf("Check(%v) made them %v", was, p.Code)
	}
}

// wantCheck is of a program that sleeps and of one that doesn't alike.
func wantCheck(t *testing.T, code []isa.Ins, at int, wrong api.Errno) {
	t.Helper()
	wantProg(t, check.Prog{Code: code}, at, wrong)
	wantProg(t, check.Prog{Code: code, Sleeps: true}, at, wrong)
}

// wantLike holds all calls against what the tests tell of a program themselves.
func wantLike(t *testing.T, code []isa.Ins) {
	t.Helper()
	for at := range code {
		wantNext(t, code, at, nexts(code, at)...)
	}
	wantReached(t, code, reached(code)...)
	for _, sleeps := range []bool{false, true} {
		p := check.Prog{Code: code, Sleeps: sleeps}
		at, e := first(p)
		wantProg(t, p, at, e)
	}
}

func TestConstants(t *testing.T) {
	got := []int{check.Now, check.CPU, check.Find, check.Put, check.Drop, check.Init, check.Callback, check.Start,
		check.Cancel, check.Stop, check.Work, check.Queue, check.CopyIn, check.CopyOut, check.Emit, check.Pause}
	for k, n := range got {
		if n != k+1 {
			t.Errorf("helper %d is %d", k+1, n)
		}
	}
}

// P17.1

func TestHelper(t *testing.T) {
	known := helpers()
	if len(known) != 16 {
		t.Fatal(known)
	}
	for id := -1; id <= 256; id++ {
		h, is := known[id]
		wantHelper(t, id, h.name, h.args, is)
	}
}

func TestHelperFarAway(t *testing.T) {
	for _, id := range []int{math.MinInt, math.MinInt + 1, math.MinInt + 16, -1 << 32, -1<<32 + 3, -256, -255, -17, -16, -2,
		257, 272, 1 << 16, 1<<16 + 1, 1 << 32, 1<<32 + 1, 1<<32 + 16, math.MaxInt - 1, math.MaxInt} {
		wantHelper(t, id, "", 0, false)
	}
}

// The first, a middle and the last place of five; what isn't a jump goes on to the next one, whatever its Off.
func TestNextOfEachOperation(t *testing.T) {
	for _, op := range ops() {
		for _, off := range []int{0, -1, -3, 1, 2, math.MinInt, math.MaxInt} {
			i := right(op)
			i.Off = off
			switch kindOf(op) {
			case ja, jump: // they have a test of their own
			case exit:
				for at := range 5 {
					wantNext(t, put(movs(5), at, i), at)
				}
			default:
				wantNext(t, put(movs(5), 0, i), 0, 1)
				wantNext(t, put(movs(5), 2, i), 2, 3)
				wantNext(t, put(movs(5), 4, i), 4)
			}
		}
	}
}

func TestNextOfNoOperation(t *testing.T) {
	for _, op := range noOps() {
		for _, off := range []int{0, -1, 1, math.MinInt, math.MaxInt} {
			i := isa.Ins{Op: op, Dst: 99, Src: -1, Off: off, Imm: math.MaxInt}
			wantNext(t, put(straight(5), 0, i), 0, 1)
			wantNext(t, put(straight(5), 3, i), 3, 4)
			wantNext(t, put(straight(5), 4, i), 4)
		}
	}
}

// Of five instructions: where the Off leads, what ja tells then, and what any other jump tells.
func TestNextOfEachJump(t *testing.T) {
	cases := []struct {
		at, off    int
		alone, too []int
	}{
		{0, -1, []int{0}, []int{0, 1}},      // the first one, and itself
		{0, 0, []int{1}, []int{1}},          // the next one
		{0, 1, []int{2}, []int{1, 2}},       // over one
		{0, 3, []int{4}, []int{1, 4}},       // the last one
		{0, 4, nil, []int{1}},               // one behind the last one
		{0, -2, nil, []int{1}},              // one ahead of the first one
		{0, 70, nil, []int{1}},              // far behind
		{0, math.MinInt, nil, []int{1}},     //
		{0, math.MaxInt, nil, []int{1}},     //
		{0, math.MaxInt - 1, nil, []int{1}}, //
		{2, -3, []int{0}, []int{0, 3}},      // the first one
		{2, -2, []int{1}, []int{1, 3}},      // the one ahead
		{2, -1, []int{2}, []int{2, 3}},      // itself
		{2, 0, []int{3}, []int{3}},          // the next one
		{2, 1, []int{4}, []int{3, 4}},       // the last one
		{2, 2, nil, []int{3}},               // one behind the last one
		{2, -4, nil, []int{3}},              // one ahead of the first one
		{2, math.MinInt, nil, []int{3}},     //
		{2, math.MaxInt, nil, []int{3}},     //
		{2, math.MaxInt - 2, nil, []int{3}}, //
		{4, -5, []int{0}, []int{0}},         // the first one
		{4, -2, []int{3}, []int{3}},         // the one ahead
		{4, -1, []int{4}, []int{4}},         // the last one, and itself
		{4, 0, nil, nil},                    // the next one would be behind the last one
		{4, -6, nil, nil},                   // one ahead of the first one
		{4, math.MinInt, nil, nil},          //
		{4, math.MaxInt, nil, nil},          //
	}
	for _, c := range cases {
		wantNext(t, put(movs(5), c.at, jaBy(c.off)), c.at, c.alone...)
		for _, op := range opsOf(jump) {
			i := right(op)
			i.Off = c.off
			wantNext(t, put(movs(5), c.at, i), c.at, c.too...)
		}
	}
}

func TestNextOfEachJumpAlone(t *testing.T) {
	for _, op := range opsOf(ja, jump) {
		for _, off := range []int{-2, 0, 1, math.MinInt, math.MaxInt} {
			wantNext(t, []isa.Ins{{Op: op, Off: off}}, 0)
		}
		wantNext(t, []isa.Ins{{Op: op, Off: -1}}, 0, 0)
	}
}

func TestNextOfNoInstruction(t *testing.T) {
	for _, code := range [][]isa.Ins{{end()}, movs(3), {jaBy(-1), jeqBy(0), jaBy(-3), movTo(0)}, movs(64), movs(70)} {
		for _, at := range []int{math.MinInt, math.MinInt + 1, -64, -2, -1, len(code), len(code) + 1, len(code) + 64, 1 << 32, math.MaxInt - 1, math.MaxInt} {
			wantNext(t, code, at)
		}
	}
	for _, code := range [][]isa.Ins{nil, {}} {
		for _, at := range []int{math.MinInt, -1, 0, 1, math.MaxInt} {
			wantNext(t, code, at)
		}
	}
}

// Next knows no most length.
func TestNextOfManyInstructions(t *testing.T) {
	code := movs(300)
	code[0], code[70], code[299] = jeqBy(298), jaBy(-71), jeqBy(-236)
	wantNext(t, code, 0, 1, 299)
	wantNext(t, code, 63, 64)
	wantNext(t, code, 70, 0)
	wantNext(t, code, 298, 299)
	wantNext(t, code, 299, 64)
}

func TestNextIsNewMemory(t *testing.T) {
	code := []isa.Ins{movTo(1), jeqBy(1), movTo(2), end()}
	a, b := check.Next(code, 1), check.Next(code, 1)
	if !slices.Equal(a, []int{2, 3}) {
		t.Fatal(a)
	}
	a[0], a[1] = 90, 91
	a = append(a, 92)
	if !slices.Equal(b, []int{2, 3}) || !slices.Equal(check.Next(code, 1), []int{2, 3}) {
		t.Error("what is done with one answer is seen in another one", a, b)
	}
}

// A program that is handed in isn't kept: what is done with it later is told, and no more.
func TestNothingIsKept(t *testing.T) {
	code := []isa.Ins{jeqBy(1), callOf(3), end()}
	next, live, named := check.Next(code, 0), check.Reached(code...), check.Calls(code...)
	wantCheck(t, code, 0, api.OK)
	code[0], code[1], code[2] = jaBy(0), callOf(4), movTo(1)
	if !slices.Equal(next, []int{1, 2}) || live != 7 || named != 8 {
		t.Error(next, live, named)
	}
	wantNext(t, code, 0, 1)
	wantReached(t, code, 0, 1, 2)
	wantCalls(t, code, 4)
	wantCheck(t, code, 2, api.ErrEnd)
	code[0] = jaBy(1)
	wantReached(t, code, 0, 2)
}

// What stands behind a program in its memory is neither asked nor changed.
func TestOnlyWhatIsHandedIn(t *testing.T) {
	code := []isa.Ins{jaBy(-1), end(), callOf(5)}
	wantNext(t, code[:1], 0, 0)
	wantNext(t, []isa.Ins{jeqBy(1), end(), end()}[:2], 0, 1)
	wantCalls(t, code[:2])
	wantCheck(t, code[:1], 0, api.OK)
	wantCheck(t, code[:2], 1, api.ErrDead)
	if !slices.Equal(code, []isa.Ins{jaBy(-1), end(), callOf(5)}) {
		t.Error(code)
	}
}

func below(n int) []int {
	l := make([]int, n)
	for k := range l {
		l[k] = k
	}
	return l
}

func TestReachedOfSoMany(t *testing.T) {
	wantReached(t, nil)
	wantReached(t, []isa.Ins{})
	for _, i := range []isa.Ins{end(), movTo(1), jaBy(-1), jaBy(0), jaBy(-2), jeqBy(math.MaxInt), jeqBy(math.MinInt), {Op: 99}, {Op: -1, Dst: -7}} {
		wantReached(t, []isa.Ins{i}, 0)
	}
	for _, n := range []int{2, 3, 63, 64} {
		wantReached(t, movs(n), below(n)...)
		wantReached(t, straight(n), below(n)...)
	}
	for _, n := range []int{65, 66, 70, 128, 300} {
		wantReached(t, movs(n), below(64)...)
		wantReached(t, straight(n), below(64)...)
	}
}

func TestReachedByJumps(t *testing.T) {
	// Forward, over what no way leads to.
	wantReached(t, []isa.Ins{jaBy(1), movTo(1), end()}, 0, 2)
	wantReached(t, []isa.Ins{jaBy(2), movTo(1), movTo(2), end()}, 0, 3)
	wantReached(t, []isa.Ins{jeqBy(1), end(), movTo(1), end(), movTo(2)}, 0, 1, 2, 3)
	// What isn't reached goes on to nothing.
	wantReached(t, []isa.Ins{end(), jaBy(0), movTo(1)}, 0)
	wantReached(t, []isa.Ins{end(), jeqBy(1), end(), end()}, 0)
	wantReached(t, []isa.Ins{jaBy(-1), movTo(1), jaBy(-3)}, 0)
	wantReached(t, []isa.Ins{jaBy(2), jaBy(0), jaBy(-2), end()}, 0, 3)
	// Back, and on from there.
	wantReached(t, []isa.Ins{jaBy(3), movTo(1), end(), movTo(2), jaBy(-4)}, 0, 1, 2, 4)
	wantReached(t, []isa.Ins{jaBy(3), end(), jaBy(-2), jaBy(-2), jaBy(-2), movTo(1)}, 0, 1, 2, 3, 4)
	// A circle.
	wantReached(t, []isa.Ins{movTo(1), jaBy(-2), end()}, 0, 1)
	wantReached(t, []isa.Ins{movTo(1), jeqBy(-2), end()}, 0, 1, 2)
	// Nowhere.
	wantReached(t, []isa.Ins{jaBy(7), movTo(1), end()}, 0)
	wantReached(t, []isa.Ins{jaBy(-2), movTo(1), end()}, 0)
	wantReached(t, []isa.Ins{jeqBy(7), movTo(1), jaBy(math.MaxInt), end()}, 0, 1, 2)
}

// A chain that is gone from its last one to its first one: each is reached only from one that stands behind it.
func TestReachedBackwards(t *testing.T) {
	for _, n := range []int{3, 10, 63, 64} {
		code := movs(n)
		for at := range code {
			code[at] = jaBy(-2)
		}
		code[0], code[1] = jaBy(n-2), end()
		wantReached(t, code, below(n)...)
		code[n/2+1] = end() // the chain is cut, so that what stands ahead of it isn't reached
		var want []int
		for _, at := range below(n) {
			if at == 0 || at > n/2 {
				want = append(want, at)
			}
		}
		wantReached(t, code, want...)
	}
}

// Ways that lead over an instruction from 64 on lead nowhere.
func TestReachedOfTheFirst64Alone(t *testing.T) {
	code := movs(70)
	code[0], code[1], code[2] = jaBy(61), end(), end() // to 62
	code[64], code[65] = jaBy(-64), jaBy(-64)          // to 1, to 2
	wantReached(t, code, 0, 62, 63)
	code[63] = jaBy(1) // to 65
	wantReached(t, code, 0, 62, 63)
	code[62] = jeqBy(2) // to 65, or on
	wantReached(t, code, 0, 62, 63)
	code[63] = jaBy(-63) // to 1
	wantReached(t, code, 0, 1, 62, 63)
	for _, over := range []int{64, 65, 69} {
		code := movs(70)
		code[0] = jaBy(over - 1)
		code[over] = jaBy(-over)
		wantReached(t, code, 0)
		code[0] = jeqBy(over - 1)
		code[1] = end()
		code[over] = jaBy(-over + 1)
		wantReached(t, code, 0, 1)
	}
	wantReached(t, put(movs(70), 62, jaBy(0)), below(64)...)
	wantReached(t, put(movs(70), 62, jaBy(1)), below(63)...)
	wantReached(t, put(movs(65), 62, end()), below(63)...)
}

func TestCallsOfEachHelper(t *testing.T) {
	wantCalls(t, nil)
	wantCalls(t, []isa.Ins{})
	for id := 1; id <= 16; id++ {
		wantCalls(t, []isa.Ins{callOf(id)}, id)
		wantCalls(t, []isa.Ins{movTo(1), callOf(id), callOf(id), end()}, id)
		wantCalls(t, []isa.Ins{end(), callOf(id)}, id)
		wantCalls(t, []isa.Ins{{Op: 72, Dst: 3, Src: -4, Off: 99, Imm: id}}, id)
	}
}

func TestCallsOfNoHelper(t *testing.T) {
	for _, n := range []int{math.MinInt, math.MinInt + 1, math.MinInt + 16, -1 << 32, -64, -63, -16, -1, 0, 17, 18, 63, 64, 65, 80, 257, 1<<32 + 1, math.MaxInt - 1, math.MaxInt} {
		wantCalls(t, []isa.Ins{callOf(n)})
		wantCalls(t, []isa.Ins{callOf(16), callOf(n), callOf(1)}, 1, 16)
	}
}

func TestCallsOfOtherOperations(t *testing.T) {
	for _, op := range append(ops(), noOps()...) {
		for id := range 18 {
			if op != 72 {
				wantCalls(t, []isa.Ins{{Op: op, Dst: id, Src: id, Off: id, Imm: id}})
				wantCalls(t, []isa.Ins{{Op: op, Imm: id}, callOf(2), {Op: op, Imm: id}}, 2)
			}
		}
	}
}

func TestCallsOfSeveral(t *testing.T) {
	var all []isa.Ins
	for id := -1; id <= 18; id++ {
		all = append(all, callOf(id))
	}
	wantCalls(t, all, 1, 2, 3, 4, 5, 6, 7, 8, 9, 10, 11, 12, 13, 14, 15, 16)
	slices.Reverse(all)
	wantCalls(t, all, 1, 2, 3, 4, 5, 6, 7, 8, 9, 10, 11, 12, 13, 14, 15, 16)
	wantCalls(t, []isa.Ins{callOf(7), callOf(7), end(), callOf(5), jaBy(-1), callOf(7)}, 5, 7)
	// From 64 on there are calls, too.
	code := movs(70)
	code[0], code[63], code[64], code[69] = callOf(1), callOf(2), callOf(3), callOf(16)
	wantCalls(t, code, 1, 2, 3, 16)
	wantCalls(t, append(movs(300), callOf(9)), 9)
}

// P17.2

func TestCheckOfSoMany(t *testing.T) {
	wantCheck(t, nil, 0, api.ErrLong)
	wantCheck(t, []isa.Ins{}, 0, api.ErrLong)
	for _, n := range []int{1, 2, 63, 64} {
		wantCheck(t, straight(n), 0, api.OK)
		wantCheck(t, put(movs(n), n-1, jaBy(-n)), 0, api.OK)
	}
	for _, n := range []int{65, 66, 70, 128, 256, 300} {
		wantCheck(t, straight(n), 0, api.ErrLong)
		wantCheck(t, put(straight(n), 3, isa.Ins{Op: 99}), 0, api.ErrLong)
		wantCheck(t, put(straight(n), 0, callOf(0)), 0, api.ErrLong)
		wantCheck(t, movs(n), 0, api.ErrLong)
	}
}

// An error of an instruction by itself is told ahead of all others, wherever it stands.
func TestCheckOfWrongInstructions(t *testing.T) {
	wrongs := []struct {
		i isa.Ins
		e api.Errno
	}{
		{isa.Ins{Op: 13}, api.ErrKind}, {isa.Ins{Op: 48}, api.ErrKind}, {isa.Ins{Op: -1, Dst: 10}, api.ErrKind}, {isa.Ins{Op: math.MaxInt}, api.ErrKind},
		{isa.Ins{Op: isa.Add, Dst: 10}, api.ErrRange}, {isa.Ins{Op: isa.Exit, Src: -1}, api.ErrRange}, {callOf(math.MaxInt), api.ErrRange}, {jaBy(32768), api.ErrRange},
		{isa.Ins{Op: isa.Exit, Imm: 1}, api.ErrForm}, {isa.Ins{Op: isa.Ja, Dst: 1}, api.ErrForm}, {isa.Ins{Op: isa.Call, Imm: 99, Off: 1}, api.ErrForm}, {isa.Ins{Op: isa.LdStack, Off: 8, Imm: 1}, api.ErrForm},
	}
	for _, w := range wrongs {
		wantCheck(t, []isa.Ins{w.i}, 0, w.e)
		for at := range 5 {
			wantCheck(t, put(straight(5), at, w.i), at, w.e)
		}
		wantCheck(t, []isa.Ins{end(), w.i}, 1, w.e)                                   // it isn't reached
		wantCheck(t, []isa.Ins{callOf(17), jaBy(9), w.i, movTo(1)}, 2, w.e)           // others are asked later
		wantCheck(t, []isa.Ins{movTo(1), w.i, {Op: 14}, {Op: 73, Dst: 11}}, 1, w.e)   // it is the first one
		wantCheck(t, []isa.Ins{{Op: isa.Mov, Src: 1}, w.i, w.i}, 0, api.ErrForm)      // it isn't
		wantCheck(t, put(straight(64), 63, w.i), 63, w.e)                             // the last one that there may be
		wantCheck(t, append(straight(64), w.i), 0, api.ErrLong)                       // one too many
		wantCheck(t, put(straight(64), 62, isa.Ins{Op: 99, Imm: 1}), 62, api.ErrKind) // and another place
	}
}

func TestCheckOfMemory(t *testing.T) {
	for _, op := range opsOf(stack, value) {
		most := 7
		if kindOf(op) == value {
			most = 3
		}
		for _, off := range []int{math.MinInt, math.MinInt + 3, -1 << 32, -32769, -32768, -32767, -257, -256, -8, -2, -1, 0, 1, 2, 3, 4, 5, 6, 7, 8, 9,
			15, 16, 63, 64, 255, 256, 259, 32766, 32767, 32768, 65536, 65539, 1 << 32, 1<<32 + 1, math.MaxInt - 1, math.MaxInt} {
			want := api.ErrRange
			if off >= 0 && off <= most {
				want = api.OK
			}
			for at := range 3 {
				place := at
				if want == api.OK {
					place = 0
				}
				wantCheck(t, put(straight(4), at, isa.Ins{Op: op, Off: off}), place, want)
			}
		}
	}
}

// Where a jump of each operation leads, from each place of five and of 64.
func TestCheckOfJumps(t *testing.T) {
	for _, op := range opsOf(ja, jump) {
		for _, n := range []int{5, 64} {
			for _, at := range []int{0, 1, n/2 + 1, n - 2} {
				wantJump(t, op, n, at)
			}
		}
		// From the last one, too: if it isn't ja, that is an error, but later.
		wantCheck(t, []isa.Ins{movTo(1), {Op: op, Off: -3}}, 1, api.ErrRange)
		wantCheck(t, []isa.Ins{movTo(1), {Op: op, Off: 0}}, 1, api.ErrRange)
		wantCheck(t, []isa.Ins{movTo(1), {Op: op, Off: 32767}}, 1, api.ErrRange)
		for _, off := range []int{-1, -2} {
			if op == 32 {
				wantCheck(t, []isa.Ins{movTo(1), {Op: op, Off: off}}, 0, api.OK)
			} else {
				wantCheck(t, []isa.Ins{movTo(1), {Op: op, Off: off}}, 1, api.ErrEnd)
			}
		}
	}
}

// wantJump puts a jump into so many that are all reached, though one of them leaps: the one ahead leads to what stands behind it, too.
func wantJump(t *testing.T, op, n, at int) {
	t.Helper()
	code := straight(n)
	if at > 0 {
		code[at-1] = jeqBy(1)
	}
	for _, to := range []int{math.MinInt, -1 << 40, -2, -1, 0, at, at + 1, n - 1, n, n + 1, 1 << 40, math.MaxInt - 64} {
		code[at] = isa.Ins{Op: op, Off: to - at - 1}
		if to < -1<<50 {
			code[at].Off = to
		}
		switch {
		case to < 0 || to >= n:
			wantCheck(t, code, at, api.ErrRange)
		case op == 32 && at == 0 && to != 1:
			wantCheck(t, code, 1, api.ErrDead)
		default:
			wantCheck(t, code, 0, api.OK)
		}
	}
}

func TestCheckOfCalls(t *testing.T) {
	for id := 1; id <= 15; id++ {
		wantCheck(t, []isa.Ins{callOf(id), end()}, 0, api.OK)
		wantCheck(t, []isa.Ins{movTo(1), callOf(id), jaBy(-2)}, 0, api.OK)
	}
	for _, n := range []int{-1 << 31, -2, -1, 0, 17, 18, 64, 65, 80, 256, 257, 1<<31 - 1} {
		wantCheck(t, []isa.Ins{callOf(n), end()}, 0, api.ErrNone)
		wantCheck(t, []isa.Ins{movTo(1), callOf(n), jaBy(-2)}, 1, api.ErrNone)
	}
	for _, n := range []int{math.MinInt, -1<<31 - 1, 1 << 31, 1<<32 + 1, math.MaxInt} {
		wantCheck(t, []isa.Ins{movTo(1), callOf(n), end()}, 1, api.ErrRange)
	}
}

func TestCheckOfPause(t *testing.T) {
	for _, code := range [][]isa.Ins{{callOf(16), end()}, {movTo(1), callOf(16), end()}, {movTo(1), movTo(2), callOf(16), callOf(16), jaBy(-4)}} {
		at := slices.IndexFunc(code, func(i isa.Ins) bool { return i.Op == 72 })
		wantProg(t, check.Prog{Code: code}, at, api.ErrPerm)
		wantProg(t, check.Prog{Code: code, Sleeps: true}, 0, api.OK)
	}
	// Other operations with such a number, or such an Off, aren't calls.
	wantCheck(t, []isa.Ins{movTo(16), {Op: 39, Imm: 16, Off: -1}, end()}, 0, api.OK)
	// One that isn't reached is wrong, too.
	wantProg(t, check.Prog{Code: []isa.Ins{end(), callOf(16), end()}}, 1, api.ErrPerm)
	wantProg(t, check.Prog{Code: []isa.Ins{end(), callOf(16), end()}, Sleeps: true}, 1, api.ErrDead)
}

func TestCheckOfTheLastOne(t *testing.T) {
	for _, op := range ops() {
		for _, n := range []int{1, 2, 5, 64} {
			i := right(op)
			if k := kindOf(op); k == ja || k == jump {
				i.Off = -n
			}
			if op == 32 || op == 73 {
				wantCheck(t, put(movs(n), n-1, i), 0, api.OK)
			} else {
				wantCheck(t, put(movs(n), n-1, i), n-1, api.ErrEnd)
			}
		}
	}
}

func TestCheckOfWhatIsNotReached(t *testing.T) {
	for _, n := range []int{2, 3, 5, 64} {
		for at := 1; at < n; at++ {
			// Only it is leapt over.
			if at < n-1 {
				wantCheck(t, put(straight(n), at-1, jaBy(1)), at, api.ErrDead)
			}
			// Nothing behind the exit is reached.
			wantCheck(t, put(straight(n), at-1, end()), at, api.ErrDead)
			wantCheck(t, put(straight(n), at-1, jaBy(-at)), at, api.ErrDead)
		}
	}
	wantCheck(t, []isa.Ins{jaBy(1), end(), jaBy(-2)}, 0, api.OK)
	wantCheck(t, []isa.Ins{jaBy(1), end(), jaBy(-1)}, 1, api.ErrDead)
	wantCheck(t, []isa.Ins{jaBy(1), jaBy(-1), end()}, 1, api.ErrDead)
	wantCheck(t, []isa.Ins{jaBy(3), movTo(1), jeqBy(-2), end(), jeqBy(-4), jaBy(-6)}, 0, api.OK)
}

// Several things wrong in one instruction: in the order that the chapter tells.
func TestCheckOfOneInstruction(t *testing.T) {
	// At the last place all but what is told sooner is ErrEnd.
	wantCheck(t, []isa.Ins{{Op: 64, Off: 8}}, 0, api.ErrRange)
	wantCheck(t, []isa.Ins{{Op: 67, Off: 4}}, 0, api.ErrRange)
	wantCheck(t, []isa.Ins{jeqBy(0)}, 0, api.ErrRange)
	wantCheck(t, []isa.Ins{callOf(0)}, 0, api.ErrNone)
	wantCheck(t, []isa.Ins{callOf(17)}, 0, api.ErrNone)
	wantProg(t, check.Prog{Code: []isa.Ins{callOf(16)}}, 0, api.ErrPerm)
	wantProg(t, check.Prog{Code: []isa.Ins{callOf(16)}, Sleeps: true}, 0, api.ErrEnd)
	wantCheck(t, []isa.Ins{callOf(15)}, 0, api.ErrEnd)
	// What isn't reached is told last.
	wantCheck(t, []isa.Ins{end(), {Op: 66, Off: -1}}, 1, api.ErrRange)
	wantCheck(t, []isa.Ins{end(), callOf(17)}, 1, api.ErrNone)
	wantCheck(t, []isa.Ins{end(), movTo(1)}, 1, api.ErrEnd)
	wantCheck(t, []isa.Ins{end(), end()}, 1, api.ErrDead)
}

// Several things wrong in several instructions.
func TestCheckOfSeveralInstructions(t *testing.T) {
	// All errors of places are looked for at once: the first instruction is told.
	wantCheck(t, []isa.Ins{callOf(0), jaBy(7), movTo(1)}, 0, api.ErrNone)
	wantCheck(t, []isa.Ins{jaBy(7), callOf(0), movTo(1)}, 0, api.ErrRange)
	wantCheck(t, []isa.Ins{movTo(1), callOf(0), {Op: 64, Off: 8}}, 1, api.ErrNone)
	wantProg(t, check.Prog{Code: []isa.Ins{callOf(16), callOf(0), {Op: 64, Off: 8}, movTo(1)}}, 0, api.ErrPerm)
	wantProg(t, check.Prog{Code: []isa.Ins{callOf(16), callOf(0), {Op: 64, Off: 8}, movTo(1)}, Sleeps: true}, 1, api.ErrNone)
	// An error of an instruction by itself is looked for ahead of these, and what isn't reached behind them.
	wantCheck(t, []isa.Ins{callOf(0), {Op: 14}, end()}, 1, api.ErrKind)
	wantCheck(t, []isa.Ins{end(), {Op: 64, Off: 8}, {Op: 73, Src: 1}}, 2, api.ErrForm)
	wantCheck(t, []isa.Ins{jaBy(1), movTo(1), movTo(2), callOf(0), end()}, 3, api.ErrNone)
	wantCheck(t, []isa.Ins{end(), movTo(1), movTo(2)}, 2, api.ErrEnd)
	wantCheck(t, []isa.Ins{jaBy(1), movTo(1), end(), jaBy(-5)}, 3, api.ErrRange)
	wantCheck(t, []isa.Ins{jaBy(1), movTo(1), end(), movTo(2), end()}, 1, api.ErrDead)
	// An instruction that isn't reached is asked as others are.
	wantCheck(t, []isa.Ins{jaBy(1), {Op: 65, Off: -1}, callOf(99)}, 1, api.ErrRange)
}

// All programs of up to four of these, against all that is wrong with them.
func TestCheckOfAllSmallPrograms(t *testing.T) {
	few := []isa.Ins{end(), movTo(1), jaBy(-2), jaBy(-1), jaBy(0), jaBy(1), jeqBy(-3), jeqBy(0), jeqBy(1),
		callOf(0), callOf(3), callOf(16), {Op: 64, Off: 7}, {Op: 66, Off: 4}, {Op: 48}, {Op: 73, Imm: 1}}
	var all func(code []isa.Ins)
	all = func(code []isa.Ins) {
		wantReached(t, code, reached(code)...)
		for _, sleeps := range []bool{false, true} {
			p := check.Prog{Code: code, Sleeps: sleeps}
			at, e := first(p)
			wantProg(t, p, at, e)
		}
		for _, i := range few {
			if len(code) < 4 && !t.Failed() {
				all(append(slices.Clone(code), i))
			}
		}
	}
	all(nil)
}

func TestLikeTheFaults(t *testing.T) {
	next := numbers(17)
	seen := map[api.Errno]int{}
	for range 4000 {
		code := anyCode(next, 1+next(10))
		wantLike(t, code)
		_, e := check.Check(check.Prog{Code: code})
		seen[e]++
	}
	for _, n := range []int{62, 63, 64, 65, 66, 70} {
		for range 20 {
			wantLike(t, goodCode(next, n))
			wantLike(t, put(goodCode(next, n), next(n), anyIns(next, n)))
			wantLike(t, put(goodCode(next, n), next(n), jaBy(next(n)-n/2)))
		}
	}
	for _, e := range []api.Errno{api.OK, api.ErrRange, api.ErrNone, api.ErrForm, api.ErrEnd, api.ErrKind, api.ErrPerm, api.ErrDead} {
		if seen[e] == 0 {
			t.Errorf("no program has %d", e)
		}
	}
}

// P17.3

// wantClosed: behind each instruction stands whatever comes, so that a run ends at exit or goes on for ever.
func wantClosed(t *testing.T, code []isa.Ins) {
	t.Helper()
	for at, i := range code {
		next := check.Next(code, at)
		ways := 1
		switch kindOf(i.Op) {
		case exit:
			ways = 0
		case jump:
			if i.Off != 0 {
				ways = 2
			}
		}
		if len(next) != ways {
			t.Errorf("%v: behind %d come %v, not %d", code, at, next, ways)
		}
		for _, to := range next {
			if to < 0 || to >= len(code) {
				t.Errorf("%v: from %d to %d", code, at, to)
			}
		}
	}
}

// wantRun goes on by Next, by whatever way, for so many steps.
func wantRun(t *testing.T, code []isa.Ins, next func(below int) int, steps int) {
	t.Helper()
	at, live := 0, check.Reached(code...)
	for range steps {
		if !live.Has(at) {
			t.Fatalf("%v: %d isn't reached, but come to", code, at)
		}
		l := check.Next(code, at)
		if code[at].Op == isa.Exit {
			if len(l) != 0 {
				t.Fatalf("%v: behind exit come %v", code, l)
			}
			return
		}
		if len(l) == 0 {
			t.Fatalf("%v: a run ends at %d, which isn't exit", code, at)
		}
		at = l[next(len(l))]
	}
}

func TestRightProgramsAreClosed(t *testing.T) {
	next := numbers(173)
	for k := range 600 {
		code := goodCode(next, 2+k%63)
		wantCheck(t, code, 0, api.OK)
		wantReached(t, code, below(len(code))...)
		wantClosed(t, code)
		for range 5 {
			wantRun(t, code, next, 200)
		}
	}
}

// Of programs as they come, those that are found right are closed; and what doesn't sleep may as well.
func TestFoundRight(t *testing.T) {
	next := numbers(1733)
	found, wakes := 0, 0
	for range 30000 {
		code := anyCode(next, 1+next(6))
		_, awake := check.Check(check.Prog{Code: code})
		_, asleep := check.Check(check.Prog{Code: code, Sleeps: true})
		if awake == api.OK && asleep != api.OK {
			t.Errorf("%v is right, but if it sleeps it is %d", code, asleep)
		}
		if asleep == api.OK {
			found++
			wantClosed(t, code)
			wantRun(t, code, next, 50)
			if awake != api.OK {
				wakes++
				if awake != api.ErrPerm || !check.Calls(code...).Has(check.Pause) {
					t.Errorf("%v: asleep it is right, awake %d", code, awake)
				}
			}
		}
	}
	if found < 300 || wakes == 0 {
		t.Error("too few are right", found, wakes)
	}
}

// A right program with a pause in it is right just when it sleeps.
func TestRightJustAsleep(t *testing.T) {
	next := numbers(17333)
	for k := range 300 {
		code := goodCode(next, 2+k%63)
		at := slices.IndexFunc(code, func(i isa.Ins) bool { return kindOf(i.Op) == plain || kindOf(i.Op) == call })
		if at >= 0 {
			code[at] = callOf(16)
			wantProg(t, check.Prog{Code: code}, at, api.ErrPerm)
			wantProg(t, check.Prog{Code: code, Sleeps: true}, 0, api.OK)
			wantClosed(t, code)
		}
	}
}

// What closed programs would be without one of the rules isn't found right.
func TestWhatLeavesIsRefused(t *testing.T) {
	for _, code := range [][]isa.Ins{{movTo(1)}, {movTo(1), callOf(1)}, {jeqBy(-1)}, {jaBy(0)}, {jaBy(-2)}, {movTo(1), jeqBy(5), end()}, {jaBy(1), end()}} {
		for _, sleeps := range []bool{false, true} {
			if _, e := check.Check(check.Prog{Code: code, Sleeps: sleeps}); e == api.OK {
				t.Errorf("%v may leave the program, and is right", code)
			}
		}
	}
}

// P2

func TestSameAgain(t *testing.T) {
	run := func() []int {
		next := numbers(18)
		var all []int
		for range 500 {
			code := anyCode(next, next(70))
			at, e := check.Check(check.Prog{Code: code, Sleeps: next(2) == 0})
			all = append(all, at, int(e), int(check.Reached(code...)), int(check.Calls(code...)))
			all = append(all, check.Next(code, next(70))...)
			name, args, _ := check.Helper(next(20))
			all = append(all, len(name), args)
		}
		return all
	}
	if !slices.Equal(run(), run()) {
		t.Error("another time, other answers")
	}
}

func TestExamples(t *testing.T) {
	wantCheck(t, []isa.Ins{{Op: isa.Mov, Imm: 7}, {Op: isa.Exit}}, 0, api.OK)
	wantCheck(t, []isa.Ins{{Op: isa.Exit}, {Op: isa.Exit}}, 1, api.ErrDead)
	wantCheck(t, []isa.Ins{{Op: isa.Ja}}, 0, api.ErrRange)
	wantCheck(t, []isa.Ins{{Op: isa.Ja, Off: -1}}, 0, api.OK)
	wantCheck(t, []isa.Ins{{Op: isa.Jeq, Dst: 1, Off: -1}}, 0, api.ErrEnd)
}
