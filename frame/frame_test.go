package frame_test

import (
	"bytes"
	"encoding/binary"
	"math"
	"slices"
	"strconv"
	"strings"
	"testing"

	"detent/api"
	"detent/arena"
	"detent/frame"
	"detent/isa"
)

// Words told otherwise than the package does it.
const (
	half = 9223372036854775808  // 2^63
	last = 18446744073709551615 // 2^64-1
)

// numbers gives words that look like chance, and are the same each time.
func numbers(seed uint64) func() uint64 {
	x := seed
	return func() uint64 {
		x = x*6364136223846793005 + 1442695040888963407
		y := (x ^ x>>33) * 0xff51afd7ed558ccd
		return y ^ y>>29
	}
}

// model is all the things of a frame by their texts: r0 to r9, and s0 to s7.
type model map[string]frame.Val

// places are the texts of all the things of a frame.
var places = strings.Fields("r0 r1 r2 r3 r4 r5 r6 r7 r8 r9 s0 s1 s2 s3 s4 s5 s6 s7")

// things are all those of a frame, in the order of places.
func things(t *testing.T, f *frame.Frame) []frame.Val {
	t.Helper()
	var l []frame.Val
	for r := range 10 {
		v, e := f.Reg(r)
		if e != api.OK {
			t.Fatalf("Reg(%d): %d", r, e)
		}
		l = append(l, v)
	}
	for at := range 8 {
		v, e := f.Word(at)
		if e != api.OK {
			t.Fatalf("Word(%d): %d", at, e)
		}
		l = append(l, v)
	}
	return l
}

// modelOf is what a frame is now.
func modelOf(t *testing.T, f *frame.Frame) model {
	t.Helper()
	m := model{}
	for k, v := range things(t, f) {
		m[places[k]] = v
	}
	return m
}

// list is a model's things, in the order of places.
func (m model) list() []frame.Val {
	l := make([]frame.Val, len(places))
	for k, place := range places {
		l[k] = m[place]
	}
	return l
}

// wantThings: that a frame has just these things, in the order of places.
func wantThings(t *testing.T, what string, f *frame.Frame, want []frame.Val) {
	t.Helper()
	for k, v := range things(t, f) {
		if v != want[k] {
			t.Errorf("%s: %s is %+v, not %+v", what, places[k], v, want[k])
		}
	}
}

// made is a frame with these things, in the order of places.
func made(t *testing.T, l []frame.Val) *frame.Frame {
	t.Helper()
	f, e := frame.New()
	if f == nil || e != api.OK {
		t.Fatalf("New(): %v, %d", f, e)
	}
	for k, v := range l {
		set, at := f.SetReg, k
		if k >= 10 {
			set, at = f.SetWord, k-10
		}
		if e := set(at, v); e != api.OK {
			t.Fatalf("%s is not set: %d", places[k], e)
		}
	}
	return f
}

// unlike are 18 words of which no two are alike.
func unlike() []frame.Val {
	var l []frame.Val
	for k := range places {
		l = append(l, frame.Num(uint64(1000+7*k)))
	}
	return l
}

// ref is one of some references, of which no two are alike.
func ref(k int) frame.Val {
	return frame.RefTo(k%4, arena.Handle{Slot: k % 16, Gen: 1 + k})
}

// parts are what the text of a right instruction has: its name, and what it uses.
func parts(i isa.Ins) (string, []string) {
	name, uses, _ := strings.Cut(isa.Text(i), " ")
	if uses == "" {
		return name, nil
	}
	return name, strings.Split(uses, ", ")
}

// operand is what a text stands for: a register, or a number's word.
func (m model) operand(text string) frame.Val {
	if strings.HasPrefix(text, "r") {
		return m[text]
	}
	n, _ := strconv.ParseInt(text, 10, 64)
	return frame.Val{N: uint64(n)}
}

// sums are what the operations of class Alu make of two words, by name, but mov.
var sums = map[string]func(a, b uint64) uint64{
	"add": func(a, b uint64) uint64 { return a + b },
	"sub": func(a, b uint64) uint64 { return a - b },
	"mul": func(a, b uint64) uint64 { return a * b },
	"div": func(a, b uint64) uint64 {
		if b == 0 {
			return 0
		}
		return a / b
	},
	"mod": func(a, b uint64) uint64 {
		if b == 0 {
			return a
		}
		return a % b
	},
	"and":  func(a, b uint64) uint64 { return a & b },
	"or":   func(a, b uint64) uint64 { return a | b },
	"xor":  func(a, b uint64) uint64 { return a ^ b },
	"lsh":  func(a, b uint64) uint64 { return a << (b & 63) },
	"rsh":  func(a, b uint64) uint64 { return a >> (b & 63) },
	"arsh": func(a, b uint64) uint64 { return uint64(int64(a) >> (b & 63)) },
	"neg":  func(a, b uint64) uint64 { return ^a + 1 },
}

// jumps are whether jumps go of two words, by name.
var jumps = map[string]func(a, b uint64) bool{
	"ja":   func(a, b uint64) bool { return true },
	"jeq":  func(a, b uint64) bool { return a == b },
	"jne":  func(a, b uint64) bool { return a != b },
	"jgt":  func(a, b uint64) bool { return a > b },
	"jge":  func(a, b uint64) bool { return a >= b },
	"jlt":  func(a, b uint64) bool { return a < b },
	"jle":  func(a, b uint64) bool { return a <= b },
	"jset": func(a, b uint64) bool { return a&b > 0 },
	"jsgt": func(a, b uint64) bool { return int64(a) > int64(b) },
	"jslt": func(a, b uint64) bool { return int64(a) < int64(b) },
}

// do is Do told by an instruction's text.
func (m model) do(i isa.Ins) api.Errno {
	if e := isa.Check(i); e != api.OK {
		return e
	}
	name, uses := parts(i)
	switch name {
	case "mov":
		m[uses[0]] = m.operand(uses[1])
		return api.OK
	case "ldst", "stst":
		from, to := "s"+uses[1], uses[0]
		if name == "stst" {
			from, to = uses[1], "s"+uses[0]
		}
		if !slices.Contains(places, from) || !slices.Contains(places, to) {
			return api.ErrRange
		}
		m[to] = m[from]
		return api.OK
	}
	sum, is := sums[name]
	if !is {
		return api.ErrKind
	}
	for _, u := range uses {
		if m.operand(u).Ref {
			return api.ErrPerm
		}
	}
	m[uses[0]] = frame.Val{N: sum(m[uses[0]].N, m.operand(uses[len(uses)-1]).N)}
	return api.OK
}

// jumps is Jumps told by an instruction's text.
func (m model) jumps(i isa.Ins) (bool, api.Errno) {
	if e := isa.Check(i); e != api.OK {
		return false, e
	}
	name, uses := parts(i)
	goes, is := jumps[name]
	switch {
	case !is:
		return false, api.ErrKind
	case name == "ja":
		return true, api.OK
	}
	return goes(m.operand(uses[0]).N, m.operand(uses[1]).N), api.OK
}

// read is Read told by way of the places' texts.
func (m model) read(at, n int) ([]byte, api.Errno) {
	if at < 0 || n < 0 || at > 8 || n > 8 || at+n > 8 {
		return nil, api.ErrArg
	}
	var b []byte
	for k := at; k < at+n; k++ {
		v := m["s"+strconv.Itoa(k)]
		if v.Ref {
			return nil, api.ErrPerm
		}
		b = binary.LittleEndian.AppendUint64(b, v.N)
	}
	return b, api.OK
}

// write is Write told by way of the places' texts.
func (m model) write(at int, b []byte) api.Errno {
	if len(b)%8 != 0 || at < 0 || at > 8 || 8*at+len(b) > 64 {
		return api.ErrArg
	}
	for k := range len(b) / 8 {
		m["s"+strconv.Itoa(at+k)] = frame.Val{N: binary.LittleEndian.Uint64(b[8*k:])}
	}
	return api.OK
}

// try does an instruction in a frame and in its model, and looks at all that they are behind it; it also asks whether it jumps.
func try(t *testing.T, f *frame.Frame, i isa.Ins) {
	t.Helper()
	m := modelOf(t, f)
	is, e := f.Jumps(i)
	if want, wrong := m.jumps(i); is != want || e != wrong {
		t.Errorf("Jumps(%+v), %q: %v, %d, not %v, %d", i, isa.Text(i), is, e, want, wrong)
	}
	wantThings(t, "Jumps of "+isa.Text(i), f, m.list())
	was := things(t, f)
	wrong := m.do(i)
	if e := f.Do(i); e != wrong {
		t.Errorf("Do(%+v), %q: %d, not %d", i, isa.Text(i), e, wrong)
	}
	if wrong != api.OK && !slices.Equal(m.list(), was) {
		t.Fatalf("the model of %+v, %q has changed something in spite of %d", i, isa.Text(i), wrong)
	}
	wantThings(t, "Do of "+isa.Text(i), f, m.list())
}

// wantDo: what an instruction tells, and that the thing at a place is this behind it, and all others are as they were.
func wantDo(t *testing.T, f *frame.Frame, i isa.Ins, wrong api.Errno, place string, want frame.Val) {
	t.Helper()
	m := modelOf(t, f)
	if e := f.Do(i); e != wrong {
		t.Errorf("Do(%+v), %q: %d, not %d", i, isa.Text(i), e, wrong)
	}
	m[place] = want
	wantThings(t, "Do of "+isa.Text(i), f, m.list())
}

// extremes are ints that are no register, no word, and no count of either.
func extremes(least int) []int {
	return []int{math.MinInt, math.MinInt + 1, -1 << 32, -64, -10, -8, -2, -1, least, least + 1, 16, 64, 255, 256, 1 << 16, 1 << 32, 1<<32 + 1, 1 << 61, 1 << 62, math.MaxInt - 7, math.MaxInt - 1, math.MaxInt}
}

// sumOps are the operations of class Alu, with a number and with a register.
func sumOps() []int {
	var l []int
	for op := isa.Add; op <= isa.Neg; op++ {
		l = append(l, op)
	}
	for op := isa.Add; op <= isa.Mov; op++ {
		l = append(l, isa.Reg+op)
	}
	return l
}

// P18.1

func TestNum(t *testing.T) {
	for _, n := range []uint64{0, 1, 2, 255, 1 << 32, half - 1, half, last - 1, last} {
		if v := frame.Num(n); v != (frame.Val{N: n}) {
			t.Errorf("Num(%d): %+v", n, v)
		}
	}
}

func TestRefTo(t *testing.T) {
	ints := []int{math.MinInt, math.MinInt + 1, -1, 0, 1, 3, 4, 15, 16, 63, 64, 255, 256, math.MaxInt - 1, math.MaxInt}
	for _, m := range ints {
		for _, slot := range ints {
			for _, gen := range ints {
				h := arena.Handle{Slot: slot, Gen: gen}
				if v := frame.RefTo(m, h); v != (frame.Val{Ref: true, Map: m, H: h, N: 1}) {
					t.Errorf("RefTo(%d, %+v): %+v", m, h, v)
				}
			}
		}
	}
}

func TestArgsIs5(t *testing.T) {
	if frame.Args != 5 {
		t.Error(frame.Args)
	}
	if l := (&frame.Frame{}).Args(); len(l) != 5 {
		t.Error(len(l))
	}
}

// TestNew: of each number of things up to five, words and references among them in each way.
func TestNew(t *testing.T) {
	for n := range 6 {
		for kinds := range 1 << n {
			var l []frame.Val
			for k := range n {
				v := frame.Num(last - uint64(k))
				if kinds>>k&1 == 1 {
					v = ref(k)
				}
				l = append(l, v)
			}
			was := slices.Clone(l)
			f, e := frame.New(l...)
			if f == nil || e != api.OK {
				t.Fatalf("New(%+v): %v, %d", l, f, e)
			}
			if !slices.Equal(l, was) {
				t.Errorf("New(%+v) made them %+v", was, l)
			}
			want := make([]frame.Val, 18)
			copy(want[1:], was)
			wantThings(t, "New of "+strconv.Itoa(n), f, want)
			for k := range l {
				l[k] = frame.Num(77)
			}
			wantThings(t, "what was handed in is changed", f, want)
			for r := range 10 {
				f.SetReg(r, frame.Num(88))
			}
			for k := range l {
				if l[k] != frame.Num(77) {
					t.Errorf("SetReg changed what was handed in: %+v", l)
				}
			}
		}
	}
}

// TestNewOfTooMany: also of a list with room behind it, into which nothing is put.
func TestNewOfTooMany(t *testing.T) {
	for _, n := range []int{6, 7, 9, 10, 11, 18, 100, 1000} {
		if f, e := frame.New(make([]frame.Val, n)...); f != nil || e != api.ErrLong {
			t.Errorf("New of %d: %v, %d", n, f, e)
		}
	}
	l := append(make([]frame.Val, 0, 20), ref(0), ref(1), ref(2), ref(3), ref(4))
	f, e := frame.New(l...)
	if e != api.OK {
		t.Fatalf("New of five: %d", e)
	}
	f.SetReg(6, frame.Num(9))
	f.SetReg(1, frame.Num(9))
	for k, v := range l[:20] {
		if want := (frame.Val{}); k >= 5 && v != want || k < 5 && v != ref(k) {
			t.Errorf("%d is %+v", k, v)
		}
	}
	if _, e := frame.New(append(l, frame.Num(0))...); e != api.ErrLong {
		t.Errorf("New of six, of which one is 0: %d", e)
	}
}

func TestNewFramesAreApart(t *testing.T) {
	l := []frame.Val{frame.Num(1), ref(2)}
	f, _ := frame.New(l...)
	g, _ := frame.New(l...)
	f.SetReg(1, frame.Num(7))
	f.SetWord(3, ref(5))
	want := make([]frame.Val, 18)
	want[1], want[2] = frame.Num(1), ref(2)
	wantThings(t, "another one", g, want)
}

// odd are things that neither Num nor RefTo makes; they are handed in whole all the same.
func odd() []frame.Val {
	return []frame.Val{
		{Map: 3, H: arena.Handle{Slot: 2, Gen: 9}, N: 5},
		{Ref: true, Map: -1, H: arena.Handle{Slot: math.MinInt, Gen: math.MaxInt}, N: last},
		{Ref: true}, {Map: math.MaxInt}, {H: arena.Handle{Gen: -3}},
	}
}

func TestReg(t *testing.T) {
	l := append(odd(), frame.Num(0), frame.Num(last), ref(3), frame.RefTo(math.MinInt, arena.Handle{Slot: math.MaxInt, Gen: math.MinInt}))
	for r := range 10 {
		for _, v := range l {
			all := unlike()
			f := made(t, all)
			if e := f.SetReg(r, v); e != api.OK {
				t.Errorf("SetReg(%d, %+v): %d", r, v, e)
			}
			all[r] = v
			wantThings(t, "SetReg", f, all)
			if x, e := f.Reg(r); x != v || e != api.OK {
				t.Errorf("Reg(%d): %+v, %d, not %+v", r, x, e, v)
			}
		}
	}
}

func TestWord(t *testing.T) {
	l := append(odd(), frame.Num(0), frame.Num(last), ref(3), frame.RefTo(math.MinInt, arena.Handle{Slot: math.MaxInt, Gen: math.MinInt}))
	for at := range 8 {
		for _, v := range l {
			all := unlike()
			f := made(t, all)
			if e := f.SetWord(at, v); e != api.OK {
				t.Errorf("SetWord(%d, %+v): %d", at, v, e)
			}
			all[10+at] = v
			wantThings(t, "SetWord", f, all)
			if x, e := f.Word(at); x != v || e != api.OK {
				t.Errorf("Word(%d): %+v, %d, not %+v", at, x, e, v)
			}
		}
	}
}

func TestNoRegisterAndNoWord(t *testing.T) {
	all := unlike()
	f := made(t, all)
	for _, r := range extremes(10) {
		if v, e := f.Reg(r); v != (frame.Val{}) || e != api.ErrRange {
			t.Errorf("Reg(%d): %+v, %d", r, v, e)
		}
		if e := f.SetReg(r, ref(1)); e != api.ErrRange {
			t.Errorf("SetReg(%d): %d", r, e)
		}
	}
	for _, at := range append(extremes(8), 10) {
		if v, e := f.Word(at); v != (frame.Val{}) || e != api.ErrRange {
			t.Errorf("Word(%d): %+v, %d", at, v, e)
		}
		if e := f.SetWord(at, ref(1)); e != api.ErrRange {
			t.Errorf("SetWord(%d): %d", at, e)
		}
	}
	wantThings(t, "of no register and no word", f, all)
}

func TestArgs(t *testing.T) {
	all := unlike()
	all[2], all[5], all[6] = ref(2), ref(5), ref(6)
	f := made(t, all)
	l := f.Args()
	if l != [5]frame.Val(all[1:6]) {
		t.Errorf("Args(): %+v, not %+v", l, all[1:6])
	}
	for k := range l {
		l[k] = frame.Num(3)
	}
	wantThings(t, "what Args told is changed", f, all)
	kept := f.Args()
	for r := range 10 {
		f.SetReg(r, frame.Num(4))
	}
	if kept != [5]frame.Val(all[1:6]) {
		t.Errorf("Args() told %+v, that is %+v now", all[1:6], kept)
	}
	if l := f.Args(); l != [5]frame.Val{frame.Num(4), frame.Num(4), frame.Num(4), frame.Num(4), frame.Num(4)} {
		t.Errorf("Args(): %+v", l)
	}
}

func TestArgsAreWhatWasHandedIn(t *testing.T) {
	for n := range 6 {
		var l [5]frame.Val
		for k := range n {
			l[k] = ref(k)
		}
		f, _ := frame.New(l[:n]...)
		if x := f.Args(); x != l {
			t.Errorf("Args() of %d: %+v", n, x)
		}
	}
}

// P18.2

// TestDoOfEachOperation tells what is expected without the model, of 13 and 5 in the registers 1 and 2, or 5 as the number.
func TestDoOfEachOperation(t *testing.T) {
	for _, c := range []struct {
		op   int
		want uint64
	}{
		{isa.Add, 18}, {isa.Sub, 8}, {isa.Mul, 65}, {isa.Div, 2}, {isa.Mod, 3}, {isa.And, 5}, {isa.Or, 13}, {isa.Xor, 8},
		{isa.Lsh, 416}, {isa.Rsh, 0}, {isa.Arsh, 0}, {isa.Mov, 5},
	} {
		f, _ := frame.New(frame.Num(13), frame.Num(5))
		wantDo(t, f, isa.Ins{Op: c.op, Dst: 1, Imm: 5}, api.OK, "r1", frame.Num(c.want))
		f, _ = frame.New(frame.Num(13), frame.Num(5))
		wantDo(t, f, isa.Ins{Op: isa.Reg + c.op, Dst: 1, Src: 2}, api.OK, "r1", frame.Num(c.want))
	}
	f, _ := frame.New(frame.Num(13))
	wantDo(t, f, isa.Ins{Op: isa.Neg, Dst: 1}, api.OK, "r1", frame.Num(last-12))
}

// TestDoWithNumbersBelow0: the number is one of 64 bits, with all of its high bits.
func TestDoWithNumbersBelow0(t *testing.T) {
	for _, c := range []struct {
		op, imm int
		a, want uint64
	}{
		{isa.Add, -1, 0, last}, {isa.Add, -1, 5, 4}, {isa.Sub, -1, 5, 6}, {isa.Mul, -2, 3, last - 5}, {isa.Div, -1, last, 1}, {isa.Mod, -1, 7, 7},
		{isa.And, -1, half + 1, half + 1}, {isa.Or, -1 << 31, 0, 0xffffffff80000000}, {isa.Xor, -1, 0, last},
		{isa.Lsh, -1, 1, half}, {isa.Rsh, -1, half, 1}, {isa.Arsh, -1, half, last}, {isa.Mov, -1, 5, last}, {isa.Mov, -1 << 31, 5, 0xffffffff80000000}, {isa.Mov, 1<<31 - 1, 5, 2147483647},
		{isa.Div, 0, 7, 0}, {isa.Mod, 0, 7, 7},
	} {
		for dst := range 10 {
			f := made(t, unlike())
			f.SetReg(dst, frame.Num(c.a))
			wantDo(t, f, isa.Ins{Op: c.op, Dst: dst, Imm: c.imm}, api.OK, places[dst], frame.Num(c.want))
		}
	}
}

// TestDoWithEachRegister: each operation, with each Dst and each Src, of words.
func TestDoWithEachRegister(t *testing.T) {
	words := []uint64{0, 1, 3, 64, half, last, 77, half + 5, 1 << 32, 12}
	for _, op := range sumOps() {
		for dst := range 10 {
			for other := range 10 {
				l := unlike()
				for r, n := range words {
					l[r] = frame.Num(n)
				}
				i := isa.Ins{Op: op, Dst: dst}
				switch {
				case op > isa.Neg:
					i.Src = other
				case op != isa.Neg:
					i.Imm = 3*other - 10
				}
				try(t, made(t, l), i)
			}
		}
	}
}

// TestDoOnReferences: with Dst a reference, with a Src that it uses, with both, and with references in all that it doesn't use.
func TestDoOnReferences(t *testing.T) {
	for _, op := range sumOps() {
		for kinds := range 8 {
			for _, regs := range [][2]int{{1, 2}, {2, 1}, {0, 9}, {9, 0}, {3, 3}} {
				dst, src := regs[0], regs[1]
				l := make([]frame.Val, 18)
				for k := range l {
					l[k] = frame.Num(uint64(20 + k))
					if kinds&4 != 0 {
						l[k] = ref(k)
					}
				}
				for bit, r := range regs {
					l[r] = frame.Num(uint64(5 + r))
					if kinds>>bit&1 == 1 {
						l[r] = ref(40 + r)
					}
				}
				i := isa.Ins{Op: op, Dst: dst}
				if op > isa.Neg {
					i.Src = src
				} else if op != isa.Neg {
					i.Imm = 3
				}
				f := made(t, l)
				try(t, f, i)
				moves := op == isa.Mov || op == isa.Reg+isa.Mov
				refused := !moves && (l[dst].Ref || op > isa.Neg && l[src].Ref)
				v, _ := f.Reg(dst)
				switch {
				case refused && v != l[dst]:
					t.Errorf("%s changed Dst to %+v", isa.Text(i), v)
				case op == isa.Mov && v != frame.Num(3):
					t.Errorf("%s: %+v", isa.Text(i), v)
				case op == isa.Reg+isa.Mov && v != l[src]:
					t.Errorf("%s: %+v, not %+v", isa.Text(i), v, l[src])
				case !moves && !refused && v.Ref:
					t.Errorf("%s made a reference", isa.Text(i))
				}
				if again := f.Do(i); refused != (again == api.ErrPerm) {
					t.Errorf("%s again: %d", isa.Text(i), again)
				}
			}
		}
	}
}

// TestDoRefusesReferences tells what is expected without the model.
func TestDoRefusesReferences(t *testing.T) {
	for _, op := range sumOps() {
		if op == isa.Mov || op == isa.Reg+isa.Mov {
			continue
		}
		f, _ := frame.New(ref(1), frame.Num(5), frame.Num(6))
		i := isa.Ins{Op: op, Dst: 1}
		if op > isa.Neg {
			i.Src = 2
			wantDo(t, f, isa.Ins{Op: op, Dst: 2, Src: 1}, api.ErrPerm, "r2", frame.Num(5))
			wantDo(t, f, isa.Ins{Op: op, Dst: 1, Src: 1}, api.ErrPerm, "r1", ref(1))
		}
		wantDo(t, f, i, api.ErrPerm, "r1", ref(1))
		i.Dst = 3
		if e := f.Do(i); e != api.OK {
			t.Errorf("%s beside a reference: %d", isa.Text(i), e)
		}
	}
	f, _ := frame.New(ref(1))
	wantDo(t, f, isa.Ins{Op: isa.Neg, Dst: 1}, api.ErrPerm, "r1", ref(1))
	// Dst 0 is a word, and what would be Src is register 0: what isn't used refuses nothing.
	g, _ := frame.New()
	g.SetReg(0, ref(0))
	g.SetReg(4, frame.Num(9))
	wantDo(t, g, isa.Ins{Op: isa.Add, Dst: 4, Imm: 1}, api.OK, "r4", frame.Num(10))
	wantDo(t, g, isa.Ins{Op: isa.Neg, Dst: 4}, api.OK, "r4", frame.Num(last-9))
}

// TestMov: of a reference, of a word and of things that neither Num nor RefTo makes, each register to each, over each kind.
func TestMov(t *testing.T) {
	for _, v := range append(odd(), frame.Num(0), frame.Num(last), ref(7)) {
		for dst := range 10 {
			for src := range 10 {
				for _, over := range []frame.Val{frame.Num(3), ref(9)} {
					f := made(t, unlike())
					f.SetReg(dst, over)
					f.SetReg(src, v)
					wantDo(t, f, isa.Ins{Op: isa.Reg + isa.Mov, Dst: dst, Src: src}, api.OK, places[dst], v)
				}
			}
		}
	}
	for dst := range 10 {
		for _, imm := range []int{0, 1, -1, 1<<31 - 1, -1 << 31} {
			f := made(t, unlike())
			f.SetReg(dst, ref(dst))
			wantDo(t, f, isa.Ins{Op: isa.Mov, Dst: dst, Imm: imm}, api.OK, places[dst], frame.Num(uint64(imm)))
		}
	}
}

// TestSumsMakePlainWords: what a sum makes has nothing but its word.
func TestSumsMakePlainWords(t *testing.T) {
	word := frame.Val{Map: 3, H: arena.Handle{Slot: 2, Gen: 9}, N: 5}
	for _, op := range sumOps() {
		if op == isa.Reg+isa.Mov {
			continue
		}
		f, _ := frame.New(word, word)
		i := isa.Ins{Op: op, Dst: 1}
		if op > isa.Neg {
			i.Src = 2
		}
		if e := f.Do(i); e != api.OK {
			t.Errorf("%s: %d", isa.Text(i), e)
		}
		if v, _ := f.Reg(1); v != frame.Num(v.N) {
			t.Errorf("%s: %+v", isa.Text(i), v)
		}
	}
}

// TestLoadAndStore: at each word of the stack, with each register, of words and of references.
func TestLoadAndStore(t *testing.T) {
	for at := range 8 {
		for r := range 10 {
			for _, v := range append(odd(), frame.Num(last), ref(5)) {
				for _, over := range []frame.Val{frame.Num(8), ref(6)} {
					f := made(t, unlike())
					f.SetWord(at, v)
					f.SetReg(r, over)
					wantDo(t, f, isa.Ins{Op: isa.LdStack, Dst: r, Off: at}, api.OK, places[r], v)
					f = made(t, unlike())
					f.SetWord(at, over)
					f.SetReg(r, v)
					wantDo(t, f, isa.Ins{Op: isa.StStack, Src: r, Off: at}, api.OK, places[10+at], v)
				}
			}
		}
	}
}

func TestLoadAndStoreOfNoWord(t *testing.T) {
	all := unlike()
	all[0], all[3], all[12] = ref(0), ref(3), ref(12)
	for _, off := range []int{-1, -2, -7, -8, -9, -16, -32768, 8, 9, 10, 15, 16, 64, 256, 32767} {
		for r := range 10 {
			f := made(t, all)
			wantDo(t, f, isa.Ins{Op: isa.LdStack, Dst: r, Off: off}, api.ErrRange, "r0", ref(0))
			wantDo(t, f, isa.Ins{Op: isa.StStack, Src: r, Off: off}, api.ErrRange, "r0", ref(0))
		}
	}
}

// TestDoOfOtherOperations: of each number about the operations, right by itself or not.
func TestDoOfOtherOperations(t *testing.T) {
	all := unlike()
	all[1], all[11] = ref(1), ref(11)
	for _, op := range append(extremes(74), 13, 14, 15, 28, 29, 30, 31, 42, 48, 58, 63, 68, 71) {
		if op != isa.Reg && op != isa.LdStack {
			f := made(t, all)
			wantDo(t, f, isa.Ins{Op: op}, api.ErrKind, "r1", ref(1))
		}
	}
	for _, op := range []int{isa.Ja, isa.Jeq, isa.Jslt, isa.Reg + isa.Jeq, isa.Reg + isa.Jslt, isa.LdVal, isa.StVal, isa.Call, isa.Exit} {
		f := made(t, all)
		wantDo(t, f, isa.Ins{Op: op}, api.ErrKind, "r1", ref(1))
	}
	// Neither a word that isn't there nor a reference comes ahead of what it is.
	f := made(t, all)
	wantDo(t, f, isa.Ins{Op: isa.LdVal, Dst: 2, Src: 1, Off: 8}, api.ErrKind, "r1", ref(1))
	wantDo(t, f, isa.Ins{Op: isa.StVal, Dst: 1, Src: 1, Off: -1}, api.ErrKind, "r1", ref(1))
	wantDo(t, f, isa.Ins{Op: isa.Ja, Off: 100}, api.ErrKind, "r1", ref(1))
	wantDo(t, f, isa.Ins{Op: isa.Call, Imm: 9}, api.ErrKind, "r1", ref(1))
}

// wrongs are instructions of all classes that aren't right by themselves, with what is wrong.
func wrongs() map[isa.Ins]api.Errno {
	return map[isa.Ins]api.Errno{
		{Op: -1}: api.ErrKind, {Op: 13, Dst: 10}: api.ErrKind, {Op: 28, Off: 1}: api.ErrKind, {Op: math.MaxInt}: api.ErrKind, {Op: math.MinInt}: api.ErrKind,
		{Op: isa.Add, Dst: 10}: api.ErrRange, {Op: isa.Add, Dst: -1}: api.ErrRange, {Op: isa.Add, Dst: 1, Src: 10}: api.ErrRange, {Op: isa.Mov, Dst: math.MinInt}: api.ErrRange,
		{Op: isa.Mov, Dst: 1, Imm: 1 << 31}: api.ErrRange, {Op: isa.Mov, Dst: 1, Imm: -1<<31 - 1}: api.ErrRange, {Op: isa.Reg + isa.Mov, Dst: 1, Src: -1}: api.ErrRange,
		{Op: isa.Add, Dst: 1, Src: 1}: api.ErrForm, {Op: isa.Add, Dst: 1, Off: 1}: api.ErrForm, {Op: isa.Neg, Dst: 1, Imm: 1}: api.ErrForm, {Op: isa.Neg, Dst: 1, Src: 2}: api.ErrForm,
		{Op: isa.Reg + isa.Add, Dst: 1, Src: 2, Imm: 1}: api.ErrForm, {Op: isa.Reg + isa.Mov, Dst: 1, Src: 2, Off: -1}: api.ErrForm,
		{Op: isa.LdStack, Dst: 10, Off: 8}: api.ErrRange, {Op: isa.LdStack, Off: 32768}: api.ErrRange, {Op: isa.LdStack, Off: math.MaxInt}: api.ErrRange, {Op: isa.LdStack, Dst: 1, Src: 1}: api.ErrForm,
		{Op: isa.LdStack, Dst: 1, Off: 9, Imm: 3}: api.ErrForm, {Op: isa.StStack, Src: 10}: api.ErrRange, {Op: isa.StStack, Off: math.MinInt}: api.ErrRange, {Op: isa.StStack, Dst: 1, Src: 1}: api.ErrForm,
		{Op: isa.StStack, Src: 1, Off: -1, Imm: 1}: api.ErrForm,
		{Op: isa.Ja, Dst: 10}:                      api.ErrRange, {Op: isa.Ja, Off: 32768}: api.ErrRange, {Op: isa.Ja, Dst: 1}: api.ErrForm, {Op: isa.Ja, Imm: 1}: api.ErrForm, {Op: isa.Jeq, Dst: 10}: api.ErrRange,
		{Op: isa.Jeq, Src: 1}: api.ErrForm, {Op: isa.Jeq, Src: 11}: api.ErrRange, {Op: isa.Reg + isa.Jeq, Imm: 1}: api.ErrForm, {Op: isa.Reg + isa.Jslt, Src: math.MaxInt}: api.ErrRange, {Op: isa.Reg + isa.Ja}: api.ErrKind,
		{Op: isa.LdVal, Src: 10}: api.ErrRange, {Op: isa.StVal, Imm: 1}: api.ErrForm, {Op: isa.Call, Dst: 1}: api.ErrForm, {Op: isa.Exit, Imm: 1}: api.ErrForm, {Op: isa.Exit, Src: 10}: api.ErrRange,
	}
}

// TestOfWrongInstructions: what is wrong comes ahead of all else, of references and of words.
func TestOfWrongInstructions(t *testing.T) {
	for _, kinds := range []func(k int) frame.Val{ref, func(k int) frame.Val { return frame.Num(uint64(k)) }} {
		all := make([]frame.Val, 18)
		for k := range all {
			all[k] = kinds(k)
		}
		for i, wrong := range wrongs() {
			f := made(t, all)
			wantDo(t, f, i, wrong, "r0", all[0])
			if is, e := f.Jumps(i); is || e != wrong {
				t.Errorf("Jumps(%+v): %v, %d, not %d", i, is, e, wrong)
			}
			wantThings(t, "Jumps", f, all)
		}
	}
}

// TestJumpsOfEach tells what is expected without the model: of each pair the jumps that go, by the numbers from jeq on; with a register, and with a number where there is such a one.
func TestJumpsOfEach(t *testing.T) {
	for _, c := range []struct {
		a, b frame.Val
		goes []int
	}{
		{frame.Num(0), frame.Num(0), []int{isa.Jeq, isa.Jge, isa.Jle}},
		{frame.Num(5), frame.Num(5), []int{isa.Jeq, isa.Jge, isa.Jle, isa.Jset}},
		{frame.Num(7), frame.Num(5), []int{isa.Jne, isa.Jgt, isa.Jge, isa.Jset, isa.Jsgt}},
		{frame.Num(5), frame.Num(7), []int{isa.Jne, isa.Jlt, isa.Jle, isa.Jset, isa.Jslt}},
		{frame.Num(last), frame.Num(1), []int{isa.Jne, isa.Jgt, isa.Jge, isa.Jset, isa.Jslt}},
		{frame.Num(2), frame.Num(last - 7), []int{isa.Jne, isa.Jlt, isa.Jle, isa.Jsgt}},
		{ref(1), frame.Num(0), []int{isa.Jne, isa.Jgt, isa.Jge, isa.Jsgt}},
		{ref(1), frame.Num(1), []int{isa.Jeq, isa.Jge, isa.Jle, isa.Jset}},
		{ref(1), frame.Num(2), []int{isa.Jne, isa.Jlt, isa.Jle, isa.Jslt}},
		{frame.Num(0), ref(1), []int{isa.Jne, isa.Jlt, isa.Jle, isa.Jslt}},
		{frame.Num(1), ref(1), []int{isa.Jeq, isa.Jge, isa.Jle, isa.Jset}},
		{ref(1), ref(2), []int{isa.Jeq, isa.Jge, isa.Jle, isa.Jset}},
		{frame.Val{Ref: true, N: 9}, frame.Num(8), []int{isa.Jne, isa.Jgt, isa.Jge, isa.Jset, isa.Jsgt}},
	} {
		for op := isa.Jeq; op <= isa.Jslt; op++ {
			want := slices.Contains(c.goes, op)
			f := made(t, unlike())
			f.SetReg(4, c.a)
			f.SetReg(0, c.b)
			was := things(t, f)
			if is, e := f.Jumps(isa.Ins{Op: isa.Reg + op, Dst: 4, Src: 0, Off: 1}); is != want || e != api.OK {
				t.Errorf("%s of %+v, %+v: %v, %d", isa.Name(op), c.a, c.b, is, e)
			}
			if imm := int(int64(c.b.N)); !c.b.Ref {
				if is, e := f.Jumps(isa.Ins{Op: op, Dst: 4, Imm: imm, Off: -1}); is != want || e != api.OK {
					t.Errorf("%s of %+v, the number %d: %v, %d", isa.Name(op), c.a, imm, is, e)
				}
			}
			wantThings(t, "Jumps", f, was)
		}
		f, _ := frame.New(c.a, c.b)
		f.SetReg(0, c.a)
		for _, off := range []int{0, 1, -1, 32767, -32768} {
			if is, e := f.Jumps(isa.Ins{Op: isa.Ja, Off: off}); !is || e != api.OK {
				t.Errorf("ja: %v, %d", is, e)
			}
		}
	}
}

// TestJumpsWithEachRegister: each jump, with each Dst and each Src.
func TestJumpsWithEachRegister(t *testing.T) {
	l := unlike()
	for r, n := range []uint64{0, 1, 3, 64, half, last, 77, half + 5, 3, 12} {
		l[r] = frame.Num(n)
	}
	l[9] = ref(9)
	for op := isa.Jeq; op <= isa.Jslt; op++ {
		for dst := range 10 {
			for other := range 10 {
				try(t, made(t, l), isa.Ins{Op: op, Dst: dst, Imm: other - 3, Off: 3})
				try(t, made(t, l), isa.Ins{Op: isa.Reg + op, Dst: dst, Src: other, Off: -3})
			}
		}
	}
}

func TestJumpsOfOtherOperations(t *testing.T) {
	all := unlike()
	all[0], all[1] = ref(0), ref(1)
	f := made(t, all)
	for _, op := range append(sumOps(), isa.LdStack, isa.StStack, isa.LdVal, isa.StVal, isa.Call, isa.Exit, -1, 13, 28, 31, 42, 48, 58, 63, 74, math.MaxInt, math.MinInt) {
		if is, e := f.Jumps(isa.Ins{Op: op}); is || e != api.ErrKind {
			t.Errorf("Jumps of %d: %v, %d", op, is, e)
		}
	}
	if is, e := f.Jumps(isa.Ins{Op: isa.LdStack, Off: 8}); is || e != api.ErrKind {
		t.Errorf("Jumps of ldst of no word: %v, %d", is, e)
	}
	wantThings(t, "Jumps", f, all)
}

// TestLikeTheModel: frames that go on and on, by instructions of all kinds, by bytes, and by what is handed in, of which many are wrong.
func TestLikeTheModel(t *testing.T) {
	next := numbers(18)
	pick := func(l ...int) int { return l[next()%uint64(len(l))] }
	thing := func() frame.Val {
		switch next() % 3 {
		case 0:
			return ref(int(next() % 50))
		case 1:
			return frame.Num(next() >> (next() % 64))
		}
		return frame.Num(next() % 4)
	}
	for range 60 {
		f := made(t, nil)
		for range 60 {
			i := isa.Ins{Op: int(next()%76) - 1, Dst: int(next() % 10), Src: int(next() % 10), Off: int(next()%12) - 2, Imm: int(int32(next())) >> (next() % 32)}
			name := isa.Name(i.Op)
			if uses, reg := isa.Text(isa.Ins{Op: i.Op}), i.Op > isa.Neg && i.Op < isa.Ja || i.Op > isa.Jslt && i.Op < isa.LdStack; next()%8 > 0 {
				// What isn't used is mostly 0.
				if reg || i.Op >= isa.LdStack && i.Op <= isa.StVal {
					i.Imm = 0
				}
				if !reg && i.Op < isa.StStack || i.Op > isa.StVal {
					i.Src = 0
				}
				if i.Op == isa.StStack || i.Op == isa.Ja || i.Op > isa.StVal {
					i.Dst = 0
				}
				if name == "neg" || name == "ja" || uses == "exit" {
					i.Imm = 0
				}
				if i.Op < isa.Ja || i.Op > isa.StVal {
					i.Off = 0
				}
			}
			try(t, f, i)
			m := modelOf(t, f)
			at, n := pick(-1, 0, 1, 2, 3, 5, 7, 8, 9), pick(-1, 0, 1, 1, 2, 3, 8, 9)
			switch next() % 6 {
			case 0:
				v := thing()
				if e := f.SetReg(at, v); at >= 0 && e == api.OK {
					m[places[at]] = v
				}
			case 1:
				v := thing()
				if e := f.SetWord(at, v); at >= 0 && e == api.OK {
					m[places[10+at]] = v
				}
			case 2:
				b := make([]byte, max(0, 8*n+pick(0, 0, 0, 1, -1)))
				for k := range b {
					b[k] = byte(next())
				}
				want := m.write(at, b)
				if e := f.Write(at, b...); e != want {
					t.Errorf("Write(%d, %d): %d, not %d", at, b, e, want)
				}
			}
			want, wrong := m.read(at, n)
			if b, e := f.Read(at, n); !bytes.Equal(b, want) || e != wrong {
				t.Errorf("Read(%d, %d): %d, %d, not %d, %d", at, n, b, e, want, wrong)
			}
			wantThings(t, "all of it", f, m.list())
		}
	}
}

// P18.3

// TestReadOfWords: each piece of the stack, and each that isn't one.
func TestReadOfWords(t *testing.T) {
	var all []byte
	f := made(t, nil)
	for at := range 8 {
		w := uint64(0x0102030405060708) + uint64(at)*0x1010101010101010
		f.SetWord(at, frame.Num(w))
		for shift := 0; shift < 64; shift += 8 {
			all = append(all, byte(w>>shift))
		}
	}
	was := things(t, f)
	for at := -10; at <= 18; at++ {
		for n := -10; n <= 18; n++ {
			b, e := f.Read(at, n)
			if at < 0 || n < 0 || at+n > 8 {
				if len(b) != 0 || e != api.ErrArg {
					t.Errorf("Read(%d, %d): %d, %d", at, n, b, e)
				}
			} else if !bytes.Equal(b, all[8*at:8*at+8*n]) || e != api.OK {
				t.Errorf("Read(%d, %d): %d, %d", at, n, b, e)
			}
		}
	}
	wantThings(t, "Read", f, was)
}

func TestReadOfFarPieces(t *testing.T) {
	f := made(t, unlike())
	for _, at := range append(extremes(9), 0, 1, 7, 8) {
		for _, n := range append(extremes(9), 0, 1, 7, 8) {
			if at >= 0 && n >= 0 && at <= 8 && n <= 8 && at+n <= 8 {
				continue
			}
			if b, e := f.Read(at, n); len(b) != 0 || e != api.ErrArg {
				t.Errorf("Read(%d, %d): %d, %d", at, n, b, e)
			}
		}
	}
}

// TestReadOfReferences: a reference at each word, inside and outside of what is read; what isn't a piece is refused ahead of it.
func TestReadOfReferences(t *testing.T) {
	for k := range 8 {
		f := made(t, unlike())
		f.SetWord(k, ref(k))
		was := things(t, f)
		for at := range 9 {
			for n := range 10 - at {
				b, e := f.Read(at, n)
				switch {
				case at+n > 8:
					if len(b) != 0 || e != api.ErrArg {
						t.Errorf("%d: Read(%d, %d): %d, %d", k, at, n, b, e)
					}
				case at <= k && k < at+n:
					if len(b) != 0 || e != api.ErrPerm {
						t.Errorf("%d: Read(%d, %d): %d, %d", k, at, n, b, e)
					}
				case len(b) != 8*n || e != api.OK:
					t.Errorf("%d: Read(%d, %d): %d, %d", k, at, n, b, e)
				}
			}
		}
		wantThings(t, "Read", f, was)
	}
	// References in the registers are none of the stack's.
	f := made(t, nil)
	for r := range 10 {
		f.SetReg(r, ref(r))
	}
	if b, e := f.Read(0, 8); !bytes.Equal(b, make([]byte, 64)) || e != api.OK {
		t.Errorf("Read(0, 8): %d, %d", b, e)
	}
}

func TestReadHasTheLowestByteFirst(t *testing.T) {
	f := made(t, nil)
	f.SetWord(0, frame.Num(0x8877665544332211))
	f.SetWord(1, frame.Num(1))
	f.SetWord(2, frame.Num(half))
	if b, e := f.Read(0, 3); !bytes.Equal(b, []byte{0x11, 0x22, 0x33, 0x44, 0x55, 0x66, 0x77, 0x88, 1, 0, 0, 0, 0, 0, 0, 0, 0, 0, 0, 0, 0, 0, 0, 0x80}) || e != api.OK {
		t.Errorf("%d, %d", b, e)
	}
	if e := f.Write(3, 1, 2, 3, 4, 5, 6, 7, 8, 255, 0, 0, 0, 0, 0, 0, 128); e != api.OK {
		t.Error(e)
	}
	if v, _ := f.Word(3); v != frame.Num(0x0807060504030201) {
		t.Errorf("%+v", v)
	}
	if v, _ := f.Word(4); v != frame.Num(half+255) {
		t.Errorf("%+v", v)
	}
}

func TestReadIsNewMemory(t *testing.T) {
	all := unlike()
	f := made(t, all)
	b, _ := f.Read(2, 3)
	c, _ := f.Read(2, 3)
	was := slices.Clone(c)
	for k := range b {
		b[k] ^= 255
	}
	_ = append(b[:0], 1, 2, 3)
	if !bytes.Equal(c, was) {
		t.Error("two answers share memory")
	}
	wantThings(t, "what Read told is changed", f, all)
	f.Write(2, make([]byte, 24)...)
	if !bytes.Equal(c, was) {
		t.Error("Write changed what Read told")
	}
}

// TestWrite: of each number of bytes, at each place, over words and over references.
func TestWrite(t *testing.T) {
	for n := range 81 {
		b := make([]byte, n)
		for k := range b {
			b[k] = byte(200 - 3*k)
		}
		for at := -3; at <= 11; at++ {
			for _, over := range []func(k int) frame.Val{ref, func(k int) frame.Val { return frame.Num(last - uint64(k)) }} {
				all := make([]frame.Val, 18)
				for k := range all {
					all[k] = over(k)
				}
				f, given := made(t, all), slices.Clone(b)
				e := f.Write(at, given...)
				right := at >= 0 && n%8 == 0 && at+n/8 <= 8
				if right != (e == api.OK) || !right && e != api.ErrArg {
					t.Errorf("Write(%d) of %d bytes: %d", at, n, e)
				}
				if !bytes.Equal(given, b) {
					t.Errorf("Write(%d) changed %d to %d", at, b, given)
				}
				for k := range n / 8 {
					if right {
						all[10+at+k] = frame.Num(binary.LittleEndian.Uint64(b[8*k:]))
					}
				}
				wantThings(t, "Write", f, all)
				for k := range given {
					given[k] = 99
				}
				wantThings(t, "what was handed in is changed", f, all)
				if back, e := f.Read(at, n/8); right && (!bytes.Equal(back, b) || e != api.OK) {
					t.Errorf("Write(%d) of %d, read again: %d, %d", at, b, back, e)
				}
			}
		}
	}
}

func TestWriteOfFarPieces(t *testing.T) {
	all := unlike()
	f := made(t, all)
	for _, at := range extremes(9) {
		for _, n := range []int{0, 1, 7, 8, 9, 64, 65, 72, 512} {
			if e := f.Write(at, make([]byte, n)...); e != api.ErrArg {
				t.Errorf("Write(%d) of %d: %d", at, n, e)
			}
		}
	}
	for _, n := range []int{8, 1, 64, 72} {
		if e := f.Write(8, make([]byte, n)...); e != api.ErrArg {
			t.Errorf("Write(8) of %d: %d", n, e)
		}
	}
	if e := f.Write(8); e != api.OK {
		t.Errorf("Write(8): %d", e)
	}
	if e := f.Write(1, make([]byte, 64)...); e != api.ErrArg {
		t.Errorf("Write(1) of 64: %d", e)
	}
	wantThings(t, "Write", f, all)
}

func TestWriteAndReadOfAll(t *testing.T) {
	next := numbers(5)
	for range 500 {
		b := make([]byte, 64)
		for k := range b {
			b[k] = byte(next())
		}
		f := made(t, nil)
		if e := f.Write(0, b...); e != api.OK {
			t.Fatal(e)
		}
		if back, e := f.Read(0, 8); !bytes.Equal(back, b) || e != api.OK {
			t.Errorf("%d: %d, %d", b, back, e)
		}
	}
}

// P18.4

// TestReferencesAreHandedIn: after calls without end no reference is in a frame that wasn't handed in, though words of all kinds are.
func TestReferencesAreHandedIn(t *testing.T) {
	next := numbers(184)
	given := map[frame.Val]bool{}
	hand := func() frame.Val {
		v := ref(int(next() % 200))
		if next()%4 == 0 {
			v = odd()[next()%5]
		}
		given[v] = true
		return v
	}
	f, e := frame.New(hand(), hand(), frame.Num(7))
	if e != api.OK {
		t.Fatal(e)
	}
	held := 0
	for range 20000 {
		op := append(sumOps(), isa.LdStack, isa.StStack, isa.Reg+isa.Mov, isa.StStack, isa.LdStack)[next()%30]
		i := isa.Ins{Op: op, Dst: int(next() % 10)}
		switch {
		case op == isa.LdStack:
			i.Off = int(next() % 9)
		case op == isa.StStack:
			i.Dst, i.Src, i.Off = 0, int(next()%10), int(next()%9)
		case op > isa.Neg:
			i.Src = int(next() % 10)
		case op != isa.Neg:
			i.Imm = int(next() % 100)
		}
		f.Do(i)
		switch next() % 40 {
		case 0:
			f.SetReg(int(next()%10), hand())
		case 1:
			f.SetWord(int(next()%8), hand())
		case 2:
			f.Write(int(next()%8), 1, 0, 0, 0, 0, 0, 0, byte(next()))
		case 3:
			f.SetReg(int(next()%10), frame.Num(next()))
		}
		f.Jumps(i)
		f.Read(0, 8)
		for k, v := range things(t, f) {
			if v.Ref {
				held++
			}
			if v.Ref && !given[v] {
				t.Fatalf("behind %s: %s is %+v, which was never handed in", isa.Text(i), places[k], v)
			}
		}
	}
	if held < 20000 {
		t.Errorf("only %d references were there to be looked at", held)
	}
}

// TestCopiesByValue: a frame that is copied is another one, with all that it had.
func TestCopiesByValue(t *testing.T) {
	all := unlike()
	all[2], all[9], all[10], all[17] = ref(2), ref(9), ref(10), ref(17)
	f := made(t, all)
	g := *f
	wantThings(t, "the copy", &g, all)
	for r := range 10 {
		f.SetReg(r, frame.Num(1))
	}
	f.Write(0, make([]byte, 64)...)
	wantThings(t, "the copy of what is changed", &g, all)
	was := things(t, f)
	g.Do(isa.Ins{Op: isa.Reg + isa.Mov, Dst: 1, Src: 2})
	g.Do(isa.Ins{Op: isa.StStack, Src: 2, Off: 3})
	wantThings(t, "what was copied", f, was)
	all[1], all[13] = ref(2), ref(2)
	wantThings(t, "the copy behind two instructions", &g, all)
}

// TestOfNoMaking: a frame that New didn't make is one of nothing.
func TestOfNoMaking(t *testing.T) {
	f := new(frame.Frame)
	wantThings(t, "nothing was handed in", f, make([]frame.Val, 18))
	wantDo(t, f, isa.Ins{Op: isa.Mov, Dst: 3, Imm: 4}, api.OK, "r3", frame.Num(4))
}

func TestNilFrame(t *testing.T) {
	var f *frame.Frame
	for _, k := range append(extremes(10), 0, 5, 7, 8, 9) {
		if v, e := f.Reg(k); v != (frame.Val{}) || e != api.ErrState {
			t.Errorf("Reg(%d): %+v, %d", k, v, e)
		}
		if e := f.SetReg(k, ref(1)); e != api.ErrState {
			t.Errorf("SetReg(%d): %d", k, e)
		}
		if v, e := f.Word(k); v != (frame.Val{}) || e != api.ErrState {
			t.Errorf("Word(%d): %+v, %d", k, v, e)
		}
		if e := f.SetWord(k, ref(1)); e != api.ErrState {
			t.Errorf("SetWord(%d): %d", k, e)
		}
		for _, n := range append(extremes(9), 0, 1, 8) {
			if b, e := f.Read(k, n); len(b) != 0 || e != api.ErrState {
				t.Errorf("Read(%d, %d): %d, %d", k, n, b, e)
			}
		}
		for _, n := range []int{0, 1, 7, 8, 64, 72} {
			if e := f.Write(k, make([]byte, n)...); e != api.ErrState {
				t.Errorf("Write(%d) of %d: %d", k, n, e)
			}
		}
	}
	for op := -1; op < 80; op++ {
		for _, i := range []isa.Ins{{Op: op}, {Op: op, Dst: 1, Off: 9}, {Op: op, Dst: 10}} {
			if e := f.Do(i); e != api.ErrState {
				t.Errorf("Do(%+v): %d", i, e)
			}
			if is, e := f.Jumps(i); is || e != api.ErrState {
				t.Errorf("Jumps(%+v): %v, %d", i, is, e)
			}
		}
	}
	if l := f.Args(); l != [5]frame.Val{} {
		t.Errorf("Args(): %+v", l)
	}
}

// P2

func TestSameAgain(t *testing.T) {
	run := func() []frame.Val {
		next := numbers(2)
		f, _ := frame.New(frame.Num(next()), ref(3), frame.Num(9))
		var all []frame.Val
		for range 3000 {
			i := isa.Ins{Op: int(next() % 74), Dst: int(next() % 10), Src: int(next() % 10), Off: int(next() % 9)}
			switch isa.Class(i.Op) {
			case isa.Alu:
				i.Off = 0
				if i.Op < isa.Reg {
					i.Src = 0
				}
			case isa.Memory:
				if i.Op == isa.LdStack {
					i.Src = 0
				} else {
					i.Dst = 0
				}
			}
			is, wrong := f.Jumps(i)
			all = append(all, frame.Val{Ref: is, Map: int(f.Do(i)), N: uint64(wrong)})
			args := f.Args()
			all = append(all, args[:]...)
			b, e := f.Read(int(next()%9), int(next()%3))
			all = append(all, frame.Val{Map: len(b), N: uint64(e)})
		}
		return append(all, things(t, f)...)
	}
	if !slices.Equal(run(), run()) {
		t.Error("another time, other answers")
	}
}

func TestExamples(t *testing.T) {
	f, _ := frame.New(frame.Num(5))
	if e := f.Do(isa.Ins{Op: isa.Add, Dst: 1, Imm: 2}); e != api.OK {
		t.Error(e)
	}
	if v, e := f.Reg(1); v != frame.Num(7) || e != api.OK {
		t.Errorf("r1: %+v, %d", v, e)
	}
	v := frame.RefTo(1, arena.Handle{Slot: 0, Gen: 1})
	f, _ = frame.New(v)
	if e := f.Do(isa.Ins{Op: isa.Add, Dst: 1, Imm: 2}); e != api.ErrPerm {
		t.Error(e)
	}
	if e := f.Do(isa.Ins{Op: isa.Reg + isa.Mov, Dst: 2, Src: 1}); e != api.OK {
		t.Error(e)
	}
	if x, e := f.Reg(2); x != v || e != api.OK {
		t.Errorf("r2: %+v, %d", x, e)
	}
	if is, e := f.Jumps(isa.Ins{Op: isa.Jne, Dst: 2, Off: 3}); !is || e != api.OK {
		t.Errorf("jne r2, 0, 3: %v, %d", is, e)
	}
}
