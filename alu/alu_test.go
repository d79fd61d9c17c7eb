package alu_test

import (
	"math"
	"math/big"
	"slices"
	"testing"

	"detent/alu"
	"detent/api"
	"detent/isa"
)

// Words told otherwise than the package does it.
const (
	half = 9223372036854775808  // 2^63
	last = 18446744073709551615 // 2^64-1
)

// sums are the operations that Do knows, by number, with the chapter's names.
func sums() map[int]string {
	l := map[int]string{12: "neg"}
	for k, name := range []string{"add", "sub", "mul", "div", "mod", "and", "or", "xor", "lsh", "rsh", "arsh", "mov"} {
		l[k], l[16+k] = name, name
	}
	return l
}

// jumps are the operations that Jumps knows, by number, with the chapter's names.
func jumps() map[int]string {
	l := map[int]string{32: "ja"}
	for k, name := range []string{"jeq", "jne", "jgt", "jge", "jlt", "jle", "jset", "jsgt", "jslt"} {
		l[33+k], l[49+k] = name, name
	}
	return l
}

// rising is a table's operations, in order.
func rising(names map[int]string) []int {
	var l []int
	for op := range names {
		l = append(l, op)
	}
	slices.Sort(l)
	return l
}

// others are numbers that aren't a table's: all from -1 to 256, and some far away, many of which are like one of the table's when they are cut.
func others(names map[int]string) []int {
	l := []int{math.MinInt, math.MinInt + 1, math.MinInt + 16, math.MinInt + 33, -1 << 32, -1<<32 + 5, -256, -240, -32, -16, -12, -2,
		257, 272, 288, 512, 1 << 16, 1 << 32, 1<<32 + 1, 1<<32 + 33, 1 << 62, math.MaxInt - 16, math.MaxInt - 1, math.MaxInt}
	for op := -1; op <= 256; op++ {
		if names[op] == "" {
			l = append(l, op)
		}
	}
	return l
}

// words are those about which something changes, and some without a rule.
func words() []uint64 {
	return []uint64{0, 1, 2, 3, 5, 7, 10, 62, 63, 64, 65, 66, 127, 128, 129, 255, 256,
		1<<31 - 1, 1 << 31, 1<<32 - 1, 1 << 32, 1<<32 + 1, 0x5555555555555555, 0xaaaaaaaaaaaaaaaa, 0x0123456789abcdef,
		1 << 62, half - 2, half - 1, half, half + 1, half + 2, half + 64, 0xfedcba9876543210, last - 1<<31, last - 64, last - 2, last - 1, last}
}

// pairs are each of these with each, and as many others that look like chance.
func pairs() [][2]uint64 {
	var l [][2]uint64
	next := numbers(16)
	for _, a := range words() {
		for _, b := range words() {
			l = append(l, [2]uint64{a, b})
			l = append(l, [2]uint64{next() >> (next() % 64), next() >> (next() % 64)})
		}
	}
	return l
}

// numbers gives words that look like chance, and are the same each time.
func numbers(seed uint64) func() uint64 {
	x := seed
	return func() uint64 {
		x = x*6364136223846793005 + 1442695040888963407
		y := (x ^ x>>33) * 0xff51afd7ed558ccd
		return y ^ y>>29
	}
}

// big numbers never run over: what the package answers is held against sums of these.
func bigOf(a uint64) *big.Int {
	return new(big.Int).SetUint64(a)
}

// round is 2^64.
func round() *big.Int {
	return new(big.Int).Exp(big.NewInt(2), big.NewInt(64), nil)
}

// signed is a word from 2^63 on less 2^64, and any other as it is.
func signed(a uint64) *big.Int {
	if a >= half {
		return new(big.Int).Sub(bigOf(a), round())
	}
	return bigOf(a)
}

// cut is a number mod 2^64.
func cut(x *big.Int) uint64 {
	return new(big.Int).Mod(x, round()).Uint64()
}

// bit is a word's, by its number from the lowest on; 0 of none.
func bit(a uint64, k int) uint {
	if k < 0 || k > 63 {
		return 0
	}
	return bigOf(a).Bit(k)
}

// ofBits is the word of 64 bits.
func ofBits(tell func(k int) uint) uint64 {
	x := new(big.Int)
	for k := range 64 {
		x.SetBit(x, k, tell(k))
	}
	return x.Uint64()
}

// done is Do told by the chapter's words, of one that it knows.
func done(name string, a, b uint64) uint64 {
	by := int(cut(new(big.Int).Mod(bigOf(b), big.NewInt(64))))
	switch name {
	case "add":
		return cut(new(big.Int).Add(bigOf(a), bigOf(b)))
	case "sub":
		return cut(new(big.Int).Sub(bigOf(a), bigOf(b)))
	case "mul":
		return cut(new(big.Int).Mul(bigOf(a), bigOf(b)))
	case "neg":
		return cut(new(big.Int).Neg(bigOf(a)))
	case "div":
		if b == 0 {
			return 0
		}
		return new(big.Int).Div(bigOf(a), bigOf(b)).Uint64()
	case "mod":
		if b == 0 {
			return a
		}
		return new(big.Int).Mod(bigOf(a), bigOf(b)).Uint64()
	case "and":
		return ofBits(func(k int) uint { return bit(a, k) * bit(b, k) })
	case "or":
		return ofBits(func(k int) uint { return max(bit(a, k), bit(b, k)) })
	case "xor":
		return ofBits(func(k int) uint { return (bit(a, k) + bit(b, k)) % 2 })
	case "lsh":
		return ofBits(func(k int) uint { return bit(a, k-by) })
	case "rsh":
		return ofBits(func(k int) uint { return bit(a, k+by) })
	case "arsh":
		return ofBits(func(k int) uint { return bit(a, min(k+by, 63)) })
	}
	return b
}

// goes is Jumps told by the chapter's words, of one that it knows.
func goes(name string, a, b uint64) bool {
	order, signedOrder := bigOf(a).Cmp(bigOf(b)), signed(a).Cmp(signed(b))
	switch name {
	case "jeq":
		return order == 0
	case "jne":
		return order != 0
	case "jgt":
		return order > 0
	case "jge":
		return order >= 0
	case "jlt":
		return order < 0
	case "jle":
		return order <= 0
	case "jset":
		for k := range 64 {
			if bit(a, k) == 1 && bit(b, k) == 1 {
				return true
			}
		}
		return false
	case "jsgt":
		return signedOrder > 0
	case "jslt":
		return signedOrder < 0
	}
	return true
}

func wantDone(t *testing.T, op int, a, b, want uint64) {
	t.Helper()
	if x, e := alu.Do(op, a, b); x != want || e != api.OK {
		t.Errorf("Do(%d, %d, %d): %d, %d, not %d", op, a, b, x, e, want)
	}
}

func wantGoes(t *testing.T, op int, a, b uint64, want bool) {
	t.Helper()
	if is, e := alu.Jumps(op, a, b); is != want || e != api.OK {
		t.Errorf("Jumps(%d, %d, %d): %v, %d, not %v", op, a, b, is, e, want)
	}
}

func wantFold(t *testing.T, op int, a, want uint64, wrong api.Errno, l ...uint64) {
	t.Helper()
	was := slices.Clone(l)
	if x, e := alu.Fold(op, a, l...); x != want || e != wrong {
		t.Errorf("Fold(%d, %d, %d): %d, %d, not %d, %d", op, a, l, x, e, want, wrong)
	}
	if !slices.Equal(l, was) {
		t.Errorf("Fold(%d, %d, %d) made them %d", op, a, was, l)
	}
}

// do is Do of an operation that it knows.
func do(t *testing.T, op int, a, b uint64) uint64 {
	t.Helper()
	x, e := alu.Do(op, a, b)
	if e != api.OK {
		t.Fatalf("Do(%d, %d, %d): %d", op, a, b, e)
	}
	return x
}

// jump is Jumps of an operation that it knows.
func jump(t *testing.T, op int, a, b uint64) bool {
	t.Helper()
	is, e := alu.Jumps(op, a, b)
	if e != api.OK {
		t.Fatalf("Jumps(%d, %d, %d): %d", op, a, b, e)
	}
	return is
}

// TestTables: that these tests' own tables have what the chapter tells in short, by isa's numbers.
func TestTables(t *testing.T) {
	if n, m := len(sums()), len(jumps()); n != 25 || m != 19 {
		t.Errorf("%d, %d", n, m)
	}
	for op := -1; op <= 256; op++ {
		if want := sums()[op] + jumps()[op]; want != "" && isa.Name(op) != want {
			t.Errorf("%d: %q, not %q", op, isa.Name(op), want)
		}
		if is := sums()[op] != ""; is != (isa.Class(op) == isa.Alu) {
			t.Errorf("%d: %v of class %d", op, is, isa.Class(op))
		}
		if is := jumps()[op] != ""; is != (isa.Class(op) == isa.Jump) {
			t.Errorf("%d: %v of class %d", op, is, isa.Class(op))
		}
	}
}

// P16.1

func TestWord(t *testing.T) {
	for _, c := range []struct {
		imm  int
		want uint64
	}{
		{0, 0}, {1, 1}, {-1, last}, {-2, last - 1}, {5, 5}, {-5, 18446744073709551611},
		{1<<31 - 1, 2147483647}, {-1 << 31, 18446744071562067968}, {-1<<31 + 1, 18446744071562067969},
		{1 << 31, 2147483648}, {-1<<31 - 1, 18446744071562067967}, {1 << 32, 4294967296}, {-1 << 32, 18446744069414584320},
		{math.MaxInt, 9223372036854775807}, {math.MinInt, half}, {math.MinInt + 1, half + 1}, {math.MaxInt - 1, half - 2},
	} {
		if x := alu.Word(c.imm); x != c.want {
			t.Errorf("Word(%d): %d, not %d", c.imm, x, c.want)
		}
	}
}

func TestWordIsTheNumberModulo(t *testing.T) {
	next := numbers(1)
	for range 20000 {
		imm := int(next()) >> (next() % 64)
		if x, want := alu.Word(imm), cut(big.NewInt(int64(imm))); x != want {
			t.Errorf("Word(%d): %d, not %d", imm, x, want)
		}
	}
}

// TestWordAboutPowers: the numbers about each power of 2, of either sign.
func TestWordAboutPowers(t *testing.T) {
	for k := range 63 {
		for off := -2; off <= 2; off++ {
			for _, imm := range []int{1<<k + off, -1<<k + off} {
				if x, want := alu.Word(imm), cut(big.NewInt(int64(imm))); x != want {
					t.Errorf("Word(%d): %d, not %d", imm, x, want)
				}
			}
		}
	}
}

// TestDoOfEachOperation tells what is expected without the words' model, of a row's operation and of the same with a register.
func TestDoOfEachOperation(t *testing.T) {
	for _, c := range []struct {
		op         int
		a, b, want uint64
	}{
		{isa.Add, 2, 3, 5}, {isa.Add, 0, 0, 0}, {isa.Add, last, 1, 0}, {isa.Add, last, last, last - 1}, {isa.Add, half, half, 0}, {isa.Add, half - 1, 1, half},
		{isa.Sub, 5, 3, 2}, {isa.Sub, 3, 5, last - 1}, {isa.Sub, 0, 1, last}, {isa.Sub, 0, last, 1}, {isa.Sub, half, 1, half - 1}, {isa.Sub, 0, half, half},
		{isa.Mul, 6, 7, 42}, {isa.Mul, 0, last, 0}, {isa.Mul, last, 1, last}, {isa.Mul, last, last, 1}, {isa.Mul, half, 2, 0}, {isa.Mul, half + 1, 3, half + 3}, {isa.Mul, 1 << 32, 1 << 32, 0},
		{isa.Div, 42, 5, 8}, {isa.Div, 5, 42, 0}, {isa.Div, 7, 7, 1}, {isa.Div, last, 1, last}, {isa.Div, last, 2, half - 1}, {isa.Div, 1, last, 0}, {isa.Div, half, last, 0}, {isa.Div, last, half, 1},
		{isa.Mod, 42, 5, 2}, {isa.Mod, 5, 42, 5}, {isa.Mod, 7, 7, 0}, {isa.Mod, last, 1, 0}, {isa.Mod, last, half, half - 1}, {isa.Mod, half, last, half}, {isa.Mod, last, 10, 5},
		{isa.And, 12, 10, 8}, {isa.And, last, 7, 7}, {isa.And, half, half - 1, 0}, {isa.And, half + 1, half, half},
		{isa.Or, 12, 10, 14}, {isa.Or, 0, 0, 0}, {isa.Or, half, half - 1, last}, {isa.Or, last, 0, last},
		{isa.Xor, 12, 10, 6}, {isa.Xor, last, last, 0}, {isa.Xor, last, half, half - 1}, {isa.Xor, 0, last, last},
		{isa.Lsh, 3, 2, 12}, {isa.Lsh, half, 1, 0}, {isa.Lsh, last, 63, half}, {isa.Rsh, 12, 2, 3}, {isa.Rsh, 13, 2, 3}, {isa.Rsh, half, 63, 1}, {isa.Rsh, last, 63, 1},
		{isa.Arsh, 12, 2, 3}, {isa.Arsh, last - 3, 1, last - 1}, {isa.Arsh, last, 63, last}, {isa.Arsh, half, 1, half + 1<<62}, {isa.Arsh, half - 1, 62, 1}, {isa.Arsh, half - 1, 63, 0},
		{isa.Mov, 5, 9, 9}, {isa.Mov, 5, 0, 0}, {isa.Mov, 0, last, last}, {isa.Mov, last, half, half},
		{isa.Neg, 0, 9, 0}, {isa.Neg, 1, 9, last}, {isa.Neg, last, 0, 1}, {isa.Neg, half, 1, half}, {isa.Neg, half - 1, last, half + 1}, {isa.Neg, half + 1, 3, half - 1},
	} {
		wantDone(t, c.op, c.a, c.b, c.want)
		if c.op != isa.Neg {
			wantDone(t, c.op+isa.Reg, c.a, c.b, c.want)
		}
	}
}

func TestDoLikeTheWords(t *testing.T) {
	l := pairs()
	for op, name := range sums() {
		for _, p := range l {
			wantDone(t, op, p[0], p[1], done(name, p[0], p[1]))
		}
	}
}

// TestDoOfSmallWords: each with each, from 0 and from the last one, and from the middle.
func TestDoOfSmallWords(t *testing.T) {
	var l []uint64
	for k := range uint64(9) {
		l = append(l, k, half-4+k, last-k)
	}
	for op, name := range sums() {
		for _, a := range l {
			for _, b := range l {
				wantDone(t, op, a, b, done(name, a, b))
			}
		}
	}
}

func TestDivisionBy0(t *testing.T) {
	for _, a := range words() {
		for _, reg := range []int{0, isa.Reg} {
			wantDone(t, isa.Div+reg, a, 0, 0)
			wantDone(t, isa.Mod+reg, a, 0, a)
			if a != 0 {
				wantDone(t, isa.Div+reg, 0, a, 0)
				wantDone(t, isa.Mod+reg, 0, a, 0)
			}
		}
	}
}

// TestShifts tells what is expected of a word with the highest bit, and of one without it, for the same number mod 64.
func TestShifts(t *testing.T) {
	const high, low = 0x8000000000000005, 0x7000000000000003
	for _, c := range []struct {
		by                              []uint64
		lshHigh, rshHigh, arshHigh      uint64
		lshLow, rshLow, arshLow, lshOf1 uint64
	}{
		{[]uint64{0, 64, 128, half, 1 << 32}, high, high, high, low, low, low, 1},
		{[]uint64{1, 65, 129, half + 1, 1<<32 + 1}, 10, 0x4000000000000002, 0xc000000000000002, 0xe000000000000006, 0x3800000000000001, 0x3800000000000001, 2},
		{[]uint64{3, 67}, 40, 0x1000000000000000, 0xf000000000000000, 0x8000000000000018, 0x0e00000000000000, 0x0e00000000000000, 8},
		{[]uint64{62, 126}, 0x4000000000000000, 2, last - 1, 0xc000000000000000, 1, 1, 1 << 62},
		{[]uint64{63, 127, half + 63, last}, half, 1, last, half, 0, 0, half},
	} {
		for _, by := range c.by {
			for _, reg := range []int{0, isa.Reg} {
				wantDone(t, isa.Lsh+reg, high, by, c.lshHigh)
				wantDone(t, isa.Rsh+reg, high, by, c.rshHigh)
				wantDone(t, isa.Arsh+reg, high, by, c.arshHigh)
				wantDone(t, isa.Lsh+reg, low, by, c.lshLow)
				wantDone(t, isa.Rsh+reg, low, by, c.rshLow)
				wantDone(t, isa.Arsh+reg, low, by, c.arshLow)
				wantDone(t, isa.Lsh+reg, 1, by, c.lshOf1)
			}
		}
	}
}

// TestShiftsByEveryNumber: to the left 2^by times, to the right by so many, signed the same of the signed word, each rounded down.
func TestShiftsByEveryNumber(t *testing.T) {
	for by := range uint64(200) {
		power := new(big.Int).Exp(big.NewInt(2), big.NewInt(int64(by%64)), nil)
		for _, a := range words() {
			for _, reg := range []int{0, isa.Reg} {
				wantDone(t, isa.Lsh+reg, a, by, cut(new(big.Int).Mul(bigOf(a), power)))
				wantDone(t, isa.Rsh+reg, a, by, cut(new(big.Int).Div(bigOf(a), power)))
				wantDone(t, isa.Arsh+reg, a, by, cut(new(big.Int).Div(signed(a), power)))
			}
		}
	}
}

func TestDoOfOtherOperations(t *testing.T) {
	for _, op := range others(sums()) {
		for _, p := range [][2]uint64{{0, 0}, {7, 3}, {3, 7}, {1, 0}, {half, 1}, {last, last}} {
			if x, e := alu.Do(op, p[0], p[1]); x != 0 || e != api.ErrKind {
				t.Errorf("Do(%d, %d): %d, %d", op, p, x, e)
			}
		}
	}
}

// TestDoOfNamedOthers: neg with a register, and each jump.
func TestDoOfNamedOthers(t *testing.T) {
	for _, op := range append(rising(jumps()), -1, 13, 14, 15, isa.Reg+isa.Neg, 29, 30, 31, 64, 72, 73, 256) {
		if x, e := alu.Do(op, 5, 3); x != 0 || e != api.ErrKind {
			t.Errorf("Do(%d, 5, 3): %d, %d", op, x, e)
		}
	}
}

// P16.2

// TestJumpsOfEach tells what is expected without the words' model: of each pair the jumps that go, by the numbers from ja on.
func TestJumpsOfEach(t *testing.T) {
	all := []int{isa.Ja, isa.Jeq, isa.Jne, isa.Jgt, isa.Jge, isa.Jlt, isa.Jle, isa.Jset, isa.Jsgt, isa.Jslt}
	same := []int{isa.Ja, isa.Jeq, isa.Jge, isa.Jle}
	for _, c := range []struct {
		a, b uint64
		goes []int
	}{
		{0, 0, same},
		{1, 1, append(slices.Clone(same), isa.Jset)},
		{half - 1, half - 1, append(slices.Clone(same), isa.Jset)},
		{half, half, append(slices.Clone(same), isa.Jset)},
		{last, last, append(slices.Clone(same), isa.Jset)},
		{1, 0, []int{isa.Ja, isa.Jne, isa.Jgt, isa.Jge, isa.Jsgt}},
		{0, 1, []int{isa.Ja, isa.Jne, isa.Jlt, isa.Jle, isa.Jslt}},
		{7, 5, []int{isa.Ja, isa.Jne, isa.Jgt, isa.Jge, isa.Jset, isa.Jsgt}},
		{5, 7, []int{isa.Ja, isa.Jne, isa.Jlt, isa.Jle, isa.Jset, isa.Jslt}},
		{8, 7, []int{isa.Ja, isa.Jne, isa.Jgt, isa.Jge, isa.Jsgt}},
		{half - 1, half, []int{isa.Ja, isa.Jne, isa.Jlt, isa.Jle, isa.Jsgt}},
		{half, half - 1, []int{isa.Ja, isa.Jne, isa.Jgt, isa.Jge, isa.Jslt}},
		{0, half, []int{isa.Ja, isa.Jne, isa.Jlt, isa.Jle, isa.Jsgt}},
		{half, 0, []int{isa.Ja, isa.Jne, isa.Jgt, isa.Jge, isa.Jslt}},
		{half, half + 1, []int{isa.Ja, isa.Jne, isa.Jlt, isa.Jle, isa.Jset, isa.Jslt}},
		{half + 1, half, []int{isa.Ja, isa.Jne, isa.Jgt, isa.Jge, isa.Jset, isa.Jsgt}},
		{last, 0, []int{isa.Ja, isa.Jne, isa.Jgt, isa.Jge, isa.Jslt}},
		{0, last, []int{isa.Ja, isa.Jne, isa.Jlt, isa.Jle, isa.Jsgt}},
		{last, 1, []int{isa.Ja, isa.Jne, isa.Jgt, isa.Jge, isa.Jset, isa.Jslt}},
		{last, half, []int{isa.Ja, isa.Jne, isa.Jgt, isa.Jge, isa.Jset, isa.Jsgt}},
		{half - 1, last, []int{isa.Ja, isa.Jne, isa.Jlt, isa.Jle, isa.Jset, isa.Jsgt}},
	} {
		for _, op := range all {
			want := slices.Contains(c.goes, op)
			wantGoes(t, op, c.a, c.b, want)
			if op != isa.Ja {
				wantGoes(t, op+isa.Reg, c.a, c.b, want)
			}
		}
	}
}

func TestJumpsLikeTheWords(t *testing.T) {
	l := pairs()
	for op, name := range jumps() {
		for _, p := range l {
			wantGoes(t, op, p[0], p[1], goes(name, p[0], p[1]))
			wantGoes(t, op, p[0], p[0], goes(name, p[0], p[0]))
		}
	}
}

// TestJumpsByEachBit: words that have just one bit each, and all others.
func TestJumpsByEachBit(t *testing.T) {
	for op, name := range jumps() {
		for j := range 64 {
			for k := range 64 {
				a, b := uint64(1)<<j, uint64(1)<<k
				wantGoes(t, op, a, b, goes(name, a, b))
				wantGoes(t, op, a, last-b, goes(name, a, last-b))
			}
		}
	}
}

func TestJumpsOfOtherOperations(t *testing.T) {
	for _, op := range others(jumps()) {
		for _, p := range [][2]uint64{{0, 0}, {7, 3}, {3, 7}, {1, 0}, {half, 1}, {last, last}} {
			if is, e := alu.Jumps(op, p[0], p[1]); is || e != api.ErrKind {
				t.Errorf("Jumps(%d, %d): %v, %d", op, p, is, e)
			}
		}
	}
}

// TestJumpsOfNamedOthers: ja with a register, call, exit, and what Do knows.
func TestJumpsOfNamedOthers(t *testing.T) {
	for _, op := range append(rising(sums()), -1, 31, 42, 43, isa.Reg+isa.Ja, 58, 64, 67, isa.Call, isa.Exit, 256) {
		if is, e := alu.Jumps(op, 5, 5); is || e != api.ErrKind {
			t.Errorf("Jumps(%d, 5, 5): %v, %d", op, is, e)
		}
	}
}

// TestEachOperationIsKnownByOneAtMost of Do and Jumps.
func TestEachOperationIsKnownByOneAtMost(t *testing.T) {
	for op := -1; op <= 256; op++ {
		_, e := alu.Do(op, 9, 2)
		_, other := alu.Jumps(op, 9, 2)
		if e == api.OK && other == api.OK || (e == api.OK) != (sums()[op] != "") || (other == api.OK) != (jumps()[op] != "") {
			t.Errorf("%d: %d, %d", op, e, other)
		}
	}
}

// P16.3

// TestFoldOfEach tells what is expected without Do.
func TestFoldOfEach(t *testing.T) {
	for _, c := range []struct {
		op      int
		a, want uint64
		l       []uint64
	}{
		{isa.Add, 1, 10, []uint64{2, 3, 4}}, {isa.Add, last, 4, []uint64{2, 3}},
		{isa.Sub, 10, 1, []uint64{2, 3, 4}}, {isa.Sub, 1, last - 3, []uint64{2, 3}},
		{isa.Mul, 2, 120, []uint64{3, 4, 5}}, {isa.Mul, 2, 0, []uint64{3, 0, 5}},
		{isa.Div, 100, 3, []uint64{5, 2, 3}}, {isa.Div, 100, 0, []uint64{5, 0, 3}}, {isa.Div, 100, 0, []uint64{0}},
		{isa.Mod, 100, 2, []uint64{31, 5}}, {isa.Mod, 100, 2, []uint64{0, 31, 0, 5, 0}}, {isa.Mod, 100, 100, []uint64{0, 0}}, {isa.Mod, 100, 0, []uint64{7, 2}},
		{isa.And, last, 4, []uint64{7, 12}}, {isa.Or, 0, 15, []uint64{7, 12}}, {isa.Xor, 1, 10, []uint64{7, 12}},
		{isa.Lsh, 1, 8, []uint64{1, 66}}, {isa.Rsh, 16, 2, []uint64{1, 66}}, {isa.Arsh, half, last, []uint64{32, 31}}, {isa.Lsh, 1, 0, []uint64{63, 1}},
		{isa.Mov, 1, 9, []uint64{7, 8, 9}}, {isa.Neg, 5, 5, []uint64{7, 8}}, {isa.Neg, 5, 18446744073709551611, []uint64{7, 8, 9}},
	} {
		wantFold(t, c.op, c.a, c.want, api.OK, c.l...)
		if c.op != isa.Neg {
			wantFold(t, c.op+isa.Reg, c.a, c.want, api.OK, c.l...)
		}
	}
}

func TestFoldOfNoWord(t *testing.T) {
	for op := range sums() {
		for _, a := range words() {
			wantFold(t, op, a, a, api.OK)
			wantFold(t, op, a, a, api.OK, []uint64{}...)
		}
	}
}

func TestFoldOfOneWord(t *testing.T) {
	for op, name := range sums() {
		for _, a := range words() {
			for _, b := range words() {
				wantFold(t, op, a, done(name, a, b), api.OK, b)
			}
		}
	}
}

func TestFoldOfSeveralWords(t *testing.T) {
	next := numbers(17)
	all := words()
	for _, op := range rising(sums()) {
		name := sums()[op]
		for range 150 {
			a := next() >> (next() % 64)
			want, l := a, []uint64{}
			for range 2 + next()%12 {
				b := all[next()%uint64(len(all))]
				if next()%2 == 0 {
					b = next() >> (next() % 64)
				}
				want, l = done(name, want, b), append(l, b)
			}
			wantFold(t, op, a, want, api.OK, l...)
		}
	}
}

// TestFoldBy0: one of the words is 0, at each place.
func TestFoldBy0(t *testing.T) {
	for n := 1; n <= 6; n++ {
		for at := range n {
			for _, a := range words() {
				l := slices.Repeat([]uint64{3}, n)
				l[at] = 0
				quotient := new(big.Int).Exp(big.NewInt(3), big.NewInt(int64(n-1-at)), nil)
				rest := a
				if n > 1 {
					rest = done("mod", a, 3)
				}
				wantFold(t, isa.Div, a, done("div", 0, quotient.Uint64()), api.OK, l...)
				wantFold(t, isa.Mod, a, rest, api.OK, l...)
			}
		}
	}
}

// TestFoldOfMany: one word at a time is as good as all at once.
func TestFoldOfMany(t *testing.T) {
	next := numbers(18)
	for op := range sums() {
		var l []uint64
		for range 1000 {
			l = append(l, next()>>(next()%64))
		}
		one := uint64(last)
		for _, b := range l {
			one = do(t, op, one, b)
		}
		wantFold(t, op, last, one, api.OK, l...)
		front, e := alu.Fold(op, last, l[:400]...)
		if e != api.OK {
			t.Errorf("Fold(%d): %d", op, e)
		}
		wantFold(t, op, front, one, api.OK, l[400:]...)
	}
}

func TestFoldOfOtherOperations(t *testing.T) {
	for _, op := range others(sums()) {
		for _, a := range []uint64{0, 5, last} {
			wantFold(t, op, a, 0, api.ErrKind)
			wantFold(t, op, a, 0, api.ErrKind, 0)
			wantFold(t, op, a, 0, api.ErrKind, 3)
			wantFold(t, op, a, 0, api.ErrKind, 3, 0, last)
		}
	}
}

// TestPutTogether: quotient times divisor and the rest are what was divided, by 0 too, and the rest is less than any other divisor.
func TestPutTogether(t *testing.T) {
	for _, p := range pairs() {
		a, b := p[0], p[1]
		for _, reg := range []int{0, isa.Reg} {
			quotient, rest := do(t, isa.Div+reg, a, b), do(t, isa.Mod+reg, a, b)
			if whole := do(t, isa.Add+reg, do(t, isa.Mul+reg, quotient, b), rest); whole != a {
				t.Errorf("%d by %d: %d, %d, together %d", a, b, quotient, rest, whole)
			}
			if b != 0 && rest >= b {
				t.Errorf("%d by %d: a rest of %d", a, b, rest)
			}
		}
	}
}

// TestOpposites: of each jump but ja and jset just one of it and its opposite is told. The two of signed words have theirs among those of words that are 2^63 further, or in both others together.
func TestOpposites(t *testing.T) {
	for _, p := range pairs() {
		a, b := p[0], p[1]
		for _, reg := range []int{0, isa.Reg} {
			for _, of := range [][2]int{{isa.Jeq, isa.Jne}, {isa.Jgt, isa.Jle}, {isa.Jge, isa.Jlt}} {
				if jump(t, of[0]+reg, a, b) == jump(t, of[1]+reg, a, b) {
					t.Errorf("%d of %d, %d", of, a, b)
				}
			}
			if jump(t, isa.Jsgt+reg, a, b) == jump(t, isa.Jle+reg, a+half, b+half) {
				t.Errorf("jsgt of %d, %d isn't the opposite of jle, of these 2^63 further", a, b)
			}
			if jump(t, isa.Jslt+reg, a, b) == jump(t, isa.Jge+reg, a+half, b+half) {
				t.Errorf("jslt of %d, %d isn't the opposite of jge, of these 2^63 further", a, b)
			}
			if jump(t, isa.Jsgt+reg, a, b) != jump(t, isa.Jslt+reg, b, a) {
				t.Errorf("jsgt of %d, %d isn't jslt of the other way round", a, b)
			}
			signs := 0
			for _, op := range []int{isa.Jsgt, isa.Jslt, isa.Jeq} {
				if jump(t, op+reg, a, b) {
					signs++
				}
			}
			if signs != 1 {
				t.Errorf("of jsgt, jslt and jeq %d go, of %d, %d", signs, a, b)
			}
		}
		if !jump(t, isa.Ja, a, b) {
			t.Errorf("ja of %d, %d", a, b)
		}
	}
}

// TestSumsUndone: what is added is taken away again, and what is turned round twice is as it was.
func TestSumsUndone(t *testing.T) {
	for _, p := range pairs() {
		a, b := p[0], p[1]
		if x := do(t, isa.Sub, do(t, isa.Add, a, b), b); x != a {
			t.Errorf("%d and %d, less %d: %d", a, b, b, x)
		}
		if x := do(t, isa.Neg, do(t, isa.Neg, a, b), b); x != a {
			t.Errorf("neg of neg of %d: %d", a, x)
		}
		if x := do(t, isa.Add, do(t, isa.And, a, b), do(t, isa.Or, a, b)); x != do(t, isa.Add, a, b) {
			t.Errorf("and and or of %d, %d come to %d", a, b, x)
		}
		if is, want := jump(t, isa.Jset, a, b), do(t, isa.And, a, b) != 0; is != want {
			t.Errorf("jset of %d, %d: %v", a, b, is)
		}
	}
}

// P2

func TestSameAgain(t *testing.T) {
	run := func() []uint64 {
		next := numbers(19)
		var all []uint64
		for range 20000 {
			op, a, b := int(next()%80)-2, next()>>(next()%64), next()>>(next()%64)
			x, e := alu.Do(op, a, b)
			is, other := alu.Jumps(op, a, b)
			all = append(all, x, uint64(e), uint64(other), alu.Word(int(a)))
			if is {
				all = append(all, 1)
			}
			x, e = alu.Fold(op, a, b, a, b)
			all = append(all, x, uint64(e))
		}
		return all
	}
	if !slices.Equal(run(), run()) {
		t.Error("another time, other answers")
	}
}

func TestExamples(t *testing.T) {
	wantDone(t, isa.Div, 7, 0, 0)
	wantDone(t, isa.Mod, 7, 0, 7)
	wantDone(t, isa.Arsh, 1<<63, 63, 1<<64-1)
	wantDone(t, isa.Lsh, 1, 65, 2)
	wantGoes(t, isa.Jsgt, 0, 1<<64-1, true)
	wantGoes(t, isa.Jgt, 0, 1<<64-1, false)
}
