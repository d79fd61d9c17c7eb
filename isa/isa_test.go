package isa_test

import (
	"bytes"
	"math"
	"math/big"
	"slices"
	"strconv"
	"strings"
	"testing"

	"detent/api"
	"detent/isa"
)

// sheet is the chapter's list of operations, row by row: the number, the class, the name, and what the operation uses in the order of its text: d Dst, s Src, o Off, i Imm, or - for nothing.
const sheet = `
0 1 add di
1 1 sub di
2 1 mul di
3 1 div di
4 1 mod di
5 1 and di
6 1 or di
7 1 xor di
8 1 lsh di
9 1 rsh di
10 1 arsh di
11 1 mov di
12 1 neg d
16 1 add ds
17 1 sub ds
18 1 mul ds
19 1 div ds
20 1 mod ds
21 1 and ds
22 1 or ds
23 1 xor ds
24 1 lsh ds
25 1 rsh ds
26 1 arsh ds
27 1 mov ds
32 2 ja o
33 2 jeq dio
34 2 jne dio
35 2 jgt dio
36 2 jge dio
37 2 jlt dio
38 2 jle dio
39 2 jset dio
40 2 jsgt dio
41 2 jslt dio
49 2 jeq dso
50 2 jne dso
51 2 jgt dso
52 2 jge dso
53 2 jlt dso
54 2 jle dso
55 2 jset dso
56 2 jsgt dso
57 2 jslt dso
64 3 ldst do
65 3 stst os
66 3 ldv dso
67 3 stv dos
72 4 call i
73 4 exit -
`

// row is one of the sheet.
type row struct {
	op, class  int
	name, uses string
}

// rows are those of the sheet.
func rows() []row {
	var l []row
	for _, line := range strings.Split(strings.TrimSpace(sheet), "\n") {
		f := strings.Fields(line)
		op, _ := strconv.Atoi(f[0])
		class, _ := strconv.Atoi(f[1])
		l = append(l, row{op, class, f[2], strings.Trim(f[3], "-")})
	}
	return l
}

// rowOf looks through the sheet from its beginning on.
func rowOf(op int) (row, bool) {
	for _, r := range rows() {
		if r.op == op {
			return r, true
		}
	}
	return row{}, false
}

// part is an instruction's number by the sheet's letter.
func part(i *isa.Ins, letter rune) *int {
	switch letter {
	case 'd':
		return &i.Dst
	case 's':
		return &i.Src
	case 'o':
		return &i.Off
	}
	return &i.Imm
}

// ends are a part's bounds by the sheet's letter.
func ends(letter rune) (int, int) {
	switch letter {
	case 'd', 's':
		return 0, 9
	case 'o':
		return -32768, 32767
	}
	return -2147483648, 2147483647
}

// wrong is Check told by the sheet, of one whose row is known.
func (r row) wrong(i isa.Ins) api.Errno {
	for _, letter := range "dsoi" {
		least, most := ends(letter)
		if n := *part(&i, letter); n < least || n > most {
			return api.ErrRange
		}
	}
	for _, letter := range "dsoi" {
		if *part(&i, letter) != 0 && !strings.ContainsRune(r.uses, letter) {
			return api.ErrForm
		}
	}
	return api.OK
}

func wrong(i isa.Ins) api.Errno {
	r, is := rowOf(i.Op)
	if !is {
		return api.ErrKind
	}
	return r.wrong(i)
}

// digits are n mod 256^count to the base 256, the lowest first, by numbers that don't run over.
func digits(n, count int) []byte {
	base := big.NewInt(256)
	rest := new(big.Int).Mod(big.NewInt(int64(n)), new(big.Int).Exp(base, big.NewInt(int64(count)), nil))
	var l []byte
	for range count {
		digit := new(big.Int)
		rest.DivMod(rest, base, digit)
		l = append(l, byte(digit.Int64()))
	}
	return l
}

// number is the one of these digits, at least -256^count/2.
func number(l []byte) int {
	n, base := 0, 1
	for _, digit := range l {
		n += int(digit) * base
		base *= 256
	}
	if n >= base/2 {
		n -= base
	}
	return n
}

// told is an instruction's bytes, right or not: what doesn't fit is cut.
func told(i isa.Ins) []byte {
	return slices.Concat(digits(i.Op, 1), digits(16*i.Dst+i.Src, 1), digits(i.Off, 2), digits(i.Imm, 4))
}

// heard is the instruction of eight bytes, right or not.
func heard(b []byte) isa.Ins {
	return isa.Ins{Op: int(b[0]), Dst: int(b[1]) / 16, Src: int(b[1]) % 16, Off: number(b[2:4]), Imm: number(b[4:8])}
}

// parsed is Parse told by the sheet: the place of each instruction is counted from the beginning.
func parsed(b []byte) ([]isa.Ins, int, api.Errno) {
	var l []isa.Ins
	for k := range (len(b) + 7) / 8 {
		if 8*k+8 > len(b) {
			return nil, k, api.ErrEnd
		}
		i := heard(b[8*k : 8*k+8])
		if e := wrong(i); e != api.OK {
			return nil, k, e
		}
		l = append(l, i)
	}
	return l, 0, api.OK
}

// text is that of a right instruction, by its row.
func (r row) text(i isa.Ins) string {
	var l []string
	for _, letter := range r.uses {
		n := strconv.Itoa(*part(&i, letter))
		if letter == 'd' || letter == 's' {
			n = "r" + n
		}
		l = append(l, n)
	}
	return strings.TrimSpace(r.name + " " + strings.Join(l, ", "))
}

// readText finds the one instruction that a text is of; not found, if it is of none, or of several.
func readText(text string) (isa.Ins, bool) {
	name, rest, _ := strings.Cut(text, " ")
	var l []string
	if rest != "" {
		l = strings.Split(rest, ", ")
	}
	var found []isa.Ins
	for _, r := range rows() {
		if i, is := r.read(l); is && r.name == name {
			found = append(found, i)
		}
	}
	if len(found) != 1 {
		return isa.Ins{}, false
	}
	return found[0], true
}

// read is the row's instruction with these parts, if they are of its kinds.
func (r row) read(l []string) (isa.Ins, bool) {
	i := isa.Ins{Op: r.op}
	if len(l) != len(r.uses) {
		return i, false
	}
	for k, letter := range r.uses {
		n, of := strings.CutPrefix(l[k], "r")
		if of != (letter == 'd' || letter == 's') {
			return i, false
		}
		x, err := strconv.Atoi(n)
		if err != nil || strconv.Itoa(x) != n {
			return i, false
		}
		*part(&i, letter) = x
	}
	return i, true
}

// edges are numbers about the bounds of parts, by the sheet's letter: right ones, and wrong ones.
func edges(letter rune) []int {
	switch letter {
	case 'd', 's':
		return []int{math.MinInt, -1 << 32, -16, -1, 0, 1, 9, 10, 15, 16, 1 << 32, math.MaxInt}
	case 'o':
		return []int{math.MinInt, -1 << 32, -65536, -32769, -32768, -1, 0, 1, 32767, 32768, 65536, 1 << 32, math.MaxInt}
	}
	return []int{math.MinInt, math.MinInt + 1, -1 << 32, -1<<31 - 1, -1 << 31, -1, 0, 1, 1<<31 - 1, 1 << 31, 1 << 32, math.MaxInt - 1, math.MaxInt}
}

// goods are some of the numbers that the part may be.
func goods(letter rune) []int {
	switch letter {
	case 'd', 's':
		return []int{0, 1, 8, 9}
	case 'o':
		return []int{-32768, -32767, -256, -255, -2, -1, 0, 1, 2, 127, 128, 255, 256, 32766, 32767}
	}
	return []int{-1 << 31, -1<<31 + 1, -65537, -65536, -32769, -256, -2, -1, 0, 1, 2, 15, 127, 128, 255, 256, 32768, 65535, 65536, 1 << 24, 1<<31 - 2, 1<<31 - 1}
}

// rights are right instructions of every operation, with the numbers that goods tells in all that it uses.
func rights() []isa.Ins {
	var all []isa.Ins
	for _, r := range rows() {
		l := []isa.Ins{{Op: r.op}}
		for _, letter := range r.uses {
			var more []isa.Ins
			for _, i := range l {
				for _, n := range goods(letter) {
					*part(&i, letter) = n
					more = append(more, i)
				}
			}
			l = more
		}
		all = append(all, l...)
	}
	return all
}

// wrongs are instructions that Check tells an error of, with that error.
func wrongs() []struct {
	i isa.Ins
	e api.Errno
} {
	return []struct {
		i isa.Ins
		e api.Errno
	}{
		{isa.Ins{Op: 13}, api.ErrKind},
		{isa.Ins{Op: 255, Dst: 1}, api.ErrKind},
		{isa.Ins{Op: -1}, api.ErrKind},
		{isa.Ins{Op: 256}, api.ErrKind},
		{isa.Ins{Op: 99, Dst: 10, Imm: 1 << 40}, api.ErrKind},
		{isa.Ins{Op: isa.Add, Dst: 10}, api.ErrRange},
		{isa.Ins{Op: isa.Add + isa.Reg, Src: -1}, api.ErrRange},
		{isa.Ins{Op: isa.Ja, Off: 32768}, api.ErrRange},
		{isa.Ins{Op: isa.Call, Imm: -1<<31 - 1}, api.ErrRange},
		{isa.Ins{Op: isa.Exit, Dst: 15}, api.ErrRange},
		{isa.Ins{Op: isa.Add, Src: 1}, api.ErrForm},
		{isa.Ins{Op: isa.Neg, Imm: 1}, api.ErrForm},
		{isa.Ins{Op: isa.Exit, Off: -1}, api.ErrForm},
		{isa.Ins{Op: isa.StStack, Dst: 9}, api.ErrForm},
	}
}

// noOps are numbers of no operation.
func noOps() []int {
	l := []int{math.MinInt, math.MinInt + 1, math.MinInt + 16, -1 << 32, -256, -17, -16, -15, -2, -1, 1 << 16, 1 << 32, 1<<32 + 1, 1<<32 + 73, math.MaxInt - 16, math.MaxInt - 1, math.MaxInt}
	for op := range 513 {
		if _, is := rowOf(op); !is {
			l = append(l, op)
		}
	}
	return l
}

// numbers gives numbers that look like chance, and are the same each time.
func numbers(seed uint64) func(below int) int {
	x := seed
	return func(below int) int {
		x = x*6364136223846793005 + 1442695040888963407
		return int((x ^ x>>29) >> 7 % uint64(below))
	}
}

func wantCheck(t *testing.T, i isa.Ins, want api.Errno) {
	t.Helper()
	if e := isa.Check(i); e != want {
		t.Errorf("Check(%v): %d, not %d", i, e, want)
	}
}

func wantBytes(t *testing.T, want []byte, wrong api.Errno, l ...isa.Ins) {
	t.Helper()
	was := slices.Clone(l)
	if b, e := isa.Bytes(l...); e != wrong || !bytes.Equal(b, want) {
		t.Errorf("Bytes(%v): %v, %d, not %v, %d", l, b, e, want, wrong)
	}
	if !slices.Equal(l, was) {
		t.Errorf("Bytes(%v) made them %v", was, l)
	}
}

func wantParsed(t *testing.T, b []byte, want []isa.Ins, ahead int, wrong api.Errno) {
	t.Helper()
	was := slices.Clone(b)
	if l, n, e := isa.Parse(b); n != ahead || e != wrong || !slices.Equal(l, want) {
		t.Errorf("Parse(%v): %v, %d, %d, not %v, %d, %d", b, l, n, e, want, ahead, wrong)
	}
	if !bytes.Equal(b, was) {
		t.Errorf("Parse(%v) made them %v", was, b)
	}
}

// wantParsedLike holds Parse against the sheet.
func wantParsedLike(t *testing.T, b []byte) {
	t.Helper()
	l, n, e := parsed(b)
	wantParsed(t, b, l, n, e)
}

func wantText(t *testing.T, i isa.Ins, want string) {
	t.Helper()
	if text := isa.Text(i); text != want {
		t.Errorf("Text(%v): %q, not %q", i, text, want)
	}
}

func TestConstants(t *testing.T) {
	ops := []int{isa.Add, isa.Sub, isa.Mul, isa.Div, isa.Mod, isa.And, isa.Or, isa.Xor, isa.Lsh, isa.Rsh, isa.Arsh, isa.Mov, isa.Neg, isa.Reg,
		isa.Ja, isa.Jeq, isa.Jne, isa.Jgt, isa.Jge, isa.Jlt, isa.Jle, isa.Jset, isa.Jsgt, isa.Jslt, isa.LdStack, isa.StStack, isa.LdVal, isa.StVal, isa.Call, isa.Exit}
	if !slices.Equal(ops, []int{0, 1, 2, 3, 4, 5, 6, 7, 8, 9, 10, 11, 12, 16, 32, 33, 34, 35, 36, 37, 38, 39, 40, 41, 64, 65, 66, 67, 72, 73}) {
		t.Error(ops)
	}
	if others := []int{isa.Size, isa.Regs, isa.Alu, isa.Jump, isa.Memory, isa.Flow}; !slices.Equal(others, []int{8, 10, 1, 2, 3, 4}) {
		t.Error(others)
	}
}

// P15.1

func TestClassAndName(t *testing.T) {
	for op := -1; op <= 256; op++ {
		r, _ := rowOf(op) // of no operation: 0 and ""
		if class := isa.Class(op); class != r.class {
			t.Errorf("Class(%d): %d, not %d", op, class, r.class)
		}
		if name := isa.Name(op); name != r.name {
			t.Errorf("Name(%d): %q, not %q", op, name, r.name)
		}
	}
}

func TestClassAndNameOfNoOperation(t *testing.T) {
	for _, op := range noOps() {
		if class, name := isa.Class(op), isa.Name(op); class != 0 || name != "" {
			t.Errorf("Class(%d): %d, Name(%d): %q", op, class, op, name)
		}
	}
}

// TestSheet: that the sheet has what the chapter tells in short.
func TestSheet(t *testing.T) {
	count := map[int]int{}
	for _, r := range rows() {
		count[r.class]++
	}
	if len(rows()) != 50 || count[1] != 13+12 || count[2] != 10+9 || count[3] != 4 || count[4] != 2 {
		t.Error(len(rows()), count)
	}
	for _, r := range rows() {
		if other, is := rowOf(r.op + 16); is && (r.op < 12 || r.op > 32 && r.op < 42) {
			if other.name != r.name || other.uses != strings.Replace(r.uses, "i", "s", 1) {
				t.Error(r, other)
			}
		}
	}
}

// TestCheckAtTheBounds: of each operation, each thing that it uses is at its bounds, one below and one above, and so on, the others being right.
func TestCheckAtTheBounds(t *testing.T) {
	for _, r := range rows() {
		wantCheck(t, isa.Ins{Op: r.op}, api.OK)
		for _, letter := range r.uses {
			least, most := ends(letter)
			for _, base := range []int{0, 1} {
				for _, n := range edges(letter) {
					i := isa.Ins{Op: r.op}
					for _, other := range r.uses {
						*part(&i, other) = base
					}
					*part(&i, letter) = n
					want := api.OK
					if n < least || n > most {
						want = api.ErrRange
					}
					wantCheck(t, i, want)
				}
			}
		}
	}
}

// TestCheckOfNumbers tells what is expected of single numbers without the sheet.
func TestCheckOfNumbers(t *testing.T) {
	cases := []struct {
		n                  int
		reg, off, imm      api.Errno
		noReg, noOff, noIm api.Errno // where it isn't used
	}{
		{math.MinInt, 2, 2, 2, 2, 2, 2},
		{-1<<31 - 1, 2, 2, 2, 2, 2, 2},
		{-1 << 31, 2, 2, 0, 2, 2, 9},
		{-32769, 2, 2, 0, 2, 2, 9},
		{-32768, 2, 0, 0, 2, 9, 9},
		{-1, 2, 0, 0, 2, 9, 9},
		{0, 0, 0, 0, 0, 0, 0},
		{1, 0, 0, 0, 9, 9, 9},
		{9, 0, 0, 0, 9, 9, 9},
		{10, 2, 0, 0, 2, 9, 9},
		{15, 2, 0, 0, 2, 9, 9},
		{16, 2, 0, 0, 2, 9, 9},
		{32767, 2, 0, 0, 2, 9, 9},
		{32768, 2, 2, 0, 2, 2, 9},
		{1<<31 - 1, 2, 2, 0, 2, 2, 9},
		{1 << 31, 2, 2, 2, 2, 2, 2},
		{math.MaxInt, 2, 2, 2, 2, 2, 2},
	}
	for _, c := range cases {
		wantCheck(t, isa.Ins{Op: isa.Add, Dst: c.n}, c.reg)
		wantCheck(t, isa.Ins{Op: isa.Add, Imm: c.n}, c.imm)
		wantCheck(t, isa.Ins{Op: isa.Add, Src: c.n}, c.noReg)
		wantCheck(t, isa.Ins{Op: isa.Add, Off: c.n}, c.noOff)
		wantCheck(t, isa.Ins{Op: isa.Reg + isa.Mov, Src: c.n}, c.reg)
		wantCheck(t, isa.Ins{Op: isa.Reg + isa.Mov, Imm: c.n}, c.noIm)
		wantCheck(t, isa.Ins{Op: isa.Neg, Dst: c.n}, c.reg)
		wantCheck(t, isa.Ins{Op: isa.Neg, Imm: c.n}, c.noIm)
		wantCheck(t, isa.Ins{Op: isa.Ja, Off: c.n}, c.off)
		wantCheck(t, isa.Ins{Op: isa.Ja, Dst: c.n}, c.noReg)
		wantCheck(t, isa.Ins{Op: isa.Ja, Imm: c.n}, c.noIm)
		wantCheck(t, isa.Ins{Op: isa.StStack, Dst: c.n}, c.noReg)
		wantCheck(t, isa.Ins{Op: isa.StStack, Src: c.n}, c.reg)
		wantCheck(t, isa.Ins{Op: isa.LdStack, Dst: c.n}, c.reg)
		wantCheck(t, isa.Ins{Op: isa.LdStack, Src: c.n}, c.noReg)
		wantCheck(t, isa.Ins{Op: isa.StVal, Dst: c.n, Src: 3}, c.reg)
		wantCheck(t, isa.Ins{Op: isa.StVal, Off: c.n, Src: 3}, c.off)
		wantCheck(t, isa.Ins{Op: isa.Call, Imm: c.n}, c.imm)
		wantCheck(t, isa.Ins{Op: isa.Call, Dst: c.n}, c.noReg)
		wantCheck(t, isa.Ins{Op: isa.Exit, Src: c.n}, c.noReg)
		wantCheck(t, isa.Ins{Op: isa.Exit, Off: c.n}, c.noOff)
		wantCheck(t, isa.Ins{Op: isa.Exit, Imm: c.n}, c.noIm)
	}
}

// TestCheckOfWhatIsNotUsed: each thing by itself that the operation doesn't use, at 0 and not, with 0 and with other numbers in what it does use.
func TestCheckOfWhatIsNotUsed(t *testing.T) {
	for _, r := range rows() {
		for _, letter := range "dsoi" {
			if strings.ContainsRune(r.uses, letter) {
				continue
			}
			for _, base := range []int{0, 7} {
				i := isa.Ins{Op: r.op}
				for _, other := range r.uses {
					*part(&i, other) = base
				}
				wantCheck(t, i, api.OK)
				least, most := ends(letter)
				for _, n := range []int{least, -1, 1, 2, 8, most} {
					if n >= least && n != 0 {
						*part(&i, letter) = n
						wantCheck(t, i, api.ErrForm)
					}
				}
			}
		}
	}
}

// TestCheckOfSeveralThings: every operation, right or not, with all the edges in all things at once.
func TestCheckOfSeveralThings(t *testing.T) {
	ops := []int{math.MinInt, -1, 13, 14, 15, 28, 31, 42, 48, 58, 63, 68, 71, 74, 255, 256, math.MaxInt}
	for _, r := range rows() {
		ops = append(ops, r.op)
	}
	for _, op := range ops {
		r, is := rowOf(op)
		for _, dst := range edges('d') {
			for _, src := range edges('s') {
				for _, off := range edges('o') {
					for _, imm := range edges('i') {
						i := isa.Ins{Op: op, Dst: dst, Src: src, Off: off, Imm: imm}
						want := api.ErrKind
						if is {
							want = r.wrong(i)
						}
						wantCheck(t, i, want)
					}
				}
			}
		}
	}
}

// TestCheckTellsTheFirst: no operation goes ahead of a bound, and a bound ahead of what isn't used.
func TestCheckTellsTheFirst(t *testing.T) {
	for _, op := range noOps() {
		wantCheck(t, isa.Ins{Op: op}, api.ErrKind)
		wantCheck(t, isa.Ins{Op: op, Dst: 10}, api.ErrKind)
		wantCheck(t, isa.Ins{Op: op, Src: -1, Off: 40000, Imm: 1 << 31}, api.ErrKind)
		wantCheck(t, isa.Ins{Op: op, Dst: 1, Src: 1, Off: 1, Imm: 1}, api.ErrKind)
		wantCheck(t, isa.Ins{Op: op, Dst: 1, Src: 1, Off: 1, Imm: math.MinInt}, api.ErrKind)
	}
	wantCheck(t, isa.Ins{Op: isa.Exit, Dst: 1, Imm: 1 << 31}, api.ErrRange)
	wantCheck(t, isa.Ins{Op: isa.Exit, Dst: 10, Imm: 1}, api.ErrRange)
	wantCheck(t, isa.Ins{Op: isa.Neg, Dst: 10, Src: 1}, api.ErrRange)
	wantCheck(t, isa.Ins{Op: isa.Neg, Dst: 9, Src: 10}, api.ErrRange)
	wantCheck(t, isa.Ins{Op: isa.Call, Off: 1, Imm: math.MaxInt}, api.ErrRange)
	wantCheck(t, isa.Ins{Op: isa.Call, Off: -32769, Imm: 1}, api.ErrRange)
	wantCheck(t, isa.Ins{Op: isa.Ja, Src: 3, Off: 32768}, api.ErrRange)
	wantCheck(t, isa.Ins{Op: isa.Ja, Src: 3, Off: 32767}, api.ErrForm)
}

// P15.2

func TestBytesOfNothing(t *testing.T) {
	wantBytes(t, nil, api.OK)
	wantBytes(t, nil, api.OK, []isa.Ins{}...)
}

func TestBytesOfEachOperation(t *testing.T) {
	for _, i := range rights() {
		wantBytes(t, told(i), api.OK, i)
	}
}

// TestBytesAtTheBounds tells what is expected without the sheet.
func TestBytesAtTheBounds(t *testing.T) {
	cases := []struct {
		i    isa.Ins
		want []byte
	}{
		{isa.Ins{}, []byte{0, 0, 0, 0, 0, 0, 0, 0}},
		{isa.Ins{Op: isa.Sub, Dst: 9, Imm: -1 << 31}, []byte{1, 144, 0, 0, 0, 0, 0, 128}},
		{isa.Ins{Op: isa.Sub, Dst: 9, Imm: 1<<31 - 1}, []byte{1, 144, 0, 0, 255, 255, 255, 127}},
		{isa.Ins{Op: isa.Mov, Dst: 2, Imm: -1}, []byte{11, 32, 0, 0, 255, 255, 255, 255}},
		{isa.Ins{Op: isa.Mov, Imm: 0x04030201}, []byte{11, 0, 0, 0, 1, 2, 3, 4}},
		{isa.Ins{Op: isa.Neg, Dst: 4}, []byte{12, 64, 0, 0, 0, 0, 0, 0}},
		{isa.Ins{Op: isa.Reg + isa.Mov, Dst: 9, Src: 9}, []byte{27, 153, 0, 0, 0, 0, 0, 0}},
		{isa.Ins{Op: isa.Reg + isa.Add, Src: 9}, []byte{16, 9, 0, 0, 0, 0, 0, 0}},
		{isa.Ins{Op: isa.Ja, Off: -32768}, []byte{32, 0, 0, 128, 0, 0, 0, 0}},
		{isa.Ins{Op: isa.Ja, Off: 32767}, []byte{32, 0, 255, 127, 0, 0, 0, 0}},
		{isa.Ins{Op: isa.Ja, Off: 0x0201}, []byte{32, 0, 1, 2, 0, 0, 0, 0}},
		{isa.Ins{Op: isa.Jslt, Dst: 1, Off: -1, Imm: -2}, []byte{41, 16, 255, 255, 254, 255, 255, 255}},
		{isa.Ins{Op: isa.Reg + isa.Jslt, Dst: 1, Src: 8, Off: -256}, []byte{57, 24, 0, 255, 0, 0, 0, 0}},
		{isa.Ins{Op: isa.LdStack, Dst: 3, Off: 7}, []byte{64, 48, 7, 0, 0, 0, 0, 0}},
		{isa.Ins{Op: isa.StStack, Src: 3, Off: 7}, []byte{65, 3, 7, 0, 0, 0, 0, 0}},
		{isa.Ins{Op: isa.LdVal, Dst: 1, Src: 2, Off: 3}, []byte{66, 18, 3, 0, 0, 0, 0, 0}},
		{isa.Ins{Op: isa.StVal, Dst: 1, Src: 2, Off: 3}, []byte{67, 18, 3, 0, 0, 0, 0, 0}},
		{isa.Ins{Op: isa.Call, Imm: 15}, []byte{72, 0, 0, 0, 15, 0, 0, 0}},
		{isa.Ins{Op: isa.Exit}, []byte{73, 0, 0, 0, 0, 0, 0, 0}},
	}
	var all []isa.Ins
	var whole []byte
	for _, c := range cases {
		wantBytes(t, c.want, api.OK, c.i)
		wantParsed(t, c.want, []isa.Ins{c.i}, 0, api.OK)
		all, whole = append(all, c.i), append(whole, c.want...)
	}
	wantBytes(t, whole, api.OK, all...)
	wantParsed(t, whole, all, 0, api.OK)
}

func TestBytesOfSeveral(t *testing.T) {
	all := rights()
	next := numbers(15)
	for n := range 70 {
		var l []isa.Ins
		var want []byte
		for range n {
			i := all[next(len(all))]
			l, want = append(l, i), append(want, told(i)...)
		}
		wantBytes(t, want, api.OK, l...)
	}
}

// TestBytesOfWrongOnes: one that is wrong stands first, in the middle, last, or alone.
func TestBytesOfWrongOnes(t *testing.T) {
	for _, w := range wrongs() {
		wantBytes(t, nil, w.e, w.i)
		for n := 1; n <= 5; n++ {
			for at := range n {
				l := slices.Repeat([]isa.Ins{{Op: isa.Mov, Dst: 1, Imm: 7}}, n)
				l[at] = w.i
				wantBytes(t, nil, w.e, l...)
			}
		}
	}
}

// TestBytesOfTwoWrongOnes: the error is that of the one that stands first, whichever error comes first in Check.
func TestBytesOfTwoWrongOnes(t *testing.T) {
	right := isa.Ins{Op: isa.Exit}
	for _, a := range wrongs() {
		for _, b := range wrongs() {
			wantBytes(t, nil, a.e, a.i, b.i)
			wantBytes(t, nil, a.e, right, a.i, right, b.i, right)
			wantBytes(t, nil, a.e, right, right, a.i, b.i)
		}
	}
}

func TestBytesAreNewMemory(t *testing.T) {
	l := []isa.Ins{{Op: isa.Add, Dst: 1, Imm: 5}, {Op: isa.Exit}, {Op: isa.Ja, Off: -3}}
	b, _ := isa.Bytes(l...)
	other, _ := isa.Bytes(l...)
	want := slices.Clone(b)
	for k := range other {
		other[k] = 99
	}
	other = append(other[:0], 98, 98)
	l[0], l[1], l[2] = isa.Ins{Op: isa.Neg}, isa.Ins{Op: isa.Neg}, isa.Ins{Op: isa.Neg}
	if !bytes.Equal(b, want) {
		t.Errorf("%v, not %v (%v)", b, want, other)
	}
	wantBytes(t, slices.Concat(want[8:16], want[8:16]), api.OK, isa.Ins{Op: isa.Exit}, isa.Ins{Op: isa.Exit})
}

func TestParseOfNothing(t *testing.T) {
	wantParsed(t, nil, nil, 0, api.OK)
	wantParsed(t, []byte{}, nil, 0, api.OK)
}

// TestParseOfFew: fewer than eight bytes, whatever they are.
func TestParseOfFew(t *testing.T) {
	for n := 1; n <= 7; n++ {
		for _, first := range []byte{0, 12, 13, 73, 255} {
			for _, others := range []byte{0, 1, 160, 255} {
				b := slices.Repeat([]byte{others}, n)
				b[0] = first
				wantParsed(t, b, nil, 0, api.ErrEnd)
			}
		}
	}
}

func TestParseOfEachOperation(t *testing.T) {
	for _, i := range rights() {
		wantParsed(t, told(i), []isa.Ins{i}, 0, api.OK)
	}
}

// TestParseOfSeveral: of several times eight, and of one to seven bytes more.
func TestParseOfSeveral(t *testing.T) {
	all := rights()
	next := numbers(16)
	for n := range 70 {
		var l []isa.Ins
		var b []byte
		for range n {
			i := all[next(len(all))]
			l, b = append(l, i), append(b, told(i)...)
		}
		wantParsed(t, b, l, 0, api.OK)
		for more := 1; more <= 7; more++ {
			for _, x := range []byte{0, 73, 255} {
				wantParsed(t, slices.Concat(b, slices.Repeat([]byte{x}, more)), nil, n, api.ErrEnd)
			}
		}
		wantParsed(t, slices.Concat(b, []byte{73, 0, 0, 0, 0, 0, 0, 0}), append(l, isa.Ins{Op: isa.Exit}), 0, api.OK)
	}
}

// TestParseOfOnlySomeOf: what stands behind a slice's end in its memory isn't read, nor written.
func TestParseOfOnlySomeOf(t *testing.T) {
	whole := []byte{0, 16, 0, 0, 5, 0, 0, 0, 73, 0, 0, 0, 0, 0, 0, 0, 73, 0, 0, 0, 0, 0, 0, 0}
	was := slices.Clone(whole)
	wantParsed(t, whole[:8], []isa.Ins{{Op: isa.Add, Dst: 1, Imm: 5}}, 0, api.OK)
	wantParsed(t, whole[:12], nil, 1, api.ErrEnd)
	wantParsed(t, whole[8:16], []isa.Ins{{Op: isa.Exit}}, 0, api.OK)
	if !bytes.Equal(whole, was) {
		t.Error(whole)
	}
}

// wrongBytes are eights of bytes that are wrong, with what is wrong.
func wrongBytes() []struct {
	b []byte
	e api.Errno
} {
	return []struct {
		b []byte
		e api.Errno
	}{
		{[]byte{13, 0, 0, 0, 0, 0, 0, 0}, api.ErrKind},
		{[]byte{28, 0, 0, 0, 0, 0, 0, 0}, api.ErrKind},
		{[]byte{48, 0, 0, 0, 0, 0, 0, 0}, api.ErrKind},
		{[]byte{255, 255, 255, 255, 255, 255, 255, 255}, api.ErrKind},
		{[]byte{74, 160, 1, 0, 1, 0, 0, 0}, api.ErrKind},
		{[]byte{0, 160, 0, 0, 0, 0, 0, 0}, api.ErrRange},
		{[]byte{0, 240, 0, 0, 0, 0, 0, 0}, api.ErrRange},
		{[]byte{16, 10, 0, 0, 0, 0, 0, 0}, api.ErrRange},
		{[]byte{16, 15, 0, 0, 0, 0, 0, 0}, api.ErrRange},
		{[]byte{73, 10, 0, 0, 0, 0, 0, 0}, api.ErrRange},
		{[]byte{73, 176, 1, 0, 1, 0, 0, 0}, api.ErrRange},
		{[]byte{0, 1, 0, 0, 5, 0, 0, 0}, api.ErrForm},
		{[]byte{0, 16, 1, 0, 5, 0, 0, 0}, api.ErrForm},
		{[]byte{0, 16, 0, 128, 5, 0, 0, 0}, api.ErrForm},
		{[]byte{12, 64, 0, 0, 0, 0, 0, 1}, api.ErrForm},
		{[]byte{32, 16, 3, 0, 0, 0, 0, 0}, api.ErrForm},
		{[]byte{65, 18, 7, 0, 0, 0, 0, 0}, api.ErrForm},
		{[]byte{73, 0, 0, 0, 0, 0, 0, 128}, api.ErrForm},
	}
}

// TestParseOfWrongOnes: one that is wrong stands first, in the middle, last, or alone, with some bytes more at the end or none.
func TestParseOfWrongOnes(t *testing.T) {
	for _, w := range wrongBytes() {
		for n := 1; n <= 5; n++ {
			for at := range n {
				b := slices.Repeat(told(isa.Ins{Op: isa.Mov, Dst: 1, Imm: -7}), n)
				copy(b[8*at:], w.b)
				for more := range 8 {
					wantParsed(t, slices.Concat(b, make([]byte, more)), nil, at, w.e)
				}
			}
		}
	}
}

func TestParseOfTwoWrongOnes(t *testing.T) {
	right := []byte{73, 0, 0, 0, 0, 0, 0, 0}
	for _, a := range wrongBytes() {
		for _, b := range wrongBytes() {
			wantParsed(t, slices.Concat(a.b, b.b), nil, 0, a.e)
			wantParsed(t, slices.Concat(right, a.b, right, b.b, right), nil, 1, a.e)
			wantParsed(t, slices.Concat(right, right, a.b, b.b, right[:3]), nil, 2, a.e)
		}
	}
}

// TestParseOfEveryFront: every operation's byte with every byte of registers, with some numbers behind; what is right is told back.
func TestParseOfEveryFront(t *testing.T) {
	tails := [][]byte{{0, 0, 0, 0, 0, 0}, {7, 0, 0, 0, 0, 0}, {0, 255, 0, 0, 0, 0}, {0, 0, 0, 1, 0, 0}, {0, 0, 255, 255, 255, 255}, {254, 255, 0, 0, 0, 128}}
	for op := range 256 {
		r, is := rowOf(op)
		for registers := range 256 {
			for _, tail := range tails {
				b := append([]byte{byte(op), byte(registers)}, tail...)
				i, want := heard(b), api.ErrKind
				if is {
					want = r.wrong(i)
				}
				if want != api.OK {
					wantParsed(t, b, nil, 0, want)
					continue
				}
				wantParsed(t, b, []isa.Ins{i}, 0, api.OK)
				wantBytes(t, b, api.OK, i)
			}
		}
	}
}

// TestParseOfEveryByte: of some instructions, each byte is every byte.
func TestParseOfEveryByte(t *testing.T) {
	for _, r := range rows() {
		for at := range 8 {
			for x := range 256 {
				b := told(isa.Ins{Op: r.op})
				b[at] = byte(x)
				wantParsedLike(t, b)
			}
		}
	}
}

func TestParseLikeTheSheet(t *testing.T) {
	all := rights()
	next := numbers(17)
	for range 3000 {
		var b []byte
		for range next(9) {
			b = append(b, told(all[next(len(all))])...)
		}
		b = append(b, told(isa.Ins{Op: next(80), Dst: next(12), Src: next(4) / 3 * next(12)})[:next(9)]...)
		for range next(3) * next(2) {
			if len(b) > 0 {
				b[next(len(b))] = byte(next(256))
			}
		}
		wantParsedLike(t, b)
	}
}

// TestParseKeepsNothing: what is handed in may be changed then, and so may what was answered.
func TestParseKeepsNothing(t *testing.T) {
	b := slices.Concat(told(isa.Ins{Op: isa.Add, Dst: 1, Imm: 5}), told(isa.Ins{Op: isa.Ja, Off: -1}), told(isa.Ins{Op: isa.Exit}))
	want := []isa.Ins{{Op: isa.Add, Dst: 1, Imm: 5}, {Op: isa.Ja, Off: -1}, {Op: isa.Exit}}
	was := slices.Clone(b)
	l, _, _ := isa.Parse(b)
	other, _, _ := isa.Parse(b)
	for k := range other {
		other[k] = isa.Ins{Op: isa.Neg, Dst: 9}
	}
	if !bytes.Equal(b, was) {
		t.Errorf("%v, not %v", b, was)
	}
	for k := range b {
		b[k] = 200
	}
	if !slices.Equal(l, want) {
		t.Errorf("%v, not %v", l, want)
	}
	wantParsed(t, was, want, 0, api.OK)
}

// P15.3

func TestTextOfEachOperation(t *testing.T) {
	for _, i := range rights() {
		r, _ := rowOf(i.Op)
		wantText(t, i, r.text(i))
	}
}

// TestTextAtTheBounds tells what is expected without the sheet.
func TestTextAtTheBounds(t *testing.T) {
	cases := []struct {
		i    isa.Ins
		want string
	}{
		{isa.Ins{}, "add r0, 0"},
		{isa.Ins{Op: isa.Sub, Dst: 9, Imm: -1}, "sub r9, -1"},
		{isa.Ins{Op: isa.Arsh, Dst: 9, Imm: -1 << 31}, "arsh r9, -2147483648"},
		{isa.Ins{Op: isa.Mov, Imm: 1<<31 - 1}, "mov r0, 2147483647"},
		{isa.Ins{Op: isa.Neg}, "neg r0"},
		{isa.Ins{Op: isa.Neg, Dst: 9}, "neg r9"},
		{isa.Ins{Op: isa.Reg + isa.Add}, "add r0, r0"},
		{isa.Ins{Op: isa.Reg + isa.Mov, Dst: 9, Src: 1}, "mov r9, r1"},
		{isa.Ins{Op: isa.Ja}, "ja 0"},
		{isa.Ins{Op: isa.Ja, Off: -1}, "ja -1"},
		{isa.Ins{Op: isa.Ja, Off: -32768}, "ja -32768"},
		{isa.Ins{Op: isa.Ja, Off: 32767}, "ja 32767"},
		{isa.Ins{Op: isa.Jeq, Dst: 1, Off: -1}, "jeq r1, 0, -1"},
		{isa.Ins{Op: isa.Jset, Dst: 2, Imm: -5, Off: 12}, "jset r2, -5, 12"},
		{isa.Ins{Op: isa.Reg + isa.Jne, Dst: 2, Src: 3, Off: -2}, "jne r2, r3, -2"},
		{isa.Ins{Op: isa.Reg + isa.Jslt, Dst: 9, Src: 0, Off: 32767}, "jslt r9, r0, 32767"},
		{isa.Ins{Op: isa.LdStack, Dst: 2, Off: 7}, "ldst r2, 7"},
		{isa.Ins{Op: isa.StStack, Src: 2, Off: 7}, "stst 7, r2"},
		{isa.Ins{Op: isa.StStack, Src: 0, Off: -32768}, "stst -32768, r0"},
		{isa.Ins{Op: isa.LdVal, Dst: 1, Src: 2, Off: 0}, "ldv r1, r2, 0"},
		{isa.Ins{Op: isa.StVal, Dst: 1, Src: 2, Off: 0}, "stv r1, 0, r2"},
		{isa.Ins{Op: isa.StVal, Dst: 9, Src: 0, Off: -1}, "stv r9, -1, r0"},
		{isa.Ins{Op: isa.Call}, "call 0"},
		{isa.Ins{Op: isa.Call, Imm: -1}, "call -1"},
		{isa.Ins{Op: isa.Exit}, "exit"},
	}
	for _, c := range cases {
		wantText(t, c.i, c.want)
	}
}

func TestTextOfWrongOnes(t *testing.T) {
	for _, w := range wrongs() {
		wantText(t, w.i, "")
	}
	for _, op := range noOps() {
		wantText(t, isa.Ins{Op: op}, "")
	}
	for _, r := range rows() {
		for _, letter := range "dsoi" {
			for _, n := range edges(letter) {
				i := isa.Ins{Op: r.op}
				*part(&i, letter) = n
				want := r.text(i)
				if r.wrong(i) != api.OK {
					want = ""
				}
				wantText(t, i, want)
			}
		}
	}
}

// TestUnlikeTexts: each text can be read as one instruction alone, the one that it is of.
func TestUnlikeTexts(t *testing.T) {
	of := map[string]isa.Ins{}
	for k, i := range rights() {
		text := isa.Text(i)
		if other, is := of[text]; is && other != i {
			t.Errorf("%v and %v: %q", i, other, text)
		}
		of[text] = i
		if k%5 != 0 && i.Op != isa.Call {
			continue
		}
		if back, is := readText(text); !is || back != i {
			t.Errorf("%q is %v, and read as %v, %v", text, i, back, is)
		}
	}
}

// TestTextOfEveryOff and the next one: no two of an operation's are alike, and 0 has no sign.
func TestTextOfEveryOff(t *testing.T) {
	for off := -32768; off <= 32767; off++ {
		n := strconv.Itoa(off)
		wantText(t, isa.Ins{Op: isa.Ja, Off: off}, "ja "+n)
		wantText(t, isa.Ins{Op: isa.StVal, Dst: 3, Src: 4, Off: off}, "stv r3, "+n+", r4")
		wantText(t, isa.Ins{Op: isa.Jgt, Dst: 3, Imm: -off, Off: off}, "jgt r3, "+strconv.Itoa(-off)+", "+n)
	}
}

func TestTextOfEveryRegister(t *testing.T) {
	for _, r := range rows() {
		for dst := range 10 {
			for src := range 10 {
				i := isa.Ins{Op: r.op, Dst: dst, Src: src}
				want := r.text(i)
				if r.wrong(i) != api.OK {
					want = ""
				}
				wantText(t, i, want)
			}
		}
	}
}

// TestThereAndBack: all right ones at once, as bytes, and as instructions again.
func TestThereAndBack(t *testing.T) {
	all := rights()
	b, e := isa.Bytes(all...)
	if e != api.OK || len(b) != 8*len(all) {
		t.Fatalf("Bytes of %d: %d, %d", len(all), len(b), e)
	}
	l, n, e := isa.Parse(b)
	if e != api.OK || n != 0 || !slices.Equal(l, all) {
		t.Fatalf("Parse of these: %d, %d, %d", len(l), n, e)
	}
	again, e := isa.Bytes(l...)
	if e != api.OK || !bytes.Equal(again, b) {
		t.Fatalf("Bytes again: %d, %d", len(again), e)
	}
}

// TestEveryOffAndSomeImmsThereAndBack: every number of two bytes, and one of four bytes made of it.
func TestEveryOffAndSomeImmsThereAndBack(t *testing.T) {
	for off := -32768; off <= 32767; off++ {
		for _, i := range []isa.Ins{
			{Op: isa.Jne, Dst: 9, Off: off, Imm: off * 65536},
			{Op: isa.Jne, Dst: 1, Off: off, Imm: off*65536 + off + 32768},
			{Op: isa.LdVal, Dst: 9, Src: 9, Off: off},
		} {
			b, e := isa.Bytes(i)
			l, n, wrong := isa.Parse(b)
			if e != api.OK || wrong != api.OK || n != 0 || len(l) != 1 || l[0] != i {
				t.Fatalf("%v: %v, %d: %v, %d, %d", i, b, e, l, n, wrong)
			}
		}
	}
}

// P2

func TestSameAgain(t *testing.T) {
	run := func() []byte {
		next := numbers(18)
		var all []byte
		for range 5000 {
			i := isa.Ins{Op: next(80), Dst: next(11), Src: next(3) / 2 * next(11), Off: next(3) / 2 * (next(70000) - 35000), Imm: next(3) / 2 * (next(1<<33) - 1<<32)}
			b, e := isa.Bytes(i)
			l, n, wrong := isa.Parse(told(i))
			all = append(all, b...)
			all = append(all, byte(e), byte(len(l)), byte(n), byte(wrong), byte(isa.Check(i)), byte(isa.Class(i.Op)))
			all = append(all, isa.Name(i.Op)+isa.Text(i)...)
		}
		return all
	}
	if !bytes.Equal(run(), run()) {
		t.Error("another time, other answers")
	}
}

func TestExamples(t *testing.T) {
	add := isa.Ins{Op: isa.Add, Dst: 1, Imm: 5}
	jne := isa.Ins{Op: 50, Dst: 2, Src: 3, Off: -2}
	wantBytes(t, []byte{0, 16, 0, 0, 5, 0, 0, 0}, api.OK, add)
	wantBytes(t, []byte{50, 35, 254, 255, 0, 0, 0, 0}, api.OK, jne)
	wantParsed(t, []byte{0, 16, 0, 0, 5, 0, 0, 0, 50, 35, 254, 255, 0, 0, 0, 0}, []isa.Ins{add, jne}, 0, api.OK)
	wantText(t, add, "add r1, 5")
	wantText(t, jne, "jne r2, r3, -2")
	wantText(t, isa.Ins{Op: isa.Neg, Dst: 4}, "neg r4")
	wantText(t, isa.Ins{Op: isa.Ja, Off: 3}, "ja 3")
	wantText(t, isa.Ins{Op: isa.StStack, Src: 2, Off: 7}, "stst 7, r2")
	wantText(t, isa.Ins{Op: isa.StVal, Dst: 1, Src: 2}, "stv r1, 0, r2")
	wantText(t, isa.Ins{Op: isa.Call, Imm: 15}, "call 15")
	wantText(t, isa.Ins{Op: isa.Exit}, "exit")
}
