package level_test

import (
	"math"
	"math/big"
	"slices"
	"testing"

	"detent/api"
	"detent/level"
)

// last is the last tick, and farthest the horizon, told otherwise than the packages do it.
const (
	last     = math.MaxUint64
	farthest = 63*8*8*8*8*8*8*8 - 1
)

// A tick is held against a line that has no end: there no sum is ever cut, and 2^64 is a place like others.

func line(tick uint64) *big.Int {
	return new(big.Int).SetUint64(tick)
}

// plus is a place on the line, so many ticks on.
func plus(x *big.Int, n uint64) *big.Int {
	return new(big.Int).Add(x, line(n))
}

func times(x *big.Int, n uint64) *big.Int {
	return new(big.Int).Mul(x, line(n))
}

// by is how many times n goes into x, and what is left.
func by(x *big.Int, n uint64) (*big.Int, uint64) {
	q, r := new(big.Int).DivMod(x, line(n), new(big.Int))
	return q, r.Uint64()
}

// cut is the tick of a place on the line: the last one of all that are above it.
func cut(x *big.Int) uint64 {
	if x.Cmp(line(last)) > 0 {
		return last
	}
	return x.Uint64()
}

func wantGran(n int) uint64 {
	if n < 0 || n > 7 {
		return 0
	}
	g := uint64(1)
	for range n {
		g *= 8
	}
	return g
}

func wantOf(distance uint64) (int, bool) {
	for n := range 8 {
		if distance < 63*wantGran(n) {
			return n, true
		}
	}
	return 0, false
}

// wantAt is the deadline as it is clamped.
func wantAt(from, at uint64) uint64 {
	x := line(at)
	if least := plus(line(from), 1); x.Cmp(least) < 0 {
		x = least
	}
	if most := plus(line(from), farthest); x.Cmp(most) > 0 {
		x = most
	}
	return cut(x)
}

func wantPlace(from, at uint64) (level.Spot, api.Errno) {
	if from == last {
		return level.Spot{}, api.ErrClock
	}
	at = wantAt(from, at)
	n, _ := wantOf(at - from)
	number, left := by(line(at), wantGran(n))
	if left > 0 {
		number = plus(number, 1)
	}
	_, slot := by(number, 64)
	return level.Spot{Level: n, Slot: int(slot), At: at, Due: cut(times(number, wantGran(n)))}, api.OK
}

// wantTime counts up, one number behind the other, till it comes to one that is the slot.
func wantTime(from uint64, n, slot int) (uint64, api.Errno) {
	if n < 0 || n > 7 || slot < 0 || slot > 63 {
		return 0, api.ErrRange
	}
	number, _ := by(line(from), wantGran(n))
	for {
		number = plus(number, 1)
		if _, s := by(number, 64); int(s) == slot {
			return cut(times(number, wantGran(n))), api.OK
		}
	}
}

func wantDues(from uint64, l ...level.Spot) (uint64, bool) {
	var ticks []uint64
	for _, s := range l {
		at, e := wantTime(from, s.Level, s.Slot)
		if e != api.OK {
			return 0, false
		}
		ticks = append(ticks, at)
	}
	if len(ticks) == 0 {
		return 0, false
	}
	return slices.Min(ticks), true
}

func checkPlace(t *testing.T, from, at uint64) {
	t.Helper()
	want, wrong := wantPlace(from, at)
	if s, e := level.Place(from, at); s != want || e != wrong {
		t.Errorf("Place(%d, %d): %v, %d, not %v, %d", from, at, s, e, want, wrong)
	}
}

func checkTime(t *testing.T, from uint64, n, slot int) {
	t.Helper()
	want, wrong := wantTime(from, n, slot)
	if at, e := level.Time(from, n, slot); at != want || e != wrong {
		t.Errorf("Time(%d, %d, %d): %d, %d, not %d, %d", from, n, slot, at, e, want, wrong)
	}
}

func checkDues(t *testing.T, from uint64, l ...level.Spot) {
	t.Helper()
	want, some := wantDues(from, l...)
	if at, is := level.Dues(from, l...); at != want || is != some {
		t.Errorf("Dues(%d, %v): %d, %v, not %d, %v", from, l, at, is, want, some)
	}
}

// around are a tick and those next to it, as far as there are such.
func around(tick uint64) []uint64 {
	l := []uint64{tick}
	if tick > 0 {
		l = append(l, tick-1)
	}
	if tick < last {
		l = append(l, tick+1)
	}
	return l
}

// bounds are the distances at which a level, or the horizon, ends, those at which a turn of its slots does, and those next to them.
func bounds() []uint64 {
	l := []uint64{0}
	for n := range 9 {
		for _, d := range []uint64{1, 62, 63, 64} {
			l = append(l, around(d<<(3*n))...)
		}
	}
	slices.Sort(l)
	return slices.Compact(l)
}

// someTicks are the bounds from 0 on, those up to the last tick, and some between.
func someTicks() []uint64 {
	var l []uint64
	for _, d := range bounds() {
		l = append(l, d, last-d)
	}
	for _, tick := range []uint64{100, 1000, 1 << 32, 1 << 53, 1 << 62, 1 << 63, 1<<63 + 12345678} {
		l = append(l, around(tick)...)
	}
	slices.Sort(l)
	return slices.Compact(l)
}

// numbers gives numbers that look like chance, and are the same each time: some short, some long, some near the last tick.
func numbers(seed uint64) func() uint64 {
	x := seed
	next := func() uint64 {
		x = x*6364136223846793005 + 1442695040888963407
		return x ^ x>>29
	}
	return func() uint64 {
		short := next() >> 33 % 64
		n := next() >> short
		if next()>>40%4 == 0 {
			return last - n
		}
		return n
	}
}

func noLevels() []int {
	return []int{math.MinInt, math.MinInt + 1, -1 << 32, -64, -8, -2, -1, 8, 9, 21, 22, 63, 64, 1 << 32, 1<<32 + 1, math.MaxInt - 1, math.MaxInt}
}

func noSlots() []int {
	return []int{math.MinInt, math.MinInt + 1, -1 << 32, -64, -63, -1, 64, 65, 127, 128, 1 << 32, 1<<32 + 1, math.MaxInt - 1, math.MaxInt}
}

func TestLimits(t *testing.T) {
	if level.Levels != 8 || level.Slots != 64 {
		t.Error(level.Levels, level.Slots)
	}
	if h, is := any(level.Horizon).(uint64); !is || h != 132120575 || farthest != 132120575 {
		t.Error(h, is)
	}
}

// P6.1

func TestGran(t *testing.T) {
	for n, want := range []uint64{1, 8, 64, 512, 4096, 32768, 262144, 2097152} {
		if g := level.Gran(n); g != want {
			t.Errorf("Gran(%d): %d, not %d", n, g, want)
		}
	}
	for _, n := range noLevels() {
		if g := level.Gran(n); g != 0 {
			t.Errorf("Gran(%d): %d, and there is no such level", n, g)
		}
	}
}

func TestOf(t *testing.T) {
	for n, x := range []struct{ first, last uint64 }{
		{0, 62}, {63, 503}, {504, 4031}, {4032, 32255}, {32256, 258047}, {258048, 2064383}, {2064384, 16515071}, {16515072, 132120575},
	} {
		for _, d := range []uint64{x.first, x.first + 1, (x.first + x.last) / 2, x.last - 1, x.last} {
			if got, is := level.Of(d); got != n || !is {
				t.Errorf("Of(%d): %d, %v, not %d", d, got, is, n)
			}
		}
	}
	for _, d := range []uint64{132120576, 132120577, 134217727, 134217728, 1 << 30, 1 << 32, 1<<32 + 1, 1 << 62, 1 << 63, 1<<63 + 5, last - 1, last} {
		if n, is := level.Of(d); n != 0 || is {
			t.Errorf("Of(%d): %d, %v, and it has none", d, n, is)
		}
	}
}

// TestOfIsTheLeast: of distances of all lengths the least level whose reach is above them.
func TestOfIsTheLeast(t *testing.T) {
	next := numbers(3)
	l := append(bounds(), someTicks()...)
	for range 3000 {
		l = append(l, next(), next()%(farthest+1000))
	}
	for d := range uint64(5000) {
		l = append(l, d)
	}
	for _, d := range l {
		want, some := wantOf(d)
		if n, is := level.Of(d); n != want || is != some {
			t.Errorf("Of(%d): %d, %v, not %d, %v", d, n, is, want, some)
		}
	}
}

func TestPlace(t *testing.T) {
	for _, x := range []struct {
		from, at uint64
		spot     level.Spot
	}{
		// Behind from, at it, and one behind it.
		{0, 0, level.Spot{Level: 0, Slot: 1, At: 1, Due: 1}},
		{0, 1, level.Spot{Level: 0, Slot: 1, At: 1, Due: 1}},
		{0, 2, level.Spot{Level: 0, Slot: 2, At: 2, Due: 2}},
		{100, 0, level.Spot{Level: 0, Slot: 37, At: 101, Due: 101}},
		{100, 99, level.Spot{Level: 0, Slot: 37, At: 101, Due: 101}},
		{100, 100, level.Spot{Level: 0, Slot: 37, At: 101, Due: 101}},
		{100, 101, level.Spot{Level: 0, Slot: 37, At: 101, Due: 101}},
		{100, 102, level.Spot{Level: 0, Slot: 38, At: 102, Due: 102}},

		// Level 0 up to its last distance; its slots come round.
		{0, 5, level.Spot{Level: 0, Slot: 5, At: 5, Due: 5}},
		{0, 62, level.Spot{Level: 0, Slot: 62, At: 62, Due: 62}},
		{1, 63, level.Spot{Level: 0, Slot: 63, At: 63, Due: 63}},
		{2, 64, level.Spot{Level: 0, Slot: 0, At: 64, Due: 64}},
		{3, 65, level.Spot{Level: 0, Slot: 1, At: 65, Due: 65}},

		// Level 1: what is a multiple is due at once, all else at the next one.
		{0, 63, level.Spot{Level: 1, Slot: 8, At: 63, Due: 64}},
		{0, 64, level.Spot{Level: 1, Slot: 8, At: 64, Due: 64}},
		{1, 64, level.Spot{Level: 1, Slot: 8, At: 64, Due: 64}},
		{0, 65, level.Spot{Level: 1, Slot: 9, At: 65, Due: 72}},
		{0, 100, level.Spot{Level: 1, Slot: 13, At: 100, Due: 104}},
		{0, 103, level.Spot{Level: 1, Slot: 13, At: 103, Due: 104}},
		{0, 104, level.Spot{Level: 1, Slot: 13, At: 104, Due: 104}},
		{0, 105, level.Spot{Level: 1, Slot: 14, At: 105, Due: 112}},
		{0, 503, level.Spot{Level: 1, Slot: 63, At: 503, Due: 504}},
		{1, 504, level.Spot{Level: 1, Slot: 63, At: 504, Due: 504}},
		{2, 505, level.Spot{Level: 1, Slot: 0, At: 505, Due: 512}},
		{7, 510, level.Spot{Level: 1, Slot: 0, At: 510, Due: 512}}, // in from's own slot, a whole turn ahead

		// From level 2 on.
		{0, 504, level.Spot{Level: 2, Slot: 8, At: 504, Due: 512}},
		{0, 4031, level.Spot{Level: 2, Slot: 63, At: 4031, Due: 4032}},
		{0, 4032, level.Spot{Level: 3, Slot: 8, At: 4032, Due: 4096}},
		{0, 1000000, level.Spot{Level: 5, Slot: 31, At: 1000000, Due: 1015808}},

		// Within the horizon, at it, and above it.
		{0, 132120574, level.Spot{Level: 7, Slot: 63, At: 132120574, Due: 132120576}},
		{0, 132120575, level.Spot{Level: 7, Slot: 63, At: 132120575, Due: 132120576}},
		{0, 132120576, level.Spot{Level: 7, Slot: 63, At: 132120575, Due: 132120576}},
		{0, last, level.Spot{Level: 7, Slot: 63, At: 132120575, Due: 132120576}},
		{1, 132120576, level.Spot{Level: 7, Slot: 63, At: 132120576, Due: 132120576}},
		{2, last, level.Spot{Level: 7, Slot: 0, At: 132120577, Due: 134217728}},

		// Just below the last tick.
		{last - 1, 0, level.Spot{Level: 0, Slot: 63, At: last, Due: last}},
		{last - 1, last - 1, level.Spot{Level: 0, Slot: 63, At: last, Due: last}},
		{last - 1, last, level.Spot{Level: 0, Slot: 63, At: last, Due: last}},
		{last - 2, last - 2, level.Spot{Level: 0, Slot: 62, At: last - 1, Due: last - 1}},
		{last - 62, last, level.Spot{Level: 0, Slot: 63, At: last, Due: last}},

		// The multiple 2^64, which is above the last tick; and the ones just below it, which aren't.
		{last - 63, last, level.Spot{Level: 1, Slot: 0, At: last, Due: last}},
		{last - 69, last - 6, level.Spot{Level: 1, Slot: 0, At: last - 6, Due: last}},
		{last - 70, last - 7, level.Spot{Level: 1, Slot: 63, At: last - 7, Due: last - 7}},
		{last - 71, last - 8, level.Spot{Level: 1, Slot: 63, At: last - 8, Due: last - 7}},
		{last - 503, last, level.Spot{Level: 1, Slot: 0, At: last, Due: last}},
		{last - 504, last, level.Spot{Level: 2, Slot: 0, At: last, Due: last}},
		{last - 504, last - 63, level.Spot{Level: 1, Slot: 56, At: last - 63, Due: last - 63}},
		{last - 132120575, last, level.Spot{Level: 7, Slot: 0, At: last, Due: last}},
		{last - 132120576, last, level.Spot{Level: 7, Slot: 0, At: last - 1, Due: last}},
		{last - 132120575 - 2097150, last, level.Spot{Level: 7, Slot: 0, At: last - 2097150, Due: last}},
		{last - 132120575 - 2097151, last, level.Spot{Level: 7, Slot: 63, At: last - 2097151, Due: last - 2097151}},
	} {
		if s, e := level.Place(x.from, x.at); s != x.spot || e != api.OK {
			t.Errorf("Place(%d, %d): %v, %d, not %v", x.from, x.at, s, e, x.spot)
		}
	}
}

func TestPlaceAtTheLastTick(t *testing.T) {
	for _, at := range someTicks() {
		if s, e := level.Place(last, at); s != (level.Spot{}) || e != api.ErrClock {
			t.Errorf("Place(%d, %d): %v, %d", uint64(last), at, s, e)
		}
		if _, e := level.Place(last-1, at); e != api.OK {
			t.Errorf("Place(%d, %d): %d", uint64(last-1), at, e)
		}
	}
}

// TestPlaceOfSomeTicks: from each of them the deadlines next to it, those at the bounds of each level, and ticks anywhere.
func TestPlaceOfSomeTicks(t *testing.T) {
	next := numbers(5)
	for _, from := range someTicks() {
		for _, d := range bounds() {
			checkPlace(t, from, from+d) // behind from, where the sum comes round
			checkPlace(t, from, from-d)
		}
		for _, at := range []uint64{0, 1, next(), next(), last - 1, last} {
			checkPlace(t, from, at)
		}
	}
	for range 20000 {
		from := next()
		checkPlace(t, from, next())
		checkPlace(t, from, from+next()%(farthest+1000))
	}
}

// TestPlaceOfAllNear: each deadline up to the third level, from each place within two granularities of the first.
func TestPlaceOfAllNear(t *testing.T) {
	for _, base := range []uint64{0, 504, 1 << 40, last - 600} {
		for from := base; from < base+17; from++ {
			for d := range uint64(600) {
				checkPlace(t, from, from+d)
			}
		}
	}
}

// P6.2

func TestTime(t *testing.T) {
	for _, x := range []struct {
		from        uint64
		level, slot int
		want        uint64
	}{
		{0, 0, 1, 1},
		{0, 0, 63, 63},
		{0, 0, 0, 64}, // from's own slot comes a whole turn ahead
		{1, 0, 1, 65},
		{1, 0, 0, 64},
		{63, 0, 63, 127},
		{63, 0, 0, 64},
		{63, 0, 62, 126},
		{100, 0, 37, 101},
		{0, 1, 1, 8},
		{7, 1, 1, 8},
		{8, 1, 1, 520},
		{0, 1, 0, 512},
		{7, 1, 0, 512},
		{504, 1, 0, 512},
		{511, 1, 0, 512},
		{512, 1, 0, 1024},
		{0, 1, 13, 104},
		{103, 1, 13, 104},
		{104, 1, 13, 616},
		{0, 2, 1, 64},
		{0, 3, 63, 32256},
		{0, 4, 63, 258048},
		{0, 5, 63, 2064384},
		{0, 6, 63, 16515072},
		{0, 7, 1, 2097152},
		{0, 7, 63, 132120576},
		{0, 7, 0, 134217728},
		{2097151, 7, 1, 2097152},
		{2097152, 7, 1, 136314880},
		{2097152, 7, 0, 134217728},

		{last - 1, 0, 63, last},
		{last - 1, 0, 62, last},
		{last - 2, 0, 62, last - 1},
		{last - 2, 0, 0, last},
		{last - 63, 0, 1, last - 62},
		{last - 8, 1, 63, last - 7},
		{last - 7, 1, 63, last},
		{last - 7, 1, 0, last},
		{last - 8, 1, 62, last},
		{last - 16, 1, 62, last - 15},
		{last - 2097152, 7, 63, last - 2097151},
		{last - 2097151, 7, 63, last},
		{last - 2097152, 7, 0, last},
	} {
		if at, e := level.Time(x.from, x.level, x.slot); at != x.want || e != api.OK {
			t.Errorf("Time(%d, %d, %d): %d, %d, not %d", x.from, x.level, x.slot, at, e, x.want)
		}
	}
}

func TestTimeOfNoSuchSlot(t *testing.T) {
	none := func(from uint64, n, slot int) {
		if at, e := level.Time(from, n, slot); at != 0 || e != api.ErrRange {
			t.Errorf("Time(%d, %d, %d): %d, %d", from, n, slot, at, e)
		}
	}
	for _, from := range []uint64{0, 1, 100, 1 << 63, last - 1, last} {
		for _, n := range noLevels() {
			for _, slot := range append(noSlots(), 0, 1, 62, 63) {
				none(from, n, slot)
			}
		}
		for n := range 8 {
			for _, slot := range noSlots() {
				none(from, n, slot)
			}
		}
	}
}

// TestTimeOfOwnSlot: it is a whole turn ahead, and that of the number next to it is the first of all.
func TestTimeOfOwnSlot(t *testing.T) {
	for n, g := range []uint64{1, 8, 64, 512, 4096, 32768, 262144, 2097152} {
		for _, number := range []uint64{0, 1, 5, 62, 63, 64, 65, 1000} {
			for _, in := range []uint64{0, g / 2, g - 1} {
				from := number*g + in
				if at, e := level.Time(from, n, int(number%64)); at != (number+64)*g || e != api.OK {
					t.Errorf("Time(%d, %d, %d): %d, %d", from, n, number%64, at, e)
				}
				if at, e := level.Time(from, n, int((number+1)%64)); at != (number+1)*g || e != api.OK {
					t.Errorf("Time(%d, %d, %d): %d, %d", from, n, (number+1)%64, at, e)
				}
			}
		}
	}
}

func TestTimeFromTheLastTick(t *testing.T) {
	for n := range 8 {
		for slot := range 64 {
			if at, e := level.Time(last, n, slot); at != last || e != api.OK {
				t.Errorf("Time(%d, %d, %d): %d, %d", uint64(last), n, slot, at, e)
			}
		}
	}
}

// TestTimeOfAllSlots: all slots of all levels, from each of some ticks.
func TestTimeOfAllSlots(t *testing.T) {
	from := []uint64{0, 1, 7, 8, 9, 100, 1 << 53, 1 << 63, last - 1000, last - 64, last - 63, last - 8, last - 7, last - 2, last - 1, last}
	for _, d := range bounds() {
		if d%7 == 0 {
			from = append(from, d, last-d)
		}
	}
	for _, tick := range from {
		for n := range 8 {
			for slot := range 64 {
				checkTime(t, tick, n, slot)
			}
		}
	}
}

func TestTimeOfSomeTicks(t *testing.T) {
	next := numbers(7)
	l := someTicks()
	for range 1500 {
		l = append(l, next())
	}
	for _, from := range l {
		n := int(next() >> 7 % 8)
		checkTime(t, from, n, int(next()>>7%64))
		checkTime(t, from, n, int(from/wantGran(n)%64))
	}
}

func TestDues(t *testing.T) {
	in := func(n, slot int) level.Spot { return level.Spot{Level: n, Slot: slot} }
	for _, x := range []struct {
		from uint64
		l    []level.Spot
		want uint64
	}{
		{0, []level.Spot{in(1, 13)}, 104},
		{104, []level.Spot{in(1, 13)}, 616},
		{0, []level.Spot{in(0, 0)}, 64},
		{0, []level.Spot{in(1, 13), in(0, 5)}, 5},
		{0, []level.Spot{in(0, 5), in(1, 13)}, 5},
		{5, []level.Spot{in(0, 5), in(1, 13)}, 69},
		{63, []level.Spot{in(0, 5), in(1, 9), in(7, 1)}, 69},
		{68, []level.Spot{in(0, 4), in(1, 9), in(7, 1)}, 72},
		{72, []level.Spot{in(7, 1), in(1, 9)}, 584},
		{1000, []level.Spot{in(7, 1), in(1, 9)}, 1096},
		{1000000, []level.Spot{in(7, 3), in(7, 1), in(7, 2)}, 2097152},
		{0, []level.Spot{in(2, 7), in(2, 7), in(2, 7)}, 448},
		{0, []level.Spot{in(1, 8), in(0, 0), in(2, 1)}, 64},
		{last - 1, []level.Spot{in(0, 63)}, last},
		{last - 3, []level.Spot{in(7, 0), in(0, 62), in(0, 0)}, last - 1},
		{last - 1, []level.Spot{in(7, 63), in(3, 5)}, last},
		{last, []level.Spot{in(0, 0)}, last},
		{last, []level.Spot{in(0, 1), in(7, 63)}, last},
	} {
		if at, is := level.Dues(x.from, x.l...); at != x.want || !is {
			t.Errorf("Dues(%d, %v): %d, %v, not %d", x.from, x.l, at, is, x.want)
		}
	}
}

func TestDuesOfNone(t *testing.T) {
	for _, from := range someTicks() {
		for _, l := range [][]level.Spot{nil, {}} {
			if at, is := level.Dues(from, l...); at != 0 || is {
				t.Errorf("Dues(%d): %d, %v", from, at, is)
			}
		}
	}
	if at, is := level.Dues(0); at != 0 || is {
		t.Error(at, is)
	}
}

// TestDuesWithNoSuchSpot: one that isn't there, at whatever place among the others, and there is nothing.
func TestDuesWithNoSuchSpot(t *testing.T) {
	var wrong []level.Spot
	for _, n := range noLevels() {
		wrong = append(wrong, level.Spot{Level: n, Slot: 5}, level.Spot{Level: n, Slot: 64, At: 5, Due: 8})
	}
	for _, slot := range noSlots() {
		wrong = append(wrong, level.Spot{Level: 0, Slot: slot}, level.Spot{Level: 7, Slot: slot, At: 5, Due: 8})
	}
	right := []level.Spot{{Level: 0, Slot: 5, At: 5, Due: 5}, {Level: 1, Slot: 13, At: 100, Due: 104}, {Level: 7}}
	for _, from := range []uint64{0, 4, 5, 1 << 63, last - 1, last} {
		for _, s := range wrong {
			for place := range len(right) + 1 {
				l := slices.Insert(slices.Clone(right), place, s)
				if at, is := level.Dues(from, l...); at != 0 || is {
					t.Errorf("Dues(%d, %v): %d, %v", from, l, at, is)
				}
			}
			if at, is := level.Dues(from, s); at != 0 || is {
				t.Errorf("Dues(%d, %v): %d, %v", from, s, at, is)
			}
		}
		if _, is := level.Dues(from, right...); !is {
			t.Errorf("Dues(%d, %v): nothing", from, right)
		}
	}
}

// TestDuesByLevelAndSlotAlone: a spot's At and Due don't matter.
func TestDuesByLevelAndSlotAlone(t *testing.T) {
	for _, from := range []uint64{0, 50, 103, 104, 105, 1 << 63, last - 1} {
		want, _ := wantTime(from, 1, 13)
		for _, at := range []uint64{0, 1, 100, last} {
			for _, due := range []uint64{0, 1, 104, from, last} {
				s := level.Spot{Level: 1, Slot: 13, At: at, Due: due}
				if got, is := level.Dues(from, s); got != want || !is {
					t.Errorf("Dues(%d, %v): %d, %v, not %d", from, s, got, is, want)
				}
			}
		}
	}
}

func TestDuesOfManySpots(t *testing.T) {
	next := numbers(9)
	for range 500 {
		var l []level.Spot
		for range next() >> 5 % 12 {
			l = append(l, level.Spot{Level: int(next() >> 5 % 8), Slot: int(next() >> 5 % 64), At: next(), Due: next()})
		}
		from := next()
		checkDues(t, from, l...)
		if len(l) > 0 && next()>>5%4 == 0 {
			l[len(l)/2].Slot += 64
			checkDues(t, from, l...)
		}
	}
}

func TestListsAreLeftAsTheyAre(t *testing.T) {
	l := []level.Spot{{Level: 3, Slot: 9, At: 7, Due: 8}, {Level: 0, Slot: 5}, {Level: 1, Slot: 13, At: 100, Due: 104}}
	was := slices.Clone(l)
	if at, is := level.Dues(0, l...); at != 5 || !is || !slices.Equal(l, was) {
		t.Error(at, is, l)
	}
	l[1].Level = 8
	was[1].Level = 8
	if at, is := level.Dues(0, l...); at != 0 || is || !slices.Equal(l, was) {
		t.Error(at, is, l)
	}
}

// P6.3

// spots calls with many placings: from some ticks, and of deadlines at the bounds of each level and anywhere.
func spots(t *testing.T, with func(from uint64, s level.Spot)) {
	t.Helper()
	next := numbers(11)
	for _, from := range someTicks() {
		if from == last {
			continue
		}
		l := []uint64{next(), next(), from + next()%(farthest+1), last}
		for _, d := range bounds() {
			l = append(l, from+d)
		}
		for _, at := range l {
			s, e := level.Place(from, at)
			if e != api.OK {
				t.Fatalf("Place(%d, %d): %d", from, at, e)
			}
			with(from, s)
		}
	}
}

// TestDueIsNoSooner: than the deadline; and later by less than its level's granularity; and ahead of from.
func TestDueIsNoSooner(t *testing.T) {
	spots(t, func(from uint64, s level.Spot) {
		if s.At <= from || s.At-from > farthest {
			t.Errorf("from %d: %v isn't ahead, or is above the horizon", from, s)
		}
		if s.Due < s.At || s.Due-s.At >= level.Gran(s.Level) {
			t.Errorf("from %d: %v is due too soon, or too late", from, s)
		}
		if n, is := level.Of(s.At - from); !is || n != s.Level {
			t.Errorf("from %d: %v is not of its distance's level", from, s)
		}
	})
}

// TestTimeFindsDue: from any tick from that of placing on up to the one ahead of Due: those at both ends, those at each of the level's multiples between and next to them.
func TestTimeFindsDue(t *testing.T) {
	spots(t, func(from uint64, s level.Spot) {
		g := level.Gran(s.Level)
		looks := append(around(from), around(s.Due-1)...)
		looks = append(looks, s.At-1, s.At, from+(s.Due-from)/2)
		first := from - from%g
		for n := range min((s.Due-first)/g, 64) {
			looks = append(looks, around(first+n*g)...)
		}
		for _, now := range looks {
			if now < from || now >= s.Due {
				continue
			}
			if at, e := level.Time(now, s.Level, s.Slot); at != s.Due || e != api.OK {
				t.Fatalf("from %d: %v: Time(%d): %d, %d", from, s, now, at, e)
			}
			if at, is := level.Dues(now, s); at != s.Due || !is {
				t.Fatalf("from %d: %v: Dues(%d): %d, %v", from, s, now, at, is)
			}
		}
	})
}

// TestTimeFindsDueFromEachTick: none of them left out, where they aren't too many.
func TestTimeFindsDueFromEachTick(t *testing.T) {
	for _, base := range []uint64{0, 505, 1<<32 + 3, last - 4100, last - 505, last - 70} {
		for from := base; from < base+9; from++ {
			for _, d := range []uint64{0, 1, 2, 8, 61, 62, 63, 64, 65, 100, 250, 496, 502, 503, 504, 505, 1000, 4031, 4032} {
				s, e := level.Place(from, from+d)
				if e != api.OK {
					t.Fatalf("Place(%d, %d): %d", from, from+d, e)
				}
				for now := from; now < s.Due; now++ {
					if at, e := level.Time(now, s.Level, s.Slot); at != s.Due || e != api.OK {
						t.Fatalf("from %d: %v: Time(%d): %d, %d", from, s, now, at, e)
					}
				}
			}
		}
	}
}

// TestSlotOfOneTurn: as a wheel goes on and is given deadlines all the while, those that a slot holds at one time are due at one tick.
func TestSlotOfOneTurn(t *testing.T) {
	type where struct{ level, slot int }
	next := numbers(13)
	for _, scale := range []uint64{1, 64, 4096, 27000} {
		for _, now := range []uint64{0, 1, 500, 1 << 40, last - 30000*scale, last - 700*scale} {
			held := map[where]uint64{}
			for range 5000 {
				if next()>>9%4 == 0 {
					step := next() >> 9 % (40 * scale)
					if now >= last-1-step {
						break
					}
					now += step
					for x, due := range held {
						if due <= now {
							delete(held, x)
						}
					}
				}
				s, e := level.Place(now, now+next()>>9%(5000*scale))
				if e != api.OK {
					t.Fatalf("at %d: %d", now, e)
				}
				x := where{s.Level, s.Slot}
				if due, is := held[x]; is && due != s.Due {
					t.Fatalf("at %d: slot %v holds what is due at %d, and at %d", now, x, due, s.Due)
				}
				held[x] = s.Due
			}
		}
	}
}

// P2

func TestSameAgain(t *testing.T) {
	run := func() []uint64 {
		next := numbers(17)
		var l []uint64
		for range 500 {
			from := next()
			s, e := level.Place(from, next())
			at, wrong := level.Time(from, int(next()>>5%9), int(next()>>5%65))
			due, _ := level.Dues(from, s, level.Spot{Level: int(next() >> 5 % 8), Slot: int(next() >> 5 % 64)})
			n, _ := level.Of(next())
			l = append(l, uint64(s.Level), uint64(s.Slot), s.At, s.Due, uint64(e), at, uint64(wrong), due, uint64(n), level.Gran(n))
		}
		return l
	}
	if !slices.Equal(run(), run()) {
		t.Error("another time, other answers")
	}
}

func TestExamples(t *testing.T) {
	if g := level.Gran(2); g != 64 {
		t.Error(g)
	}
	for _, x := range []struct {
		distance uint64
		level    int
	}{{62, 0}, {63, 1}, {503, 1}, {504, 2}} {
		if n, is := level.Of(x.distance); n != x.level || !is {
			t.Error(x, n, is)
		}
	}
	for _, x := range []struct {
		from, at uint64
		spot     level.Spot
	}{
		{0, 100, level.Spot{Level: 1, Slot: 13, At: 100, Due: 104}},
		{0, 5, level.Spot{Level: 0, Slot: 5, At: 5, Due: 5}},
		{100, 100, level.Spot{Level: 0, Slot: 37, At: 101, Due: 101}},
	} {
		if s, e := level.Place(x.from, x.at); s != x.spot || e != api.OK {
			t.Error(x, s, e)
		}
	}
	if at, e := level.Time(0, 1, 13); at != 104 || e != api.OK {
		t.Error(at, e)
	}
	if at, e := level.Time(104, 1, 13); at != 616 || e != api.OK {
		t.Error(at, e)
	}
	if s, e := level.Place(last, 5); s != (level.Spot{}) || e != 12 {
		t.Error(s, e)
	}
	if at, e := level.Time(0, 8, 0); at != 0 || e != 2 {
		t.Error(at, e)
	}
}
