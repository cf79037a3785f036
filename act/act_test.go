package act

import (
	"math"
	"math/big"
	"math/rand"
	"slices"
	"testing"

	"coadjutor/api"
)

// edges: numbers around 0, around the table's places and its ends, around what activations and factors are, and the ends of the type.
func edges() []int {
	list := []int{
		1, -1, 2, -2, 3, -3, 10, -10, 100, -100, 271, 272, 287, 289, -271, -272, -287, -289, 511, 512, -511, -512,
		32766, 32767, 32768, 32769, -32766, -32767, -32768, -32769, 65408, 65535, 65536, -65408, -65536, 1677722, 1677723, -1677722,
		1<<30 - 1, 1 << 30, 1<<30 + 1, -1<<30 - 1, -1 << 30, 1 - 1<<30, 1<<31 - 1, 1 << 31, -1 << 31, 1 << 32, 1<<32 + 5, -1 << 32, -1<<32 - 5, 1<<32 - 256, 1 << 35, -1 << 35, 1<<37 + 64, 1 << 40, -1 << 40,
		1 << 56, -1 << 56, 1 << 58, -1 << 58, 1 << 61, -1 << 61, 1 << 62, -1 << 62, math.MaxInt, math.MaxInt - 1, math.MaxInt - 31, math.MaxInt - 255, math.MinInt, math.MinInt + 1, math.MinInt + 32, math.MinInt + 256,
	}
	for x := -320; x <= 320; x += 32 {
		list = append(list, x-1, x, x+1)
	}
	return list
}

// opened: how far a number's gate is open, by the words of the chapter, without a table.
func opened(n int) int {
	place := new(big.Int).Rsh(big.NewInt(int64(n)), 5)
	place.Add(place, big.NewInt(8))
	if place.Sign() < 0 {
		place.SetInt64(0)
	}
	if place.Cmp(big.NewInt(16)) > 0 {
		place.SetInt64(16)
	}
	above := float64(place.Int64() - 8)
	return int(math.Round(256 / (1 + math.Exp(-above/2))))
}

// passed: what comes of x through a gate that is so far open, by numbers without a bound.
func passed(x, gate int) int {
	b := big.NewInt(int64(min(max(x, -1<<30), 1<<30)))
	b.Mul(b, big.NewInt(int64(gate)))
	// A half is added, and what is left of 256 is taken off, so that a half goes up.
	b.Rsh(b.Add(b, big.NewInt(128)), 8)
	return min(max(int(b.Int64()), -32767), 32767)
}

// paired: what comes of a row through the gates of as many others.
func paired(gates, row []int) []int {
	list := []int{}
	for i, x := range row {
		list = append(list, passed(x, opened(gates[i])))
	}
	return list
}

// size: a number without its sign.
func size(x int) uint64 {
	if x < 0 {
		return -uint64(x)
	}
	return uint64(x)
}

// pick: some of the edges, and numbers of every size.
func pick(r *rand.Rand, n int) []int {
	list := make([]int, n)
	for i := range list {
		switch r.Intn(4) {
		case 0:
			list[i] = edges()[r.Intn(len(edges()))]
		case 1:
			list[i] = int(r.Uint64()) >> r.Intn(64)
		default:
			list[i] = r.Intn(701) - 350
		}
	}
	return list
}

// holds: whether all four calls say of two rows, as long as each other, what the chapter does.
func holds(t testing.TB, gates, row []int) {
	t.Helper()
	for _, x := range row {
		if got, want := Gate(x), opened(x); got != want {
			t.Errorf("the gate of %d: %d, not %d", x, got, want)
		}
		if got, want := Of(x), passed(x, opened(x)); got != want {
			t.Errorf("%d: %d, not %d", x, got, want)
		}
	}
	if got, want := All(row...), paired(row, row); !slices.Equal(got, want) {
		t.Errorf("all of %v: %v, not %v", row, got, want)
	}
	if got, want := Pairs(gates, row...), paired(gates, row); !slices.Equal(got, want) {
		t.Errorf("%v by %v: %v, not %v", row, gates, got, want)
	}
}

// tame: whether x came through a gate as y no greater, without its sign, and with the same sign, if it isn't 0.
func tame(x, y int) bool {
	return size(y) <= size(x) && (y == 0 || (x < 0) == (y < 0))
}

// P14.1

func TestTable(t *testing.T) {
	want := []int{5, 8, 12, 19, 31, 47, 69, 97, 128, 159, 187, 209, 225, 237, 244, 248, 251}
	for place, gate := range want {
		for within := range 32 {
			n := 32*(place-8) + within
			if got := Gate(n); got != gate || opened(n) != gate {
				t.Errorf("%d: %d, not %d", n, got, gate)
			}
		}
	}
}

func TestGate(t *testing.T) {
	for _, c := range [][2]int{
		{0, 128}, {1, 128}, {31, 128}, {32, 159}, {63, 159}, {64, 187}, {95, 187}, {96, 209}, {127, 209}, {128, 225}, {159, 225}, {160, 237}, {191, 237}, {192, 244}, {223, 244}, {224, 248},
		// Rounded down, below 0 too.
		{-1, 97}, {-31, 97}, {-32, 97}, {-33, 69}, {-64, 69}, {-65, 47}, {-96, 47}, {-97, 31}, {-128, 31}, {-129, 19}, {-160, 19}, {-161, 12}, {-192, 12}, {-193, 8}, {-224, 8}, {-225, 5},
		// Clamped to the table's ends.
		{255, 248}, {256, 251}, {287, 251}, {288, 251}, {289, 251}, {511, 251}, {512, 251}, {544, 251}, {-255, 5}, {-256, 5}, {-257, 5}, {-288, 5}, {-289, 5}, {-512, 5}, {-544, 5},
		{32767, 251}, {-32767, 5}, {1 << 31, 251}, {-1 << 31, 5}, {1 << 32, 251}, {-1 << 32, 5}, {1 << 40, 251}, {-1 << 40, 5}, {1<<62 + 1, 251}, {-1 << 62, 5},
		// To add to these ahead of dividing could wrap round.
		{math.MaxInt, 251}, {math.MaxInt - 8, 251}, {math.MaxInt - 300, 251}, {math.MinInt, 5}, {math.MinInt + 1, 5}, {math.MinInt + 300, 5},
	} {
		if got := Gate(c[0]); got != c[1] {
			t.Errorf("%d: %d, not %d", c[0], got, c[1])
		}
	}
}

func TestOf(t *testing.T) {
	for _, c := range [][2]int{
		{0, 0}, {64, 47}, {10, 5}, {-10, -4}, {100, 82}, {-100, -12}, {32, 20}, {-32, -12}, {96, 78}, {128, 113}, {200, 191}, {256, 251}, {300, 294}, {-300, -6}, {1000, 980}, {-1000, -20},
		// Rounded to the nearest, a half up: 240 times 248 is 232 and a half times 256, -208 times 8 is -6 and a half.
		{1, 1}, {2, 1}, {3, 2}, {5, 3}, {31, 16}, {30, 15}, {240, 233}, {239, 232}, {241, 233}, {-208, -6}, {-207, -6}, {-209, -7}, {-1, 0}, {-2, -1}, {-3, -1}, {-4, -2},
		// -257 by 5 is -5 and a bit, -282 is -5 and a half and a bit.
		{-256, -5}, {-257, -5}, {-281, -5}, {-282, -6}, {-225, -4}, {-224, -7},
		// Activations are the most that comes of it: the first number that is clamped is 33420, and -1677696.
		{32767, 32127}, {-32767, -640}, {32768, 32128}, {-32768, -640}, {33418, 32765}, {33419, 32766}, {33420, 32767}, {33421, 32767}, {40000, 32767}, {65536, 32767},
		{-65536, -1280}, {-1 << 20, -20480}, {-1677619, -32766}, {-1677644, -32766}, {-1677645, -32767}, {-1677696, -32767}, {-1677722, -32767}, {-1 << 21, -32767},
		// Factors are clamped: 2^32 and 5 times 251 isn't 5 times 251.
		{1 << 30, 32767}, {1<<30 + 1, 32767}, {-1 << 30, -32767}, {1 << 31, 32767}, {1 << 32, 32767}, {1<<32 + 5, 32767}, {-1 << 32, -32767}, {1 << 40, 32767}, {-1 << 40, -32767}, {1 << 56, 32767}, {-1 << 56, -32767}, {1 << 62, 32767}, {-1 << 62, -32767}, {math.MaxInt, 32767}, {math.MinInt, -32767},
	} {
		if got := Of(c[0]); got != c[1] {
			t.Errorf("%d: %d, not %d", c[0], got, c[1])
		}
	}
}

func TestAll(t *testing.T) {
	for i, c := range []struct{ list, want []int }{
		{nil, nil}, {[]int{}, nil}, {[]int{0}, []int{0}}, {[]int{64}, []int{47}}, {[]int{10, -10, 0}, []int{5, -4, 0}}, {[]int{0, -10, 10}, []int{0, -4, 5}}, {[]int{64, 64, 64}, []int{47, 47, 47}},
		{[]int{math.MaxInt, math.MinInt, 3, -3}, []int{32767, -32767, 2, -1}}, {[]int{1000, -1000, 240, -208, 1 << 40}, []int{980, -20, 233, -6, 32767}},
	} {
		if got := All(c.list...); !slices.Equal(got, c.want) {
			t.Errorf("%d: %v, not %v", i, got, c.want)
		}
	}
}

func TestPairs(t *testing.T) {
	for i, c := range []struct{ gates, row, want []int }{
		{nil, nil, nil}, {[]int{}, nil, nil}, {nil, []int{}, nil}, {[]int{}, []int{}, nil},
		{[]int{300, -300}, []int{100, 100}, []int{98, 2}}, {[]int{-300, 300}, []int{100, 100}, []int{2, 98}}, {[]int{0, 0}, []int{300, -300}, []int{150, -150}},
		{[]int{0}, []int{0}, []int{0}}, {[]int{math.MaxInt, math.MinInt}, []int{0, 0}, []int{0, 0}},
		// The gate is the other one's, not the number's own.
		{[]int{0}, []int{64}, []int{32}}, {[]int{64}, []int{0}, []int{0}}, {[]int{64}, []int{64}, []int{47}}, {[]int{100}, []int{10}, []int{8}}, {[]int{-1}, []int{1000}, []int{379}}, {[]int{31, 32, -32, -33}, []int{256, 256, 256, 256}, []int{128, 159, 97, 69}},
		{[]int{-1 << 40, 1 << 40}, []int{256, -256}, []int{5, -251}}, {[]int{math.MinInt, math.MaxInt}, []int{256, 256}, []int{5, 251}},
		// A half goes up, on either side.
		{[]int{0, 0, 0, 0}, []int{1, -1, 3, -3}, []int{1, 0, 2, -1}}, {[]int{1 << 20, 1 << 20}, []int{1, -1}, []int{1, -1}}, {[]int{-200, -200, -200, -200}, []int{16, -16, 48, -48}, []int{1, 0, 2, -1}}, {[]int{-500, -500, -500, -500}, []int{25, 26, -25, -26}, []int{0, 1, 0, -1}},
		// Activations are the most that comes of it, and factors are clamped.
		{[]int{0, 0, 0, 0}, []int{65533, 65534, 65535, 65536}, []int{32767, 32767, 32767, 32767}}, {[]int{0, 0, 0, 0}, []int{65532, -65533, -65534, -65536}, []int{32766, -32766, -32767, -32767}}, {[]int{-300, 0, 300}, []int{math.MaxInt, math.MinInt, 1<<32 + 5}, []int{32767, -32767, 32767}}, {[]int{-300, -300}, []int{1 << 56, -1 << 56}, []int{32767, -32767}},
		{[]int{1, 2, 3, 4}, []int{10, -20, 30, -40}, []int{5, -10, 15, -20}}, {[]int{-40, -8, 8, 40}, []int{1000, 1000, 1000, 1000}, []int{270, 379, 500, 621}},
	} {
		if got := Pairs(c.gates, c.row...); !slices.Equal(got, c.want) {
			t.Errorf("%d: %v, not %v", i, got, c.want)
		}
	}
}

func TestPairsIsRefused(t *testing.T) {
	for n := range 70 {
		row := slices.Repeat([]int{9, -9}, 40)[:n]
		for m := range 70 {
			gates := slices.Repeat([]int{1, 200, -200}, 40)[:m]
			got := Pairs(gates, row...)
			if n != m && len(got) != 0 {
				t.Errorf("%d gates and %d numbers: %v", m, n, got)
			}
			if n == m && !slices.Equal(got, paired(gates, row)) {
				t.Errorf("%d gates and numbers: %v", m, got)
			}
		}
	}
	for i, c := range [][2][]int{
		{nil, {5}}, {{}, {5}}, {{5}, nil}, {{5}, {}}, {nil, {0}}, {{0}, nil}, {nil, {1, 2}}, {{1, 2}, nil},
		// Spare room plays no part.
		{make([]int, 1, 2), {1, 2}}, {{1, 2}, make([]int, 1, 2)}, {make([]int, 0, 1), {3}}, {make([]int, 2, 9), {1, 2, 3}},
	} {
		if got := Pairs(c[0], c[1]...); len(got) != 0 {
			t.Errorf("%d: %v", i, got)
		}
	}
}

// Each small number, and each beside the first that is clamped.
func TestNumbers(t *testing.T) {
	row := []int{}
	for x := -70000; x <= 70000; x++ {
		row = append(row, x)
	}
	for x := -1680000; x <= -1670000; x++ {
		row = append(row, x)
	}
	gates := slices.Clone(row)
	slices.Reverse(gates)
	holds(t, gates, row)
}

// Each number by each gate.
func TestGatesAndNumbers(t *testing.T) {
	for g := -300; g <= 300; g++ {
		row := slices.Clone(edges())
		for x := -300; x <= 300; x++ {
			row = append(row, x)
		}
		holds(t, slices.Repeat([]int{g}, len(row)), row)
	}
	for _, g := range edges() {
		holds(t, slices.Repeat([]int{g}, len(edges())), edges())
	}
}

func TestRows(t *testing.T) {
	r := rand.New(rand.NewSource(141))
	for _, n := range []int{0, 1, 2, 3, 4, 5, 8, 15, 16, 17, 32, 63, 64, 65, 300, 5000} {
		for range 20 {
			holds(t, pick(r, n), pick(r, n))
		}
	}
	holds(t, slices.Repeat([]int{3, -500, 500}, 1<<16), slices.Repeat([]int{100, math.MinInt, math.MaxInt}, 1<<16))
}

// P14.2

func TestGreaterIsNotLessOpen(t *testing.T) {
	list := append(edges(), pick(rand.New(rand.NewSource(142)), 5000)...)
	for x := -33000; x <= 33000; x++ {
		list = append(list, x)
	}
	slices.Sort(list)
	last := 0
	for i, x := range list {
		gate := Gate(x)
		if gate < last || gate < 1 || gate > 255 {
			t.Errorf("%d: %d, behind %d", x, gate, last)
		}
		// Where a place ends the next gate is more open, so no two places have the same one.
		if x >= -224 && x <= 256 && x%32 == 0 && x > list[max(i-1, 0)] && gate == last {
			t.Errorf("%d: %d, as open as below", x, gate)
		}
		last = gate
	}
}

func TestThroughIsNoGreater(t *testing.T) {
	r := rand.New(rand.NewSource(143))
	row := append(edges(), pick(r, 20000)...)
	for x := -33000; x <= 33000; x++ {
		row = append(row, x)
	}
	all := All(row...)
	if len(all) != len(row) {
		t.Fatal(len(all), len(row))
	}
	for i, x := range row {
		if y := Of(x); y != all[i] || !tame(x, y) {
			t.Errorf("%d: %d, %d", x, y, all[i])
		}
	}
	for _, gates := range [][]int{slices.Repeat([]int{math.MinInt}, len(row)), slices.Repeat([]int{math.MaxInt}, len(row)), make([]int, len(row)), pick(r, len(row))} {
		pairs := Pairs(gates, row...)
		if len(pairs) != len(row) {
			t.Fatal(len(pairs), len(row))
		}
		for i, x := range row {
			if !tame(x, pairs[i]) {
				t.Errorf("%d by %d: %d", x, gates[i], pairs[i])
			}
		}
	}
}

// Rule 3

func TestArgumentsAreLeft(t *testing.T) {
	room, gates := append(edges(), 11, 12, 13), append(edges(), 14, 15, 16)
	slices.Reverse(gates)
	was, had := slices.Clone(room), slices.Clone(gates)
	n := len(room) - 3
	All(room[:n]...)
	Pairs(gates[:n], room[:n]...)
	Pairs(gates[:n-1], room[:n]...)
	Pairs(room[:n], room[:n]...)
	All(room...)
	Pairs(nil, room...)
	if !slices.Equal(room, was) || !slices.Equal(gates, had) {
		t.Error("a list was changed")
	}
}

func TestAnswersAreNew(t *testing.T) {
	gates, row := []int{300, -300}, []int{100, 100}
	pairs, again, all, once := Pairs(gates, row...), Pairs(gates, row...), All(row...), All(row...)
	for _, list := range [][]int{pairs, all} {
		for i := range list {
			list[i] = 77
		}
		_ = append(list, 77)
	}
	if !slices.Equal(gates, []int{300, -300}) || !slices.Equal(row, []int{100, 100}) || !slices.Equal(again, []int{98, 2}) || !slices.Equal(once, []int{82, 82}) {
		t.Error(gates, row, again, once)
	}
	gates[0], row[0] = 50, 50
	if !slices.Equal(again, []int{98, 2}) || !slices.Equal(once, []int{82, 82}) {
		t.Error(again, once)
	}
	row[0] = 100
	if got := All(row...); !slices.Equal(got, []int{82, 82}) {
		t.Error(got)
	}
}

// A call hangs on its arguments alone.
func TestCallsAreApart(t *testing.T) {
	r := rand.New(rand.NewSource(144))
	for range 200 {
		n := r.Intn(30)
		gates, row := pick(r, n), pick(r, n)
		all, pairs := All(row...), Pairs(gates, row...)
		All(pick(r, 40)...)
		Pairs(pick(r, 40), pick(r, 40)...)
		Pairs(nil, 1)
		if !slices.Equal(All(row...), all) || !slices.Equal(Pairs(gates, row...), pairs) {
			t.Errorf("%v, %v", gates, row)
		}
	}
}

func FuzzAct(f *testing.F) {
	f.Add(0, 64, -64, 100, 10, -10)
	f.Add(300, -300, 0, 100, 100, 100)
	f.Add(math.MinInt, math.MaxInt, 1<<30, math.MinInt, math.MaxInt, -1<<30)
	f.Fuzz(func(t *testing.T, g, h, i, a, b, c int) {
		gates, row := []int{g, h, i}, []int{a, b, c}
		for n := range 4 {
			holds(t, gates[:n], row[:n])
			holds(t, row[:n], gates[:n])
			if n > 0 && len(Pairs(gates[:n-1], row[:n]...))+len(Pairs(gates[:n], row[:n-1]...)) != 0 {
				t.Errorf("%v by %v", row[:n], gates[:n])
			}
		}
		for i, y := range Pairs(gates, row...) {
			if y < -api.MaxAct || y > api.MaxAct || !tame(row[i], y) || !tame(row[i], Of(row[i])) {
				t.Errorf("%d by %d: %d", row[i], gates[i], y)
			}
		}
		if a <= b && Gate(a) > Gate(b) {
			t.Errorf("the gates of %d, %d: %d, %d", a, b, Gate(a), Gate(b))
		}
	})
}
