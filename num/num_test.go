package num

import (
	"math"
	"math/big"
	"slices"
	"testing"

	"coadjutor/api"
)

// edges: numbers around 0, around each power of two, and the ends of the type.
func edges() []int {
	list := []int{0, 1, -1, 3, -3, 5, -5, 6, -6, 7, -7, 10, -10, 100, -100, math.MaxInt, math.MaxInt - 1, math.MinInt, math.MinInt + 1}
	for i := 1; i < 63; i++ {
		power := 1 << i
		list = append(list, power-1, power, power+1, -power-1, -power, -power+1)
	}
	return list
}

func whole(x int) *big.Int { return big.NewInt(int64(x)) }

func bound(x *big.Int, power uint) *big.Int {
	high := new(big.Int).Lsh(whole(1), power)
	low := new(big.Int).Neg(high)
	if x.Cmp(low) < 0 {
		return low
	}
	if x.Cmp(high) > 0 {
		return high
	}
	return x
}

// floorOf: a divided by b (not 0), rounded down, without a bound.
func floorOf(a, b *big.Int) *big.Int {
	if b.Sign() < 0 {
		a, b = new(big.Int).Neg(a), new(big.Int).Neg(b)
	}
	return new(big.Int).Div(a, b)
}

// nearest: x divided by 2^n, a half up: the floor of twice x and 2^n by 2^(n+1).
func nearest(x *big.Int, n int) *big.Int {
	twice := new(big.Int).Lsh(x, 1)
	twice.Add(twice, new(big.Int).Lsh(whole(1), uint(n)))
	return floorOf(twice, new(big.Int).Lsh(whole(1), uint(n)+1))
}

func sumOf(list []*big.Int) *big.Int {
	total := whole(0)
	for _, x := range list {
		total = bound(new(big.Int).Add(total, bound(x, 61)), 62)
	}
	return total
}

// rows: rows that run into bounds, and back from them.
func rows() [][]int {
	const much = 1 << 61
	return [][]int{
		nil, {}, {0}, {7}, {-7}, {1, 2, 4}, {-1, -2}, {-1, 2, -3, 4, -5}, {-1, 0}, {0, 0, -1},
		{math.MaxInt}, {math.MinInt}, {math.MaxInt, math.MaxInt}, {math.MinInt, math.MinInt},
		{much, much}, {much, much, 1}, {much, much, 1, -1}, {much, much, much, -1}, {much, much, much, much, -much, 5},
		{-much, -much, -1}, {-much, -much, -1, 1}, {-much, -much, -much, 1}, {math.MinInt, math.MinInt, math.MinInt, math.MaxInt, 3},
		{math.MaxInt, math.MinInt, 9}, {much + 1, -much}, {-much - 1, much}, {1<<62 - 1, 1}, {1 << 62, 1 << 62, 1 << 62, -1},
		edges(),
	}
}

type kase struct {
	name      string
	got, want int
}

func check(t *testing.T, list []kase) {
	t.Helper()
	for _, c := range list {
		if c.got != c.want {
			t.Errorf("%s: %d, not %d", c.name, c.got, c.want)
		}
	}
}

// P1.1

func TestClamp(t *testing.T) {
	check(t, []kase{
		{"within", Clamp(2, 1, 3), 2}, {"above", Clamp(5, 1, 3), 3}, {"below", Clamp(-5, 1, 3), 1},
		{"at low", Clamp(1, 1, 3), 1}, {"at high", Clamp(3, 1, 3), 3}, {"one below", Clamp(0, 1, 3), 1}, {"one above", Clamp(4, 1, 3), 3},
		{"one number", Clamp(9, 4, 4), 4},
		{"low above high, x below low", Clamp(2, 3, 1), 3}, {"low above high, x below both", Clamp(0, 3, 1), 3},
		{"low above high, x at low", Clamp(3, 3, 1), 1}, {"low above high, x above both", Clamp(5, 3, 1), 1},
		{"the ends", Clamp(math.MinInt, -1, 1), -1}, {"the ends", Clamp(math.MaxInt, -1, 1), 1},
		{"all of the type", Clamp(math.MinInt, math.MinInt, math.MaxInt), math.MinInt},
		{"all of the type", Clamp(math.MaxInt, math.MinInt, math.MaxInt), math.MaxInt},
	})
}

func TestSat(t *testing.T) {
	check(t, []kase{
		{"0", Sat(0), 0}, {"within", Sat(-12), -12},
		{"at high", Sat(32767), 32767}, {"above", Sat(32768), 32767}, {"at low", Sat(-32767), -32767}, {"below", Sat(-32768), -32767},
		{"the ends", Sat(math.MaxInt), api.MaxAct}, {"the ends", Sat(math.MinInt), -api.MaxAct},
	})
}

func TestShift(t *testing.T) {
	check(t, []kase{
		{"a half up", Shift(3, 1), 2}, {"a half up, below 0", Shift(-3, 1), -1}, {"less than a half", Shift(5, 2), 1},
		{"more than a half", Shift(7, 2), 2}, {"less than a half, below 0", Shift(-5, 2), -1}, {"more than a half, below 0", Shift(-7, 2), -2},
		{"half of -1", Shift(-1, 1), 0}, {"half of 1", Shift(1, 1), 1},
		{"n of 0", Shift(7, 0), 7}, {"n below 0", Shift(-7, -3), -7}, {"n at the end", Shift(7, math.MinInt), 7},
		{"n of 62", Shift(math.MinInt, 62), -2}, {"n of 62", Shift(math.MaxInt, 62), 2}, {"n of 62", Shift(1<<61, 62), 1}, {"n of 62", Shift(1<<61-1, 62), 0},
		{"n of 63", Shift(math.MaxInt, 63), 0}, {"n of 63, below 0", Shift(math.MinInt, 63), 0},
		{"n of 64", Shift(math.MinInt, 64), 0}, {"n at the end", Shift(math.MinInt, math.MaxInt), 0},
	})
	for _, x := range edges() {
		for n := 0; n < 63; n++ {
			if want := nearest(whole(x), n); whole(Shift(x, n)).Cmp(want) != 0 {
				t.Errorf("Shift(%d, %d): %d, not %d", x, n, Shift(x, n), want)
			}
		}
	}
}

func TestMul(t *testing.T) {
	check(t, []kase{
		{"small", Mul(3, 4, 1), 6}, {"rounded", Mul(3, 5, 1), 8}, {"rounded, below 0", Mul(-3, 5, 1), -7}, {"not shifted", Mul(-3, 5, 0), -15}, {"n below 0", Mul(3, 5, -4), 15},
		{"Sat", Mul(300, 300, 0), 32767}, {"Sat, below 0", Mul(300, -300, 0), -32767}, {"0", Mul(0, math.MinInt, 0), 0},
		{"factor at its bound", Mul(1<<30, 1, 20), 1024}, {"factor above", Mul(1<<31, 1, 20), 1024}, {"other factor above", Mul(1, 1<<31, 20), 1024},
		{"factor below", Mul(-1<<31, 1, 20), -1024}, {"other factor below", Mul(1, -1<<31, 20), -1024},
		{"both clamped", Mul(1<<40, 1<<40, 50), 1024}, {"the ends", Mul(math.MinInt, math.MinInt, 60), 1}, {"the ends", Mul(math.MinInt, math.MaxInt, 60), -1},
		{"n of 63", Mul(math.MaxInt, math.MaxInt, 63), 0},
	})
	for _, a := range edges() {
		for _, b := range []int{0, 1, -1, 77, -77, 1 << 15, 1<<30 - 1, 1 << 30, 1<<30 + 1, -1 << 30, -1<<30 - 1, math.MaxInt, math.MinInt} {
			product := new(big.Int).Mul(bound(whole(a), 30), bound(whole(b), 30))
			for _, n := range []int{-1, 0, 1, 6, 8, 29, 30, 45, 59, 60, 61, 62} {
				want := Sat(int(nearest(product, max(n, 0)).Int64()))
				if got := Mul(a, b, n); got != want {
					t.Errorf("Mul(%d, %d, %d): %d, not %d", a, b, n, got, want)
				}
			}
		}
	}
}

// P1.2

func TestSqrt(t *testing.T) {
	check(t, []kase{
		{"0", Sqrt(0), 0}, {"1", Sqrt(1), 1}, {"2", Sqrt(2), 1}, {"3", Sqrt(3), 1}, {"4", Sqrt(4), 2}, {"15", Sqrt(15), 3}, {"16", Sqrt(16), 4},
		{"-1", Sqrt(-1), 0}, {"-4", Sqrt(-4), 0}, {"the least", Sqrt(math.MinInt), 0}, {"the greatest", Sqrt(math.MaxInt), 3037000499},
		{"the greatest square", Sqrt(3037000499 * 3037000499), 3037000499}, {"one below it", Sqrt(3037000499*3037000499 - 1), 3037000498},
		{"2^62", Sqrt(1 << 62), 1 << 31}, {"2^62 less 1", Sqrt(1<<62 - 1), 1<<31 - 1},
	})
}

func TestDiv(t *testing.T) {
	check(t, []kase{
		{"down", Div(7, 2), 3}, {"down, below 0", Div(-7, 2), -4}, {"down, by less than 0", Div(7, -2), -4}, {"down, both below 0", Div(-7, -2), 3},
		{"exact", Div(-8, 2), -4}, {"exact", Div(8, -2), -4}, {"-3 by 2", Div(-3, 2), -2}, {"below 1", Div(1, 2), 0}, {"just below 0", Div(-1, 2), -1},
		{"by 0", Div(5, 0), 0}, {"by 0, below 0", Div(-5, 0), 0}, {"0 by 0", Div(0, 0), 0}, {"0", Div(0, -3), 0},
		{"the least by -1", Div(math.MinInt, -1), math.MaxInt}, {"the greatest by -1", Div(math.MaxInt, -1), -math.MaxInt}, {"the least by 1", Div(math.MinInt, 1), math.MinInt},
		{"-1 by the greatest", Div(-1, math.MaxInt), -1}, {"1 by the least", Div(1, math.MinInt), -1}, {"the least by itself", Div(math.MinInt, math.MinInt), 1},
	})
	for _, a := range edges() {
		for _, b := range edges() {
			if b == 0 || a == math.MinInt && b == -1 {
				continue
			}
			if want := floorOf(whole(a), whole(b)); whole(Div(a, b)).Cmp(want) != 0 {
				t.Errorf("Div(%d, %d): %d, not %d", a, b, Div(a, b), want)
			}
		}
	}
}

// P1.3

func TestSum(t *testing.T) {
	const much = 1 << 61
	check(t, []kase{
		{"none", Sum(), 0}, {"one", Sum(-5), -5}, {"some", Sum(1, 2, 3, -10), -4},
		{"a number above its bound", Sum(1 << 62), much}, {"a number below its bound", Sum(-1 << 62), -much},
		{"the ends", Sum(math.MaxInt), much}, {"the ends", Sum(math.MinInt), -much}, {"at its bound", Sum(much - 1), much - 1},
		{"at the bound", Sum(much, much), 1 << 62}, {"beyond the bound", Sum(much, much, much), 1 << 62}, {"below the bound", Sum(-much, -much, -much), -1 << 62},
		{"on from the bound", Sum(much, much, 1, -1), 1<<62 - 1}, {"on from the lower bound", Sum(-much, -much, -1, 1), -1<<62 + 1},
		{"back from the bound", Sum(much, much, much, -much), much}, {"the order counts", Sum(-1, much, much, 1), 1 << 62},
	})
	for _, row := range rows() {
		list := []*big.Int{}
		for _, x := range row {
			list = append(list, whole(x))
		}
		if want := sumOf(list); whole(Sum(row...)).Cmp(want) != 0 {
			t.Errorf("Sum(%d): %d, not %d", row, Sum(row...), want)
		}
	}
}

func TestMaxMin(t *testing.T) {
	check(t, []kase{
		{"one", Max(-3), -3}, {"one", Min(4), 4}, {"first", Max(5, 1, 2), 5}, {"first", Min(-5, 1, 2), -5},
		{"last", Max(1, 2, 9), 9}, {"last", Min(3, 2, -9), -9}, {"between", Max(1, 7, 3), 7}, {"between", Min(4, 2, 9), 2},
		{"below 0", Max(-3, -7), -3}, {"above 0", Min(3, 7), 3}, {"the same", Max(2, 2), 2}, {"the same", Min(2, 2), 2},
		{"the ends", Max(math.MinInt, math.MaxInt, 0), math.MaxInt}, {"the ends", Min(math.MaxInt, math.MinInt, 0), math.MinInt},
		{"no rest", Max(6, []int{}...), 6}, {"no rest", Min(6, []int(nil)...), 6},
	})
	list := edges()
	for at := range list {
		turned := append(slices.Clone(list[at:]), list[:at]...)
		if got := Max(turned[0], turned[1:]...); got != slices.Max(list) {
			t.Errorf("Max from %d: %d", at, got)
		}
		if got := Min(turned[0], turned[1:]...); got != slices.Min(list) {
			t.Errorf("Min from %d: %d", at, got)
		}
	}
}

func TestMean(t *testing.T) {
	check(t, []kase{
		{"none", Mean(), 0}, {"none", Mean([]int{}...), 0}, {"one", Mean(-9), -9}, {"exact", Mean(2, 4), 3}, {"down", Mean(1, 2, 4), 2}, {"down, below 0", Mean(-1, -2), -2},
		{"just below 0", Mean(0, 0, -1), -1}, {"just above 0", Mean(0, 0, 1), 0},
		{"clamped numbers", Mean(math.MaxInt), 1 << 61}, {"clamped numbers", Mean(math.MinInt, math.MinInt), -1 << 61},
		{"a clamped sum", Mean(1<<61, 1<<61, 1<<61, 1<<61), 1 << 60}, {"a clamped sum", Mean(math.MinInt, math.MinInt, math.MinInt, math.MinInt), -1 << 60},
	})
}

func TestDot(t *testing.T) {
	const much = 1 << 30
	check(t, []kase{
		{"none", Dot(nil, nil), 0}, {"none", Dot(nil, []int{1}), 0}, {"none", Dot([]int{1}, []int{}), 0},
		{"as long", Dot([]int{1, 2, 3}, []int{4, -5, 6}), 12}, {"the first is longer", Dot([]int{1, 2, 3}, []int{4, -5}), -6}, {"the second is longer", Dot([]int{2}, []int{-3, 9, 9}), -6},
		{"not Sat", Dot([]int{1000}, []int{1000}), 1000000},
		{"a factor above", Dot([]int{much + 1}, []int{2}), 2 * much}, {"a factor below", Dot([]int{-much - 1}, []int{2}), -2 * much},
		{"the other above", Dot([]int{2}, []int{much + 1}), 2 * much}, {"the other below", Dot([]int{2}, []int{-much - 1}), -2 * much},
		{"the ends", Dot([]int{math.MinInt}, []int{math.MinInt}), 1 << 60}, {"the ends", Dot([]int{math.MinInt}, []int{math.MaxInt}), -1 << 60},
		{"at the bound", Dot([]int{much, much, much, much}, []int{much, much, much, much}), 1 << 62},
		{"beyond the bound", Dot([]int{much, much, much, much, 1}, []int{much, much, much, much, 1}), 1 << 62},
		{"on from the bound", Dot([]int{much, much, much, much, 1, 1}, []int{much, much, much, much, 1, -1}), 1<<62 - 1},
		{"below the bound", Dot([]int{-much, -much, -much, -much, -much}, []int{much, much, much, much, much}), -1 << 62},
	})
	for _, a := range rows() {
		for _, b := range rows() {
			list := []*big.Int{}
			for i := range min(len(a), len(b)) {
				list = append(list, new(big.Int).Mul(bound(whole(a[i]), 30), bound(whole(b[i]), 30)))
			}
			if want := sumOf(list); whole(Dot(a, b)).Cmp(want) != 0 {
				t.Errorf("Dot(%d, %d): %d, not %d", a, b, Dot(a, b), want)
			}
		}
	}
}

// Rule 3: what is handed in is as it was, its spare room too.
func TestListsAreLeft(t *testing.T) {
	room := append(edges(), 11, 12, 13)
	was := slices.Clone(room)
	list := room[:len(room)-3]
	Sum(list...)
	Max(0, list...)
	Min(0, list...)
	Mean(list...)
	Dot(list, list[5:])
	if !slices.Equal(room, was) {
		t.Error("a list was changed")
	}
}

// P1.4

func TestShiftOfTwice(t *testing.T) {
	for _, x := range edges() {
		if x < math.MinInt/2 || x > math.MaxInt/2 {
			continue
		}
		for n := 0; n <= 61; n++ {
			if once, twice := Shift(x, n), Shift(2*x, n+1); once != twice {
				t.Errorf("%d by %d: %d, and twice as much by one more: %d", x, n, once, twice)
			}
		}
	}
}

func TestRootIsTheRoot(t *testing.T) {
	list := edges()
	for n := range 5000 {
		list = append(list, n)
	}
	for _, x := range edges() {
		if x > 0 && x <= 3037000499 {
			list = append(list, x*x-1, x*x, x*x+1)
		}
	}
	for _, n := range list {
		if n < 0 {
			continue
		}
		root := whole(Sqrt(n))
		next := new(big.Int).Add(root, whole(1))
		if new(big.Int).Mul(root, root).Cmp(whole(n)) > 0 || new(big.Int).Mul(next, next).Cmp(whole(n)) <= 0 {
			t.Errorf("Sqrt(%d): %d", n, root)
		}
	}
}
