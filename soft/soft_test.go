package soft

import (
	"math"
	"math/big"
	"math/rand"
	"slices"
	"testing"

	"coadjutor/api"
)

const much = 1 << 30

// edges: numbers around 0, the table's ends, all that are clamped anywhere, and the ends of the type.
func edges() []int {
	return []int{
		0, 1, -1, 2, -2, 7, -7, 8, -8, 9, -9, 64, -64, 127, -127, 128, -128, 129, -129, 135, -135, 136, -136, 137, -137, 511, 512, -512, 2048, -2048,
		32766, 32767, 32768, -32766, -32767, -32768, 65535, 65536, 65537, -65536, 1<<20 - 1, 1 << 20, 1<<20 + 1, -1 << 20,
		much - 1, much, much + 1, -much + 1, -much, -much - 1, much - 128, 128 - much, 1<<31 - 1, 1 << 31, -1 << 31, 1 << 32, -1 << 32, 1<<32 + 5, 1 << 35, 1 << 40, -1 << 40,
		1 << 61, -1 << 61, 1 << 62, -1 << 62, math.MaxInt, math.MaxInt - 1, math.MaxInt - 7, math.MinInt, math.MinInt + 1, math.MinInt + 8,
	}
}

// bounded: a number, clamped as the chapter says of scores and numbers.
func bounded(x int) int {
	return min(max(x, -much), much)
}

// counts: what the chapter says of a thing so much below, by powers that are reckoned, and halves.
func counts(below int) int {
	below = max(below, 0)
	part := int(math.Round(65536 * math.Exp2(-float64(below%8)/8)))
	for i := 0; i < below/8 && part > 0; i++ {
		part /= 2
	}
	return part
}

// counted: the weights that scores have.
func counted(scores []int) []int {
	list := []int{}
	for _, x := range scores {
		list = append(list, counts(bounded(slices.Max(scores))-bounded(x)))
	}
	return list
}

// mixed: what a mix that can be has, by numbers without a bound.
func mixed(weights []int, rows [][]int) []int {
	list := []int{}
	for at := range rows[0] {
		sum, total := new(big.Int), new(big.Int)
		for i, w := range weights {
			weight := big.NewInt(int64(w))
			sum.Add(sum, new(big.Int).Mul(weight, big.NewInt(int64(bounded(rows[i][at])))))
			total.Add(total, weight)
		}
		// Quo rounds toward 0.
		mean := int(sum.Quo(sum, total).Int64())
		list = append(list, min(max(mean, -32767), 32767))
	}
	return list
}

// chosen: the place of a draw in a row that has each place as often as its weight says.
func chosen(draw int, weights []int) int {
	row := []int{}
	for i, w := range weights {
		row = append(row, slices.Repeat([]int{i}, w)...)
	}
	if len(row) == 0 {
		return -1
	}
	at := new(big.Int).Mod(big.NewInt(int64(draw)), big.NewInt(int64(len(row))))
	return row[at.Int64()]
}

// rowsOf: all rows of n numbers, each from 0 to below most.
func rowsOf(n, most int) [][]int {
	all := [][]int{{}}
	for range n {
		next := [][]int{}
		for _, row := range all {
			for x := range most {
				next = append(next, append(slices.Clone(row), x))
			}
		}
		all = next
	}
	return all
}

// pick: some of the edges, and some small numbers.
func pick(r *rand.Rand, n int) []int {
	list := make([]int, n)
	for i := range list {
		list[i] = r.Intn(2001) - 1000
		if r.Intn(4) == 0 {
			list[i] = edges()[r.Intn(len(edges()))]
		}
	}
	return list
}

// weigh: some weights from 0 to most, both of these among them, not all 0.
func weigh(r *rand.Rand, n, most int) []int {
	list := make([]int, n)
	for i := range list {
		list[i] = []int{0, 1, most, r.Intn(most + 1), r.Intn(9)}[r.Intn(5)]
	}
	list[r.Intn(n)] = 1 + r.Intn(most)
	return list
}

// nothing: whether a mix is refused.
func nothing(t testing.TB, name string, weights []int, rows ...[]int) {
	t.Helper()
	if got := Mix(weights, rows...); len(got) != 0 {
		t.Errorf("%s: %v", name, got)
	}
}

// P12.1

func TestTable(t *testing.T) {
	want := []int{65536, 60097, 55109, 50535, 46341, 42495, 38968, 35734}
	for d, x := range want {
		if got := Exp(d); got != x || counts(d) != x {
			t.Errorf("%d: %d, not %d", d, got, x)
		}
	}
}

func TestExp(t *testing.T) {
	for _, c := range [][2]int{
		{0, 65536}, {7, 35734}, {8, 32768}, {9, 30048}, {15, 17867}, {16, 16384}, {17, 15024}, {24, 8192},
		// Rounded down: 35734 by 4 is 8933 and a half, 60097 by 2 is 30048 and a half.
		{23, 8933}, {20, 11585}, {28, 5792}, {127, 1}, {128, 1}, {129, 0}, {135, 0}, {120, 2}, {121, 1}, {119, 2}, {112, 4},
		{136, 0}, {137, 0}, {143, 0}, {144, 0}, {1000, 0},
		// Below 0 is as 0.
		{-1, 65536}, {-5, 65536}, {-7, 65536}, {-8, 65536}, {-9, 65536}, {-100, 65536}, {math.MinInt, 65536}, {math.MinInt + 1, 65536}, {-1 << 62, 65536},
		// Shifts whose number of bits would wrap round.
		{8 * 32, 0}, {8*32 + 1, 0}, {8 * 63, 0}, {8 * 64, 0}, {8*64 + 7, 0}, {8 * 65, 0}, {8 * 128, 0}, {8 * 256, 0}, {8 << 16, 0}, {8 << 32, 0}, {8<<32 + 8, 0}, {1 << 40, 0}, {1 << 62, 0}, {math.MaxInt, 0}, {math.MaxInt - 7, 0},
	} {
		if got := Exp(c[0]); got != c[1] {
			t.Errorf("%d: %d, not %d", c[0], got, c[1])
		}
	}
	for d := -300; d <= 5000; d++ {
		if got := Exp(d); got != counts(d) {
			t.Errorf("%d: %d, not %d", d, got, counts(d))
		}
	}
	for _, d := range edges() {
		if got := Exp(d); got != counts(d) {
			t.Errorf("%d: %d, not %d", d, got, counts(d))
		}
	}
}

func TestWeights(t *testing.T) {
	for i, c := range []struct{ scores, want []int }{
		{nil, nil},
		{[]int{}, nil},
		{[]int{0}, []int{65536}},
		{[]int{-77}, []int{65536}},
		{[]int{math.MinInt}, []int{65536}},
		{[]int{math.MaxInt}, []int{65536}},
		{[]int{5, 5, -3}, []int{65536, 65536, 32768}},
		{[]int{-3, 5, 5}, []int{32768, 65536, 65536}},
		{[]int{1, 2, 3}, []int{55109, 60097, 65536}},
		{[]int{3, 2, 1}, []int{65536, 60097, 55109}},
		{[]int{-10, -12, -18}, []int{65536, 55109, 32768}},
		{[]int{0, 128, 127, -8}, []int{1, 65536, 60097, 0}},
		{[]int{0, 135}, []int{0, 65536}},
		{[]int{-64, 64}, []int{1, 65536}},
		// Clamped scores are as high as the bound.
		{[]int{much, much + 1, 1 << 40, math.MaxInt}, []int{65536, 65536, 65536, 65536}},
		{[]int{-much, -much - 1, -1 << 40, math.MinInt}, []int{65536, 65536, 65536, 65536}},
		{[]int{math.MaxInt, much - 8}, []int{65536, 32768}},
		{[]int{math.MinInt, 8 - much}, []int{32768, 65536}},
		{[]int{much - 1, much}, []int{60097, 65536}},
		{[]int{1 - much, -much}, []int{65536, 60097}},
		{[]int{much + 8, much - 8}, []int{65536, 32768}},
		{[]int{math.MaxInt, math.MinInt}, []int{65536, 0}},
		{[]int{math.MinInt, 0, math.MaxInt}, []int{0, 0, 65536}},
	} {
		if got := Weights(c.scores...); !slices.Equal(got, c.want) {
			t.Errorf("%d: %v, not %v", i, got, c.want)
		}
	}
}

func TestWeightsAll(t *testing.T) {
	for _, a := range edges() {
		for _, b := range edges() {
			list := []int{a, b, 3}
			if got := Weights(list...); !slices.Equal(got, counted(list)) {
				t.Errorf("%v: %v, not %v", list, got, counted(list))
			}
		}
	}
	r := rand.New(rand.NewSource(121))
	for _, n := range []int{1, 2, 3, 4, 5, 16, 32, 63, 64, 65, 300} {
		for range 20 {
			list := pick(r, n)
			if got := Weights(list...); !slices.Equal(got, counted(list)) {
				t.Errorf("%v: %v, not %v", list, got, counted(list))
			}
			// Near each other, so that most count.
			from := edges()[r.Intn(len(edges()))]/2 + 1
			for i := range list {
				list[i] = from + r.Intn(200)
			}
			if got := Weights(list...); !slices.Equal(got, counted(list)) {
				t.Errorf("%v: %v, not %v", list, got, counted(list))
			}
		}
	}
	// The greatest stands anywhere.
	for n := 1; n <= 12; n++ {
		for at := range n {
			list := make([]int, n)
			list[at] = 9
			want := slices.Repeat([]int{30048}, n)
			want[at] = 65536
			if got := Weights(list...); !slices.Equal(got, want) {
				t.Errorf("%v: %v", list, got)
			}
		}
	}
	if got := Weights(slices.Repeat([]int{3, -5}, 50000)...); !slices.Equal(got, slices.Repeat([]int{65536, 32768}, 50000)) {
		t.Error("many scores")
	}
}

// P12.2

func TestMix(t *testing.T) {
	for i, c := range []struct {
		weights []int
		rows    [][]int
		want    []int
	}{
		{[]int{1}, [][]int{{5, -5, 0}}, []int{5, -5, 0}},
		{[]int{65536}, [][]int{{5, -5, 0}}, []int{5, -5, 0}},
		{[]int{7}, [][]int{{32767, -32767}}, []int{32767, -32767}},
		{[]int{1, 1}, [][]int{{10, 20}, {20, 40}}, []int{15, 30}},
		{[]int{1, 3}, [][]int{{10, 20}, {20, 40}}, []int{17, 35}},
		{[]int{3, 1}, [][]int{{10, 20}, {20, 40}}, []int{12, 25}},
		{[]int{3, 0}, [][]int{{10, 20}, {20, 40}}, []int{10, 20}},
		{[]int{0, 1}, [][]int{{10, 20}, {20, 40}}, []int{20, 40}},
		{[]int{1, 2, 3}, [][]int{{6}, {12}, {60}}, []int{35}},
		// Toward 0, once, at the end.
		{[]int{1, 1}, [][]int{{7, -7, 1, -1}, {0, 0, 0, 0}}, []int{3, -3, 0, 0}},
		{[]int{1, 1}, [][]int{{0, 0, 0, 0}, {7, -7, 1, -1}}, []int{3, -3, 0, 0}},
		{[]int{1, 1, 1}, [][]int{{1, -1, 2, -2}, {1, -1, 2, -2}, {0, 0, 1, -1}}, []int{0, 0, 1, -1}},
		{[]int{1, 1, 1}, [][]int{{1, -1, 10}, {1, -1, -10}, {1, -1, -1}}, []int{1, -1, 0}},
		{[]int{1, 1, 1}, [][]int{{-4, 4}, {5, -5}, {-3, 3}}, []int{0, 0}},
		{[]int{1, 1}, [][]int{{-9, 9}, {2, -2}}, []int{-3, 3}},
		{[]int{65536, 1}, [][]int{{1, -1}, {0, 0}}, []int{0, 0}},
		{[]int{65536, 1}, [][]int{{1, -1}, {1, -1}}, []int{1, -1}},
		{[]int{65536, 65536}, [][]int{{-3, 3}, {-4, 4}}, []int{-3, 3}},
		// Clamped at the end, not ahead of it.
		{[]int{1}, [][]int{{32766, 32767, 32768, -32766, -32767, -32768}}, []int{32766, 32767, 32767, -32766, -32767, -32767}},
		{[]int{1, 1}, [][]int{{100000, -100000, 40000}, {-90000, 90000, 40000}}, []int{5000, -5000, 32767}},
		{[]int{1, 3}, [][]int{{100000, -100000}, {0, 0}}, []int{25000, -25000}},
		// Numbers are clamped at 2^30 ahead of it.
		{[]int{1}, [][]int{{much, much + 1, math.MaxInt, -much, -much - 1, math.MinInt}}, []int{32767, 32767, 32767, -32767, -32767, -32767}},
		{[]int{1, 1}, [][]int{{math.MaxInt, math.MinInt, 1 << 31}, {-much, much, -much}}, []int{0, 0, 0}},
		{[]int{1, 1}, [][]int{{math.MaxInt, math.MinInt}, {10 - much, much - 10}}, []int{5, -5}},
		{[]int{1, 65535}, [][]int{{math.MaxInt, math.MinInt, much}, {0, 0, 0}}, []int{16384, -16384, 16384}},
		{[]int{1, 65535}, [][]int{{much - 1, 1 - much}, {0, 0}}, []int{16383, -16383}},
		{[]int{0, 2}, [][]int{{math.MaxInt, math.MinInt}, {3, -3}}, []int{3, -3}},
		// Rows of no numbers can be mixed.
		{[]int{1}, [][]int{{}}, nil},
		{[]int{1, 2}, [][]int{nil, {}}, nil},
	} {
		if got := Mix(c.weights, c.rows...); !slices.Equal(got, c.want) {
			t.Errorf("%d: %v, not %v", i, got, c.want)
		}
	}
}

func TestMixAll(t *testing.T) {
	// Small sums of all kinds, each rest above and below 0.
	for _, weights := range rowsOf(3, 4)[1:] {
		for a := -4; a <= 4; a++ {
			rows := [][]int{nil, nil, nil}
			for b := -4; b <= 4; b++ {
				for c := -4; c <= 4; c++ {
					for i, x := range []int{a, b, c} {
						rows[i] = append(rows[i], x)
					}
				}
			}
			if got, want := Mix(weights, rows...), mixed(weights, rows); !slices.Equal(got, want) {
				t.Errorf("%v, %d: %v, not %v", weights, a, got, want)
			}
		}
	}
	r := rand.New(rand.NewSource(122))
	for _, n := range []int{1, 2, 3, 4, 5, 16, 32, 63, 64, 65, 300} {
		for _, size := range []int{0, 1, 2, 16, 64, 65, 300} {
			for _, most := range []int{1, 9, 65536} {
				weights, rows := weigh(r, n, most), [][]int{}
				for range n {
					rows = append(rows, pick(r, size))
				}
				if got, want := Mix(weights, rows...), mixed(weights, rows); !slices.Equal(got, want) {
					t.Errorf("%d rows of %d by weights up to %d: %v, not %v", n, size, most, got, want)
				}
			}
		}
	}
}

// Sums that are beyond the type are as exact as others.
func TestMixMany(t *testing.T) {
	const half = 1 << 17
	weights := slices.Repeat([]int{65536}, 2*half)
	high, low, near := []int{math.MaxInt, math.MinInt, much}, []int{math.MinInt, math.MaxInt, -much}, []int{9 - much, much - 9, 3 - much}
	for i, c := range []struct {
		first, second []int
		want          []int
	}{
		{high, high, []int{32767, -32767, 32767}},
		{low, low, []int{-32767, 32767, -32767}},
		{high, low, []int{0, 0, 0}},
		{high, near, []int{4, -4, 1}},
		{near, high, []int{4, -4, 1}},
	} {
		rows := append(slices.Repeat([][]int{c.first}, half), slices.Repeat([][]int{c.second}, half)...)
		if got := Mix(weights, rows...); !slices.Equal(got, c.want) {
			t.Errorf("%d: %v, not %v", i, got, c.want)
		}
	}
	// One of many isn't lost, where its share is a whole number.
	rows := slices.Repeat([][]int{{7, -7}}, half)
	rows[half-1] = []int{7 + half, -7 - half}
	if got := Mix(weights[:half], rows...); !slices.Equal(got, []int{8, -8}) {
		t.Error(got)
	}
	rows[half-1] = []int{6 + half, -6 - half}
	if got := Mix(weights[:half], rows...); !slices.Equal(got, []int{7, -7}) {
		t.Error(got)
	}
}

func TestMixNone(t *testing.T) {
	nothing(t, "no rows", nil)
	nothing(t, "no rows", []int{})
	nothing(t, "no rows", []int{1})
	nothing(t, "no rows", []int{1, 2}, [][]int{}...)
	nothing(t, "no weights", nil, []int{1})
	nothing(t, "no weights", nil, nil)
	nothing(t, "fewer weights", []int{1}, []int{1}, []int{2})
	nothing(t, "fewer weights", []int{1, 1}, []int{1}, []int{2}, []int{3})
	nothing(t, "more weights", []int{1, 1}, []int{1})
	nothing(t, "more weights", []int{1, 0}, []int{1})
	nothing(t, "a weight in spare room", make([]int, 1, 2), []int{1}, []int{1})
	nothing(t, "fewer weights, rows of other sizes", []int{1}, []int{1}, []int{2, 3})
	nothing(t, "more weights, rows of other sizes", []int{1, 1, 1}, []int{1}, nil)
	for i, rows := range [][][]int{
		{{1}, nil}, {nil, {1}}, {{1}, {1, 2}}, {{1, 2}, {1}}, {make([]int, 1, 2), {1, 2}}, {{1, 2}, make([]int, 1, 2)},
		{{1, 2}, {3, 4}, {5}}, {{1, 2}, {3, 4}, {5, 6, 7}}, {{1}, {3, 4}, {5, 6}}, {{1, 2}, {3}, {5, 6}}, {{1, 2}, {3, 4, 5}, {6, 7}}, {nil, nil, {0}}, {{0}, nil, nil},
	} {
		weights := slices.Repeat([]int{1}, len(rows))
		if got := Mix(weights, rows...); len(got) != 0 {
			t.Errorf("rows of other sizes, %d: %v", i, got)
		}
		// A row that counts 0 has as many numbers too.
		for at := range weights {
			weights[at] = 0
			if got := Mix(weights, rows...); len(got) != 0 {
				t.Errorf("rows of other sizes, %d, but the row %d counts 0: %v", i, at, got)
			}
			weights[at] = 1
		}
	}
	for n := 1; n <= 70; n++ {
		rows := slices.Repeat([][]int{{3, -4}}, n)
		nothing(t, "all are 0", make([]int, n), rows...)
		for at := range n {
			weights := slices.Repeat([]int{65536}, n)
			for _, w := range []int{-1, -2, -65536, 65537, 65538, 1 << 17, 1 << 20, 1 << 32, 1<<32 + 1, math.MaxInt, math.MinInt} {
				weights[at] = w
				nothing(t, "a weight that can't be", weights, rows...)
			}
			weights[at] = 65536
			if got := Mix(weights, rows...); !slices.Equal(got, []int{3, -4}) {
				t.Errorf("the greatest weights: %v", got)
			}
		}
	}
	// Weights whose sum would be a good one.
	nothing(t, "above and below", []int{-1, 2}, []int{1}, []int{1})
	nothing(t, "above and below", []int{2, -1}, []int{1}, []int{1})
	nothing(t, "a sum of 0", []int{1, -1}, []int{1}, []int{1})
	nothing(t, "a sum that wraps round", []int{math.MaxInt, math.MaxInt, 3}, []int{1}, []int{1}, []int{1})
}

// P12.3

func TestChoose(t *testing.T) {
	for i, c := range []struct {
		draw    int
		weights []int
		want    int
	}{
		{0, []int{0, 2, 3}, 1}, {1, []int{0, 2, 3}, 1}, {2, []int{0, 2, 3}, 2}, {4, []int{0, 2, 3}, 2}, {5, []int{0, 2, 3}, 1}, {9, []int{0, 2, 3}, 2}, {10, []int{0, 2, 3}, 1},
		{-1, []int{0, 2, 3}, 2}, {-3, []int{0, 2, 3}, 2}, {-4, []int{0, 2, 3}, 1}, {-5, []int{0, 2, 3}, 1}, {-6, []int{0, 2, 3}, 2},
		{0, []int{1}, 0}, {77, []int{1}, 0}, {-77, []int{1}, 0}, {math.MinInt, []int{1}, 0}, {math.MaxInt, []int{1}, 0},
		{0, []int{0, 0, 0, 9, 0}, 3}, {8, []int{0, 0, 0, 9, 0}, 3}, {9, []int{0, 0, 0, 9, 0}, 3}, {-1, []int{0, 0, 0, 9, 0}, 3},
		{0, []int{1, 0, 1}, 0}, {1, []int{1, 0, 1}, 2}, {-1, []int{1, 0, 1}, 2}, {-2, []int{1, 0, 1}, 0},
		// 2^63 is 2 modulo 3 and 8 modulo 10; -2^63 is 1 and 2.
		{math.MaxInt, []int{1, 1, 1}, 1}, {math.MinInt, []int{1, 1, 1}, 1}, {math.MaxInt, []int{7, 1, 2}, 1}, {math.MinInt, []int{2, 1, 7}, 1},
		{1 << 20, []int{1 << 20, 1}, 1}, {1<<20 - 1, []int{1 << 20, 1}, 0}, {1<<20 + 1, []int{1 << 20, 1}, 0}, {-1, []int{1 << 20, 1 << 20}, 1}, {-1<<20 - 1, []int{1 << 20, 1 << 20}, 0},
		{65536, []int{65536, 60097}, 1}, {65535, []int{65536, 60097}, 0}, {65536 + 60097, []int{65536, 60097}, 0},
		// None.
		{0, nil, -1}, {1, []int{}, -1}, {0, []int{0}, -1}, {1, []int{0, 0}, -1}, {-1, []int{0, 0, 0}, -1},
		{0, []int{-1}, -1}, {1, []int{1, -1}, -1}, {1, []int{-1, 1}, -1}, {0, []int{-1, 2}, -1}, {0, []int{2, -1}, -1}, {0, []int{2, math.MinInt}, -1},
		{1, []int{1<<20 + 1}, -1}, {0, []int{1, 1<<20 + 1}, -1}, {0, []int{1<<20 + 1, 1}, -1}, {0, []int{1, 1 << 32}, -1}, {0, []int{1, math.MaxInt, math.MaxInt, 3}, -1},
	} {
		if got := Choose(c.draw, c.weights...); got != c.want {
			t.Errorf("%d: %d, not %d", i, got, c.want)
		}
	}
}

func TestChooseAll(t *testing.T) {
	for n := range 5 {
		for _, weights := range rowsOf(n, 4) {
			for draw := -26; draw <= 26; draw++ {
				if got, want := Choose(draw, weights...), chosen(draw, weights); got != want {
					t.Errorf("%d of %v: %d, not %d", draw, weights, got, want)
				}
			}
			for _, draw := range edges() {
				if got, want := Choose(draw, weights...), chosen(draw, weights); got != want {
					t.Errorf("%d of %v: %d, not %d", draw, weights, got, want)
				}
			}
		}
	}
	r := rand.New(rand.NewSource(123))
	for _, n := range []int{1, 2, 5, 31, 32, 63, 64} {
		for range 20 {
			weights := weigh(r, n, 40)
			for _, draw := range append(pick(r, 40), -1, 0, 1) {
				if got, want := Choose(draw, weights...), chosen(draw, weights); got != want {
					t.Errorf("%d of %v: %d, not %d", draw, weights, got, want)
				}
			}
		}
	}
}

func TestChooseMany(t *testing.T) {
	for n := 1; n <= 130; n++ {
		weights := slices.Repeat([]int{1 << 20}, n)
		for _, at := range []int{0, 1, n / 2, n - 1} {
			want := at % n
			if n > 64 {
				want = -1
			}
			for _, draw := range []int{at << 20, at<<20 + 1<<20 - 1, (at + n) << 20, (at - n) << 20, (at-n)<<20 + 1<<20 - 1} {
				if got := Choose(draw, weights...); got != want {
					t.Errorf("%d of %d: %d, not %d", draw, n, got, want)
				}
			}
		}
		// Things that count 0 are things.
		weights = make([]int, n)
		weights[0] = 1
		want := 0
		if n > 64 {
			want = -1
		}
		if got := Choose(5, weights...); got != want {
			t.Errorf("one of %d: %d, not %d", n, got, want)
		}
		for at := range min(n, 64) {
			weights = slices.Repeat([]int{1}, min(n, 64))
			for _, w := range []int{-1, 1<<20 + 1, math.MinInt, math.MaxInt} {
				weights[at] = w
				for _, draw := range []int{0, at, n - 1} {
					if got := Choose(draw, weights...); got != -1 {
						t.Errorf("%d of %d, the weight %d at %d: %d", draw, len(weights), w, at, got)
					}
				}
			}
		}
	}
}

func TestBest(t *testing.T) {
	for i, c := range []struct {
		scores []int
		want   int
	}{
		{nil, -1}, {[]int{}, -1}, {[]int{0}, 0}, {[]int{-7}, 0}, {[]int{math.MinInt}, 0}, {[]int{math.MaxInt}, 0},
		{[]int{1, 2}, 1}, {[]int{2, 1}, 0}, {[]int{-4, -2, -2}, 1}, {[]int{-2, -4, -2}, 0}, {[]int{3, 3, 3}, 0}, {[]int{0, 0}, 0}, {[]int{-1, -1}, 0}, {[]int{-1, 0}, 1},
		{[]int{1, 5, 3, 5, 4}, 1}, {[]int{1, 2, 3, 4, 4}, 3},
		// Not clamped.
		{[]int{much, much + 1}, 1}, {[]int{-much - 1, -much}, 1}, {[]int{32767, 32768}, 1}, {[]int{math.MaxInt - 1, math.MaxInt}, 1}, {[]int{math.MinInt, math.MinInt + 1}, 1}, {[]int{math.MinInt, math.MinInt}, 0}, {[]int{math.MinInt, math.MaxInt}, 1}, {[]int{math.MaxInt, math.MinInt}, 0},
	} {
		if got := Best(c.scores...); got != c.want {
			t.Errorf("%d: %d, not %d", i, got, c.want)
		}
	}
	for n := 1; n <= 5; n++ {
		for _, row := range rowsOf(n, 4) {
			for i := range row {
				row[i] -= 2
			}
			if got, want := Best(row...), slices.Index(row, slices.Max(row)); got != want {
				t.Errorf("%v: %d, not %d", row, got, want)
			}
		}
	}
	r := rand.New(rand.NewSource(124))
	for _, n := range []int{1, 2, 3, 63, 64, 65, 500} {
		for range 30 {
			list := pick(r, n)
			if got, want := Best(list...), slices.Index(list, slices.Max(list)); got != want {
				t.Errorf("%v: %d, not %d", list, got, want)
			}
		}
	}
}

// P12.4

func TestHigherCountsNoLess(t *testing.T) {
	for d := 0; d < 3000; d++ {
		if Exp(d) < Exp(d+1) || Exp(d+1) < 0 {
			t.Errorf("%d: %d, %d", d, Exp(d), Exp(d+1))
		}
	}
	r := rand.New(rand.NewSource(125))
	for range 2000 {
		scores := pick(r, 1+r.Intn(20))
		weights := Weights(scores...)
		if top := Best(scores...); weights[top] != 65536 || slices.Max(weights) != 65536 || slices.Min(weights) < 0 {
			t.Errorf("%v: %v", scores, weights)
		}
		for i, a := range scores {
			for j, b := range scores {
				if a >= b && weights[i] < weights[j] {
					t.Errorf("%d counts %d, %d counts %d", a, weights[i], b, weights[j])
				}
			}
		}
	}
}

func TestMixIsBetween(t *testing.T) {
	r := rand.New(rand.NewSource(126))
	for range 5000 {
		n := 1 + r.Intn(12)
		rows := [][]int{}
		for range n {
			row := make([]int, 6)
			for at := range row {
				// Activations; some places have numbers of one sign, or two numbers alone.
				row[at] = []int{r.Intn(65535) - 32767, r.Intn(9) - 4, 32767 - r.Intn(2), r.Intn(2) - 32767, 5, -r.Intn(2)}[at]
			}
			rows = append(rows, row)
		}
		got := Mix(weigh(r, n, 65536), rows...)
		if len(got) != 6 {
			t.Fatal(got)
		}
		for at, x := range got {
			least, greatest := rows[0][at], rows[0][at]
			for _, row := range rows {
				least, greatest = min(least, row[at]), max(greatest, row[at])
			}
			if x < least || x > greatest {
				t.Errorf("%d of %v", x, rows)
			}
		}
	}
}

// What weights count is what Mix and Choose take.
func TestWeightsAreTaken(t *testing.T) {
	r := rand.New(rand.NewSource(127))
	for range 500 {
		scores := pick(r, 1+r.Intn(64))
		weights, rows := Weights(scores...), [][]int{}
		for i := range scores {
			rows = append(rows, []int{i, -i, 9})
		}
		if got, want := Mix(weights, rows...), mixed(weights, rows); !slices.Equal(got, want) {
			t.Errorf("%v: %v, not %v", scores, got, want)
		}
		for _, draw := range edges() {
			if at := Choose(draw, weights...); at < 0 || weights[at] == 0 {
				t.Errorf("%d of %v: %d", draw, weights, at)
			}
		}
	}
}

func TestZeroIsNeverChosen(t *testing.T) {
	r := rand.New(rand.NewSource(128))
	for range 3000 {
		weights := weigh(r, 1+r.Intn(64), 1<<20)
		total, seen := 0, -1
		for i, w := range weights {
			// The first and the last draw that are a thing's.
			if w > 0 {
				if a, b := Choose(total, weights...), Choose(total+w-1, weights...); a != i || b != i {
					t.Errorf("%d of %v: %d, %d", i, weights, a, b)
				}
			}
			total += w
		}
		for range 20 {
			draw := int(r.Uint64())
			seen = Choose(draw, weights...)
			if seen < 0 || weights[seen] == 0 {
				t.Errorf("%d of %v: %d", draw, weights, seen)
			}
			// A whole sum more is the same.
			if draw < math.MaxInt-total && Choose(draw+total, weights...) != seen {
				t.Errorf("%d and %d of %v", draw, total, weights)
			}
		}
	}
}

// Rule 3

func TestArgumentsAreLeft(t *testing.T) {
	room := append(edges(), 11, 12, 13)
	was := slices.Clone(room)
	weights := []int{5, 0, 7, 9, 99}
	Weights(room[:9]...)
	Weights(room...)
	Best(room[:9]...)
	Choose(-5, weights[:4]...)
	Choose(1, room...)
	rows := [][]int{room[:6], room[6:12], room[:6:6], room[40:46], nil}
	Mix(weights[:4], rows[:4]...)
	Mix(room[:4], rows[:4]...)
	Mix(weights[:2], room[:6], room[:6])
	if !slices.Equal(room, was) || !slices.Equal(weights, []int{5, 0, 7, 9, 99}) {
		t.Error("a list was changed")
	}
	if &rows[0][0] != &room[0] || &rows[1][0] != &room[6] || len(rows[1]) != 6 || &rows[2][0] != &room[0] || &rows[3][0] != &room[40] || rows[4] != nil {
		t.Error("the list of rows was changed")
	}
}

func TestAnswersAreNew(t *testing.T) {
	scores, row := []int{4, 4}, []int{5, 6}
	weights, again := Weights(scores...), Weights(scores...)
	mix, once := Mix([]int{1}, row), Mix([]int{1}, row)
	one := Weights(7)
	for _, list := range [][]int{weights, mix, one} {
		for i := range list {
			list[i] = 77
		}
		_ = append(list, 77)
	}
	if !slices.Equal(scores, []int{4, 4}) || !slices.Equal(row, []int{5, 6}) || !slices.Equal(again, []int{65536, 65536}) || !slices.Equal(once, []int{5, 6}) {
		t.Error(scores, row, again, once)
	}
	row[0], scores[0] = 50, 50
	if !slices.Equal(once, []int{5, 6}) || !slices.Equal(again, []int{65536, 65536}) {
		t.Error(once, again)
	}
	if !slices.Equal(Weights(7), []int{65536}) || Exp(0) != 65536 {
		t.Error("the table was changed")
	}
}

// A call hangs on its arguments alone.
func TestCallsAgain(t *testing.T) {
	r := rand.New(rand.NewSource(129))
	for range 200 {
		scores, weights := pick(r, 9), weigh(r, 9, 65536)
		rows := slices.Repeat([][]int{pick(r, 4), pick(r, 4), pick(r, 4)}, 3)
		counts, mix, choice, best := Weights(scores...), Mix(weights, rows...), Choose(scores[0], weights...), Best(scores...)
		Exp(scores[1])
		Weights()
		Mix(weights, rows[1:]...)
		Choose(1, -1)
		Best()
		if !slices.Equal(Weights(scores...), counts) || !slices.Equal(Mix(weights, rows...), mix) || Choose(scores[0], weights...) != choice || Best(scores...) != best {
			t.Errorf("%v, %v", scores, weights)
		}
	}
}

func FuzzScores(f *testing.F) {
	f.Add(5, 5, -3)
	f.Add(math.MaxInt, math.MinInt, 0)
	f.Fuzz(func(t *testing.T, a, b, c int) {
		for _, list := range [][]int{{a}, {a, b}, {a, b, c}, {c, c, a, b, a}, {a, a + 1, a - 9}} {
			if got, want := Weights(list...), counted(list); !slices.Equal(got, want) {
				t.Errorf("%v: %v, not %v", list, got, want)
			}
			if got, want := Best(list...), slices.Index(list, slices.Max(list)); got != want {
				t.Errorf("%v: %d, not %d", list, got, want)
			}
		}
		if got, want := Exp(a), counts(a); got != want {
			t.Errorf("%d: %d, not %d", a, got, want)
		}
	})
}

func FuzzMix(f *testing.F) {
	f.Add(1, 1, 0, 7, -7, 0)
	f.Add(65536, 0, 65536, math.MaxInt, math.MinInt, -1)
	f.Add(65537, 1, 1, 1, 1, 1)
	f.Fuzz(func(t *testing.T, u, v, w, a, b, c int) {
		weights, rows := []int{u, v, w}, [][]int{{a, b, c, -a, 1}, {b, c, a, a, 2}, {c, a, b, b / 3, 3}}
		if slices.Min(weights) < 0 || slices.Max(weights) > 65536 || slices.Max(weights) == 0 {
			nothing(t, "weights that can't be", weights, rows...)
			return
		}
		got, want := Mix(weights, rows...), mixed(weights, rows)
		if !slices.Equal(got, want) {
			t.Errorf("%v of %v: %v, not %v", weights, rows, got, want)
		}
		for _, x := range got {
			if x < -api.MaxAct || x > api.MaxAct {
				t.Error(x)
			}
		}
		nothing(t, "a row too few", weights, rows[1:]...)
		nothing(t, "a weight too few", weights[1:], rows...)
		rows[1] = rows[1][1:]
		nothing(t, "a number too few", weights, rows...)
	})
}

func FuzzChoose(f *testing.F) {
	f.Add(2, []byte("\x00\x02\x03"), 0, 0)
	f.Add(-1, []byte("\x01\x00\x01"), 2, 1<<20+1)
	f.Fuzz(func(t *testing.T, draw int, bytes []byte, at, other int) {
		weights := []int{}
		for _, b := range bytes {
			weights = append(weights, int(b))
		}
		want := chosen(draw, weights)
		if len(weights) > 64 {
			want = -1
		}
		if got := Choose(draw, weights...); got != want {
			t.Errorf("%d of %v: %d, not %d", draw, weights, got, want)
		}
		if at < 0 || at >= len(weights) || other >= 0 && other <= 1<<20 {
			return
		}
		weights[at] = other
		if got := Choose(draw, weights...); got != -1 {
			t.Errorf("%d of %v: %d", draw, weights, got)
		}
	})
}
