package norm

import (
	"math"
	"math/big"
	"math/rand"
	"slices"
	"testing"

	"coadjutor/api"
)

// edges: numbers around 0, around what activations and gains are, around squares' bounds, and the ends of the type.
func edges() []int {
	return []int{
		0, 1, -1, 2, -2, 3, -3, 63, -63, 64, -64, 65, -65, 126, 127, 128, 129, -127, -128, -129, 191, 192, -191, -192, 255, 256, -256,
		181, 182, -181, -182, 23169, 23170, -23170, 23171, 32766, 32767, 32768, 32769, -32766, -32767, -32768, -32769, 46340, 46341, -46341, 65535, 65536, -65536,
		1<<30 - 1, 1 << 30, 1<<30 + 1, -1 << 30, 1<<31 - 1, 1 << 31, -1 << 31, 3037000499, 3037000500, -3037000500, 1 << 32, 1<<32 + 5, -1 << 32, 1 << 40, -1 << 40,
		1 << 61, -1 << 61, 1 << 62, -1 << 62, math.MaxInt, math.MaxInt - 1, math.MaxInt - 63, math.MinInt, math.MinInt + 1, math.MinInt + 64,
	}
}

// clamped: a number within two bounds.
func clamped(x, low, high int) int {
	return min(max(x, low), high)
}

// rooted: the root of a row, by numbers without a bound.
func rooted(row []int) int {
	if len(row) == 0 {
		return 1
	}
	sum := new(big.Int)
	for _, x := range row {
		b := big.NewInt(int64(clamped(x, -32767, 32767)))
		sum.Add(sum, b.Mul(b, b))
	}
	sum.Div(sum, big.NewInt(int64(len(row))))
	return int(sum.Sqrt(sum).Int64()) + 1
}

// normed: the norm of a row by as many gains.
func normed(gains, row []int) []int {
	list, root := []int{}, big.NewInt(int64(rooted(row)))
	for i, x := range row {
		b := big.NewInt(int64(clamped(x, -32767, 32767)))
		b.Mul(b, big.NewInt(int64(64+clamped(gains[i], -128, 127))))
		// Quo rounds toward 0.
		list = append(list, clamped(int(b.Quo(b, root).Int64()), -32767, 32767))
	}
	return list
}

// turned: a row, turned in sign; what has no other number of its size has the greatest one.
func turned(row []int) []int {
	list := []int{}
	for _, x := range row {
		list = append(list, -max(x, -math.MaxInt))
	}
	return list
}

// pick: some of the edges, numbers of every size, and zeros.
func pick(r *rand.Rand, n int) []int {
	list := make([]int, n)
	top := 1 << r.Intn(20)
	for i := range list {
		switch r.Intn(8) {
		case 0:
			list[i] = edges()[r.Intn(len(edges()))]
		case 1:
			list[i] = 0
		default:
			list[i] = r.Intn(2*top+1) - top
		}
	}
	return list
}

// holds: whether all three calls say of a row what the chapter does.
func holds(t testing.TB, gains, row []int) {
	t.Helper()
	if got, want := Root(row...), rooted(row); got != want {
		t.Errorf("the root of %v: %d, not %d", row, got, want)
	}
	if got, want := Of(gains, row...), normed(gains, row); !slices.Equal(got, want) {
		t.Errorf("%v by %v: %v, not %v", row, gains, got, want)
	}
	if got, want := Plain(row...), normed(make([]int, len(row)), row); !slices.Equal(got, want) {
		t.Errorf("%v: %v, not %v", row, got, want)
	}
}

// rowsOf: all rows of n of the numbers.
func rowsOf(n int, of []int) [][]int {
	all := [][]int{{}}
	for range n {
		next := [][]int{}
		for _, row := range all {
			for _, x := range of {
				next = append(next, append(slices.Clone(row), x))
			}
		}
		all = next
	}
	return all
}

// spread: n numbers, all 0 but the first, that is x.
func spread(x, n int) []int {
	row := make([]int, n)
	row[0] = x
	return row
}

// P13.1

func TestRoot(t *testing.T) {
	for i, c := range []struct {
		row  []int
		want int
	}{
		{nil, 1}, {[]int{}, 1}, {[]int{0}, 1}, {[]int{0, 0, 0}, 1}, {make([]int, 500), 1},
		{[]int{1}, 2}, {[]int{-1}, 2}, {[]int{5}, 6}, {[]int{-5}, 6}, {[]int{100, 100, 100}, 101}, {[]int{100, -100, 100}, 101}, {[]int{300, -300}, 301},
		{[]int{3, 4}, 4}, {[]int{4, 3}, 4}, {[]int{7, -1}, 6}, {[]int{-1, 7}, 6},
		// The mean is rounded down: 49 by 3 is 16 and a bit, 47 by 3 is 15 and more, 1 by 2 is 0.
		{[]int{7, 0, 0}, 5}, {[]int{6, 3, 1}, 4}, {[]int{6, 3, 2}, 5}, {[]int{1, 0}, 1}, {[]int{1, 1, 0}, 1}, {[]int{1, 1}, 2}, {[]int{2, 0, 0, 0}, 2}, {[]int{2, 0, 0, 0, 0}, 1}, {[]int{-2, 0, 0, 0}, 2},
		// The root of the mean is rounded down: of 8, 9, 15 and 16.
		{[]int{4, 0}, 3}, {[]int{3, 3}, 4}, {[]int{5, 2, 1}, 4}, {[]int{5, 2, 4, 4}, 4}, {[]int{5, 2, 4, 5}, 5}, {[]int{4, 4}, 5},
		// Numbers are activations ahead of it.
		{[]int{32766}, 32767}, {[]int{32767}, 32768}, {[]int{32768}, 32768}, {[]int{-32767}, 32768}, {[]int{-32768}, 32768}, {[]int{1 << 31}, 32768}, {[]int{1 << 32}, 32768}, {[]int{math.MaxInt}, 32768}, {[]int{math.MinInt}, 32768}, {[]int{-1 << 40, 1 << 40}, 32768},
		{[]int{math.MaxInt, 0}, 23170}, {[]int{0, math.MinInt}, 23170}, {[]int{32767, 0}, 23170}, {[]int{1 << 32, 1 << 40, 0, 0}, 23170},
		{[]int{math.MaxInt, 1, 1, 1}, 16384}, {[]int{math.MinInt, 0, 0, 0}, 16384},
	} {
		if got := Root(c.row...); got != c.want {
			t.Errorf("%d: %d, not %d", i, got, c.want)
		}
	}
}

func TestRootOfOne(t *testing.T) {
	for x := -33000; x <= 33000; x++ {
		if got, want := Root(x), min(max(x, -x), 32767)+1; got != want {
			t.Errorf("%d: %d, not %d", x, got, want)
		}
	}
	for _, x := range edges() {
		want := 32768
		if x > -32767 && x < 32767 {
			want = max(x, -x) + 1
		}
		for _, n := range []int{1, 2, 3, 7, 64, 65, 1000} {
			if got := Root(slices.Repeat([]int{x}, n)...); got != want {
				t.Errorf("%d times %d: %d, not %d", n, x, got, want)
			}
		}
	}
}

func TestOf(t *testing.T) {
	for i, c := range []struct{ gains, row, want []int }{
		{nil, nil, nil}, {[]int{}, nil, nil}, {nil, []int{}, nil},
		{[]int{0, 0}, []int{300, -300}, []int{63, -63}},
		{[]int{0}, []int{0}, []int{0}}, {[]int{127}, []int{0}, []int{0}}, {[]int{-128, 127}, []int{0, 0}, []int{0, 0}},
		// One's root is 2, and -1's too.
		{[]int{0}, []int{1}, []int{32}}, {[]int{0}, []int{-1}, []int{-32}}, {[]int{64}, []int{1}, []int{64}}, {[]int{-64}, []int{1}, []int{0}}, {[]int{-64}, []int{32767}, []int{0}},
		// 64 and the gain are halved, toward 0.
		{[]int{1}, []int{1}, []int{32}}, {[]int{1}, []int{-1}, []int{-32}}, {[]int{2}, []int{1}, []int{33}}, {[]int{-1}, []int{1}, []int{31}}, {[]int{-1}, []int{-1}, []int{-31}},
		{[]int{-63}, []int{1}, []int{0}}, {[]int{-65}, []int{1}, []int{0}}, {[]int{-66}, []int{1}, []int{-1}}, {[]int{-66}, []int{-1}, []int{1}}, {[]int{-67}, []int{1}, []int{-1}}, {[]int{-67}, []int{-1}, []int{1}},
		// Gains are clamped.
		{[]int{126}, []int{1}, []int{95}}, {[]int{127}, []int{-3}, []int{-143}}, {[]int{127}, []int{3}, []int{143}}, {[]int{128}, []int{3}, []int{143}}, {[]int{130}, []int{3}, []int{143}}, {[]int{math.MaxInt}, []int{3}, []int{143}},
		{[]int{-127}, []int{1}, []int{-31}}, {[]int{-128}, []int{1}, []int{-32}}, {[]int{-129}, []int{3}, []int{-48}}, {[]int{-130}, []int{3}, []int{-48}}, {[]int{math.MinInt}, []int{3}, []int{-48}}, {[]int{1 << 32, -1 << 32}, []int{3, 3}, []int{143, -48}},
		{[]int{1000, -1000}, []int{1 << 40, -1 << 40}, []int{190, 63}},
		// Numbers are activations.
		{[]int{0, 0, 0}, []int{32767, 32768, -32768}, []int{63, 63, -63}}, {[]int{0, 0}, []int{math.MaxInt, math.MinInt}, []int{63, -63}}, {[]int{0, 0}, []int{math.MaxInt, 0}, []int{90, 0}}, {[]int{0, 0}, []int{1 << 58, 23170}, []int{73, 52}},
		// Each has its own gain, in order.
		{[]int{0, 64, -64}, []int{100, 100, 100}, []int{63, 126, 0}}, {[]int{-64, 64, 0}, []int{100, -100, -100}, []int{0, -126, -63}}, {[]int{1, 2, 3, 4}, []int{640, 640, 640, 640}, []int{64, 65, 66, 67}},
		{[]int{10, -20}, []int{7, -1}, []int{86, -7}},
	} {
		if got := Of(c.gains, c.row...); !slices.Equal(got, c.want) {
			t.Errorf("%d: %v, not %v", i, got, c.want)
		}
	}
}

func TestOfIsRefused(t *testing.T) {
	for n := range 70 {
		row := slices.Repeat([]int{9, -9}, 40)[:n]
		for m := range 70 {
			gains := slices.Repeat([]int{1, 2}, 40)[:m]
			got := Of(gains, row...)
			if n != m && len(got) != 0 {
				t.Errorf("%d gains and %d numbers: %v", m, n, got)
			}
			if n == m && !slices.Equal(got, normed(gains, row)) {
				t.Errorf("%d gains and numbers: %v", m, got)
			}
		}
	}
	for i, c := range [][2][]int{
		{nil, {5}}, {{}, {5}}, {{5}, nil}, {{5}, {}}, {nil, {0}}, {{0}, nil}, {nil, {1, 2}},
		// Spare room plays no part.
		{make([]int, 1, 2), {1, 2}}, {{1, 2}, make([]int, 1, 2)}, {make([]int, 0, 1), {3}}, {make([]int, 2, 9), {1, 2, 3}},
	} {
		if got := Of(c[0], c[1]...); len(got) != 0 {
			t.Errorf("%d: %v", i, got)
		}
	}
}

func TestPlain(t *testing.T) {
	for i, c := range []struct{ row, want []int }{
		{nil, nil}, {[]int{}, nil}, {[]int{0}, []int{0}}, {[]int{0, 0}, []int{0, 0}}, {[]int{300, -300}, []int{63, -63}}, {[]int{7, -1}, []int{74, -10}}, {[]int{1}, []int{32}}, {[]int{-1}, []int{-32}}, {[]int{-2}, []int{-42}}, {[]int{2}, []int{42}},
		{[]int{1, 0}, []int{64, 0}}, {[]int{1, 0, 0, 0, -1}, []int{64, 0, 0, 0, -64}}, {[]int{-8, 0, 0, 1}, []int{-102, 0, 0, 12}}, {[]int{math.MinInt, math.MaxInt, 1}, []int{-78, 78, 0}}, {[]int{32767}, []int{63}}, {[]int{1 << 40}, []int{63}},
	} {
		if got := Plain(c.row...); !slices.Equal(got, c.want) {
			t.Errorf("%d: %v, not %v", i, got, c.want)
		}
	}
}

// Each number by each gain.
func TestGains(t *testing.T) {
	for g := -200; g <= 200; g++ {
		for x := -20; x <= 20; x++ {
			holds(t, []int{g}, []int{x})
			holds(t, []int{g, -g, 0}, []int{x, 5, 32767})
			holds(t, []int{-g, g}, []int{0, x})
		}
		for _, x := range edges() {
			holds(t, []int{g}, []int{x})
			holds(t, []int{g, g, 1 - g}, []int{x, -1, 0})
		}
	}
	for _, g := range edges() {
		for _, x := range edges() {
			holds(t, []int{g}, []int{x})
			holds(t, []int{g, 3, g}, []int{3, x, x})
		}
	}
}

func TestSmallRows(t *testing.T) {
	for n := range 5 {
		for _, row := range rowsOf(n, []int{-5, -4, -3, -2, -1, 0, 1, 2, 3, 4, 5}) {
			holds(t, []int{-64, 11, -70, 127}[:n], row)
		}
	}
	for n := 1; n <= 3; n++ {
		for _, row := range rowsOf(n, []int{math.MinInt, -32768, -32767, -181, 0, 1, 182, 32766, 32768, 1 << 32, math.MaxInt}) {
			holds(t, []int{127, -128, 1}[:n], row)
			holds(t, []int{math.MinInt, 0, math.MaxInt}[:n], row)
		}
	}
}

func TestRows(t *testing.T) {
	r := rand.New(rand.NewSource(131))
	for _, n := range []int{1, 2, 3, 4, 5, 8, 15, 16, 17, 32, 63, 64, 65, 300, 5000} {
		for range 60 {
			holds(t, pick(r, n), pick(r, n))
		}
	}
}

// A number of a long row can be so far above the root that the norm is clamped.
func TestNormIsClamped(t *testing.T) {
	for i, c := range []struct{ x, n, gain, root, want int }{
		// 32767 by the root of 2^18 is 63 and a bit.
		{32767, 1 << 18, 0, 64, 32767}, {-32767, 1 << 18, 0, 64, -32767}, {32767, 1 << 18, -1, 64, 32255}, {-32767, 1 << 18, -1, 64, -32255},
		{32767, 1 << 18, 1, 64, 32767}, {32767, 1 << 18, 127, 64, 32767}, {-32767, 1 << 18, 127, 64, -32767}, {32767, 1 << 18, -128, 64, -32767}, {-32767, 1 << 18, -128, 64, 32767}, {32767, 1 << 18, -127, 64, -32255},
		{32766, 1 << 18, 0, 64, 32766}, {-32766, 1 << 18, 0, 64, -32766}, {math.MinInt, 1 << 18, 1, 64, -32767}, {math.MaxInt, 1 << 18, 1, 64, 32767},
		{32767, 300000, 0, 60, 32767}, {-32767, 300000, 0, 60, -32767}, {30000, 300000, 0, 55, 32767}, {20000, 300000, 0, 37, 32767}, {-9000, 300000, 0, 17, -32767}, {9000, 300000, -4, 17, 31764},
		{32767, 40000, 127, 164, 32767}, {32767, 40000, 101, 164, 32767}, {-32767, 40000, 101, 164, -32767}, {32767, 40000, 99, 164, 32567}, {-32767, 40000, 99, 164, -32567},
		// The mean is less than one.
		{500, 300000, 0, 1, 32000}, {-500, 300000, 0, 1, -32000}, {512, 300000, 0, 1, 32767}, {-512, 300000, 0, 1, -32767}, {511, 300000, 0, 1, 32704}, {-512, 300000, -1, 1, -32256}, {547, 300000, 0, 1, 32767}, {548, 300000, 0, 2, 17536},
	} {
		row := spread(c.x, c.n)
		if got := Root(row...); got != c.root {
			t.Errorf("%d: the root %d, not %d", i, got, c.root)
		}
		want := spread(c.want, c.n)
		if got := Of(spread(c.gain, c.n), row...); !slices.Equal(got, want) {
			t.Errorf("%d: %v, not %d", i, got[:min(3, len(got))], c.want)
		}
		if got := Plain(row...); c.gain == 0 && !slices.Equal(got, want) {
			t.Errorf("%d: %v, not %d", i, got[:min(3, len(got))], c.want)
		}
	}
}

// The squares of many great numbers are summed without a bound of theirs.
func TestManyGreatNumbers(t *testing.T) {
	for _, n := range []int{4, 5, 8, 1 << 16, 1<<18 + 3, 1 << 20} {
		row := slices.Repeat([]int{math.MaxInt}, n)
		row[n-1] = math.MinInt
		want := slices.Repeat([]int{63}, n)
		want[n-1] = -63
		if got := Root(row...); got != 32768 {
			t.Errorf("%d: %d", n, got)
		}
		if got := Plain(row...); !slices.Equal(got, want) {
			t.Errorf("%d: %v", n, got[:min(3, len(got))])
		}
	}
}

// P13.2

func TestTurnedInSign(t *testing.T) {
	r := rand.New(rand.NewSource(132))
	for range 20000 {
		n := r.Intn(20)
		gains, row := pick(r, n), pick(r, n)
		back := turned(row)
		if Root(row...) != Root(back...) {
			t.Errorf("%v: %d, %d", row, Root(row...), Root(back...))
		}
		if a, b := Of(gains, row...), Of(gains, back...); len(a) != n || !slices.Equal(turned(a), b) {
			t.Errorf("%v by %v: %v, %v", row, gains, a, b)
		}
		if a, b := Plain(row...), Plain(back...); len(a) != n || !slices.Equal(turned(a), b) {
			t.Errorf("%v: %v, %v", row, a, b)
		}
	}
}

func TestGreaterIsNotLess(t *testing.T) {
	r := rand.New(rand.NewSource(133))
	for range 20000 {
		row := pick(r, 2+r.Intn(20))
		slices.Sort(row)
		if list := Plain(row...); len(list) != len(row) || !slices.IsSorted(list) {
			t.Errorf("%v: %v", row, list)
		}
		at := r.Perm(len(row))
		list := make([]int, len(row))
		for i, from := range at {
			list[i] = row[from]
		}
		plain := Plain(list...)
		for i, from := range at {
			for j, other := range at {
				if row[from] > row[other] && plain[i] < plain[j] {
					t.Errorf("%v: %v", list, plain)
				}
			}
		}
	}
	// All that can be told apart, and the ends.
	row := []int{math.MinInt, -1 << 40}
	for x := -33000; x <= 33000; x++ {
		row = append(row, x)
	}
	row = append(row, 1<<40, math.MaxInt)
	if list := Plain(row...); len(list) != len(row) || !slices.IsSorted(list) || list[0] >= -64 || list[len(list)-1] <= 64 {
		t.Error("all numbers")
	}
}

// Rule 3

func TestArgumentsAreLeft(t *testing.T) {
	room := append(edges(), 11, 12, 13)
	gains := append(turned(edges()), 14, 15, 16)
	was, had := slices.Clone(room), slices.Clone(gains)
	n := len(room) - 3
	Root(room[:n]...)
	Plain(room[:n]...)
	Of(gains[:n], room[:n]...)
	Of(gains[:n-1], room[:n]...)
	Of(room[:n], room[:n]...)
	Root(room...)
	Of(nil, room...)
	if !slices.Equal(room, was) || !slices.Equal(gains, had) {
		t.Error("a list was changed")
	}
}

func TestAnswersAreNew(t *testing.T) {
	gains, row := []int{0, 64}, []int{300, -300}
	norm, again, plain, once := Of(gains, row...), Of(gains, row...), Plain(row...), Plain(row...)
	for _, list := range [][]int{norm, plain} {
		for i := range list {
			list[i] = 77
		}
		_ = append(list, 77)
	}
	if !slices.Equal(gains, []int{0, 64}) || !slices.Equal(row, []int{300, -300}) || !slices.Equal(again, []int{63, -127}) || !slices.Equal(once, []int{63, -63}) {
		t.Error(gains, row, again, once)
	}
	gains[0], row[0] = 50, 50
	if !slices.Equal(again, []int{63, -127}) || !slices.Equal(once, []int{63, -63}) {
		t.Error(again, once)
	}
	row[0] = 300
	if got := Plain(row...); !slices.Equal(got, []int{63, -63}) {
		t.Error(got)
	}
}

// A call hangs on its arguments alone.
func TestCallsAgain(t *testing.T) {
	r := rand.New(rand.NewSource(134))
	for range 500 {
		gains, row := pick(r, 9), pick(r, 9)
		root, norm, plain := Root(row...), Of(gains, row...), Plain(row...)
		Root(gains...)
		Of(gains, row[1:]...)
		Of(row, gains...)
		Plain()
		if Root(row...) != root || !slices.Equal(Of(gains, row...), norm) || !slices.Equal(Plain(row...), plain) {
			t.Errorf("%v, %v", gains, row)
		}
	}
}

func FuzzNorm(f *testing.F) {
	f.Add(0, 64, -64, 100, 100, 100, 0)
	f.Add(1000, -1000, 0, 1<<40, -1<<40, 0, 3)
	f.Add(math.MinInt, math.MaxInt, 5, math.MinInt, math.MaxInt, 5, 70)
	f.Fuzz(func(t *testing.T, g, h, i, a, b, c, zeros int) {
		if zeros < 0 || zeros > 1<<12 {
			return
		}
		gains, row := append([]int{g, h, i}, make([]int, zeros)...), append([]int{a, b, c}, make([]int, zeros)...)
		for n := range len(row) + 1 {
			if n > 4 && n < len(row) {
				continue
			}
			holds(t, gains[:n], row[:n])
			if n > 0 && len(Of(gains[:n-1], row[:n]...))+len(Of(gains[:n], row[:n-1]...)) != 0 {
				t.Errorf("%v by %v", row[:n], gains[:n])
			}
		}
		if !slices.Equal(turned(Of(gains, row...)), Of(gains, turned(row)...)) {
			t.Errorf("%v by %v, turned in sign", row, gains)
		}
		for _, x := range Of(gains, row...) {
			if x < -api.MaxAct || x > api.MaxAct {
				t.Error(x)
			}
		}
		slices.Sort(row)
		if !slices.IsSorted(Plain(row...)) {
			t.Errorf("%v", row)
		}
	})
}
