package vecs

import (
	"bytes"
	"math"
	"math/rand"
	"slices"
	"testing"

	"coadjutor/api"
	"coadjutor/num"
)

const most = 64

// grid is a table as the chapter tells it, row by row.
type grid [][]int8

// gridOf: a grid of numbers that a rule tells.
func gridOf(rows, cols int, rule func(row, col int) int) grid {
	g := make(grid, rows)
	for r := range g {
		for c := range cols {
			g[r] = append(g[r], int8(rule(r, c)))
		}
	}
	return g
}

func (g grid) table() Table {
	return Table{Rows: len(g), Cols: len(g[0]), Data: slices.Concat(g...)}
}

// text: a byte a number, one below 0 as 256 and it.
func (g grid) text() string {
	list := []byte{}
	for _, x := range slices.Concat(g...) {
		if x < 0 {
			list = append(list, byte(256+int(x)))
		} else {
			list = append(list, byte(x))
		}
	}
	return string(list)
}

func (g grid) row(at int) []int {
	row := []int{}
	for _, x := range g[at] {
		row = append(row, int(x))
	}
	return row
}

func (g grid) times(v []int, shift int) []int {
	list := []int{}
	for at := range g {
		total := 0
		for i, x := range g.row(at) {
			// At most 64 times 2^7 times 2^30: that can't wrap round.
			total += x * num.Clamp(v[i], -1<<30, 1<<30)
		}
		list = append(list, num.Sat(num.Shift(total, shift)))
	}
	return list
}

// shapes: tables' sides, both ends among them.
func shapes() [][2]int {
	return [][2]int{{1, 1}, {1, 2}, {2, 1}, {2, 2}, {2, 3}, {3, 2}, {5, 7}, {8, 8}, {1, 63}, {63, 1}, {1, most}, {most, 1}, {16, 32}, {32, 16}, {63, most}, {most, 63}, {most, most}}
}

// grids: some of each shape.
func grids() []grid {
	list := []grid{}
	r := rand.New(rand.NewSource(11))
	for _, s := range shapes() {
		list = append(list,
			gridOf(s[0], s[1], func(row, col int) int { return row*s[1] + col }),
			gridOf(s[0], s[1], func(row, col int) int { return 3*row - 5*col }),
			gridOf(s[0], s[1], func(int, int) int { return -128 }),
			gridOf(s[0], s[1], func(int, int) int { return 127 }),
			gridOf(s[0], s[1], func(int, int) int { return r.Intn(256) - 128 }),
		)
	}
	return list
}

// edges: numbers around 0, the bounds of activations and of factors, and the ends of the type.
func edges() []int {
	return []int{
		0, 1, -1, 2, -2, 3, -3, 7, -7, 100, -100, 127, -128, 255, 256,
		32766, 32767, 32768, -32766, -32767, -32768, 1<<30 - 1, 1 << 30, 1<<30 + 1, -1<<30 + 1, -1 << 30, -1<<30 - 1,
		1 << 40, -1 << 40, 1<<61 - 1, 1 << 61, 1<<61 + 1, -1 << 61, -1<<61 - 1, 1 << 62, -1 << 62, math.MaxInt, math.MaxInt - 1, math.MinInt, math.MinInt + 1,
	}
}

// shifts: those that shift, those that don't, and those that leave nothing.
func shifts() []int {
	return []int{0, 1, 2, 3, 7, 8, 15, 29, 30, 31, 43, 44, 61, 62, 63, 64, 65, math.MaxInt, -1, -8, -64, math.MinInt}
}

// pick: some of the edges, and some small numbers.
func pick(r *rand.Rand, n int) []int {
	list := make([]int, n)
	for i := range list {
		list[i] = r.Intn(2001) - 1000
		if r.Intn(4) == 0 {
			list[i] = edges()[r.Intn(len(edges()))]
		}
	}
	return list
}

// strange: sides that no table has.
func strange() []int {
	return []int{0, -1, -2, -8, -63, -64, -65, 65, 66, 127, 128, 256, 257, 1000, 1<<16 + 1, 1<<31 - 1, 1 << 31, 1 << 32, 1<<32 + 1, 1<<58 + 1, 1 << 62, math.MaxInt, math.MinInt, math.MinInt + 1}
}

// unfit: tables that can't be, with and without numbers.
func unfit() []Table {
	list := []Table{
		{}, {Data: []int8{1}}, {Rows: 1}, {Cols: 1}, {Rows: 1, Cols: 1}, {Rows: 1, Cols: 1, Data: []int8{}}, {Rows: 1, Data: []int8{1}}, {Cols: 1, Data: []int8{1}},
		{Rows: -1, Cols: -1, Data: []int8{1}}, {Rows: -2, Cols: -3, Data: make([]int8, 6)},
		{Rows: 65, Cols: 1, Data: make([]int8, 65)}, {Rows: 1, Cols: 65, Data: make([]int8, 65)}, {Rows: 65, Cols: 65, Data: make([]int8, 65*65)}, {Rows: 2, Cols: 128, Data: make([]int8, 256)},
		// Products that wrap round to how many numbers there are.
		{Rows: 1 << 32, Cols: 1 << 32}, {Rows: 1 << 62, Cols: 4}, {Rows: 4, Cols: 1 << 62}, {Rows: 2, Cols: 1<<63 - 1 - 1<<62}, {Rows: 1 << 32, Cols: 1<<32 + 1, Data: []int8{}}, {Rows: math.MinInt, Cols: 2}, {Rows: 2, Cols: math.MinInt},
		{Rows: 3, Cols: -6148914691236517205, Data: []int8{1}}, {Rows: -6148914691236517205, Cols: 3, Data: []int8{1}},
	}
	for _, s := range shapes() {
		size := s[0] * s[1]
		for _, other := range []int{0, size - 1, size + 1, 2 * size} {
			list = append(list, Table{Rows: s[0], Cols: s[1], Data: make([]int8, other)})
		}
	}
	for _, x := range strange() {
		list = append(list, Table{Rows: x, Cols: 1, Data: []int8{1}}, Table{Rows: 1, Cols: x, Data: []int8{1}}, Table{Rows: x, Cols: x}, Table{Rows: x, Cols: 64, Data: make([]int8, 64)}, Table{Rows: 64, Cols: x, Data: make([]int8, 64)})
	}
	return list
}

// same: whether an answer is OK, and these numbers.
func same(t testing.TB, name string, got []int, errno api.Errno, want []int) {
	t.Helper()
	if errno != api.OK || !slices.Equal(got, want) {
		t.Errorf("%s: %v, %d, not %v", name, got, errno, want)
	}
}

// refused: whether an answer is this error, and nothing beside it.
func refused(t testing.TB, name string, got []int, errno, want api.Errno) {
	t.Helper()
	if errno != want || len(got) != 0 {
		t.Errorf("%s: %v, %d, not %d", name, got, errno, want)
	}
}

// P11.1

func TestGood(t *testing.T) {
	for rows := -2; rows <= most+3; rows++ {
		for cols := -2; cols <= most+3; cols++ {
			can := rows >= 1 && rows <= most && cols >= 1 && cols <= most
			size := rows * cols
			for n := max(size-1, 0); n <= max(size, 0)+1; n++ {
				if got := Good(Table{Rows: rows, Cols: cols, Data: make([]int8, n)}); got != (can && n == size) {
					t.Errorf("%d times %d, %d numbers: %v", rows, cols, n, got)
				}
			}
		}
	}
	for _, x := range unfit() {
		if Good(x) {
			t.Errorf("%d times %d, %d numbers", x.Rows, x.Cols, len(x.Data))
		}
	}
	// A room is no number.
	if x := (Table{Rows: 2, Cols: 2, Data: make([]int8, 3, 4)}); Good(x) {
		t.Error("three numbers, and room for one")
	}
	if x := (Table{Rows: 2, Cols: 2, Data: make([]int8, 4, 9)}); !Good(x) {
		t.Error("four numbers, and room for more")
	}
}

func TestBytes(t *testing.T) {
	for i, c := range []struct {
		x    Table
		want string
	}{
		{Table{1, 3, []int8{0, 1, 127}}, "\x00\x01\x7f"},
		{Table{3, 1, []int8{-1, -128, -127}}, "\xff\x80\x81"},
		{Table{2, 2, []int8{1, 2, 3, 4}}, "\x01\x02\x03\x04"},
		{Table{2, 1, []int8{-2, 65}}, "\xfeA"},
		{Table{}, ""},
		// A table that can't be has its Data too.
		{Table{Data: []int8{-1, 5}}, "\xff\x05"},
		{Table{Rows: 7, Cols: -7, Data: []int8{-128}}, "\x80"},
		{Table{Rows: 2, Cols: 2}, ""},
		{Table{Rows: 2, Cols: 2, Data: []int8{1, 2, 3}}, "\x01\x02\x03"},
		{Table{Rows: 1, Cols: 1, Data: []int8{1, 2, 3}}, "\x01\x02\x03"},
	} {
		if got := Bytes(c.x); got != c.want {
			t.Errorf("%d: %q, not %q", i, got, c.want)
		}
	}
	all := gridOf(4, most, func(row, col int) int { return row*most + col - 128 })
	for i, b := range []byte(Bytes(all.table())) {
		if want := (i - 128 + 256) % 256; int(b) != want {
			t.Errorf("%d: %d, not %d", i-128, b, want)
		}
	}
	for _, g := range grids() {
		if got := Bytes(g.table()); got != g.text() {
			t.Errorf("%d times %d: %q, not %q", len(g), len(g[0]), got, g.text())
		}
	}
}

func TestOf(t *testing.T) {
	for _, g := range grids() {
		want := g.table()
		x, errno := Of(want.Rows, want.Cols, g.text())
		if errno != api.OK || x.Rows != want.Rows || x.Cols != want.Cols || !slices.Equal(x.Data, want.Data) {
			t.Errorf("%d times %d: %v, %d", want.Rows, want.Cols, x, errno)
		}
		if !Good(x) || Bytes(x) != g.text() {
			t.Errorf("%d times %d: the way back is %q", want.Rows, want.Cols, Bytes(x))
		}
	}
	x, errno := Of(2, 3, "\x01\xff\x80\x7f\x00\x02")
	if errno != api.OK || x.Rows != 2 || x.Cols != 3 || !slices.Equal(x.Data, []int8{1, -1, -128, 127, 0, 2}) {
		t.Error(x, errno)
	}
	for b := range 256 {
		want := int8(b - 256)
		if b < 128 {
			want = int8(b)
		}
		if x, errno := Of(1, 1, string([]byte{byte(b)})); errno != api.OK || x.Data[0] != want {
			t.Errorf("%d: %v, %d, not %d", b, x, errno, want)
		}
	}
}

// none: whether there is no table, and this error.
func none(t testing.TB, rows, cols int, s string, want api.Errno) {
	t.Helper()
	if x, errno := Of(rows, cols, s); errno != want || x.Rows != 0 || x.Cols != 0 || len(x.Data) != 0 {
		t.Errorf("%d times %d, %d bytes: %v, %d, not %d", rows, cols, len(s), x, errno, want)
	}
}

func TestOfNone(t *testing.T) {
	bytes := func(n int) string { return string(make([]byte, n)) }
	for rows := 1; rows <= most; rows++ {
		for cols := 1; cols <= most; cols++ {
			size := rows * cols
			none(t, rows, cols, bytes(size-1), api.ErrForm)
			none(t, rows, cols, bytes(size+1), api.ErrForm)
			if x, errno := Of(rows, cols, bytes(size)); errno != api.OK || !Good(x) {
				t.Errorf("%d times %d: %d", rows, cols, errno)
			}
		}
	}
	for _, x := range strange() {
		// ErrArg is said first, whatever the bytes are.
		for _, s := range []string{"", "a", bytes(65), bytes(128), bytes(4096), bytes(65 * 64), bytes(65 * 65)} {
			for _, side := range []int{1, 2, 63, 64} {
				none(t, x, side, s, api.ErrArg)
				none(t, side, x, s, api.ErrArg)
			}
			none(t, x, x, s, api.ErrArg)
		}
	}
	for _, size := range []int{0, 1, 4, 5, 7, 8, 12, 36, 4096} {
		none(t, 2, 3, bytes(size), api.ErrForm)
	}
	// Runes are no bytes.
	none(t, 1, 2, "äö", api.ErrForm)
	if x, errno := Of(1, 2, "ä"); errno != api.OK || !slices.Equal(x.Data, []int8{-61, -92}) {
		t.Error(x, errno)
	}
}

func TestRow(t *testing.T) {
	x := Table{2, 3, []int8{1, -1, -128, 127, 0, 2}}
	same(t, "row 0", x.Row(0), api.OK, []int{1, -1, -128})
	same(t, "row 1", x.Row(1), api.OK, []int{127, 0, 2})
	for _, g := range grids() {
		x := g.table()
		for at := range g {
			same(t, "row", x.Row(at), api.OK, g.row(at))
		}
		for _, at := range []int{-1, -2, -x.Rows, x.Rows, x.Rows + 1, x.Rows + x.Cols, x.Rows * x.Cols, 1 << 32, 1 << 58, 1 << 62, math.MinInt, math.MaxInt} {
			if row := x.Row(at); len(row) != 0 {
				t.Errorf("%d times %d, row %d: %v", x.Rows, x.Cols, at, row)
			}
		}
	}
	for _, x := range unfit() {
		for _, at := range []int{-1, 0, 1, 2, 64, math.MinInt, math.MaxInt} {
			if row := x.Row(at); len(row) != 0 {
				t.Errorf("%d times %d, %d numbers, row %d: %v", x.Rows, x.Cols, len(x.Data), at, row)
			}
		}
	}
}

// P11.2

func TestTimes(t *testing.T) {
	for i, c := range []struct {
		x     Table
		v     []int
		shift int
		want  []int
	}{
		{Table{2, 2, []int8{1, 2, 3, 4}}, []int{5, 6}, 0, []int{17, 39}},
		{Table{2, 2, []int8{1, 2, 3, 4}}, []int{5, 6}, -3, []int{17, 39}},
		{Table{2, 2, []int8{1, 2, 3, 4}}, []int{5, 6}, 1, []int{9, 20}},
		{Table{2, 2, []int8{1, 2, 3, 4}}, []int{-5, -6}, 1, []int{-8, -19}},
		{Table{2, 2, []int8{1, 2, 3, 4}}, []int{5, 6}, 5, []int{1, 1}},
		{Table{2, 2, []int8{1, 2, 3, 4}}, []int{5, 6}, 6, []int{0, 1}},
		{Table{2, 2, []int8{1, 2, 3, 4}}, []int{5, 6}, 63, []int{0, 0}},
		// The sum is rounded, not each product: 1 + 1 + 1 by 2 is 2, not 3.
		{Table{1, 3, []int8{1, 1, 1}}, []int{1, 1, 1}, 1, []int{2}},
		// As many rows as columns in no case.
		{Table{1, 3, []int8{1, 10, 100}}, []int{3, 2, 1}, 0, []int{123}},
		{Table{3, 1, []int8{1, 10, 100}}, []int{3}, 0, []int{3, 30, 300}},
		{Table{3, 2, []int8{1, 0, 0, 1, 1, -1}}, []int{7, 4}, 0, []int{7, 4, 3}},
		// Sat at the end, not ahead of the shift, nor in v, nor between two products.
		{Table{2, 1, []int8{127, -128}}, []int{258}, 0, []int{32766, -32767}},
		{Table{2, 1, []int8{127, -128}}, []int{259}, 0, []int{32767, -32767}},
		{Table{1, 2, []int8{1, 1}}, []int{1, 32766}, 0, []int{32767}},
		{Table{1, 2, []int8{1, 1}}, []int{2, 32766}, 0, []int{32767}},
		{Table{1, 2, []int8{-1, -1}}, []int{1, 32766}, 0, []int{-32767}},
		{Table{1, 2, []int8{-1, -1}}, []int{2, 32766}, 0, []int{-32767}},
		{Table{1, 1, []int8{1}}, []int{65534}, 1, []int{32767}},
		{Table{1, 1, []int8{100}}, []int{1000}, 2, []int{25000}},
		{Table{1, 2, []int8{1, 1}}, []int{100000, -90000}, 0, []int{10000}},
		{Table{1, 3, []int8{127, 127, -127}}, []int{1000, 1000, 1999}, 0, []int{127}},
		// Factors are clamped at 2^30 on either side.
		{Table{2, 1, []int8{1, -1}}, []int{1 << 30}, 20, []int{1024, -1024}},
		{Table{2, 1, []int8{1, -1}}, []int{1 << 31}, 20, []int{1024, -1024}},
		{Table{2, 1, []int8{1, -1}}, []int{math.MaxInt}, 20, []int{1024, -1024}},
		{Table{2, 1, []int8{1, -1}}, []int{math.MinInt}, 20, []int{-1024, 1024}},
		{Table{1, 2, []int8{2, -1}}, []int{math.MaxInt, math.MaxInt}, 20, []int{1024}},
	} {
		got, errno := c.x.Times(c.v, c.shift)
		if errno != api.OK || !slices.Equal(got, c.want) {
			t.Errorf("%d: %v, %d, not %v", i, got, errno, c.want)
		}
	}
}

func TestTimesAll(t *testing.T) {
	r := rand.New(rand.NewSource(112))
	for _, g := range grids() {
		x := g.table()
		for _, shift := range shifts() {
			for range 3 {
				v := pick(r, x.Cols)
				got, errno := x.Times(v, shift)
				same(t, "times", got, errno, g.times(v, shift))
			}
		}
		for _, n := range edges() {
			v := slices.Repeat([]int{n}, x.Cols)
			for _, shift := range []int{0, 8, 24} {
				got, errno := x.Times(v, shift)
				same(t, "the same number", got, errno, g.times(v, shift))
			}
		}
	}
}

func TestTimesNone(t *testing.T) {
	for _, g := range grids() {
		x := g.table()
		for _, n := range []int{0, 1, x.Cols - 1, x.Cols + 1, 2 * x.Cols, x.Rows, x.Rows * x.Cols, 64, 65, 1000} {
			if n == x.Cols {
				continue
			}
			for _, shift := range []int{0, 3, -1, math.MaxInt} {
				got, errno := x.Times(make([]int, n), shift)
				refused(t, "a row of another length", got, errno, api.ErrArg)
			}
		}
		got, errno := x.Times(nil, 0)
		refused(t, "nil", got, errno, api.ErrArg)
		// Room is no number.
		got, errno = x.Times(make([]int, x.Cols-1, x.Cols), 0)
		refused(t, "room", got, errno, api.ErrArg)
	}
	for _, x := range unfit() {
		for _, n := range []int{0, 1, 2, 3, 63, 64, 65, min(max(x.Cols, 0), 300), len(x.Data)} {
			got, errno := x.Times(make([]int, n), 0)
			refused(t, "a table that can't be", got, errno, api.ErrArg)
		}
	}
}

// P11.3

// columns: the Sum of each place, told by places.
func columns(list [][]int) []int {
	sums := []int{}
	if len(list) == 0 {
		return sums
	}
	for at := range list[0] {
		place := []int{}
		for _, v := range list {
			place = append(place, v[at])
		}
		sums = append(sums, num.Sat(num.Sum(place...)))
	}
	return sums
}

func TestPlus(t *testing.T) {
	const much = 1 << 61
	for i, c := range []struct {
		list [][]int
		want []int
	}{
		{nil, nil},
		{[][]int{}, nil},
		{[][]int{nil}, nil},
		{[][]int{{}, nil, {}}, nil},
		{[][]int{{1, -2, 3}}, []int{1, -2, 3}},
		{[][]int{{1, 2}, {30, 40}}, []int{31, 42}},
		{[][]int{{1, 2, 3}, {30, 40, 50}, {-500, 600, -700}}, []int{-469, 642, -647}},
		{[][]int{{1}, {2}, {3}, {4}, {5}}, []int{15}},
		// One row alone is clamped too.
		{[][]int{{32766, 32767, 32768, -32766, -32767, -32768}}, []int{32766, 32767, 32767, -32766, -32767, -32767}},
		{[][]int{{math.MaxInt, math.MinInt}}, []int{32767, -32767}},
		// Sat of the whole sum, not of each number, nor between.
		{[][]int{{30000, 1}, {30000, -5}, {1, 1}}, []int{32767, -3}},
		{[][]int{{30000}, {30000}, {-30000}}, []int{30000}},
		{[][]int{{100000}, {-90000}}, []int{10000}},
		{[][]int{{-100000}, {90000}, {20000}}, []int{10000}},
		{[][]int{{32767}, {1}}, []int{32767}},
		{[][]int{{-32767}, {-1}}, []int{-32767}},
		// Sum's bounds: each number at 2^61, and the sum at 2^62, from where it goes on.
		{[][]int{{math.MaxInt}, {-much}}, []int{0}},
		{[][]int{{math.MinInt}, {much}, {7}}, []int{7}},
		{[][]int{{much}, {much}, {much}, {-much}, {-much}, {5}}, []int{5}},
		{[][]int{{-much}, {-much}, {-much}, {much}, {much}, {5}}, []int{5}},
		{[][]int{{much}, {much}, {1}, {-much}, {-much}}, []int{0}},
		{[][]int{{1}, {much}, {much}, {-much}, {-much}}, []int{0}},
		{[][]int{{1}, {much}, {-much}}, []int{1}},
		{[][]int{{math.MaxInt, math.MinInt}, {math.MinInt, math.MaxInt}, {9, 9}}, []int{9, 9}},
	} {
		got, errno := Plus(c.list...)
		if errno != api.OK || !slices.Equal(got, c.want) {
			t.Errorf("%d: %v, %d, not %v", i, got, errno, c.want)
		}
	}
	if got, errno := Plus(); errno != api.OK || len(got) != 0 {
		t.Error(got, errno)
	}
}

func TestPlusAll(t *testing.T) {
	r := rand.New(rand.NewSource(113))
	for _, rows := range []int{1, 2, 3, 4, 5, 9, 64, 65, 300} {
		for _, size := range []int{0, 1, 2, 3, 16, 64, 65, 300} {
			for range 3 {
				list := [][]int{}
				for range rows {
					list = append(list, pick(r, size))
				}
				got, errno := Plus(list...)
				same(t, "plus", got, errno, columns(list))
			}
		}
	}
	// More than a table has.
	long := slices.Repeat([]int{3, -4}, 50000)
	got, errno := Plus(long, long)
	same(t, "a long row", got, errno, slices.Repeat([]int{6, -8}, 50000))
	got, errno = Plus(slices.Repeat([][]int{{1, -1}}, 20000)...)
	same(t, "many rows", got, errno, []int{20000, -20000})
	got, errno = Plus(slices.Repeat([][]int{{1, -1}}, 40000)...)
	same(t, "more rows", got, errno, []int{32767, -32767})
}

func TestPlusNone(t *testing.T) {
	for i, list := range [][][]int{
		{{1}, nil}, {nil, {1}}, {{}, {1}}, {{1}, {}}, {{1}, {1, 2}}, {{1, 2}, {1}}, {{1, 2}, {3, 4}, {5}}, {{1, 2}, {3, 4}, {5, 6, 7}}, {{1}, {3, 4}, {5, 6}}, {{1, 2, 3}, {3, 4}, {5, 6}},
		{{1, 2}, {3}, {5, 6}}, {{1, 2}, {3, 4, 5}, {6, 7}}, {nil, nil, {0}}, {{0}, nil, nil}, {make([]int, 1, 2), {1, 2}}, {{1, 2}, make([]int, 1, 2)},
	} {
		if got, errno := Plus(list...); errno != api.ErrArg || len(got) != 0 {
			t.Errorf("%d: %v, %d", i, got, errno)
		}
	}
	// One of many, wherever it is.
	for n := 2; n <= 9; n++ {
		for at := range n {
			for _, size := range []int{0, 2, 4} {
				list := [][]int{}
				for range n {
					list = append(list, []int{1, 2, 3})
				}
				list[at] = make([]int, size)
				got, errno := Plus(list...)
				refused(t, "one of another length", got, errno, api.ErrArg)
			}
		}
	}
}

func TestScale(t *testing.T) {
	for i, c := range []struct {
		v        []int
		n, shift int
		want     []int
	}{
		{nil, 3, 1, nil},
		{[]int{}, 3, 1, nil},
		{[]int{7, -7}, 3, 1, []int{11, -10}},
		{[]int{7, -7}, 3, 0, []int{21, -21}},
		{[]int{7, -7}, 3, -5, []int{21, -21}},
		{[]int{7, -7}, -3, 2, []int{-5, 5}},
		{[]int{1, 2, 3, 4, 5}, 0, 1, []int{0, 0, 0, 0, 0}},
		{[]int{1, 2, 3, 4, 5}, 1, 0, []int{1, 2, 3, 4, 5}},
		{[]int{1, 2, 3, 4, 5}, 1, 1, []int{1, 1, 2, 2, 3}},
		{[]int{32767, 32768, -32767, -32768}, 1, 0, []int{32767, 32767, -32767, -32767}},
		// Sat behind the shift.
		{[]int{100000, -100000}, 2, 3, []int{25000, -25000}},
		{[]int{300, -300}, 300, 0, []int{32767, -32767}},
		// Factors are clamped at 2^30 on either side.
		{[]int{1 << 31, math.MaxInt, math.MinInt}, 1, 20, []int{1024, 1024, -1024}},
		{[]int{1, -1}, 1 << 31, 20, []int{1024, -1024}},
		{[]int{1, -1}, math.MinInt, 20, []int{-1024, 1024}},
		{[]int{math.MaxInt, math.MinInt}, math.MaxInt, 60, []int{1, -1}},
		{[]int{math.MaxInt, math.MinInt}, math.MaxInt, 63, []int{0, 0}},
	} {
		if got := Scale(c.v, c.n, c.shift); !slices.Equal(got, c.want) {
			t.Errorf("%d: %v, not %v", i, got, c.want)
		}
	}
	list := edges()
	for _, n := range edges() {
		for _, shift := range shifts() {
			got := Scale(list, n, shift)
			if len(got) != len(list) {
				t.Fatalf("by %d and %d: %d numbers", n, shift, len(got))
			}
			for i, x := range list {
				if want := num.Mul(x, n, shift); got[i] != want {
					t.Errorf("%d by %d and %d: %d, not %d", x, n, shift, got[i], want)
				}
			}
		}
	}
	if got := Scale(slices.Repeat([]int{3, -4}, 50000), 5, 1); !slices.Equal(got, slices.Repeat([]int{8, -10}, 50000)) {
		t.Error("a long row")
	}
}

// P11.4

// small: numbers so small that nothing is clamped, times 2^shift, so that nothing is rounded.
func small(r *rand.Rand, n, shift int) []int {
	list := make([]int, n)
	for i := range list {
		list[i] = (r.Intn(7) - 3) << shift
	}
	return list
}

func TestTimesOfPlus(t *testing.T) {
	r := rand.New(rand.NewSource(114))
	for _, s := range shapes() {
		for _, shift := range []int{0, 1, 4, 10} {
			// At most 64 times 10 times 3 times 8 rows, and that is below 32767.
			x := gridOf(s[0], s[1], func(int, int) int { return r.Intn(21) - 10 }).table()
			for count := 1; count <= 8; count++ {
				list, each := [][]int{}, [][]int{}
				for range count {
					v := small(r, s[1], shift)
					part, errno := x.Times(v, shift)
					if errno != api.OK {
						t.Fatal(errno)
					}
					list, each = append(list, v), append(each, part)
				}
				sum, errno := Plus(list...)
				if errno != api.OK {
					t.Fatal(errno)
				}
				of, errno := x.Times(sum, shift)
				if errno != api.OK {
					t.Fatal(errno)
				}
				want, errno := Plus(each...)
				same(t, "a table times a sum", of, errno, want)
			}
		}
	}
}

// Rule 3

func TestArgumentsAreLeft(t *testing.T) {
	room := append(edges(), 11, 12, 13)
	was := slices.Clone(room)
	v := room[:4]
	data := []int8{1, -2, 3, -4, 5, -6, 7, -8, 99, 98}
	kept := slices.Clone(data)
	x := Table{2, 4, data[:8]}
	lists := [][]int{v, room[4:8], v, room[:4:4], nil}[:4]
	Good(x)
	Bytes(x)
	x.Row(0)
	x.Row(1)
	x.Times(v, 1)
	x.Times(room, 1)
	Plus(lists...)
	Plus(v, room)
	Plus(v)
	Scale(v, 3, 1)
	if !slices.Equal(room, was) || !slices.Equal(data, kept) {
		t.Error("a list was changed")
	}
	if len(lists) != 4 || &lists[0][0] != &room[0] || &lists[1][0] != &room[4] || len(lists[1]) != 4 || lists[:5][4] != nil {
		t.Error("the list of lists was changed")
	}
}

func TestAnswersAreNew(t *testing.T) {
	x, _ := Of(2, 2, "\x01\x02\x03\x04")
	other, _ := Of(2, 2, "\x01\x02\x03\x04")
	text := Bytes(x)
	row, again := x.Row(0), x.Row(0)
	v := []int{1, 2}
	times, _ := x.Times(v, 0)
	plus, _ := Plus(v)
	scale := Scale(v, 1, 0)
	for _, list := range [][]int{row, times, plus, scale} {
		for i := range list {
			list[i] = 77
		}
		_ = append(list, 77)
	}
	if !slices.Equal(v, []int{1, 2}) || !slices.Equal(again, []int{1, 2}) || !slices.Equal(x.Data, []int8{1, 2, 3, 4}) {
		t.Error(v, again, x)
	}
	x.Data[0], x.Data[3] = 9, 9
	if text != "\x01\x02\x03\x04" || !slices.Equal(other.Data, []int8{1, 2, 3, 4}) || !slices.Equal(x.Row(1), []int{3, 9}) {
		t.Error(text, other, x)
	}
	v[0] = 50
	if !slices.Equal(plus, []int{77, 77}) || !slices.Equal(scale, []int{77, 77}) {
		t.Error(plus, scale)
	}
}

// A call hangs on its arguments alone.
func TestCallsAgain(t *testing.T) {
	r := rand.New(rand.NewSource(115))
	for _, g := range grids() {
		x, v := g.table(), pick(r, len(g[0]))
		once, _ := x.Times(v, 5)
		scaled := Scale(v, 9, 2)
		summed, _ := Plus(v, v)
		Plus(v, nil)
		x.Times(nil, 0)
		Of(65, 1, "")
		twice, errno := x.Times(v, 5)
		same(t, "times again", twice, errno, once)
		same(t, "scale again", Scale(v, 9, 2), api.OK, scaled)
		again, errno := Plus(v, v)
		same(t, "plus again", again, errno, summed)
	}
}

func FuzzOf(f *testing.F) {
	f.Add(2, 3, "\x01\xff\x80\x7f\x00\x02")
	f.Add(65, 1, "")
	f.Add(1<<32, 1<<32, "")
	f.Add(-1, -1, "a")
	f.Fuzz(func(t *testing.T, rows, cols int, s string) {
		if rows < 1 || rows > most || cols < 1 || cols > most {
			none(t, rows, cols, s, api.ErrArg)
			return
		}
		if len(s) != rows*cols {
			none(t, rows, cols, s, api.ErrForm)
			return
		}
		x, errno := Of(rows, cols, s)
		if errno != api.OK || !Good(x) || x.Rows != rows || x.Cols != cols || Bytes(x) != s {
			t.Fatal(x, errno)
		}
		for at := range rows {
			row := x.Row(at)
			back := make([]byte, len(row))
			for i, n := range row {
				back[i] = byte(n & 255)
				if n < -128 || n > 127 {
					t.Fatal(n)
				}
			}
			if !bytes.Equal(back, []byte(s[at*cols:(at+1)*cols])) {
				t.Fatal(at, row)
			}
		}
	})
}

func FuzzTimes(f *testing.F) {
	f.Add(2, 2, []byte("\x01\x02\x03\x04"), int64(1), 0)
	f.Add(1, 64, []byte("\x80"), int64(2), 44)
	f.Fuzz(func(t *testing.T, rows, cols int, data []byte, seed int64, shift int) {
		r := rand.New(rand.NewSource(seed))
		if rows < 1 || rows > most || cols < 1 || cols > most || len(data) == 0 {
			list := make([]int8, len(data))
			x := Table{rows, cols, list}
			if Good(x) {
				t.Fatal(x)
			}
			got, errno := x.Times(make([]int, len(data)), shift)
			refused(t, "times", got, errno, api.ErrArg)
			return
		}
		g := gridOf(rows, cols, func(row, col int) int { return int(data[(row*cols+col)%len(data)]) })
		v := pick(r, cols)
		got, errno := g.table().Times(v, shift)
		same(t, "times", got, errno, g.times(v, shift))
	})
}

func FuzzPlusScale(f *testing.F) {
	f.Add(3, 4, int64(1), 0, 1)
	f.Add(1, 0, int64(2), -4, 0)
	f.Fuzz(func(t *testing.T, rows, size int, seed int64, n, shift int) {
		if rows < 0 || rows > 40 || size < 0 || size > 40 {
			return
		}
		r := rand.New(rand.NewSource(seed))
		list := [][]int{}
		for range rows {
			list = append(list, pick(r, size))
		}
		got, errno := Plus(list...)
		same(t, "plus", got, errno, columns(list))
		for _, v := range list {
			want := []int{}
			for _, x := range v {
				want = append(want, num.Mul(x, n, shift))
			}
			same(t, "scale", Scale(v, n, shift), api.OK, want)
		}
		if rows > 0 {
			list[r.Intn(rows)] = make([]int, size+1)
			got, errno = Plus(append(list, make([]int, size))...)
			refused(t, "plus", got, errno, api.ErrArg)
		}
	})
}
