package conf

import (
	"encoding/binary"
	"math"
	"math/big"
	"math/rand"
	"strings"
	"testing"

	"coadjutor/api"
)

// six are a shape's numbers, in their order: Vocab, Dim, Heads, Blocks, Hidden, Context.
type six [6]int

// piece is a part of a block as the chapter tells it: its rows and columns, and from which byte on it stands.
type piece struct {
	part, block, rows, columns, from int
}

func (n six) config() api.Config {
	return api.Config{Vocab: n[0], Dim: n[1], Heads: n[2], Blocks: n[3], Hidden: n[4], Context: n[5]}
}

// with: the same numbers, but for one.
func (n six) with(at, x int) six {
	n[at] = x
	return n
}

// least, most: between which each number can be.
func least() six {
	return six{2, 1, 1, 1, 1, 1}
}

func most() six {
	return six{32, 16, 4, 3, 32, 32}
}

// weigh: how many bytes the weights have, by numbers without a bound.
func (n six) weigh() *big.Int {
	wide := [6]*big.Int{}
	for i, x := range n {
		wide[i] = big.NewInt(int64(x))
	}
	vocab, dim, blocks, hidden, context := wide[0], wide[1], wide[3], wide[4], wide[5]
	times := func(list ...*big.Int) *big.Int {
		all := big.NewInt(1)
		for _, x := range list {
			all.Mul(all, x)
		}
		return all
	}
	sum := times(vocab, dim)
	sum.Add(sum, times(context, dim))
	sum.Add(sum, times(big.NewInt(2), blocks, dim))
	sum.Add(sum, times(big.NewInt(4), blocks, dim, dim))
	sum.Add(sum, times(big.NewInt(3), blocks, hidden, dim))
	return sum.Add(sum, dim)
}

// can: whether a shape can be, by the chapter's words.
func (n six) can() bool {
	for i, x := range n {
		if x < least()[i] || x > most()[i] {
			return false
		}
	}
	return n[1]%n[2] == 0 && n.weigh().Cmp(big.NewInt(8192)) <= 0
}

// bytes: the numbers' bytes, by the library; of those that can't be, those of 0.
func (n six) bytes() string {
	all := []byte{}
	for _, x := range n {
		if x < 0 || x > math.MaxUint32 {
			x = 0
		}
		all = binary.LittleEndian.AppendUint32(all, uint32(x))
	}
	return string(all)
}

// pieces: all parts of all blocks, in the chapter's order.
func (n six) pieces() []piece {
	vocab, dim, blocks, hidden, context := n[0], n[1], n[3], n[4], n[5]
	list := []piece{{part: 0, rows: vocab, columns: dim}, {part: 1, rows: context, columns: dim}}
	for block := range blocks {
		list = append(list,
			piece{2, block, 1, dim, 0},
			piece{3, block, dim, dim, 0}, piece{4, block, dim, dim, 0}, piece{5, block, dim, dim, 0}, piece{6, block, dim, dim, 0},
			piece{7, block, 1, dim, 0},
			piece{8, block, hidden, dim, 0}, piece{9, block, hidden, dim, 0}, piece{10, block, dim, hidden, 0})
	}
	list = append(list, piece{part: 11, rows: 1, columns: dim})
	from := 0
	for i, p := range list {
		list[i].from = from
		from += p.rows * p.columns
	}
	return list
}

// edges: numbers around a bound, and such that products of them wrap round.
func edges(low, high int) []int {
	return []int{
		low - 1, low, low + 1, high - 1, high, high + 1, 0, -1, -low, -high, low + 256, high + 256, low + 1<<16, high + 1<<16, low + 1<<32, high + 1<<32, low - 1<<32, high | math.MinInt,
		1<<31 - 1, 1 << 31, -1 << 31, 1 << 32, 1 << 58, 1 << 59, 1 << 60, 1 << 61, 1 << 62, -1 << 62, math.MaxInt, math.MaxInt - 1, math.MinInt, math.MinInt + 1,
	}
}

// strange: numbers that no part and no block has.
func strange() []int {
	return []int{-1, -2, -11, -12, 12, 13, 14, 255, 256, 256 + 3, 1 << 16, 1<<32 + 3, 1 << 62, -1 << 62, math.MaxInt, math.MaxInt - 1, math.MinInt, math.MinInt + 1, math.MinInt + 3}
}

// some: shapes that can be, small ones and great ones.
func some() []six {
	list := []six{
		{2, 1, 1, 1, 1, 1}, {4, 2, 1, 1, 2, 3}, {5, 4, 2, 2, 3, 6}, {3, 6, 3, 3, 7, 2}, {32, 16, 4, 2, 32, 32}, {32, 16, 4, 3, 31, 2}, {2, 16, 4, 3, 31, 32}, {32, 15, 3, 3, 32, 32},
		{32, 1, 1, 1, 1, 1}, {2, 1, 1, 3, 1, 1}, {2, 1, 1, 1, 32, 1}, {2, 1, 1, 1, 1, 32}, {2, 16, 1, 1, 1, 1}, {7, 8, 4, 3, 5, 9}, {2, 4, 4, 1, 1, 1}, {17, 9, 3, 2, 11, 13},
	}
	r := rand.New(rand.NewSource(151))
	for len(list) < 600 {
		n := six{}
		for i := range n {
			n[i] = least()[i] + r.Intn(most()[i]-least()[i]+1)
		}
		if n.can() {
			list = append(list, n)
		}
	}
	return list
}

// others: numbers of shapes that can't be.
func others() []six {
	list := []six{
		{}, {-1, -1, -1, -1, -1, -1}, {32, 16, 4, 3, 32, 32}, {32, 16, 4, 3, 31, 3}, {3, 16, 4, 3, 31, 32}, {2, 16, 1, 3, 32, 32}, {8, 16, 3, 1, 8, 8}, {8, 2, 4, 1, 8, 8}, {8, 1, 2, 1, 8, 8}, {8, 7, 4, 1, 8, 8},
		{math.MinInt, math.MinInt, math.MinInt, math.MinInt, math.MinInt, math.MinInt}, {math.MaxInt, math.MaxInt, math.MaxInt, math.MaxInt, math.MaxInt, math.MaxInt}, {1 << 62, 4, 4, 1, 1, 1}, {8, 8, 0, 1, 8, 8}, {8, 8, -4, 1, 8, 8}, {8, -8, 4, 1, 8, 8},
	}
	for at := range 6 {
		for _, x := range edges(least()[at], most()[at]) {
			if n := (six{8, 8, 4, 2, 8, 8}).with(at, x); !n.can() {
				list = append(list, n)
			}
		}
	}
	return list
}

// made: the shape of these numbers, which has to be one that can be.
func made(t testing.TB, n six) Shape {
	t.Helper()
	s, err := Of(n[0], n[1], n[2], n[3], n[4], n[5])
	if err != api.OK || s != (Shape{n.config()}) {
		t.Fatalf("%v: %v, %d", n, s, err)
	}
	return s
}

// refused: whether nothing is said of numbers that can't be but that, of them as a shape too, and what their bytes are.
func refused(t testing.TB, n six) {
	t.Helper()
	if s, err := Of(n[0], n[1], n[2], n[3], n[4], n[5]); err != api.ErrArg || s != (Shape{}) {
		t.Errorf("%v: %v, %d", n, s, err)
	}
	s := Shape{n.config()}
	if Good(n.config()) || s.Size() != 0 || s.HeadDim() != 0 || s.Bytes() != n.bytes() {
		t.Errorf("%v: %v, %d, %d, %q", n, Good(n.config()), s.Size(), s.HeadDim(), s.Bytes())
	}
	for part := -1; part <= 12; part++ {
		if rows, columns := s.Side(part); rows != 0 || columns != 0 {
			t.Errorf("%v: part %d has %d rows of %d", n, part, rows, columns)
		}
		for block := -1; block <= 3; block++ {
			absent(t, s, part, block)
		}
	}
	if s, err := Parse(n.bytes()); err != api.ErrForm || s != (Shape{}) {
		t.Errorf("the bytes of %v: %v, %d", n, s, err)
	}
}

// absent: whether there is no such part or block.
func absent(t testing.TB, s Shape, part, block int) {
	t.Helper()
	if from, bytes, ok := s.Range(part, block); from != 0 || bytes != 0 || ok {
		t.Errorf("%v: part %d of block %d: %d, %d, %v", s, part, block, from, bytes, ok)
	}
}

// holds: whether a shape that can be says of itself, and of all its parts, what the chapter does.
func holds(t testing.TB, n six) {
	t.Helper()
	s := made(t, n)
	if !Good(n.config()) || big.NewInt(int64(s.Size())).Cmp(n.weigh()) != 0 || s.HeadDim() != n[1]/n[2] || s.Bytes() != n.bytes() {
		t.Errorf("%v: %v, %d, %d, %q", n, Good(n.config()), s.Size(), s.HeadDim(), s.Bytes())
	}
	for _, p := range n.pieces() {
		if rows, columns := s.Side(p.part); rows != p.rows || columns != p.columns {
			t.Errorf("%v: part %d has %d rows of %d", n, p.part, rows, columns)
		}
		if from, bytes, ok := s.Range(p.part, p.block); from != p.from || bytes != p.rows*p.columns || !ok {
			t.Errorf("%v: part %d of block %d: %d, %d, %v", n, p.part, p.block, from, bytes, ok)
		}
	}
	if got, err := Parse(s.Bytes()); err != api.OK || got != s {
		t.Errorf("the bytes of %v: %v, %d", n, got, err)
	}
}

// P15.1

func TestParts(t *testing.T) {
	for i, part := range []int{Token, Place, Norm1, Query, Key, Value, Mix, Norm2, Gate, Up, Down, Last} {
		if part != i {
			t.Errorf("part %d is %d", i, part)
		}
	}
}

func TestGood(t *testing.T) {
	for _, c := range []struct {
		n    six
		want bool
	}{
		{least(), true}, {six{4, 2, 1, 1, 2, 3}, true}, {six{32, 16, 4, 2, 32, 32}, true}, {six{}, false}, {six{1, 1, 1, 1, 1, 1}, false},
		// 8192 bytes are the most; of those above them 8208 are the fewest that there are.
		{six{32, 16, 4, 3, 31, 2}, true}, {six{2, 16, 1, 3, 31, 32}, true}, {six{17, 16, 2, 3, 31, 17}, true}, {six{32, 16, 4, 3, 31, 3}, false}, {six{3, 16, 1, 3, 31, 32}, false}, {six{18, 16, 2, 3, 31, 17}, false}, {most(), false},
		// Heads divide Dim.
		{six{8, 6, 3, 1, 8, 8}, true}, {six{8, 6, 4, 1, 8, 8}, false}, {six{8, 5, 1, 1, 8, 8}, true}, {six{8, 5, 2, 1, 8, 8}, false}, {six{8, 4, 4, 1, 8, 8}, true}, {six{8, 4, 3, 1, 8, 8}, false}, {six{8, 1, 2, 1, 8, 8}, false}, {six{8, 2, 4, 1, 8, 8}, false}, {six{8, 16, 3, 1, 8, 8}, false}, {six{8, 10, 5, 1, 8, 8}, false}, {six{8, 16, 8, 1, 8, 8}, false}, {six{8, 8, -1, 1, 8, 8}, false}, {six{8, 8, 0, 1, 8, 8}, false},
		// Each number at its bounds.
		{six{1, 8, 1, 1, 8, 8}, false}, {six{2, 8, 1, 1, 8, 8}, true}, {six{32, 8, 1, 1, 8, 8}, true}, {six{33, 8, 1, 1, 8, 8}, false},
		{six{8, 0, 1, 1, 8, 8}, false}, {six{8, 1, 1, 1, 8, 8}, true}, {six{8, 16, 1, 1, 8, 8}, true}, {six{8, 17, 1, 1, 8, 8}, false},
		{six{8, 8, 1, 0, 8, 8}, false}, {six{8, 8, 1, 3, 8, 8}, true}, {six{8, 8, 1, 4, 8, 8}, false},
		{six{8, 8, 1, 1, 0, 8}, false}, {six{8, 8, 1, 1, 1, 8}, true}, {six{8, 8, 1, 1, 32, 8}, true}, {six{8, 8, 1, 1, 33, 8}, false},
		{six{8, 8, 1, 1, 8, 0}, false}, {six{8, 8, 1, 1, 8, 1}, true}, {six{8, 8, 1, 1, 8, 32}, true}, {six{8, 8, 1, 1, 8, 33}, false},
	} {
		if got := Good(c.n.config()); got != c.want || c.n.can() != c.want {
			t.Errorf("%v: %v, not %v", c.n, got, c.want)
		}
	}
}

// All numbers within the bounds, and one beyond each: how many bytes they come to is reckoned here by a rule of its own, since it is asked so often.
func TestGoodOfAll(t *testing.T) {
	low, high, count := least(), most(), 0
	for vocab := low[0] - 1; vocab <= high[0]+1; vocab++ {
		for dim := low[1] - 1; dim <= high[1]+1; dim++ {
			for heads := low[2] - 1; heads <= high[2]+1; heads++ {
				for blocks := low[3] - 1; blocks <= high[3]+1; blocks++ {
					for hidden := low[4] - 1; hidden <= high[4]+1; hidden++ {
						for context := low[5] - 1; context <= high[5]+1; context++ {
							n := six{vocab, dim, heads, blocks, hidden, context}
							want := dim*(vocab+context+1+blocks*(2+4*dim+3*hidden)) <= 8192
							for i, x := range n {
								want = want && x >= low[i] && x <= high[i]
							}
							want = want && dim%heads == 0
							if got := Good(n.config()); got != want {
								t.Fatalf("%v: %v", n, got)
							}
							if want {
								count++
							}
						}
					}
				}
			}
		}
	}
	if count != 3138168 {
		t.Error(count)
	}
}

// Each number at all edges, beside numbers that can be; and two at once, since a product could wrap round.
func TestEdges(t *testing.T) {
	for _, n := range []six{least(), {8, 8, 4, 2, 8, 8}, {32, 16, 4, 3, 31, 2}, {2, 16, 2, 3, 31, 32}} {
		for at := range 6 {
			for _, x := range edges(least()[at], most()[at]) {
				one := n.with(at, x)
				if one.can() {
					holds(t, one)
				} else {
					refused(t, one)
				}
			}
			for other := range at {
				for _, x := range edges(least()[at], most()[at]) {
					for _, y := range edges(least()[other], most()[other]) {
						two := n.with(at, x).with(other, y)
						if got := Good(two.config()); got != two.can() {
							t.Errorf("%v: %v", two, got)
						}
					}
				}
			}
		}
	}
}

func TestOf(t *testing.T) {
	s, err := Of(5, 4, 2, 3, 7, 6)
	if err != api.OK || s.Vocab != 5 || s.Dim != 4 || s.Heads != 2 || s.Blocks != 3 || s.Hidden != 7 || s.Context != 6 {
		t.Error(s, err)
	}
	if s != (Shape{api.Config{Vocab: 5, Dim: 4, Heads: 2, Blocks: 3, Hidden: 7, Context: 6}}) || s.Config != (six{5, 4, 2, 3, 7, 6}).config() {
		t.Error(s)
	}
	for _, n := range some() {
		holds(t, n)
	}
	for _, n := range others() {
		refused(t, n)
	}
	refused(t, six{})
}

func TestSize(t *testing.T) {
	for _, c := range []struct {
		n    six
		want int
	}{
		{six{4, 2, 1, 1, 2, 3}, 48}, {six{2, 1, 1, 1, 1, 1}, 13}, {six{5, 4, 2, 2, 3, 6}, 264}, {six{32, 16, 4, 2, 32, 32}, 6224}, {six{32, 16, 4, 3, 31, 2}, 8192}, {six{32, 15, 3, 3, 32, 32}, 8085},
		// Each number counts where it stands.
		{six{3, 1, 1, 1, 1, 1}, 14}, {six{2, 2, 1, 1, 1, 1}, 34}, {six{2, 2, 2, 1, 1, 1}, 34}, {six{2, 1, 1, 2, 1, 1}, 22}, {six{2, 1, 1, 3, 1, 1}, 31}, {six{2, 1, 1, 1, 2, 1}, 16}, {six{2, 1, 1, 1, 1, 2}, 14},
	} {
		if got := made(t, c.n).Size(); got != c.want {
			t.Errorf("%v: %d, not %d", c.n, got, c.want)
		}
	}
}

func TestSide(t *testing.T) {
	s := made(t, six{5, 4, 2, 2, 3, 6})
	for part, want := range [][2]int{{5, 4}, {6, 4}, {1, 4}, {4, 4}, {4, 4}, {4, 4}, {4, 4}, {1, 4}, {3, 4}, {3, 4}, {4, 3}, {1, 4}} {
		if rows, columns := s.Side(part); rows != want[0] || columns != want[1] {
			t.Errorf("part %d: %d rows of %d, not %v", part, rows, columns, want)
		}
	}
	for _, n := range some() {
		s := made(t, n)
		for _, part := range strange() {
			if rows, columns := s.Side(part); rows != 0 || columns != 0 {
				t.Errorf("%v: part %d has %d rows of %d", n, part, rows, columns)
			}
		}
	}
}

func TestHeadDim(t *testing.T) {
	for _, c := range [][3]int{{1, 1, 1}, {2, 1, 2}, {2, 2, 1}, {6, 3, 2}, {6, 2, 3}, {9, 3, 3}, {12, 4, 3}, {16, 4, 4}, {16, 1, 16}, {15, 3, 5}} {
		if got := made(t, six{8, c[0], c[1], 1, 8, 8}).HeadDim(); got != c[2] {
			t.Errorf("%d by %d: %d, not %d", c[0], c[1], got, c[2])
		}
	}
	for _, c := range [][2]int{{7, 2}, {4, 3}, {16, 3}, {3, 4}, {0, 1}, {1, 0}, {0, 0}, {8, -2}, {-8, 2}, {16, 8}, {math.MinInt, -1}, {math.MaxInt, 1}} {
		if got := (Shape{(six{8, c[0], c[1], 1, 8, 8}).config()}).HeadDim(); got != 0 {
			t.Errorf("%d by %d: %d", c[0], c[1], got)
		}
	}
	// What can't be by another number has none either.
	for _, n := range others() {
		if got := (Shape{n.config()}).HeadDim(); got != 0 {
			t.Errorf("%v: %d", n, got)
		}
	}
}

// P15.2

func TestRange(t *testing.T) {
	s := made(t, six{5, 4, 2, 2, 3, 6})
	for _, c := range []struct{ part, block, from, bytes int }{
		{Token, 0, 0, 20}, {Place, 0, 20, 24},
		{Norm1, 0, 44, 4}, {Query, 0, 48, 16}, {Key, 0, 64, 16}, {Value, 0, 80, 16}, {Mix, 0, 96, 16}, {Norm2, 0, 112, 4}, {Gate, 0, 116, 12}, {Up, 0, 128, 12}, {Down, 0, 140, 12},
		{Norm1, 1, 152, 4}, {Query, 1, 156, 16}, {Key, 1, 172, 16}, {Value, 1, 188, 16}, {Mix, 1, 204, 16}, {Norm2, 1, 220, 4}, {Gate, 1, 224, 12}, {Up, 1, 236, 12}, {Down, 1, 248, 12},
		{Last, 0, 260, 4},
	} {
		if from, bytes, ok := s.Range(c.part, c.block); from != c.from || bytes != c.bytes || !ok {
			t.Errorf("part %d of block %d: %d, %d, %v", c.part, c.block, from, bytes, ok)
		}
	}
}

func TestRangeOfNone(t *testing.T) {
	for _, n := range some() {
		s := made(t, n)
		blocks := []int{-1, 0, 1, 2, 3, 4, 12, 256, 1<<32 + 1, 1 << 62, -1 << 62, math.MaxInt, math.MinInt, math.MinInt + 1}
		for _, part := range strange() {
			for _, block := range blocks {
				absent(t, s, part, block)
			}
		}
		for part := Token; part <= Last; part++ {
			count := 1
			if part >= Norm1 && part <= Down {
				count = n[3]
			}
			for _, block := range blocks {
				if block < 0 || block >= count {
					absent(t, s, part, block)
				}
			}
			absent(t, s, part, count)
		}
	}
}

// P15.3

func TestBytes(t *testing.T) {
	want := "\x05\x00\x00\x00\x04\x00\x00\x00\x02\x00\x00\x00\x03\x00\x00\x00\x07\x00\x00\x00\x06\x00\x00\x00"
	s := made(t, six{5, 4, 2, 3, 7, 6})
	for range 2 {
		if got := s.Bytes(); got != want {
			t.Errorf("%q", got)
		}
	}
	if got, err := Parse(want); err != api.OK || got != s {
		t.Error(got, err)
	}
	if got := (Shape{}).Bytes(); got != strings.Repeat("\x00", 24) {
		t.Errorf("%q", got)
	}
	// Of what can't be they are the numbers' all the same, as layer 3 writes them.
	if got := (Shape{(six{-1, 258, 1 << 32, math.MinInt, 1<<32 - 1, math.MaxInt}).config()}).Bytes(); got != "\x00\x00\x00\x00\x02\x01\x00\x00\x00\x00\x00\x00\x00\x00\x00\x00\xff\xff\xff\xff\x00\x00\x00\x00" {
		t.Errorf("%q", got)
	}
}

// parsed: whether of bytes there is the shape that they tell, if it can be.
func parsed(t testing.TB, s string) {
	t.Helper()
	got, err := Parse(s)
	n := six{}
	if len(s) == 24 {
		for i := range n {
			n[i] = int(binary.LittleEndian.Uint32([]byte(s[4*i:])))
		}
	}
	if !n.can() {
		if err != api.ErrForm || got != (Shape{}) {
			t.Errorf("%q: %v, %d", s, got, err)
		}
		return
	}
	if err != api.OK || got != (Shape{n.config()}) || got.Bytes() != s {
		t.Errorf("%q: %v, %d", s, got, err)
	}
}

func TestParse(t *testing.T) {
	for _, n := range some()[:40] {
		s := n.bytes()
		parsed(t, s)
		for cut := range len(s) {
			parsed(t, s[:cut])
			parsed(t, s[cut:])
		}
		for _, more := range []string{"\x00", "x", "\x00\x00\x00\x00", s, s[:4]} {
			parsed(t, s+more)
			parsed(t, more+s)
		}
	}
	for _, n := range others() {
		parsed(t, n.bytes())
	}
	parsed(t, "")
	parsed(t, strings.Repeat("\xff", 24))
	parsed(t, strings.Repeat("\x00", 24))
	parsed(t, strings.Repeat("\x01", 1<<16))
	parsed(t, "5 4 2 3 7 6")
}

// Each byte of some shapes, as each byte that there is.
func TestParseOfBytes(t *testing.T) {
	for _, n := range some()[:12] {
		for at := range 24 {
			for b := range 256 {
				s := []byte(n.bytes())
				s[at] = byte(b)
				parsed(t, string(s))
			}
		}
	}
}

// P15.4

func TestPartsCover(t *testing.T) {
	for _, n := range some() {
		s := made(t, n)
		count := make([]int, s.Size())
		for part := -2; part <= 14; part++ {
			for block := -2; block <= 5; block++ {
				from, bytes, ok := s.Range(part, block)
				if !ok {
					continue
				}
				if rows, columns := s.Side(part); bytes != rows*columns || bytes < 1 || from < 0 || from+bytes > len(count) {
					t.Fatalf("%v: part %d of block %d: %d, %d", n, part, block, from, bytes)
				}
				for i := from; i < from+bytes; i++ {
					count[i]++
				}
			}
		}
		for i, times := range count {
			if times != 1 {
				t.Fatalf("%v: byte %d is covered %d times", n, i, times)
			}
		}
	}
}

// What embeds a shape is one: its numbers and its calls are promoted, but for those that it hides.

type holder struct {
	Shape
	name string
}

func (h holder) Bytes() string {
	return h.name + h.Shape.Bytes()
}

func TestEmbedded(t *testing.T) {
	n := six{5, 4, 2, 3, 7, 6}
	h := holder{made(t, n), "name"}
	from, bytes, ok := h.Range(Place, 0)
	rows, columns := h.Side(Down)
	if h.Vocab != 5 || h.Dim != 4 || h.Heads != 2 || h.Blocks != 3 || h.Hidden != 7 || h.Context != 6 || h.Config != n.config() {
		t.Error(h)
	}
	if h.Size() != h.Shape.Size() || h.HeadDim() != 2 || from != 20 || bytes != 24 || !ok || rows != 4 || columns != 7 || h.Bytes() != "name"+n.bytes() {
		t.Error(h.Size(), h.HeadDim(), from, bytes, ok, rows, columns, h.Bytes())
	}
}

// A shape is a value: a copy that is changed leaves the other one as it was, and calls change nothing.
func TestShapesAreApart(t *testing.T) {
	n := six{5, 4, 2, 3, 7, 6}
	s := made(t, n)
	other := s
	other.Dim, other.Vocab = 8, 99
	other.Size()
	other.Bytes()
	s.Range(Down, 2)
	if s != (Shape{n.config()}) || other.Size() != 0 {
		t.Error(s, other)
	}
	holds(t, n)
	other.Vocab = 5
	holds(t, six{5, 8, 2, 3, 7, 6})
	if other != made(t, six{5, 8, 2, 3, 7, 6}) {
		t.Error(other)
	}
}

func FuzzShape(f *testing.F) {
	f.Add(4, 2, 1, 1, 2, 3, Query, 0)
	f.Add(32, 16, 4, 3, 31, 2, Last, 0)
	f.Add(32, 16, 4, 3, 32, 32, Down, 2)
	f.Add(math.MinInt, math.MaxInt, -1, 0, 1<<32+1, 1<<62, math.MaxInt, math.MinInt)
	f.Fuzz(func(t *testing.T, vocab, dim, heads, blocks, hidden, context, part, block int) {
		n := six{vocab, dim, heads, blocks, hidden, context}
		if !n.can() {
			refused(t, n)
			absent(t, Shape{n.config()}, part, block)
			return
		}
		holds(t, n)
		s := made(t, n)
		for _, p := range n.pieces() {
			if p.part == part && p.block == block {
				return
			}
		}
		absent(t, s, part, block)
	})
}

func FuzzParse(f *testing.F) {
	f.Add("")
	f.Add((six{4, 2, 1, 1, 2, 3}).bytes())
	f.Add((six{32, 16, 4, 3, 32, 32}).bytes())
	f.Add((six{4, 2, 1, 1, 2, 3}).bytes() + "\x00")
	f.Fuzz(func(t *testing.T, s string) {
		parsed(t, s)
	})
}
