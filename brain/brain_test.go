package brain

import (
	"crypto/sha256"
	"encoding/binary"
	"encoding/hex"
	"math"
	"math/rand"
	"slices"
	"strings"
	"sync"
	"testing"

	"coadjutor/api"
	"coadjutor/conf"
	"coadjutor/vecs"
)

// piece is a part of a block as chapter 15 tells it: its rows and columns, and its bytes.
type piece struct {
	part, block, rows, columns int
	bytes                      string
}

// pieces: a model's weights, parted in chapter 15's order.
func pieces(c api.Config, weights string) []piece {
	list := []piece{{part: 0, rows: c.Vocab, columns: c.Dim}, {part: 1, rows: c.Context, columns: c.Dim}}
	for block := range c.Blocks {
		list = append(list, piece{2, block, 1, c.Dim, ""})
		for part := 3; part <= 6; part++ {
			list = append(list, piece{part, block, c.Dim, c.Dim, ""})
		}
		list = append(list, piece{7, block, 1, c.Dim, ""}, piece{8, block, c.Hidden, c.Dim, ""}, piece{9, block, c.Hidden, c.Dim, ""}, piece{10, block, c.Dim, c.Hidden, ""})
	}
	list = append(list, piece{part: 11, rows: 1, columns: c.Dim})
	for i, p := range list {
		size := p.rows * p.columns
		list[i].bytes, weights = weights[:size], weights[size:]
	}
	if weights != "" {
		panic("weights are left")
	}
	return list
}

// numbers: what bytes are as weights: above 127 a number is 256 less.
func numbers(s string) []int {
	list := []int{}
	for i := range len(s) {
		n := int(s[i])
		if n > 127 {
			n -= 256
		}
		list = append(list, n)
	}
	return list
}

// row: the numbers of one row of a piece.
func (p piece) row(at int) []int {
	return numbers(p.bytes[at*p.columns : (at+1)*p.columns])
}

// head: the bytes of a shape's numbers, by the library.
func head(c api.Config) string {
	all := []byte{}
	for _, n := range []int{c.Vocab, c.Dim, c.Heads, c.Blocks, c.Hidden, c.Context} {
		all = binary.LittleEndian.AppendUint32(all, uint32(n))
	}
	return string(all)
}

// size: how many weights a shape has that can be.
func size(c api.Config) int {
	return conf.Shape{Config: c}.Size()
}

// noise: so many bytes, the same ones for the same number.
func noise(n, seed int) string {
	list := make([]byte, n)
	rand.New(rand.NewSource(int64(seed))).Read(list)
	return string(list)
}

// count: so many bytes, each one more than the one ahead, so that all that there are come.
func count(n, from int) string {
	list := make([]byte, n)
	for i := range list {
		list[i] = byte(from + i)
	}
	return string(list)
}

// config: a shape of numbers in their order: Vocab, Dim, Heads, Blocks, Hidden, Context.
func config(n [6]int) api.Config {
	return api.Config{Vocab: n[0], Dim: n[1], Heads: n[2], Blocks: n[3], Hidden: n[4], Context: n[5]}
}

func configs(list ...[6]int) []api.Config {
	all := []api.Config{}
	for _, n := range list {
		all = append(all, config(n))
	}
	return all
}

// example: the shape of chapter 15's example, with 48 weights.
func example() api.Config {
	return config([6]int{4, 2, 1, 1, 2, 3})
}

// shapes: shapes that can be, each number at both its ends among them, and as many weights as may be.
func shapes() []api.Config {
	list := configs([][6]int{
		{2, 1, 1, 1, 1, 1}, {4, 2, 1, 1, 2, 3}, {5, 4, 2, 2, 3, 6}, {3, 6, 3, 3, 7, 2}, {32, 16, 4, 2, 32, 32}, {32, 16, 4, 3, 31, 2}, {2, 16, 2, 3, 31, 32}, {32, 15, 3, 3, 32, 32},
		{32, 1, 1, 1, 1, 1}, {2, 1, 1, 3, 1, 1}, {2, 1, 1, 1, 32, 1}, {2, 1, 1, 1, 1, 32}, {2, 16, 1, 1, 1, 1}, {7, 8, 4, 3, 5, 9}, {2, 4, 4, 1, 1, 1}, {17, 9, 3, 2, 11, 13},
	}...)
	r := rand.New(rand.NewSource(16))
	for len(list) < 60 {
		c := config([6]int{2 + r.Intn(31), 1 + r.Intn(16), 1 + r.Intn(4), 1 + r.Intn(3), 1 + r.Intn(32), 1 + r.Intn(32)})
		if conf.Good(c) {
			list = append(list, c)
		}
	}
	return list
}

// others: shapes that can't be.
func others() []api.Config {
	return configs([][6]int{
		{}, {-1, -1, -1, -1, -1, -1}, {1, 2, 1, 1, 2, 3}, {33, 2, 1, 1, 2, 3}, {4, 0, 1, 1, 2, 3}, {4, 17, 1, 1, 2, 3}, {4, 2, 0, 1, 2, 3}, {4, 2, -1, 1, 2, 3}, {4, 5, 5, 1, 2, 3}, {4, 3, 2, 1, 2, 3},
		{4, 2, 1, 0, 2, 3}, {4, 2, 1, 4, 2, 3}, {4, 2, 1, 1, 0, 3}, {4, 2, 1, 1, 33, 3}, {4, 2, 1, 1, 2, 0}, {4, 2, 1, 1, 2, 33}, {32, 16, 4, 3, 32, 32}, {32, 16, 4, 3, 31, 3},
		{math.MaxInt, math.MaxInt, math.MaxInt, math.MaxInt, math.MaxInt, math.MaxInt}, {math.MinInt, math.MinInt, math.MinInt, math.MinInt, math.MinInt, math.MinInt}, {1<<32 + 4, 2, 1, 1, 2, 3}, {4, 1 << 62, 1, 1, 2, 3},
	}...)
}

// strange: numbers that no part, no block, and no row has.
func strange() []int {
	return []int{-1, -2, -12, 33, 64, 255, 256, 256 + 3, 1 << 16, 1<<32 + 1, 1 << 62, -1 << 62, math.MaxInt, math.MaxInt - 1, math.MinInt, math.MinInt + 1}
}

// models: some of each shape's weights.
func models(t testing.TB) []*Brain {
	t.Helper()
	list := []*Brain{}
	for i, c := range shapes() {
		n := size(c)
		list = append(list, made(t, c, noise(n, i)), made(t, c, count(n, i)))
	}
	return list
}

// made: the model of a shape and weights, which has to be one.
func made(t testing.TB, c api.Config, weights string) *Brain {
	t.Helper()
	b, err := Of(c, weights)
	if err != api.OK || b == nil {
		t.Fatalf("%v, %d bytes: %v, %d", c, len(weights), b, err)
	}
	return b
}

// holds: whether a model says of itself, and of all its parts, what the chapter does.
func holds(t testing.TB, b *Brain, c api.Config, weights string) {
	t.Helper()
	if b.Config != c || b.Weights() != weights || b.Bytes() != head(c)+weights || b.Digest() != sha256.Sum256([]byte(head(c)+weights)) {
		t.Errorf("%v: %v, %q, %q, %x", c, b.Config, b.Weights(), b.Bytes(), b.Digest())
	}
	for _, p := range pieces(c, weights) {
		got, ok := b.Table(p.part, p.block)
		if !ok || !vecs.Good(got) || got.Rows != p.rows || got.Cols != p.columns || vecs.Bytes(got) != p.bytes {
			t.Errorf("%v: part %d of block %d: %v, %v", c, p.part, p.block, got, ok)
		}
		for at := range p.rows {
			if got := b.Row(p.part, p.block, at); !slices.Equal(got, p.row(at)) {
				t.Errorf("%v: row %d of part %d of block %d: %v, not %v", c, at, p.part, p.block, got, p.row(at))
			}
		}
		for _, at := range []int{-1, p.rows, p.rows + 1} {
			rowless(t, b, p.part, p.block, at)
		}
	}
}

// absent: whether there is no such part or block.
func absent(t testing.TB, b *Brain, part, block int) {
	t.Helper()
	if got, ok := b.Table(part, block); ok || got.Rows != 0 || got.Cols != 0 || len(got.Data) != 0 {
		t.Errorf("part %d of block %d: %v, %v", part, block, got, ok)
	}
	for at := -1; at <= 2; at++ {
		rowless(t, b, part, block, at)
	}
}

func rowless(t testing.TB, b *Brain, part, block, at int) {
	t.Helper()
	if got := b.Row(part, block, at); len(got) != 0 {
		t.Errorf("row %d of part %d of block %d: %v", at, part, block, got)
	}
}

// refused: whether a shape and weights are no model, and say just this error.
func refused(t testing.TB, c api.Config, weights string, want api.Errno) {
	t.Helper()
	if b, err := Of(c, weights); b != nil || err != want {
		t.Errorf("%v, %d bytes: %v, %d, not %d", c, len(weights), b, err, want)
	}
}

// P16.1

func TestOf(t *testing.T) {
	for i, c := range shapes() {
		n := size(c)
		for _, weights := range []string{noise(n, i), count(n, i), strings.Repeat("\x00", n), strings.Repeat("\xff", n)} {
			holds(t, made(t, c, weights), c, weights)
		}
	}
}

func TestOfWhatCannotBe(t *testing.T) {
	for _, c := range others() {
		// Whatever the weights are, the shape's error is ahead of theirs.
		for _, n := range []int{0, 1, 12, 13, 14, 47, 48, 49, 8191, 8192, 8193, 8208, 9248} {
			refused(t, c, noise(n, n), api.ErrArg)
		}
	}
}

func TestOfOtherLengths(t *testing.T) {
	for _, c := range shapes() {
		n := size(c)
		for _, other := range []int{0, 1, n - 2, n - 1, n + 1, n + 2, 2 * n, n + 24, n - 24, n + 256, n + 1<<16, 8192, 8193} {
			if other >= 0 && other != n {
				refused(t, c, noise(other, n), api.ErrForm)
			}
		}
	}
	for n := range 200 {
		if n != 48 {
			refused(t, example(), count(n, 0), api.ErrForm)
		}
	}
}

// parsed: whether of bytes there is the model that they tell, if there is one.
func parsed(t testing.TB, s string) {
	t.Helper()
	got, err := Parse(s)
	c := api.Config{}
	if len(s) >= 24 {
		n := [6]int{}
		for i := range n {
			n[i] = int(binary.LittleEndian.Uint32([]byte(s[4*i:])))
		}
		c = config(n)
	}
	if !conf.Good(c) || len(s) != 24+size(c) {
		if got != nil || err != api.ErrForm {
			t.Errorf("%q: %v, %d", s, got, err)
		}
		return
	}
	if err != api.OK || got == nil {
		t.Fatalf("%q: %v, %d", s, got, err)
	}
	holds(t, got, c, s[24:])
	if got.Bytes() != s || !Same(got, made(t, c, s[24:])) {
		t.Errorf("%q: %q", s, got.Bytes())
	}
}

func TestParse(t *testing.T) {
	for _, b := range models(t) {
		s := b.Bytes()
		parsed(t, s)
		for _, cut := range []int{1, 4, 20, 23, 24, 25, 28, len(s) - 24, len(s) - 1} {
			parsed(t, s[:cut])
			parsed(t, s[cut:])
		}
		for _, more := range []string{"\x00", "x", "\x00\x00\x00\x00", s, s[:24], s[24:]} {
			parsed(t, s+more)
			parsed(t, more+s)
		}
		if got, err := Parse(s); err != api.OK || !Same(got, b) {
			t.Errorf("%v: %v, %d", b.Config, got, err)
		}
	}
	for _, c := range others() {
		for _, n := range []int{0, 13, 48, 8192, 8208} {
			parsed(t, head(c)+noise(n, n))
		}
	}
	for n := range 100 {
		parsed(t, strings.Repeat("\x00", n))
		parsed(t, strings.Repeat("\x02", n))
		parsed(t, count(n, 1))
	}
	parsed(t, strings.Repeat("\x01", 1<<16))
}

// All that is cut off, and each byte ahead of the weights as each byte that there is: some of these are other models.
func TestParseOfBytes(t *testing.T) {
	found := 0
	for i, c := range shapes()[:7] {
		s := head(c) + noise(size(c), i)
		for at := range 24 {
			for x := range 256 {
				turned := []byte(s)
				turned[at] = byte(x)
				parsed(t, string(turned))
				if got, err := Parse(string(turned)); err == api.OK && got.Config != c {
					found++
				}
			}
		}
		for cut := range len(s) {
			parsed(t, s[:cut])
		}
	}
	// Only other Heads leave as many weights: there is one other number of them for a Dim of 2, and two for each of 4, 6, 16, 16 and 16.
	if found != 11 {
		t.Error(found)
	}
}

func TestBytes(t *testing.T) {
	w := count(48, 0xf0)
	b := made(t, example(), w)
	want := "\x04\x00\x00\x00\x02\x00\x00\x00\x01\x00\x00\x00\x01\x00\x00\x00\x02\x00\x00\x00\x03\x00\x00\x00" + w
	for range 2 {
		if b.Bytes() != want || b.Weights() != w {
			t.Errorf("%q, %q", b.Bytes(), b.Weights())
		}
	}
	if got, err := Parse(want); err != api.OK || !Same(got, b) {
		t.Error(got, err)
	}
}

// The sums are those that another program works out of the same bytes.
func TestDigest(t *testing.T) {
	for _, c := range []struct {
		weights, want string
	}{
		{strings.Repeat("\x00", 48), "8c99942e17d4786c20ef6558d0d1372550b28372730cb88c42e1f0a65e2b5bf5"},
		{strings.Repeat("\xff", 48), "b1a0eaa4febbebc3b0a7c43bc57a477c6deb7ba89c9ef3758e63156d82bba1eb"},
		{count(48, 0), "d51cb9c0808c7dcf00a745b787c8f9b131eee5ccdb5105f820e0a214fc0c7ab8"},
	} {
		b := made(t, example(), c.weights)
		for range 2 {
			d := b.Digest()
			if got := hex.EncodeToString(d[:]); got != c.want {
				t.Errorf("%q: %s", c.weights, got)
			}
		}
	}
}

// Each byte plays a part in the sum, each of the shape's numbers too.
func TestDigestsDiffer(t *testing.T) {
	w := noise(48, 1)
	seen := map[api.Digest]bool{made(t, example(), w).Digest(): true}
	for at := range w {
		turned := []byte(w)
		turned[at] ^= 1 << (at % 8)
		seen[made(t, example(), string(turned)).Digest()] = true
	}
	two := example()
	two.Heads = 2
	seen[made(t, two, w).Digest()] = true
	if len(seen) != 50 {
		t.Error(len(seen))
	}
}

func TestNil(t *testing.T) {
	var b *Brain
	if b.Bytes() != "" || b.Weights() != "" || b.Digest() != (api.Digest{}) {
		t.Errorf("%q, %q, %x", b.Bytes(), b.Weights(), b.Digest())
	}
	for _, part := range append(strange(), 0, 1, 2, 6, 10, 11) {
		for _, block := range append(strange(), 0, 1, 2) {
			absent(t, b, part, block)
		}
	}
}

// P16.2

func TestTable(t *testing.T) {
	b := made(t, example(), count(48, 0xf8))
	for _, c := range []struct {
		part, block int
		want        vecs.Table
	}{
		{conf.Token, 0, vecs.Table{Rows: 4, Cols: 2, Data: []int8{-8, -7, -6, -5, -4, -3, -2, -1}}},
		{conf.Place, 0, vecs.Table{Rows: 3, Cols: 2, Data: []int8{0, 1, 2, 3, 4, 5}}},
		{conf.Norm1, 0, vecs.Table{Rows: 1, Cols: 2, Data: []int8{6, 7}}},
		{conf.Query, 0, vecs.Table{Rows: 2, Cols: 2, Data: []int8{8, 9, 10, 11}}},
		{conf.Key, 0, vecs.Table{Rows: 2, Cols: 2, Data: []int8{12, 13, 14, 15}}},
		{conf.Value, 0, vecs.Table{Rows: 2, Cols: 2, Data: []int8{16, 17, 18, 19}}},
		{conf.Mix, 0, vecs.Table{Rows: 2, Cols: 2, Data: []int8{20, 21, 22, 23}}},
		{conf.Norm2, 0, vecs.Table{Rows: 1, Cols: 2, Data: []int8{24, 25}}},
		{conf.Gate, 0, vecs.Table{Rows: 2, Cols: 2, Data: []int8{26, 27, 28, 29}}},
		{conf.Up, 0, vecs.Table{Rows: 2, Cols: 2, Data: []int8{30, 31, 32, 33}}},
		{conf.Down, 0, vecs.Table{Rows: 2, Cols: 2, Data: []int8{34, 35, 36, 37}}},
		{conf.Last, 0, vecs.Table{Rows: 1, Cols: 2, Data: []int8{38, 39}}},
	} {
		got, ok := b.Table(c.part, c.block)
		if !ok || got.Rows != c.want.Rows || got.Cols != c.want.Cols || !slices.Equal(got.Data, c.want.Data) {
			t.Errorf("part %d of block %d: %v, %v, not %v", c.part, c.block, got, ok, c.want)
		}
	}
}

// Of two blocks, and with Hidden, Dim and Context apart: Down is as wide as Gate and Up are high.
func TestTableOfBlocks(t *testing.T) {
	b := made(t, config([6]int{2, 2, 2, 2, 3, 1}), count(84, 0))
	for _, c := range []struct {
		part, block, rows, columns, first int
	}{
		{conf.Place, 0, 1, 2, 4}, {conf.Norm1, 0, 1, 2, 6}, {conf.Query, 0, 2, 2, 8}, {conf.Up, 0, 3, 2, 32}, {conf.Down, 0, 2, 3, 38},
		{conf.Norm1, 1, 1, 2, 44}, {conf.Query, 1, 2, 2, 46}, {conf.Gate, 1, 3, 2, 64}, {conf.Down, 1, 2, 3, 76}, {conf.Last, 0, 1, 2, 82},
	} {
		got, ok := b.Table(c.part, c.block)
		if !ok || got.Rows != c.rows || got.Cols != c.columns || vecs.Bytes(got) != count(c.rows*c.columns, c.first) {
			t.Errorf("part %d of block %d: %v, %v", c.part, c.block, got, ok)
		}
		last := numbers(count(c.columns, c.first+(c.rows-1)*c.columns))
		if got := b.Row(c.part, c.block, c.rows-1); !slices.Equal(got, last) {
			t.Errorf("the last row of part %d of block %d: %v, not %v", c.part, c.block, got, last)
		}
	}
}

func TestTableOfNone(t *testing.T) {
	for _, b := range models(t) {
		blocks := append(strange(), 0, 1, 2, 3, 4, 11, 12)
		for _, part := range append(strange(), 12, 13) {
			for _, block := range blocks {
				absent(t, b, part, block)
			}
		}
		for part := conf.Token; part <= conf.Last; part++ {
			has := 1
			if part >= conf.Norm1 && part <= conf.Down {
				has = b.Blocks
			}
			for _, block := range blocks {
				if block < 0 || block >= has {
					absent(t, b, part, block)
				}
			}
		}
	}
}

func TestRow(t *testing.T) {
	b := made(t, example(), count(48, 0xf8))
	for _, c := range []struct {
		part, at int
		want     []int
	}{
		{conf.Token, 0, []int{-8, -7}}, {conf.Token, 1, []int{-6, -5}}, {conf.Token, 3, []int{-2, -1}}, {conf.Place, 0, []int{0, 1}}, {conf.Place, 2, []int{4, 5}}, {conf.Norm1, 0, []int{6, 7}},
		{conf.Query, 1, []int{10, 11}}, {conf.Down, 0, []int{34, 35}}, {conf.Down, 1, []int{36, 37}}, {conf.Last, 0, []int{38, 39}},
		{conf.Token, 4, nil}, {conf.Place, 3, nil}, {conf.Norm1, 1, nil}, {conf.Query, 2, nil}, {conf.Down, 2, nil}, {conf.Last, 1, nil}, {conf.Last, -1, nil},
	} {
		if got := b.Row(c.part, 0, c.at); !slices.Equal(got, c.want) {
			t.Errorf("row %d of part %d: %v, not %v", c.at, c.part, got, c.want)
		}
	}
}

func TestRowOfNone(t *testing.T) {
	for _, b := range models(t) {
		for part := conf.Token; part <= conf.Last; part++ {
			for _, at := range strange() {
				rowless(t, b, part, 0, at)
			}
		}
	}
}

// Each byte, at each place of a row, is the number that it is: up to 7F itself, from 80 on 256 less.
func TestWeightsHaveSigns(t *testing.T) {
	for x := range 256 {
		b := made(t, example(), strings.Repeat(string([]byte{byte(x)}), 48))
		want := x
		if x >= 0x80 {
			want = x - 0x100
		}
		for part := conf.Token; part <= conf.Last; part++ {
			if got := b.Row(part, 0, 0); !slices.Equal(got, []int{want, want}) {
				t.Errorf("%d: %v", x, got)
			}
		}
	}
	if got := made(t, example(), strings.Repeat("\xff", 48)).Row(conf.Query, 0, 1); !slices.Equal(got, []int{-1, -1}) {
		t.Error(got)
	}
}

func TestSame(t *testing.T) {
	list := append(models(t), nil)
	// The same weights in other shapes: only the shape's numbers are others.
	for _, c := range configs([][6]int{{4, 2, 1, 1, 2, 3}, {4, 2, 2, 1, 2, 3}, {3, 2, 1, 1, 2, 4}, {5, 2, 1, 1, 2, 2}, {2, 2, 2, 1, 2, 5}}...) {
		list = append(list, made(t, c, noise(48, 77)))
	}
	for i, a := range list {
		for k, b := range list {
			if Same(a, b) != (i == k) {
				t.Errorf("%d, %d: %v", i, k, Same(a, b))
			}
		}
		if a == nil {
			continue
		}
		again, err := Parse(a.Bytes())
		if err != api.OK || !Same(a, again) || !Same(again, a) || Same(again, nil) || Same(nil, again) {
			t.Errorf("%d: %v, %d", i, again, err)
		}
	}
	if !Same(nil, nil) {
		t.Error("nil has other bytes than nil")
	}
}

func TestSameButOne(t *testing.T) {
	for i, c := range shapes()[:8] {
		w := noise(size(c), i)
		a := made(t, c, w)
		for at := range w {
			turned := []byte(w)
			turned[at] ^= 1 << (at % 8)
			if b := made(t, c, string(turned)); Same(a, b) || Same(b, a) {
				t.Errorf("%v: byte %d", c, at)
			}
		}
	}
}

// P16.3

func TestTablesAreTheWeights(t *testing.T) {
	for _, b := range models(t) {
		all := ""
		add := func(part, block int) {
			got, ok := b.Table(part, block)
			if !ok {
				t.Errorf("%v: no part %d of block %d", b.Config, part, block)
			}
			all += vecs.Bytes(got)
		}
		add(conf.Token, 0)
		add(conf.Place, 0)
		for block := range b.Blocks {
			for part := conf.Norm1; part <= conf.Down; part++ {
				add(part, block)
			}
		}
		add(conf.Last, 0)
		if all != b.Weights() {
			t.Errorf("%v: %q, not %q", b.Config, all, b.Weights())
		}
	}
}

// A model's shape is embedded: its numbers and calls are the model's, but for Bytes, that the model hides.
func TestShapeIsEmbedded(t *testing.T) {
	b := made(t, config([6]int{5, 4, 2, 2, 3, 6}), noise(264, 2))
	if b.Vocab != 5 || b.Dim != 4 || b.Heads != 2 || b.Blocks != 2 || b.Hidden != 3 || b.Context != 6 {
		t.Error(b.Config)
	}
	rows, columns := b.Side(conf.Down)
	from, bytes, ok := b.Range(conf.Last, 0)
	if b.Size() != 264 || b.HeadDim() != 2 || rows != 4 || columns != 3 || from != 260 || bytes != 4 || !ok {
		t.Error(b.Size(), b.HeadDim(), rows, columns, from, bytes, ok)
	}
	if b.Shape.Bytes() != head(b.Config) || b.Bytes() != b.Shape.Bytes()+b.Weights() {
		t.Errorf("%q, %q", b.Shape.Bytes(), b.Bytes())
	}
}

// What embeds a model is one, down to its shape's numbers.

type holder struct {
	*Brain
	name string
}

func (h holder) Weights() string {
	return h.name + h.Brain.Weights()
}

func TestEmbedded(t *testing.T) {
	w := count(48, 0xf8)
	h := holder{made(t, example(), w), "name"}
	if h.Vocab != 4 || h.HeadDim() != 2 || h.Weights() != "name"+w || h.Bytes() != head(example())+w || !slices.Equal(h.Row(conf.Token, 0, 1), []int{-6, -5}) || !Same(h.Brain, made(t, example(), w)) {
		t.Error(h)
	}
}

// Who writes into an answer changes neither the model nor another answer.
func TestAnswersAreNew(t *testing.T) {
	w := noise(264, 3)
	c := config([6]int{5, 4, 2, 2, 3, 6})
	b := made(t, c, w)
	for _, p := range pieces(c, w) {
		x, _ := b.Table(p.part, p.block)
		y, _ := b.Table(p.part, p.block)
		row, other := b.Row(p.part, p.block, 0), b.Row(p.part, p.block, 0)
		for i := range x.Data[:cap(x.Data)] {
			x.Data[:cap(x.Data)][i] = 99
		}
		for i := range row[:cap(row)] {
			row[:cap(row)][i] = 99
		}
		if vecs.Bytes(y) != p.bytes || !slices.Equal(other, p.row(0)) {
			t.Errorf("part %d of block %d: %v, %v", p.part, p.block, y, other)
		}
	}
	holds(t, b, c, w)
}

// Models are never changed: many may ask one at the same time.
func TestModelsAreShared(t *testing.T) {
	c := config([6]int{5, 4, 2, 2, 3, 6})
	w := noise(264, 4)
	b := made(t, c, w)
	var all sync.WaitGroup
	for range 8 {
		all.Go(func() {
			for range 20 {
				holds(t, b, c, w)
				absent(t, b, conf.Down, 2)
			}
		})
	}
	all.Wait()
	if *b != *made(t, c, w) {
		t.Error(b)
	}
}

// The shape's numbers are open. Of a model whose numbers somebody changed the chapter promises nothing, but no call may panic, and no part has other bytes than the weights'.
func TestNumbersThatSomebodyChanged(t *testing.T) {
	for _, was := range configs([][6]int{{2, 1, 1, 1, 1, 1}, {4, 2, 1, 1, 2, 3}, {32, 16, 4, 3, 31, 2}}...) {
		w := noise(size(was), 5)
		for _, c := range append(shapes(), others()...) {
			b := made(t, was, w)
			b.Config = c
			if b.Weights() != w || b.Bytes() != b.Shape.Bytes()+w || b.Digest() != sha256.Sum256([]byte(b.Bytes())) || !Same(b, b) {
				t.Errorf("%v as %v: %q", was, c, b.Bytes())
			}
			for part := -1; part <= 12; part++ {
				for block := -1; block <= 3; block++ {
					from, bytes, ok := b.Range(part, block)
					if !ok || from+bytes > len(w) {
						absent(t, b, part, block)
						continue
					}
					if got, ok := b.Table(part, block); !ok || vecs.Bytes(got) != w[from:from+bytes] {
						t.Errorf("%v as %v: part %d of block %d: %v, %v", was, c, part, block, got, ok)
					}
				}
			}
		}
	}
}

func FuzzOf(f *testing.F) {
	f.Add(4, 2, 1, 1, 2, 3, count(48, 0))
	f.Add(4, 2, 1, 1, 2, 3, count(47, 0))
	f.Add(2, 1, 1, 1, 1, 1, count(13, 0x80))
	f.Add(0, 0, 0, 0, 0, 0, "")
	f.Add(math.MinInt, math.MaxInt, -1, 1<<62, 0, 1<<32+1, "x")
	f.Fuzz(func(t *testing.T, vocab, dim, heads, blocks, hidden, context int, weights string) {
		c := config([6]int{vocab, dim, heads, blocks, hidden, context})
		if !conf.Good(c) {
			refused(t, c, weights, api.ErrArg)
			return
		}
		if len(weights) != size(c) {
			refused(t, c, weights, api.ErrForm)
			weights = noise(size(c), len(weights))
		}
		holds(t, made(t, c, weights), c, weights)
	})
}

func FuzzParse(f *testing.F) {
	f.Add("")
	f.Add(head(example()) + count(48, 0))
	f.Add(head(example()) + count(49, 0))
	f.Add(head(example()))
	f.Add(head(config([6]int{2, 1, 1, 1, 1, 1})) + count(13, 0x80))
	f.Fuzz(func(t *testing.T, s string) {
		parsed(t, s)
	})
}

func FuzzRow(f *testing.F) {
	f.Add(conf.Token, 0, 3)
	f.Add(conf.Down, 1, 0)
	f.Add(conf.Last, 2, 0)
	f.Add(math.MinInt, math.MaxInt, -1)
	f.Fuzz(func(t *testing.T, part, block, at int) {
		c := config([6]int{5, 4, 2, 2, 3, 6})
		w := noise(264, 6)
		b := made(t, c, w)
		for _, p := range pieces(c, w) {
			if p.part != part || p.block != block {
				continue
			}
			if at < 0 || at >= p.rows {
				rowless(t, b, part, block, at)
			} else if got := b.Row(part, block, at); !slices.Equal(got, p.row(at)) {
				t.Errorf("row %d of part %d of block %d: %v", at, part, block, got)
			}
			return
		}
		absent(t, b, part, block)
		rowless(t, b, part, block, at)
	})
}
