package step

import (
	"crypto/sha256"
	"encoding/hex"
	"math"
	"math/rand"
	"reflect"
	"slices"
	"strconv"
	"strings"
	"sync"
	"testing"

	"coadjutor/api"
	"coadjutor/brain"
	"coadjutor/conf"
)

// What follows reckons by the words of chapters 1 and 11 to 17, with none of the layers' calls.

// paper is a model as it stands on paper: a row of rows a part.
type paper struct {
	api.Config
	token, place [][]int
	blocks       []block
	last         []int
}

type block struct {
	norm1                  []int
	query, key, value, mix [][]int
	norm2                  []int
	gate, up, down         [][]int
}

// write: a model's weights, parted in chapter 15's order.
func write(c api.Config, weights string) paper {
	rows := func(n, columns int) [][]int {
		list := make([][]int, n)
		for i := range list {
			for range columns {
				x := int(weights[0])
				if x > 127 {
					x -= 256
				}
				list[i] = append(list[i], x)
				weights = weights[1:]
			}
		}
		return list
	}
	p := paper{Config: c, token: rows(c.Vocab, c.Dim), place: rows(c.Context, c.Dim)}
	for range c.Blocks {
		b := block{norm1: rows(1, c.Dim)[0]}
		b.query, b.key, b.value, b.mix = rows(c.Dim, c.Dim), rows(c.Dim, c.Dim), rows(c.Dim, c.Dim), rows(c.Dim, c.Dim)
		b.norm2 = rows(1, c.Dim)[0]
		b.gate, b.up, b.down = rows(c.Hidden, c.Dim), rows(c.Hidden, c.Dim), rows(c.Dim, c.Hidden)
		p.blocks = append(p.blocks, b)
	}
	p.last = rows(1, c.Dim)[0]
	if weights != "" {
		panic("weights are left")
	}
	return p
}

func sat(x int) int {
	return min(max(x, -32767), 32767)
}

// halves: x by a power of two, to the nearest, a half up.
func halves(x, n int) int {
	return int(math.Floor(float64(x)/float64(int(1)<<n) + 0.5))
}

// sized: the norm of x by gains.
func sized(gains, x []int) []int {
	squares := 0
	for _, n := range x {
		squares += n * n
	}
	mean := squares / len(x)
	root := 0
	for root*root <= mean {
		root++
	}
	list := []int{}
	for i, n := range x {
		list = append(list, sat(n*(64+gains[i])/root))
	}
	return list
}

// products: each row times v.
func products(rows [][]int, v []int) []int {
	list := []int{}
	for _, row := range rows {
		sum := 0
		for i, n := range row {
			sum += n * v[i]
		}
		list = append(list, sum)
	}
	return list
}

// times: each row times v, shifted by 6.
func times(rows [][]int, v []int) []int {
	list := products(rows, v)
	for i, n := range list {
		list[i] = sat(halves(n, 6))
	}
	return list
}

// added: x and what comes to it.
func added(x, more []int) []int {
	list := []int{}
	for i, n := range x {
		list = append(list, sat(n+more[i]))
	}
	return list
}

// counts: what counts of what is so much below the greatest.
func counts(below int) int {
	return []int{65536, 60097, 55109, 50535, 46341, 42495, 38968, 35734}[below%8] / (1 << min(below/8, 20))
}

// seen: what a head makes of the values of all places, by q and their keys.
func seen(q []int, keys, values [][]int) []int {
	scores := products(keys, q)
	for i, n := range scores {
		scores[i] = halves(n, 9)
	}
	total, sums := 0, make([]int, len(q))
	for i, n := range scores {
		w := counts(slices.Max(scores) - n)
		total += w
		for at, v := range values[i] {
			sums[at] += w * v
		}
	}
	for at := range sums {
		sums[at] = sat(sums[at] / total)
	}
	return sums
}

// gated: u through the gates of g.
func gated(g, u []int) []int {
	gates := []int{5, 8, 12, 19, 31, 47, 69, 97, 128, 159, 187, 209, 225, 237, 244, 248, 251}
	list := []int{}
	for i, n := range u {
		at := min(max(8+int(math.Floor(float64(g[i])/32)), 0), 16)
		list = append(list, sat(halves(n*gates[at], 8)))
	}
	return list
}

// goes: what a token leaves behind past, and the scores.
func (p paper) goes(past []Entry, token int) (Entry, []int) {
	x := []int{}
	for i, n := range p.token[token] {
		x = append(x, sat((n+p.place[len(past)][i])*16))
	}
	e := Entry{}
	for i, b := range p.blocks {
		h := sized(b.norm1, x)
		q := times(b.query, h)
		e.Keys = append(e.Keys, times(b.key, h))
		e.Values = append(e.Values, times(b.value, h))
		a := []int{}
		wide := p.Dim / p.Heads
		for from := 0; from < p.Dim; from += wide {
			keys, values := [][]int{}, [][]int{}
			for _, place := range append(slices.Clone(past), e) {
				keys = append(keys, place.Keys[i][from:from+wide])
				values = append(values, place.Values[i][from:from+wide])
			}
			a = append(a, seen(q[from:from+wide], keys, values)...)
		}
		x = added(x, times(b.mix, a))
		h = sized(b.norm2, x)
		x = added(x, times(b.down, gated(times(b.gate, h), times(b.up, h))))
	}
	scores := products(p.token, sized(p.last, x))
	for i, n := range scores {
		scores[i] = halves(n, 5)
	}
	return e, scores
}

// config: a shape of numbers in their order: Vocab, Dim, Heads, Blocks, Hidden, Context.
func config(n [6]int) api.Config {
	return api.Config{Vocab: n[0], Dim: n[1], Heads: n[2], Blocks: n[3], Hidden: n[4], Context: n[5]}
}

// shapes: shapes that can be, each number at both its ends among them, and as many weights as may be.
func shapes() []api.Config {
	list := []api.Config{}
	for _, n := range [][6]int{
		{2, 1, 1, 1, 1, 1}, {4, 2, 1, 1, 2, 3}, {5, 4, 2, 2, 3, 6}, {3, 6, 3, 3, 7, 4}, {32, 16, 4, 2, 32, 32}, {32, 16, 4, 3, 31, 2}, {2, 16, 2, 3, 31, 32}, {32, 15, 3, 3, 32, 32},
		{32, 1, 1, 1, 1, 1}, {2, 1, 1, 3, 1, 2}, {2, 1, 1, 1, 32, 3}, {2, 1, 1, 1, 1, 32}, {2, 16, 1, 1, 1, 5}, {7, 8, 4, 3, 5, 9}, {2, 4, 4, 1, 1, 3}, {17, 9, 3, 2, 11, 13}, {3, 2, 2, 1, 1, 3},
	} {
		list = append(list, config(n))
	}
	r := rand.New(rand.NewSource(17))
	for len(list) < 60 {
		c := config([6]int{2 + r.Intn(31), 1 + r.Intn(16), 1 + r.Intn(4), 1 + r.Intn(3), 1 + r.Intn(32), 1 + r.Intn(32)})
		if conf.Good(c) {
			list = append(list, c)
		}
	}
	return list
}

func size(c api.Config) int {
	return conf.Shape{Config: c}.Size()
}

// noise: weights of every kind, the same ones for the same number: any, small ones, few, and those at the ends.
func noise(n, seed int) string {
	r := rand.New(rand.NewSource(int64(seed)))
	list := make([]byte, n)
	for i := range list {
		switch seed % 5 {
		case 0:
			list[i] = byte(r.Intn(256))
		case 1:
			list[i] = byte(r.Intn(41) - 20)
		case 2:
			if r.Intn(4) == 0 {
				list[i] = byte(r.Intn(256))
			}
		case 3:
			list[i] = []byte{127, 128, 0, 64, 192}[r.Intn(5)]
		case 4:
			list[i] = byte(r.Intn(81) - 20)
		}
	}
	return string(list)
}

// made: the model of a shape and weights, which has to be one.
func made(t testing.TB, c api.Config, weights string) *brain.Brain {
	t.Helper()
	b, err := brain.Of(c, weights)
	if err != api.OK {
		t.Fatalf("%v, %d bytes: %d", c, len(weights), err)
	}
	return b
}

// some: tokens of a model, as many as asked.
func some(r *rand.Rand, c api.Config, n int) []int {
	list := make([]int, n)
	for i := range list {
		list[i] = r.Intn(c.Vocab)
	}
	return list
}

// foreign: entries that the model may never have made: of any activations, or of those at the ends.
func foreign(r *rand.Rand, c api.Config, n int) []Entry {
	list := make([]Entry, n)
	top := []int{3, 100, 3000, 32767}[r.Intn(4)]
	row := func() []int {
		numbers := make([]int, c.Dim)
		for i := range numbers {
			numbers[i] = r.Intn(2*top+1) - top
			if r.Intn(4) == 0 {
				numbers[i] = []int{0, 32767, -32767, 1}[r.Intn(4)]
			}
		}
		return numbers
	}
	for i := range list {
		for range c.Blocks {
			list[i].Keys = append(list[i].Keys, row())
			list[i].Values = append(list[i].Values, row())
		}
	}
	return list
}

// plain: entries of zeros.
func plain(c api.Config, n int) []Entry {
	list := make([]Entry, n)
	for i := range list {
		for range c.Blocks {
			list[i].Keys = append(list[i].Keys, make([]int, c.Dim))
			list[i].Values = append(list[i].Values, make([]int, c.Dim))
		}
	}
	return list
}

// deep: a copy without any call of this package.
func deep(list []Entry) []Entry {
	all := make([]Entry, len(list))
	for i, e := range list {
		for _, row := range e.Keys {
			all[i].Keys = append(all[i].Keys, append([]int{}, row...))
		}
		for _, row := range e.Values {
			all[i].Values = append(all[i].Values, append([]int{}, row...))
		}
	}
	return all
}

// alike: whether two lists of entries have the same numbers, without any call of this package.
func alike(a, b []Entry) bool {
	return reflect.DeepEqual(deep(a), deep(b))
}

// steps: whether Step says of a token behind past what the chapter does.
func steps(t testing.TB, b *brain.Brain, past []Entry, token int) (Entry, []int) {
	t.Helper()
	want, scores := write(b.Config, b.Weights()).goes(past, token)
	got, points, err := Step(b, past, token)
	if err != api.OK || !alike([]Entry{got}, []Entry{want}) || !slices.Equal(points, scores) {
		t.Fatalf("%v: token %d behind %d: %v, %v, %d, not %v, %v", b.Config, token, len(past), got, points, err, want, scores)
	}
	return want, scores
}

// runs: whether Run says of tokens behind past what the chapter does.
func runs(t testing.TB, b *brain.Brain, past []Entry, tokens ...int) ([]Entry, []int) {
	t.Helper()
	p := write(b.Config, b.Weights())
	all, scores := slices.Clone(past), []int(nil)
	for _, token := range tokens {
		var e Entry
		e, scores = p.goes(all, token)
		all = append(all, e)
	}
	got, points, err := Run(b, past, tokens...)
	if err != api.OK || !alike(got, all[len(past):]) || !slices.Equal(points, scores) {
		t.Fatalf("%v: tokens %v behind %d: %v, %v, %d, not %v, %v", b.Config, tokens, len(past), got, points, err, all[len(past):], scores)
	}
	return got, points
}

// refused: whether Step answers an error, and nothing beside it.
func refused(t testing.TB, b *brain.Brain, past []Entry, token int, want api.Errno) {
	t.Helper()
	e, scores, err := Step(b, past, token)
	if err != want || len(e.Keys) != 0 || len(e.Values) != 0 || len(scores) != 0 {
		t.Errorf("token %d behind %d: %v, %v, %d, not %d", token, len(past), e, scores, err, want)
	}
}

// rebuffed: whether Run answers an error, and nothing beside it.
func rebuffed(t testing.TB, want api.Errno, b *brain.Brain, past []Entry, tokens ...int) {
	t.Helper()
	list, scores, err := Run(b, past, tokens...)
	if err != want || len(list) != 0 || len(scores) != 0 {
		t.Errorf("tokens %v behind %d: %v, %v, %d, not %d", tokens, len(past), list, scores, err, want)
	}
}

// example: a shape of all that is more than one, and a model of it.
func example(t testing.TB) (api.Config, *brain.Brain) {
	t.Helper()
	c := config([6]int{5, 4, 2, 2, 3, 6})
	return c, made(t, c, noise(size(c), 4))
}

// tiny: a shape of as little as can be, with two places, and a model whose numbers one may reckon by hand.
func tiny(t testing.TB) *brain.Brain {
	t.Helper()
	// The tokens 3 and -5, the places 1 and 2; the tables are 64, so one, and the gains 0.
	return made(t, config([6]int{2, 1, 1, 1, 1, 2}), "\x03\xfb"+"\x01\x02"+"\x00"+"@@@@"+"\x00"+"@@@"+"\x00")
}

// strangers: entries that can't be the model's of example, each for one cause alone.
func strangers() []Entry {
	c := config([6]int{5, 4, 2, 2, 3, 6})
	list := []Entry{{}, {Keys: [][]int{}, Values: [][]int{}}}
	turn := func(change func(e *Entry)) {
		e := plain(c, 1)[0]
		change(&e)
		list = append(list, e)
	}
	for at := range c.Blocks {
		for _, row := range [][]int{nil, {}, {1}, {1, 2, 3}, {1, 2, 3, 4, 5}, {1, 2, 3, 4, 5, 6, 7, 8}} {
			turn(func(e *Entry) { e.Keys[at] = row })
			turn(func(e *Entry) { e.Values[at] = row })
		}
		for i := range c.Dim {
			for _, n := range []int{32768, -32768, 1 << 16, -1 << 16, 1 << 32, -1 << 32, 1<<32 + 1, math.MaxInt, math.MinInt} {
				turn(func(e *Entry) { e.Keys[at][i] = n })
				turn(func(e *Entry) { e.Values[at][i] = n })
			}
		}
	}
	for n := range 5 {
		if n != c.Blocks {
			turn(func(e *Entry) { e.Keys = slices.Repeat(e.Keys, 3)[:n] })
			turn(func(e *Entry) { e.Values = slices.Repeat(e.Values, 3)[:n] })
		}
	}
	turn(func(e *Entry) { e.Keys = nil })
	turn(func(e *Entry) { e.Values = nil })
	turn(func(e *Entry) { e.Keys, e.Values = e.Keys[:1], e.Values[:1] })
	turn(func(e *Entry) { e.Keys, e.Values = e.Keys[1:], slices.Repeat(e.Values, 2)[:3] })
	return list
}

// wild: numbers that are no token.
func wild() []int {
	return []int{-1, -2, -5, 5, 6, 32, 255, 256, 1 << 16, 1<<32 + 1, -1<<32 + 1, 1 << 62, math.MaxInt, math.MinInt, math.MinInt + 1}
}

// P17.1

func TestGood(t *testing.T) {
	r := rand.New(rand.NewSource(1))
	for i, c := range shapes() {
		b := made(t, c, noise(size(c), i))
		for _, e := range append(foreign(r, c, 20), plain(c, 1)...) {
			if !Good(b, e) {
				t.Errorf("%v: %v", c, e)
			}
		}
	}
	_, b := example(t)
	for _, n := range []int{0, 1, -1, 32766, 32767, -32766, -32767} {
		row := []int{n, n, n, n}
		if !Good(b, Entry{Keys: [][]int{row, row}, Values: [][]int{row, row}}) {
			t.Error(n)
		}
	}
}

func TestGoodOfWhatCannotBe(t *testing.T) {
	_, b := example(t)
	for _, e := range strangers() {
		if Good(b, e) {
			t.Error(e)
		}
	}
}

// An entry of one shape is another one's just where both have as many blocks and numbers.
func TestGoodOfOtherModels(t *testing.T) {
	for i, c := range shapes() {
		e := plain(c, 1)[0]
		for _, other := range shapes() {
			if got, want := Good(made(t, other, noise(size(other), i)), e), c.Blocks == other.Blocks && c.Dim == other.Dim; got != want {
				t.Errorf("%v of %v: %v", c, other, got)
			}
		}
		if Good(nil, e) {
			t.Error(c)
		}
	}
	if Good(nil, Entry{}) {
		t.Error("nil")
	}
}

func TestSame(t *testing.T) {
	r := rand.New(rand.NewSource(2))
	for _, c := range shapes() {
		e := foreign(r, c, 1)[0]
		if !Same(e, e) || !Same(e, deep([]Entry{e})[0]) || Same(e, Entry{}) || Same(Entry{}, e) {
			t.Error(e)
		}
		for at := range c.Blocks {
			for i := range c.Dim {
				for _, by := range []int{1, -1, 1 << 32, math.MinInt} {
					key, value := deep([]Entry{e})[0], deep([]Entry{e})[0]
					key.Keys[at][i] += by
					value.Values[at][i] += by
					if Same(e, key) || Same(key, e) || Same(e, value) || Same(value, e) || Same(key, value) {
						t.Error(e, at, i)
					}
				}
			}
		}
	}
}

func TestSameOfAll(t *testing.T) {
	// Entries of any kind, each other than all others.
	list := []Entry{
		{}, {Keys: [][]int{{}}}, {Values: [][]int{{}}}, {Keys: [][]int{{}}, Values: [][]int{{}}}, {Keys: [][]int{{}, {}}},
		{Keys: [][]int{{1}}}, {Values: [][]int{{1}}}, {Keys: [][]int{{1}}, Values: [][]int{{1}}}, {Keys: [][]int{{1}, {}}}, {Keys: [][]int{{}, {1}}},
		{Keys: [][]int{{1, 2}}}, {Keys: [][]int{{2, 1}}}, {Keys: [][]int{{1}, {2}}}, {Keys: [][]int{{2}, {1}}}, {Keys: [][]int{{1}}, Values: [][]int{{2}}}, {Keys: [][]int{{2}}, Values: [][]int{{1}}},
		{Keys: [][]int{{0}}}, {Keys: [][]int{{0, 0}}}, {Keys: [][]int{{0}, {0}}}, {Keys: [][]int{{math.MaxInt}}}, {Keys: [][]int{{math.MinInt}}}, {Values: [][]int{{1, 2, 3}, {4, 5}}}, {Values: [][]int{{1, 2}, {3, 4, 5}}},
	}
	for i, a := range list {
		for j, b := range deep(list) {
			if Same(a, b) != (i == j) {
				t.Error(a, b)
			}
		}
	}
	// What holds nothing may be nil or empty.
	for _, a := range []Entry{{}, {Keys: [][]int{}}, {Values: [][]int{}}, {Keys: [][]int{}, Values: [][]int{}}} {
		if !Same(a, Entry{}) || !Same(Entry{}, a) {
			t.Errorf("%#v", a)
		}
	}
	if !Same(Entry{Keys: [][]int{nil, {1}}, Values: [][]int{{}}}, Entry{Keys: [][]int{{}, {1}}, Values: [][]int{nil}}) {
		t.Error("nil rows")
	}
}

func TestCopy(t *testing.T) {
	r := rand.New(rand.NewSource(3))
	list := append(strangers(), foreign(r, config([6]int{5, 4, 2, 2, 3, 6}), 5)...)
	for _, e := range append(list, foreign(r, config([6]int{5, 16, 4, 3, 3, 6}), 5)...) {
		was := deep([]Entry{e})
		got := Copy(e)
		if !alike([]Entry{got}, was) || !Same(got, e) || !Same(e, got) {
			t.Errorf("%v: %v", e, got)
		}
		spoil(got)
		if !alike([]Entry{e}, was) {
			t.Errorf("%v, not %v", e, was)
		}
		got = Copy(e)
		spoil(e)
		if !alike([]Entry{got}, was) {
			t.Errorf("%v, not %v", got, was)
		}
	}
}

// spoil: all numbers, and all rows, of an entry are made others, with the spare room behind them.
func spoil(e Entry) {
	for _, rows := range [][][]int{e.Keys, e.Values} {
		rows = rows[:cap(rows)]
		for i, row := range rows {
			row = row[:cap(row)]
			for at := range row {
				row[at] ^= 99
			}
			rows[i] = []int{99}
		}
	}
}

// The rows that are handed in may be one and the same; those of a copy aren't.
func TestCopyOfOneRow(t *testing.T) {
	row := []int{1, 2, 3, 4}
	rows := [][]int{row, row}
	got := Copy(Entry{Keys: rows, Values: rows})
	if !Same(got, Entry{Keys: rows, Values: rows}) {
		t.Error(got)
	}
	apart(t, []Entry{got})
	if !slices.Equal(row, []int{1, 2, 3, 4}) || len(rows[0]) != 4 || len(rows[1]) != 4 {
		t.Error(row, rows)
	}
}

// apart: whether what is written into one list of answers, into its spare room too, is seen in no other one. The answers are others behind it.
func apart(t testing.TB, list []Entry, more ...[]int) {
	t.Helper()
	rows, tables := more, [][][]int{}
	for _, e := range list {
		rows = slices.Concat(rows, e.Keys, e.Values)
		tables = append(tables, e.Keys, e.Values)
	}
	for i, row := range rows {
		for at := range row[:cap(row)] {
			row[:cap(row)][at] = i
		}
	}
	for i, row := range rows {
		if slices.ContainsFunc(row, func(n int) bool { return n != i }) {
			t.Errorf("the row %d is another one: %v", i, row)
		}
	}
	for i, table := range tables {
		for at := range table[:cap(table)] {
			table[:cap(table)][at] = []int{i}
		}
	}
	for i, table := range tables {
		if slices.ContainsFunc(table, func(row []int) bool { return row[0] != i }) {
			t.Errorf("the table %d is another one: %v", i, table)
		}
	}
}

// P17.2

// A model that one may reckon by hand.
func TestStepByHand(t *testing.T) {
	b := tiny(t)
	// x is 64, h 63, and so are q, k and v: the place sees itself alone. x is 127, h 63, its gate 159: 39; x is 166, h 63.
	one, scores, err := Step(b, nil, 0)
	if err != api.OK || !alike([]Entry{one}, []Entry{{Keys: [][]int{{63}}, Values: [][]int{{63}}}}) || !slices.Equal(scores, []int{6, -10}) {
		t.Error(one, scores, err)
	}
	// x is -48, h -62; the place ahead has -8, this one 8: 16384 and 65536 mix 63 and -62 to -37. x is -85, h -63, its gate 69: -17; x is -102, h -63.
	two, scores, err := Step(b, []Entry{one}, 1)
	if err != api.OK || !alike([]Entry{two}, []Entry{{Keys: [][]int{{-62}}, Values: [][]int{{-62}}}}) || !slices.Equal(scores, []int{-6, 10}) {
		t.Error(two, scores, err)
	}
	refused(t, b, []Entry{one, two}, 0, api.ErrLong)
}

// Each number of the example of the two heads is at its own place: what a head sees is its own numbers alone.
func TestStepOfHeads(t *testing.T) {
	c := config([6]int{3, 2, 2, 1, 1, 3})
	w := make([]byte, size(c))
	copy(w, []byte{10, 0, 0, 10, 10, 10})
	// Value, and Mix, are as they are: the place ahead has 89 0, this one 0 89, and with keys of 0 both count the same.
	w[22], w[25], w[26], w[29] = 64, 64, 64, 64
	b := made(t, c, string(w))
	list, scores, err := Run(b, nil, 0, 1)
	if err != api.OK || !alike(list, []Entry{{Keys: [][]int{{0, 0}}, Values: [][]int{{89, 0}}}, {Keys: [][]int{{0, 0}}, Values: [][]int{{0, 89}}}}) {
		t.Error(list, err)
	}
	// x is 44 204, its root 148, h 19 88: 190, 880 and 1070 by 32.
	if !slices.Equal(scores, []int{6, 28, 33}) {
		t.Error(scores)
	}
	for _, heads := range []int{1, 2} {
		c.Heads = heads
		// The first head's keys tell places apart, the second one's don't.
		w[14], w[18] = 127, 127
		b := made(t, c, string(w))
		past := []Entry{{Keys: [][]int{{32767, 0}}, Values: [][]int{{1000, 1000}}}, {Keys: [][]int{{-32767, 0}}, Values: [][]int{{3000, 5000}}}}
		steps(t, b, past, 0)
	}
}

func TestStepOfZeros(t *testing.T) {
	for _, c := range shapes() {
		b := made(t, c, strings.Repeat("\x00", size(c)))
		for n := range min(c.Context, 4) {
			for token := range c.Vocab {
				e, scores, err := Step(b, plain(c, n), token)
				if err != api.OK || !alike([]Entry{e}, plain(c, 1)) || !slices.Equal(scores, make([]int, c.Vocab)) {
					t.Errorf("%v: %v, %v, %d", c, e, scores, err)
				}
			}
		}
	}
}

// Behind what it left itself, each token once at least.
func TestStep(t *testing.T) {
	for i, c := range shapes() {
		for seed := range 5 {
			b := made(t, c, noise(size(c), 5*i+seed))
			r := rand.New(rand.NewSource(int64(i)))
			past := []Entry{}
			for range min(c.Context, 6) {
				e, _ := steps(t, b, past, r.Intn(c.Vocab))
				past = append(past, e)
			}
			for token := range c.Vocab {
				steps(t, b, past[:token%len(past)], token)
			}
		}
	}
}

// Behind entries that somebody else made, up to the last place.
func TestStepBehindAny(t *testing.T) {
	r := rand.New(rand.NewSource(4))
	for i, c := range shapes() {
		for seed := range 5 {
			b := made(t, c, noise(size(c), 5*i+seed))
			for _, n := range []int{0, 1, c.Context / 2, c.Context - 2, c.Context - 1} {
				past := foreign(r, c, max(n, 0))
				if len(past) < c.Context {
					steps(t, b, past, r.Intn(c.Vocab))
				}
			}
		}
	}
}

// Weights that are all the same, at the ends of what there is.
func TestStepOfOneWeight(t *testing.T) {
	r := rand.New(rand.NewSource(5))
	for _, c := range shapes() {
		for _, w := range []string{"\x01", "\x7f", "\x80", "\xff", "\xc0", "@"} {
			b := made(t, c, strings.Repeat(w, size(c)))
			steps(t, b, nil, 0)
			steps(t, b, foreign(r, c, c.Context-1), c.Vocab-1)
		}
	}
}

// Each weight of a small model plays its part, and its own alone.
func TestStepOfEachWeight(t *testing.T) {
	r := rand.New(rand.NewSource(6))
	c := config([6]int{3, 4, 2, 2, 3, 3})
	for seed := range 5 {
		was := noise(size(c), seed)
		past := foreign(r, c, 1)
		for at := range was {
			turned := []byte(was)
			turned[at] += byte(1 + r.Intn(255))
			runs(t, made(t, c, string(turned)), past, r.Intn(3), r.Intn(3))
		}
	}
}

func TestStepIsRefused(t *testing.T) {
	c, b := example(t)
	good := plain(c, 7)
	// A nil model is ahead of all.
	for _, past := range [][]Entry{nil, {}, {{}}, good, good[:2], slices.Repeat(good, 10)} {
		for _, token := range append(wild(), 0, 4) {
			refused(t, nil, past, token, api.ErrNil)
		}
	}
	// An entry that can't be is ahead of the token, and of how many there are.
	for _, bad := range strangers() {
		for at, past := range [][]Entry{{bad}, {bad, good[0]}, {good[0], bad}, {good[0], bad, good[1]}, append(slices.Clone(good), bad), append([]Entry{bad}, good...)} {
			refused(t, b, past, at%c.Vocab, api.ErrArg)
			refused(t, b, past, -1, api.ErrArg)
			refused(t, b, past, 5, api.ErrArg)
		}
	}
	// The token is ahead of how many there are.
	for n := range 8 {
		for _, token := range wild() {
			refused(t, b, good[:min(n, 7)], token, api.ErrRange)
		}
	}
	for _, past := range [][]Entry{good[:6], good, slices.Repeat(good, 100)} {
		for token := range c.Vocab {
			refused(t, b, past, token, api.ErrLong)
		}
	}
	for token := range c.Vocab {
		steps(t, b, good[:5], token)
	}
}

// Of each shape the last token and the last place are, and the next ones aren't.
func TestStepAtTheEdges(t *testing.T) {
	for i, c := range shapes() {
		b := made(t, c, noise(size(c), i))
		steps(t, b, plain(c, c.Context-1), c.Vocab-1)
		steps(t, b, plain(c, c.Context-1), 0)
		refused(t, b, plain(c, c.Context), c.Vocab-1, api.ErrLong)
		refused(t, b, plain(c, c.Context+1), 0, api.ErrLong)
		refused(t, b, plain(c, c.Context-1), c.Vocab, api.ErrRange)
		refused(t, b, plain(c, c.Context), c.Vocab, api.ErrRange)
		refused(t, b, nil, -1, api.ErrRange)
	}
}

// P17.3

func TestRun(t *testing.T) {
	r := rand.New(rand.NewSource(7))
	for i, c := range shapes() {
		for seed := range 5 {
			b := made(t, c, noise(size(c), 5*i+seed))
			n := 1 + r.Intn(min(c.Context, 8))
			list, _ := runs(t, b, nil, some(r, c, n)...)
			if left := min(c.Context-n, 8); left > 0 {
				runs(t, b, list, some(r, c, 1+r.Intn(left))...)
			}
			ahead := r.Intn(c.Context)
			runs(t, b, foreign(r, c, ahead), some(r, c, 1+r.Intn(min(c.Context-ahead, 8)))...)
		}
	}
}

// All places at once, and as many as are left.
func TestRunToTheEnd(t *testing.T) {
	r := rand.New(rand.NewSource(8))
	for i, c := range shapes() {
		b := made(t, c, noise(size(c), i))
		runs(t, b, nil, some(r, c, c.Context)...)
		ahead := r.Intn(c.Context)
		runs(t, b, foreign(r, c, ahead), some(r, c, c.Context-ahead)...)
		rebuffed(t, api.ErrLong, b, nil, some(r, c, c.Context+1)...)
		rebuffed(t, api.ErrLong, b, foreign(r, c, ahead), some(r, c, c.Context-ahead+1)...)
	}
}

func TestRunOfZeros(t *testing.T) {
	for _, c := range shapes() {
		b := made(t, c, strings.Repeat("\x00", size(c)))
		list, scores, err := Run(b, nil, make([]int, c.Context)...)
		if err != api.OK || !alike(list, plain(c, c.Context)) || !slices.Equal(scores, make([]int, c.Vocab)) {
			t.Errorf("%v: %v, %v, %d", c, list, scores, err)
		}
	}
}

func TestRunIsRefused(t *testing.T) {
	c, b := example(t)
	good := plain(c, 7)
	for _, past := range [][]Entry{nil, {{}}, good, good[:2]} {
		for _, tokens := range [][]int{nil, {}, {0}, {-1}, {5, 0}, make([]int, 6), make([]int, 100)} {
			rebuffed(t, api.ErrNil, nil, past, tokens...)
		}
	}
	// No token is ahead of too many entries; so is one of these that can't be, and it is ahead of what tokens there are.
	for n := range 8 {
		rebuffed(t, api.ErrArg, b, good[:n])
		rebuffed(t, api.ErrArg, b, good[:n], []int{}...)
	}
	for _, bad := range strangers() {
		for _, past := range [][]Entry{{bad}, {bad, good[0]}, {good[0], bad}, append(slices.Clone(good), bad), append([]Entry{bad}, good...)} {
			for _, tokens := range [][]int{nil, {0}, {4, 4}, {-1}, {0, 5}, make([]int, 7)} {
				rebuffed(t, api.ErrArg, b, past, tokens...)
			}
		}
	}
	// A token that can't be, whichever it is, is ahead of how many there are.
	for _, token := range wild() {
		for n := range 10 {
			for at := range n {
				tokens := make([]int, n)
				tokens[at] = token
				for _, past := range [][]Entry{nil, good[:3], good} {
					rebuffed(t, api.ErrRange, b, past, tokens...)
				}
			}
		}
	}
	for n := range 8 {
		for m := 1; m < 10; m++ {
			if n+m > 6 {
				rebuffed(t, api.ErrLong, b, good[:n], make([]int, m)...)
			} else {
				runs(t, b, good[:n], make([]int, m)...)
			}
		}
	}
	rebuffed(t, api.ErrLong, b, slices.Repeat(good, 1000), 0)
	rebuffed(t, api.ErrLong, b, nil, make([]int, 10000)...)
}

// P17.4

// At once, one by one, or in any two or three parts: it is the same.
func TestRunInParts(t *testing.T) {
	r := rand.New(rand.NewSource(9))
	for i, c := range shapes() {
		b := made(t, c, noise(size(c), i))
		n := min(c.Context, 7)
		tokens := some(r, c, n)
		all, scores, err := Run(b, nil, tokens...)
		if err != api.OK || len(all) != n || len(scores) != c.Vocab {
			t.Fatal(c, all, scores, err)
		}
		past := []Entry{}
		for at, token := range tokens {
			e, points, err := Step(b, past, token)
			if err != api.OK || !Same(e, all[at]) || (at == n-1) && !slices.Equal(points, scores) {
				t.Errorf("%v: %v, %v, %d", c, e, points, err)
			}
			past = append(past, e)
		}
		for cut := 1; cut < n; cut++ {
			one, _, _ := Run(b, nil, tokens[:cut]...)
			two, points, err := Run(b, one, tokens[cut:]...)
			if err != api.OK || !alike(one, all[:cut]) || !alike(two, all[cut:]) || !slices.Equal(points, scores) {
				t.Errorf("%v: %d of %d: %v, %v, %v, %d", c, cut, n, one, two, points, err)
			}
		}
	}
}

// What stands behind a place plays no part in what it leaves.
func TestBeginnings(t *testing.T) {
	r := rand.New(rand.NewSource(10))
	for i, c := range shapes() {
		b := made(t, c, noise(size(c), i))
		n := min(c.Context, 8)
		tokens := some(r, c, n)
		all, _, _ := Run(b, nil, tokens...)
		for cut := 1; cut <= n; cut++ {
			other := append(slices.Clone(tokens[:cut]), some(r, c, n-cut)...)
			got, _, err := Run(b, nil, other...)
			if err != api.OK || !alike(got[:cut], all[:cut]) {
				t.Errorf("%v: %v and %v: %v, %v, %d", c, tokens, other, got, all, err)
			}
		}
	}
}

// Models are shared, and nothing is kept from call to call: what was asked between plays no part.
func TestNothingIsKept(t *testing.T) {
	r := rand.New(rand.NewSource(11))
	c, b := example(t)
	w := b.Weights()
	tokens := some(r, c, 6)
	want, scores, _ := Run(b, nil, tokens...)
	var all sync.WaitGroup
	for seed := range 8 {
		all.Go(func() {
			r := rand.New(rand.NewSource(int64(seed)))
			for range 20 {
				Run(b, nil, some(r, c, 1+r.Intn(6))...)
				Step(b, want[:r.Intn(6)], r.Intn(5))
				Run(b, want, -1)
				got, points, err := Run(b, nil, tokens...)
				if err != api.OK || !alike(got, want) || !slices.Equal(points, scores) {
					t.Error(got, points, err)
				}
			}
		})
	}
	all.Wait()
	if b.Config != c || b.Weights() != w {
		t.Error(b)
	}
}

// What is handed in isn't changed, its spare room neither.
func TestArgumentsAreKeptAsTheyAre(t *testing.T) {
	r := rand.New(rand.NewSource(12))
	for i, c := range shapes() {
		b := made(t, c, noise(size(c), i))
		room := foreign(r, c, c.Context)
		was := deep(room)
		for n := range min(c.Context, 4) {
			tokens := some(r, c, c.Context)
			kept := slices.Clone(tokens)
			Step(b, room[:n], tokens[0])
			Run(b, room[:n], tokens[:1]...)
			Run(b, room[:n], tokens[:c.Context-n]...)
			if !alike(room, was) || !slices.Equal(tokens, kept) {
				t.Errorf("%v: %v, not %v; %v, not %v", c, room, was, tokens, kept)
			}
		}
		Same(room[0], room[0])
		Good(b, room[0])
		if !alike(room, was) {
			t.Errorf("%v: %v, not %v", c, room, was)
		}
	}
}

// An answer shares no memory with what was handed in, nor with another answer, nor have two of its lists any in common.
func TestAnswersAreNew(t *testing.T) {
	r := rand.New(rand.NewSource(13))
	for i, c := range shapes() {
		b := made(t, c, noise(size(c), i))
		ahead := (c.Context - 1) / 2
		past := foreign(r, c, ahead)
		was := deep(past)
		tokens := some(r, c, c.Context-ahead)
		want, points := runs(t, b, past, tokens...)
		kept, numbers := deep(want), slices.Clone(points)

		list, scores := runs(t, b, past, tokens...)
		apart(t, list, scores)
		clear(list[:cap(list)])
		e, scores, _ := Step(b, past, tokens[0])
		apart(t, []Entry{e}, scores)
		if !alike(past, was) {
			t.Errorf("%v: %v, not %v", c, past, was)
		}
		apart(t, past)
		clear(past)
		if !alike(want, kept) || !slices.Equal(points, numbers) {
			t.Errorf("%v: %v, not %v", c, want, kept)
		}
	}
}

// A model's numbers are open. Of one whose numbers somebody changed the chapter promises nothing, but no call may panic.
func TestNumbersThatSomebodyChanged(t *testing.T) {
	changed := append(shapes(), api.Config{}, config([6]int{-1, -1, -1, -1, -1, -1}), config([6]int{4, 2, 0, 1, 2, 3}), config([6]int{4, 2, 3, 1, 2, 3}), config([6]int{4, 2, 1, -1, 2, 3}), config([6]int{math.MaxInt, math.MaxInt, 1, math.MaxInt, 1, math.MaxInt}))
	for _, was := range shapes()[:8] {
		for _, c := range changed {
			b := made(t, was, noise(size(was), 1))
			b.Config = c
			past := []Entry{{}}
			if conf.Good(c) {
				past = plain(c, c.Context)
			}
			Good(b, past[0])
			past = past[1:]
			Step(b, nil, 0)
			Step(b, past, c.Vocab-1)
			Run(b, past, 0, 0)
			Run(b, nil, 1, 0)
		}
	}
	for _, c := range changed {
		// No call made it, so it has no weights.
		b := &brain.Brain{Shape: conf.Shape{Config: c}}
		Good(b, Entry{})
		Step(b, nil, 0)
		Run(b, []Entry{{}}, 0, 1)
	}
}

// The sums of all that a run leaves, and its scores, are those that another program works out of the same chapters, with fractions without a bound.
func TestAnotherProgram(t *testing.T) {
	long := []int{}
	for i := range 32 {
		long = append(long, (7*i+1)%32)
	}
	for _, c := range []struct {
		shape     [6]int
		by, from  int
		tokens    []int
		key, want []int
		sum       string
	}{
		{[6]int{5, 4, 2, 2, 3, 6}, 37, 11, []int{0, 4, 2, 2, 1, 3}, []int{-287, 202, 35, -345}, []int{-459, 274, -1003, 558, -158}, "3f13a95fec554aa4345de9188427443a1766b9e932b0cb5a424043e5256888af"},
		{[6]int{6, 6, 3, 3, 7, 4}, 101, 5, []int{5, 0, 5, 1}, []int{333, -206, 297, 347}, []int{-888, 13, 109, -510, -499, 12}, "6e93cd56c8ed395bb6500307a67c2a6038bc51001d153a204d49b7ff9abf14f1"},
		{[6]int{4, 8, 2, 1, 16, 9}, 29, 200, []int{1, 2, 3, 0, 1, 2, 3, 0, 1}, []int{-156, -20, 161, -87}, []int{-226, 327, -440, 831}, "a1692a5e5c924d08df377e5d6e24c553dba374b03715657d88a672f01e09d995"},
		{[6]int{32, 16, 4, 2, 32, 32}, 77, 3, long, []int{-598, 537, 899, 221}, []int{2044, 885, -1743, -704, -124, 143, 1031, -2627}, "800e7be52a9ca3100d3faeafe36194de0892f7c38f4d668e61785bdd524f4972"},
	} {
		w := make([]byte, size(config(c.shape)))
		for i := range w {
			w[i] = byte(i*i*c.by + c.from + i/7)
		}
		list, scores, err := Run(made(t, config(c.shape), string(w)), nil, c.tokens...)
		if err != api.OK || len(list) != len(c.tokens) {
			t.Fatal(c.shape, list, err)
		}
		keys := list[len(list)-1].Keys
		if !slices.Equal(keys[len(keys)-1][:4], c.key) || !slices.Equal(scores[:min(len(scores), 8)], c.want) {
			t.Errorf("%v: %v, %v, not %v, %v", c.shape, keys, scores, c.key, c.want)
		}
		sum := sha256.Sum256([]byte(told(list) + ";" + line(scores)))
		if hex.EncodeToString(sum[:]) != c.sum {
			t.Errorf("%v: %x", c.shape, sum)
		}
	}
}

// told: all numbers of entries, in order, the keys of each ahead of its values.
func told(list []Entry) string {
	all := []int{}
	for _, e := range list {
		all = append(all, slices.Concat(slices.Concat(e.Keys, e.Values)...)...)
	}
	return line(all)
}

func line(list []int) string {
	words := []string{}
	for _, n := range list {
		words = append(words, strconv.Itoa(n))
	}
	return strings.Join(words, ",")
}

func FuzzRun(f *testing.F) {
	f.Add(3, 4, 2, 2, 3, 3, "\x10\x20\x40\x80", 1, int64(1), "\x00\x01")
	f.Add(2, 1, 1, 1, 1, 1, "", 0, int64(2), "\x01")
	f.Add(32, 16, 4, 2, 32, 32, "\x7f\x80", 20, int64(3), "\x00\x1f\x10")
	f.Add(5, 6, 3, 3, 7, 4, "\xff\x01", 5, int64(4), "")
	f.Fuzz(func(t *testing.T, vocab, dim, heads, blocks, hidden, context int, weights string, ahead int, seed int64, text string) {
		c := config([6]int{vocab, dim, heads, blocks, hidden, context})
		if !conf.Good(c) {
			return
		}
		b := made(t, c, (weights + strings.Repeat(weights+"\x05", 8192))[:size(c)])
		past := foreign(rand.New(rand.NewSource(seed)), c, min(max(ahead, 0), 40))
		tokens := []int{}
		for i := range len(text) {
			tokens = append(tokens, int(int8(text[i])))
		}
		strange := func(token int) bool { return token < 0 || token >= vocab }
		switch {
		case len(tokens) == 0:
			rebuffed(t, api.ErrArg, b, past)
		case slices.ContainsFunc(tokens, strange):
			rebuffed(t, api.ErrRange, b, past, tokens...)
		case len(past)+len(tokens) > context:
			rebuffed(t, api.ErrLong, b, past, tokens...)
		default:
			runs(t, b, past, tokens...)
			steps(t, b, past, tokens[0])
		}
	})
}

func FuzzGood(f *testing.F) {
	f.Add(0, 0, 0, 32767, false)
	f.Add(1, 1, 3, -32768, true)
	f.Add(2, 5, 4, math.MinInt, false)
	f.Fuzz(func(t *testing.T, rows, at, long, n int, value bool) {
		c, b := example(t)
		e := plain(c, 1)[0]
		row := make([]int, min(max(long, 0), 20))
		if len(row) > 0 {
			row[(at%len(row)+len(row))%len(row)] = n
		}
		list := slices.Repeat([][]int{make([]int, c.Dim)}, min(max(rows, 0), 20))
		list = append(list, row)
		if value {
			e.Values = list
		} else {
			e.Keys = list
		}
		want := len(list) == 2 && len(row) == 4 && n >= -32767 && n <= 32767
		if Good(b, e) != want {
			t.Error(e, want)
		}
		if !want {
			refused(t, b, []Entry{e}, 0, api.ErrArg)
		} else {
			steps(t, b, []Entry{e}, 0)
		}
		if got := Copy(e); !Same(got, e) {
			t.Error(got, e)
		}
	})
}
