package gen

import (
	"math"
	"math/rand"
	"slices"
	"strings"
	"sync"
	"testing"

	"coadjutor/api"
	"coadjutor/brain"
	"coadjutor/conf"
	"coadjutor/step"
)

// What follows reckons by the words of chapters 12 and 18, with layer 17's calls alone; these are asked of the whole text, anew for each token.

// counts: what counts of what is so much below the greatest.
func counts(below int) int {
	return []int{65536, 60097, 55109, 50535, 46341, 42495, 38968, 35734}[below%8] / (1 << min(below/8, 20))
}

// parts: what counts of each score.
func parts(scores []int) []int {
	list := []int{}
	for _, x := range scores {
		list = append(list, min(max(x, -1<<30), 1<<30))
	}
	top := slices.Max(list)
	for i, x := range list {
		list[i] = counts(top - x)
	}
	return list
}

// drawn: the token that a draw takes.
func drawn(draw int, scores []int) int {
	total, list := 0, parts(scores)
	for _, n := range list {
		total += n
	}
	at := (draw%total + total) % total
	for i, n := range list {
		if at < n {
			return i
		}
		at -= n
	}
	panic("no token")
}

// best: the token with the greatest score, the first of the same.
func best(scores []int) int {
	return slices.Index(scores, slices.Max(scores))
}

// told: the error that the chapter names first.
func told(b *brain.Brain, most int, prompt []int) api.Errno {
	strange := 0
	for _, token := range prompt {
		if b != nil && (token < 0 || token >= b.Vocab) {
			strange++
		}
	}
	switch {
	case b == nil:
		return api.ErrNil
	case len(prompt) == 0, most <= 0, most >= 33:
		return api.ErrArg
	case strange > 0:
		return api.ErrRange
	case len(prompt) > b.Context, len(prompt) > b.Context-most:
		return api.ErrLong
	}
	return api.OK
}

// behind: the scores behind a text.
func behind(t testing.TB, b *brain.Brain, text []int) []int {
	t.Helper()
	_, scores, err := step.Run(b, nil, text...)
	if err != api.OK {
		t.Fatal(b.Config, text, err)
	}
	return scores
}

// spoken: what is said, where take tells the token at a place of it.
func spoken(t testing.TB, b *brain.Brain, prompt []int, most int, take func(at int, scores []int) int) []int {
	t.Helper()
	text := slices.Clone(prompt)
	for at := range most {
		token := take(at, behind(t, b, text))
		if token == 0 {
			break
		}
		text = append(text, token)
	}
	return text[len(prompt):]
}

// gens: whether Gen says what the chapter does; what is said.
func gens(t testing.TB, b *brain.Brain, prompt []int, most int, draws ...int) []int {
	t.Helper()
	want := spoken(t, b, prompt, most, func(at int, scores []int) int {
		return drawn(append(slices.Clone(draws), make([]int, most)...)[at], scores)
	})
	got, err := Gen(b, prompt, most, draws...)
	if err != api.OK || !slices.Equal(got, want) {
		t.Fatalf("%v: behind %v, %d at most, by %v: %v, %d, not %v", b.Config, prompt, most, draws, got, err, want)
	}
	return want
}

// greeds: whether Greedy says what the chapter does; what is said.
func greeds(t testing.TB, b *brain.Brain, prompt []int, most int) []int {
	t.Helper()
	want := spoken(t, b, prompt, most, func(_ int, scores []int) int { return best(scores) })
	got, err := Greedy(b, prompt, most)
	if err != api.OK || !slices.Equal(got, want) {
		t.Fatalf("%v: behind %v, %d at most: %v, %d, not %v", b.Config, prompt, most, got, err, want)
	}
	return want
}

// refused: whether all calls answer an error, and nothing beside it.
func refused(t testing.TB, want api.Errno, b *brain.Brain, most int, prompt ...int) {
	t.Helper()
	if err := Check(b, most, prompt...); err != want {
		t.Errorf("behind %v, %d at most: %d, not %d", prompt, most, err, want)
	}
	for _, draws := range [][]int{nil, {5, 70000, -1}, make([]int, 40)} {
		if got, err := Gen(b, prompt, most, draws...); err != want || len(got) != 0 {
			t.Errorf("behind %v, %d at most, by %v: %v, %d, not %d", prompt, most, draws, got, err, want)
		}
	}
	if got, err := Greedy(b, prompt, most); err != want || len(got) != 0 {
		t.Errorf("behind %v, %d at most: %v, %d, not %d", prompt, most, got, err, want)
	}
}

// config: a shape of numbers in their order: Vocab, Dim, Heads, Blocks, Hidden, Context.
func config(n [6]int) api.Config {
	return api.Config{Vocab: n[0], Dim: n[1], Heads: n[2], Blocks: n[3], Hidden: n[4], Context: n[5]}
}

// shapes: shapes that can be, each number at both its ends among them.
func shapes() []api.Config {
	list := []api.Config{}
	for _, n := range [][6]int{
		{2, 1, 1, 1, 1, 2}, {2, 1, 1, 1, 1, 3}, {4, 2, 1, 1, 2, 3}, {5, 4, 2, 2, 3, 6}, {3, 6, 3, 3, 7, 4}, {32, 16, 4, 1, 32, 32}, {32, 16, 4, 3, 31, 2}, {2, 16, 2, 3, 31, 9},
		{32, 1, 1, 1, 1, 11}, {2, 1, 1, 3, 1, 2}, {2, 1, 1, 1, 32, 3}, {3, 1, 1, 1, 1, 32}, {7, 8, 4, 3, 5, 9}, {17, 9, 3, 2, 11, 13}, {9, 4, 4, 1, 1, 20},
	} {
		list = append(list, config(n))
	}
	r := rand.New(rand.NewSource(18))
	for len(list) < 40 {
		c := config([6]int{2 + r.Intn(31), 1 + r.Intn(16), 1 + r.Intn(4), 1 + r.Intn(3), 1 + r.Intn(32), 2 + r.Intn(20)})
		if conf.Good(c) {
			list = append(list, c)
		}
	}
	return list
}

func size(c api.Config) int {
	return conf.Shape{Config: c}.Size()
}

// noise: weights of every kind, the same ones for the same number: any, few, and small ones, whose scores are near one another.
func noise(n, seed int) string {
	r := rand.New(rand.NewSource(int64(seed)))
	wide := []int{256, 3, 9, 21, 41, 256}[seed%6]
	list := make([]byte, n)
	for i := range list {
		if seed%6 < 5 || r.Intn(8) == 0 {
			list[i] = byte(r.Intn(wide) - wide/2)
		}
	}
	return string(list)
}

// made: the model of a shape and weights, which has to be one.
func made(t testing.TB, c api.Config, weights string) *brain.Brain {
	t.Helper()
	b, err := brain.Of(c, weights)
	if err != api.OK {
		t.Fatalf("%v, %d bytes: %d", c, len(weights), err)
	}
	return b
}

// some: tokens of a model, as many as asked.
func some(r *rand.Rand, c api.Config, n int) []int {
	list := make([]int, n)
	for i := range list {
		list[i] = r.Intn(c.Vocab)
	}
	return list
}

// draw: numbers of either sign, small, great, and those at the ends.
func draw(r *rand.Rand, n int) []int {
	list := make([]int, n)
	for i := range list {
		switch r.Intn(5) {
		case 0:
			list[i] = r.Intn(1 << 20)
		case 1:
			list[i] = -r.Intn(1 << 22)
		case 2:
			list[i] = int(r.Uint64())
		case 3:
			list[i] = r.Intn(1<<40) - 1<<39
		case 4:
			list[i] = []int{0, 1, -1, math.MaxInt, math.MinInt, 65535, 65536}[r.Intn(7)]
		}
	}
	return list
}

// hand: a model that one may reckon by hand. The tokens 0 to 3 times 20, all else zeros: behind the tokens 1 to 3 the scores are 0, 39, 79, 118, so 2, 69, 2233 and 65536 count, 67840 in all; behind the token 0 all scores are 0.
func hand(t testing.TB) *brain.Brain {
	t.Helper()
	c := config([6]int{4, 1, 1, 1, 1, 6})
	w := make([]byte, size(c))
	w[1], w[2], w[3] = 20, 40, 60
	return made(t, c, string(w))
}

// endless: a model that never draws the token 0. That is -127, the tokens 1 and 2 are 127 and 126: what is said is 1 by the scores -250, 250, 248, of which 0, 65536 and 55109 count.
func endless(t testing.TB, context int) *brain.Brain {
	t.Helper()
	c := config([6]int{3, 1, 1, 1, 1, context})
	w := make([]byte, size(c))
	w[0], w[1], w[2] = 0x81, 127, 126
	return made(t, c, string(w))
}

// wild: numbers that are no token of a model that has so many.
func wild(vocab int) []int {
	return []int{-1, -2, -vocab, vocab, vocab + 1, 32, 33, 255, 256, 1 << 16, 1 << 32, 1<<32 + 1, -1<<32 + 1, math.MaxInt, math.MinInt, math.MinInt + 1}
}

// P18.1

func TestCheck(t *testing.T) {
	r := rand.New(rand.NewSource(1))
	for i, c := range shapes() {
		b := made(t, c, noise(size(c), i))
		for n := range 36 {
			prompt := some(r, c, n)
			for most := -2; most < 36; most++ {
				if got, want := Check(b, most, prompt...), told(b, most, prompt); got != want {
					t.Errorf("%v: %d tokens, %d at most: %d, not %d", c, n, most, got, want)
				}
			}
		}
	}
}

// As many as there are places are right, one more is too many, whichever of the two it is.
func TestCheckOfPlaces(t *testing.T) {
	for i, c := range shapes() {
		b := made(t, c, noise(size(c), i))
		for n := 1; n < c.Context; n++ {
			if err := Check(b, c.Context-n, make([]int, n)...); err != api.OK {
				t.Errorf("%v: %d tokens: %d", c, n, err)
			}
			refused(t, api.ErrLong, b, c.Context-n+1, make([]int, n)...)
			refused(t, api.ErrLong, b, c.Context-n, make([]int, n+1)...)
		}
		refused(t, api.ErrLong, b, 1, make([]int, c.Context)...)
		refused(t, api.ErrLong, b, 32, 0)
		refused(t, api.ErrLong, b, 32, make([]int, 10000)...)
	}
	one := config([6]int{2, 1, 1, 1, 1, 1})
	refused(t, api.ErrLong, made(t, one, noise(size(one), 0)), 1, 1)
}

func TestCheckOfTokens(t *testing.T) {
	for i, c := range shapes() {
		b := made(t, c, noise(size(c), i))
		for token := range c.Vocab {
			if err := Check(b, 1, token); err != api.OK {
				t.Errorf("%v: the token %d: %d", c, token, err)
			}
		}
		for _, token := range wild(c.Vocab) {
			for n := 1; n < min(c.Context+2, 9); n++ {
				for at := range n {
					prompt := make([]int, n)
					prompt[at] = token
					if err := Check(b, 1, prompt...); err != api.ErrRange {
						t.Errorf("%v: behind %v: %d", c, prompt, err)
					}
				}
			}
		}
	}
}

func TestCheckIsInOrder(t *testing.T) {
	b := hand(t)
	prompts := [][]int{nil, {}, {1}, {1, 2, 3}, {4}, {-1, 1}, {0, 0, 0, 0, 0, 0}, {0, 0, 0, 0, 0, 0, 0}, {0, 0, 0, 0, 0, 0, 0, 9}, make([]int, 1000)}
	mosts := []int{math.MinInt, math.MinInt + 1, -1 << 32, -33, -1, 0, 1, 2, 5, 6, 7, 31, 32, 33, 34, 64, 1 << 31, 1 << 32, 1<<32 + 1, math.MaxInt - 1, math.MaxInt}
	for _, prompt := range prompts {
		for _, most := range mosts {
			refused(t, api.ErrNil, nil, most, prompt...)
			if want := told(b, most, prompt); want != api.OK {
				refused(t, want, b, most, prompt...)
			} else if err := Check(b, most, prompt...); err != api.OK {
				t.Errorf("behind %v, %d at most: %d", prompt, most, err)
			}
		}
	}
	// No prompt, or no number of tokens, is ahead of tokens that can't be, and these of what is too long.
	refused(t, api.ErrArg, b, 1)
	refused(t, api.ErrArg, b, 0, 9)
	refused(t, api.ErrArg, b, 33, 9)
	refused(t, api.ErrArg, b, 33, 1)
	refused(t, api.ErrArg, b, 0, make([]int, 100)...)
	refused(t, api.ErrRange, b, 32, 9)
	refused(t, api.ErrRange, b, 1, 0, 0, 0, 0, 0, 0, 0, 4)
	refused(t, api.ErrLong, b, 32, 1)
	refused(t, api.ErrLong, b, 1, 0, 0, 0, 0, 0, 0, 0, 3)
}

func TestNext(t *testing.T) {
	for _, c := range []struct {
		draw, want int
		scores     []int
	}{
		{0, 0, []int{7, 7, 7}}, {65535, 0, []int{7, 7, 7}}, {65536, 1, []int{7, 7, 7}}, {131071, 1, []int{7, 7, 7}}, {131072, 2, []int{7, 7, 7}}, {196607, 2, []int{7, 7, 7}}, {196608, 0, []int{7, 7, 7}},
		{-1, 2, []int{7, 7, 7}}, {-65536, 2, []int{7, 7, 7}}, {-65537, 1, []int{7, 7, 7}}, {-196608, 0, []int{7, 7, 7}}, {-196609, 2, []int{7, 7, 7}},
		{0, 0, []int{5}}, {12345, 0, []int{-5}}, {-1, 0, []int{0}},
		// Of the first one half as much counts.
		{32767, 0, []int{-8, 0}}, {32768, 1, []int{-8, 0}}, {98303, 1, []int{-8, 0}}, {98304, 0, []int{-8, 0}},
		// Who is too far below is never taken.
		{0, 1, []int{-136, 0, -136}}, {65535, 1, []int{-136, 0, -136}}, {65536, 1, []int{-136, 0, -136}}, {-1, 1, []int{-136, 0, -136}},
		{0, 0, []int{-128, 0}}, {1, 1, []int{-128, 0}}, {65536, 1, []int{-128, 0}}, {65537, 0, []int{-128, 0}}, {0, 1, []int{-129, 0}}, {0, 1, []int{-135, 0}},
		{0, 1, []int{math.MinInt, math.MaxInt}}, {0, 0, []int{math.MaxInt, math.MinInt}}, {65536, 1, []int{math.MaxInt, 1 << 30}}, {0, 1, []int{1<<30 - 136, 1 << 40}}, {0, 0, []int{math.MinInt, -1 << 30}},
	} {
		if got := Next(c.draw, c.scores...); got != c.want {
			t.Errorf("%d of %v: %d, not %d", c.draw, c.scores, got, c.want)
		}
	}
}

func TestNextOfNone(t *testing.T) {
	for _, draw := range []int{0, 1, 5, -1, 65536, math.MaxInt, math.MinInt} {
		if got := Next(draw); got != 0 {
			t.Error(draw, got)
		}
		if got := Next(draw, []int{}...); got != 0 {
			t.Error(draw, got)
		}
	}
}

// Of more than 64 things none can be chosen.
func TestNextOfMany(t *testing.T) {
	for _, n := range []int{1, 2, 31, 32, 33, 63, 64, 65, 66, 128, 1000} {
		for at := range n {
			want := at
			if n > 64 {
				want = -1
			}
			if got := Next(at*65536, make([]int, n)...); got != want {
				t.Errorf("%d of %d: %d", at, n, got)
			}
			scores := slices.Repeat([]int{-1000}, n)
			scores[at] = 0
			if got := Next(at, scores...); got != want {
				t.Errorf("%d alone of %d: %d", at, n, got)
			}
		}
	}
}

// All that a draw may fall in: the first and the last draw of each score's part, and those a whole sum away.
func TestNextOfEachPart(t *testing.T) {
	r := rand.New(rand.NewSource(2))
	for range 2000 {
		scores := make([]int, 1+r.Intn(10))
		wide := []int{3, 20, 200, 5000, 1 << 31}[r.Intn(5)]
		for i := range scores {
			scores[i] = r.Intn(2*wide) - wide
		}
		list := parts(scores)
		total := 0
		for _, n := range list {
			total += n
		}
		first := 0
		for i, n := range list {
			for _, at := range []int{first, first + n/2, first + n - 1} {
				for _, times := range []int{0, 1, -1, 3, -3, 1 << 40, -1 << 40} {
					if n == 0 {
						continue
					}
					if got := Next(at+times*total, scores...); got != i || got != drawn(at+times*total, scores) {
						t.Errorf("%d of %v: %d, not %d", at+times*total, scores, got, i)
					}
				}
			}
			first += n
		}
		for _, n := range draw(r, 20) {
			if got, want := Next(n, scores...), drawn(n, scores); got != want {
				t.Errorf("%d of %v: %d, not %d", n, scores, got, want)
			}
		}
	}
}

// P18.2

func TestGenByHand(t *testing.T) {
	b := hand(t)
	if got := behind(t, b, []int{0, 2}); !slices.Equal(got, []int{0, 39, 79, 118}) {
		t.Fatal(got)
	}
	for _, c := range []struct {
		prompt []int
		most   int
		draws  []int
		want   []int
	}{
		// Each token's first and last draw.
		{[]int{1}, 1, []int{0}, nil}, {[]int{1}, 1, []int{1}, nil}, {[]int{1}, 1, []int{2}, []int{1}}, {[]int{1}, 1, []int{70}, []int{1}}, {[]int{1}, 1, []int{71}, []int{2}}, {[]int{1}, 1, []int{2303}, []int{2}},
		{[]int{1}, 1, []int{2304}, []int{3}}, {[]int{1}, 1, []int{67839}, []int{3}}, {[]int{1}, 1, []int{67840}, nil}, {[]int{1}, 1, []int{67842}, []int{1}}, {[]int{1}, 1, []int{-1}, []int{3}}, {[]int{1}, 1, []int{-67839}, nil},
		// In order, one a token; behind their end they are 0.
		{[]int{2}, 4, []int{2, 71, 2304, 70}, []int{1, 2, 3, 1}}, {[]int{2}, 3, []int{2, 71, 2304, 70}, []int{1, 2, 3}}, {[]int{2}, 5, []int{2, 71, 2304, 70}, []int{1, 2, 3, 1}}, {[]int{2}, 5, nil, nil}, {[]int{2}, 5, []int{71}, []int{2}},
		// The end is not said, and nothing behind it.
		{[]int{3}, 5, []int{71, 1, 71, 71, 71}, []int{2}}, {[]int{3}, 5, []int{0, 71, 71, 71, 71}, nil}, {[]int{3}, 5, []int{2, 2, 2, 0, 2}, []int{1, 1, 1}},
		// All places are filled.
		{[]int{3}, 5, []int{71, 71, 71, 71, 71}, []int{2, 2, 2, 2, 2}}, {[]int{3, 3, 3, 3, 3}, 1, []int{71, 71}, []int{2}}, {[]int{1, 2, 3}, 3, []int{2, 71, 2304, 2}, []int{1, 2, 3}},
		// The end in a prompt ends nothing; behind it all tokens count the same.
		{[]int{0}, 2, []int{65536, 2}, []int{1, 1}}, {[]int{0}, 2, []int{65535, 2}, nil}, {[]int{0}, 2, []int{196608, 71}, []int{3, 2}}, {[]int{2, 0}, 1, []int{131072}, []int{2}}, {[]int{0, 2}, 1, []int{131072}, []int{3}}, {[]int{0, 0, 2}, 1, []int{71}, []int{2}},
	} {
		got, err := Gen(b, c.prompt, c.most, c.draws...)
		if err != api.OK || !slices.Equal(got, c.want) {
			t.Errorf("behind %v, %d at most, by %v: %v, %d, not %v", c.prompt, c.most, c.draws, got, err, c.want)
		}
	}
}

// A draw of 0 takes the first token that counts: behind the draws' end more is said, as long as that isn't the end.
func TestGenWithoutDraws(t *testing.T) {
	for _, context := range []int{2, 3, 8, 32} {
		b := endless(t, context)
		if got := behind(t, b, []int{2}); !slices.Equal(got, []int{-250, 250, 248}) {
			t.Fatal(got)
		}
		for most := 1; most < context; most++ {
			for n := range most + 3 {
				want := slices.Repeat([]int{1}, most)
				draws := slices.Repeat([]int{65536}, n)
				for at := range min(n, most) {
					want[at] = 2
				}
				if got, err := Gen(b, []int{1}, most, draws...); err != api.OK || !slices.Equal(got, want) {
					t.Errorf("%d draws, %d at most: %v, %d", n, most, got, err)
				}
			}
		}
	}
}

func TestGenOfZeros(t *testing.T) {
	for _, c := range shapes() {
		b := made(t, c, strings.Repeat("\x00", size(c)))
		for token := range c.Vocab {
			// All tokens count the same.
			want := []int{token}
			if token == 0 {
				want = nil
			}
			for _, draw := range []int{token * 65536, token*65536 + 65535, (token - c.Vocab) * 65536} {
				if got, err := Gen(b, []int{c.Vocab - 1 - token}, c.Context-1, draw); err != api.OK || !slices.Equal(got, want) {
					t.Errorf("%v: by %d: %v, %d", c, draw, got, err)
				}
			}
		}
		if got, err := Gen(b, []int{1}, 1); err != api.OK || len(got) != 0 {
			t.Errorf("%v: %v, %d", c, got, err)
		}
		if got, err := Greedy(b, []int{1}, 1); err != api.OK || len(got) != 0 {
			t.Errorf("%v: %v, %d", c, got, err)
		}
	}
}

func TestGen(t *testing.T) {
	r := rand.New(rand.NewSource(3))
	long := 0
	for i, c := range shapes() {
		for seed := range 6 {
			b := made(t, c, noise(size(c), 6*i+seed))
			for range 3 {
				n := 1 + r.Intn(c.Context-1)
				most := 1 + r.Intn(c.Context-n)
				said := gens(t, b, some(r, c, n), most, draw(r, r.Intn(most+3))...)
				long = max(long, len(said))
			}
			// To the last place, behind one token.
			gens(t, b, some(r, c, 1), c.Context-1, draw(r, c.Context)...)
			gens(t, b, some(r, c, c.Context-1), 1, draw(r, 2)...)
		}
	}
	if long < 10 {
		t.Error("little was said:", long)
	}
}

// Of what counts little, and of the end, there is a draw for each too: each token is said, one by one, by the draw that takes it.
func TestGenOfEachToken(t *testing.T) {
	r := rand.New(rand.NewSource(4))
	for i, c := range shapes() {
		b := made(t, c, noise(size(c), 6*i+2))
		want, draws, text := []int{}, []int{}, some(r, c, 1)
		for len(text) < c.Context {
			list := parts(behind(t, b, text))
			token, first := r.Intn(c.Vocab-1)+1, 0
			if list[token] == 0 {
				token = slices.Index(list, 65536)
			}
			for _, n := range list[:token] {
				first += n
			}
			draws = append(draws, first+r.Intn(list[token]))
			if token == 0 {
				break
			}
			want, text = append(want, token), append(text, token)
		}
		if got, err := Gen(b, text[:1], c.Context-1, draws...); err != api.OK || !slices.Equal(got, want) {
			t.Errorf("%v: by %v: %v, %d, not %v", c, draws, got, err, want)
		}
	}
}

// P18.3

func TestGreedyByHand(t *testing.T) {
	b := hand(t)
	for most := 1; most < 6; most++ {
		for token := range 4 {
			want := slices.Repeat([]int{3}, most)
			if token == 0 {
				// All scores are the same, and the first one is the end's.
				want = nil
			}
			if got, err := Greedy(b, []int{token}, most); err != api.OK || !slices.Equal(got, want) {
				t.Errorf("behind %d: %v, %d", token, got, err)
			}
		}
	}
	if got, err := Greedy(b, []int{0, 0, 1, 2, 1}, 1); err != api.OK || !slices.Equal(got, []int{3}) {
		t.Error(got, err)
	}
	if got, err := Greedy(b, []int{1, 0}, 4); err != api.OK || len(got) != 0 {
		t.Error(got, err)
	}
	if got, err := Greedy(endless(t, 32), []int{0}, 31); err != api.OK || len(got) != 0 {
		// Behind the token 0 its own score is the greatest.
		t.Error(got, err)
	}
	if got, err := Greedy(endless(t, 32), []int{2}, 31); err != api.OK || !slices.Equal(got, slices.Repeat([]int{1}, 31)) {
		t.Error(got, err)
	}
}

// Where two tokens' scores are the same it is the first one, whatever stands ahead of it.
func TestGreedyOfTheSame(t *testing.T) {
	c := config([6]int{5, 1, 1, 1, 1, 4})
	for _, x := range []struct {
		tokens string
		want   []int
	}{
		{"\x00\x14\x28\x28\x28", []int{2, 2, 2}}, {"\x00\x28\x28\x14\x28", []int{1, 1, 1}}, {"\x28\x28\x14\x14\x28", nil}, {"\x00\x05\x06\x07\x08", []int{4, 4, 4}}, {"\xff\x01\x01\x01\x01", []int{1, 1, 1}},
	} {
		w := x.tokens + strings.Repeat("\x00", size(c)-5)
		if got, err := Greedy(made(t, c, w), []int{4}, 3); err != api.OK || !slices.Equal(got, x.want) {
			t.Errorf("%q: %v, %d", x.tokens, got, err)
		}
	}
}

func TestGreedy(t *testing.T) {
	r := rand.New(rand.NewSource(5))
	long := 0
	for i, c := range shapes() {
		for seed := range 6 {
			b := made(t, c, noise(size(c), 6*i+seed))
			for range 3 {
				n := 1 + r.Intn(c.Context-1)
				long = max(long, len(greeds(t, b, some(r, c, n), 1+r.Intn(c.Context-n))))
			}
			greeds(t, b, some(r, c, 1), c.Context-1)
			greeds(t, b, some(r, c, c.Context-1), 1)
		}
	}
	if long < 10 {
		t.Error("little was said:", long)
	}
}

// P18.4

func TestFewerIsABeginning(t *testing.T) {
	r := rand.New(rand.NewSource(6))
	for i, c := range shapes() {
		b := made(t, c, noise(size(c), 6*i+i%6))
		prompt, draws := some(r, c, 1+r.Intn(c.Context-1)), draw(r, c.Context)
		most := c.Context - len(prompt)
		all, _ := Gen(b, prompt, most, draws...)
		best, _ := Greedy(b, prompt, most)
		for few := 1; few <= most; few++ {
			if got, err := Gen(b, prompt, few, draws...); err != api.OK || !slices.Equal(got, all[:min(few, len(all))]) {
				t.Errorf("%v: %d at most: %v, %d, not %v", c, few, got, err, all)
			}
			if got, err := Greedy(b, prompt, few); err != api.OK || !slices.Equal(got, best[:min(few, len(best))]) {
				t.Errorf("%v: %d at most: %v, %d, not %v", c, few, got, err, best)
			}
		}
	}
}

func TestDrawsThatAreNotUsed(t *testing.T) {
	r := rand.New(rand.NewSource(7))
	for i, c := range shapes() {
		b := made(t, c, noise(size(c), 6*i+2))
		prompt, draws := some(r, c, 1+r.Intn(c.Context-1)), draw(r, c.Context)
		most := 1 + r.Intn(c.Context-len(prompt))
		want, _ := Gen(b, prompt, most, draws...)
		// One a token, and one more for the end.
		used := min(len(want)+1, most)
		for range 5 {
			other := append(slices.Clone(draws[:used]), draw(r, r.Intn(50))...)
			if got, err := Gen(b, prompt, most, other...); err != api.OK || !slices.Equal(got, want) {
				t.Errorf("%v: by %v: %v, %d, not %v", c, other, got, err, want)
			}
		}
	}
}

// Behind a prompt and a part of what was said, with the draws that are left, comes the rest.
func TestItGoesOn(t *testing.T) {
	r := rand.New(rand.NewSource(8))
	for i, c := range shapes() {
		for seed := range 6 {
			b := made(t, c, noise(size(c), 6*i+seed))
			prompt, draws := some(r, c, 1+r.Intn(max(c.Context/2, 1))), draw(r, r.Intn(c.Context))
			most := c.Context - len(prompt)
			all, _ := Gen(b, prompt, most, draws...)
			best, _ := Greedy(b, prompt, most)
			for n := range min(len(all)+1, most) {
				got, err := Gen(b, slices.Concat(prompt, all[:n]), most-n, draws[min(n, len(draws)):]...)
				if err != api.OK || !slices.Equal(got, all[n:]) {
					t.Errorf("%v: behind %v, %v: %v, %d, not %v", c, prompt, all[:n], got, err, all[n:])
				}
			}
			for n := range min(len(best)+1, most) {
				got, err := Greedy(b, slices.Concat(prompt, best[:n]), most-n)
				if err != api.OK || !slices.Equal(got, best[n:]) {
					t.Errorf("%v: behind %v, %v: %v, %d, not %v", c, prompt, best[:n], got, err, best[n:])
				}
			}
		}
	}
}

// What is said is tokens of the model that aren't the end, as many as asked at most.
func TestWhatIsSaid(t *testing.T) {
	r := rand.New(rand.NewSource(9))
	for i, c := range shapes() {
		b := made(t, c, noise(size(c), i))
		for most := 1; most < c.Context; most++ {
			said, _ := Gen(b, some(r, c, c.Context-most), most, draw(r, most)...)
			best, _ := Greedy(b, some(r, c, c.Context-most), most)
			strange := func(token int) bool { return token <= 0 || token >= c.Vocab }
			if len(said) > most || len(best) > most || slices.ContainsFunc(said, strange) || slices.ContainsFunc(best, strange) {
				t.Errorf("%v: %v, %v of %d", c, said, best, most)
			}
		}
	}
}

// Models are shared, and nothing is kept from call to call: what was asked between plays no part.
func TestNothingIsKept(t *testing.T) {
	c := config([6]int{17, 9, 3, 2, 11, 13})
	b := made(t, c, noise(size(c), 2))
	w := b.Weights()
	r := rand.New(rand.NewSource(10))
	prompt, draws := some(r, c, 3), draw(r, 10)
	want, _ := Gen(b, prompt, 10, draws...)
	best, _ := Greedy(b, prompt, 10)
	var all sync.WaitGroup
	for seed := range 8 {
		all.Go(func() {
			r := rand.New(rand.NewSource(int64(seed)))
			for range 5 {
				Gen(b, some(r, c, 1+r.Intn(12)), 1, draw(r, 5)...)
				Greedy(b, some(r, c, 1+r.Intn(6)), 4)
				Gen(b, []int{99}, 1)
				if got, err := Gen(b, prompt, 10, draws...); err != api.OK || !slices.Equal(got, want) {
					t.Error(got, err, want)
				}
				if got, err := Greedy(b, prompt, 10); err != api.OK || !slices.Equal(got, best) {
					t.Error(got, err, best)
				}
			}
		})
	}
	all.Wait()
	if b.Config != c || b.Weights() != w {
		t.Error(b)
	}
}

// What is handed in isn't changed, its spare room neither, and an answer shares no memory with it, nor with another answer.
func TestMemory(t *testing.T) {
	r := rand.New(rand.NewSource(11))
	for i, c := range shapes() {
		b := made(t, c, noise(size(c), i))
		room, draws := some(r, c, c.Context), draw(r, 40)
		kept, were := slices.Clone(room), slices.Clone(draws)
		scores := slices.Clone(draws)
		for n := 1; n < c.Context; n++ {
			prompt, most := room[:n], c.Context-n
			Check(b, most, prompt...)
			Next(n, scores[:n%20+1]...)
			said, _ := Gen(b, prompt, most, draws[:n%40]...)
			best, _ := Greedy(b, prompt, most)
			again, _ := Gen(b, prompt, most, draws[:n%40]...)
			first := slices.Clone(said)
			for _, list := range [][]int{best, again} {
				list = list[:cap(list)]
				for at := range list {
					list[at] = -9
				}
			}
			if !slices.Equal(room, kept) || !slices.Equal(draws, were) || !slices.Equal(scores, were) || !slices.Equal(said, first) {
				t.Fatalf("%v: %v, not %v; %v, not %v; %v, not %v", c, room, kept, draws, were, said, first)
			}
			for at := range room {
				room[at] = 0
			}
			if !slices.Equal(said, first) {
				t.Fatalf("%v: %v, not %v", c, said, first)
			}
			copy(room, kept)
		}
	}
}

// A model's numbers are open. Of one whose numbers somebody changed the chapter promises nothing, but no call may panic, and nothing is said by weights that aren't there.
func TestNumbersThatSomebodyChanged(t *testing.T) {
	changed := append(shapes(), api.Config{}, config([6]int{-1, -1, -1, -1, -1, -1}), config([6]int{4, 2, 0, 1, 2, 3}), config([6]int{4, 2, 3, 1, 2, 3}), config([6]int{4, 2, 1, -1, 2, 3}), config([6]int{math.MaxInt, math.MaxInt, 1, math.MaxInt, 1, math.MaxInt}), config([6]int{math.MinInt, 1, 1, 1, 1, math.MinInt}), config([6]int{2, 4, 2, 2, 3, 1000}))
	for _, was := range shapes()[:8] {
		for _, c := range changed {
			for _, b := range []*brain.Brain{made(t, was, noise(size(was), 1)), {}} {
				b.Config = c
				whole := conf.Good(c) && size(c) == len(b.Weights())
				for _, prompt := range [][]int{nil, {0}, {1}, {c.Vocab - 1}, make([]int, 33)} {
					for _, most := range []int{0, 1, 3, 32, math.MaxInt} {
						Check(b, most, prompt...)
						said, err := Gen(b, prompt, most, 5, -5)
						best, other := Greedy(b, prompt, most)
						if err != other || (!whole || err != api.OK) && (err == api.OK || len(said) > 0 || len(best) > 0) {
							t.Errorf("%v as %v: %v, %d, %v, %d", was, c, said, err, best, other)
						}
					}
				}
			}
		}
	}
}

// What is said is what another program works out of the same chapters, that reckons a text block by block, with numbers without a bound.
func TestAnotherProgram(t *testing.T) {
	for _, c := range []struct {
		shape         [6]int
		by, from, mod int
		prompt        []int
		gen, greedy   []int
	}{
		{[6]int{5, 4, 2, 2, 3, 12}, 37, 22, 13, []int{4, 2}, []int{4, 1, 1, 3, 3, 3, 3, 2, 4, 1}, []int{3, 3, 1, 3, 3, 3, 3, 3, 3, 3}},
		{[6]int{6, 6, 3, 3, 7, 16}, 101, 6, 17, []int{5, 0, 5}, []int{1, 1, 4, 2, 1, 1, 1, 5, 1, 3, 3, 3, 3}, []int{5, 1, 1, 4, 3, 3, 3, 3, 1, 3, 3, 3, 3}},
		{[6]int{4, 8, 2, 1, 16, 20}, 29, 205, 11, []int{1}, []int{1, 2, 2, 2, 2, 2, 3, 2, 2, 2, 2, 3, 3, 3, 2, 2, 2, 2, 2}, []int{1, 2, 2, 2, 2, 2, 3, 2, 2, 2, 2, 3, 3, 3, 3, 3, 3, 3, 2}},
		{[6]int{32, 16, 4, 2, 32, 32}, 77, 6, 9, []int{31, 7, 0, 30, 2}, []int{10, 10, 10, 23, 30, 9, 9, 9, 9, 9, 9, 21, 21, 21, 21, 21, 21, 21, 21, 11, 25, 25, 25, 25, 25, 25, 25}, append([]int{2, 2, 2, 2, 2}, slices.Repeat([]int{29}, 22)...)},
		{[6]int{9, 15, 3, 1, 5, 25}, 53, 13, 15, []int{8, 1, 8, 1}, []int{5, 5, 5, 5, 5, 3, 4, 5, 6, 7}, append([]int{5}, slices.Repeat([]int{6}, 20)...)},
	} {
		w := make([]byte, size(config(c.shape)))
		for i := range w {
			w[i] = byte((i*i*c.by+c.from+i/7)%c.mod - c.mod/2)
		}
		b := made(t, config(c.shape), string(w))
		most := b.Context - len(c.prompt)
		draws := make([]int, most)
		for k := range draws {
			draws[k] = k*k*1234577 + 99991*k - 3000000
		}
		if got, err := Gen(b, c.prompt, most, draws...); err != api.OK || !slices.Equal(got, c.gen) {
			t.Errorf("%v: %v, %d, not %v", c.shape, got, err, c.gen)
		}
		if got, err := Greedy(b, c.prompt, most); err != api.OK || !slices.Equal(got, c.greedy) {
			t.Errorf("%v: %v, %d, not %v", c.shape, got, err, c.greedy)
		}
	}
}

func FuzzGen(f *testing.F) {
	f.Add(3, 4, 2, 2, 3, 9, "\x10\x20\x04\x08", 5, "\x00\x01", int64(1), 3)
	f.Add(2, 1, 1, 1, 1, 2, "", 1, "\x01", int64(2), 0)
	f.Add(32, 16, 4, 2, 32, 32, "\x01\xff\x02", 20, "\x00\x1f\x10", int64(3), 30)
	f.Add(5, 6, 3, 3, 7, 4, "\xff\x01", 33, "", int64(4), 1)
	f.Fuzz(func(t *testing.T, vocab, dim, heads, blocks, hidden, context int, weights string, most int, text string, seed int64, n int) {
		c := config([6]int{vocab, dim, heads, blocks, hidden, context})
		if !conf.Good(c) {
			return
		}
		b := made(t, c, (weights + strings.Repeat(weights+"\x05", 8192))[:size(c)])
		prompt := []int{}
		for i := range len(text) {
			prompt = append(prompt, int(int8(text[i])))
		}
		if want := told(b, most, prompt); want != api.OK {
			refused(t, want, b, most, prompt...)
			return
		}
		if err := Check(b, most, prompt...); err != api.OK {
			t.Error(err)
		}
		gens(t, b, prompt, most, draw(rand.New(rand.NewSource(seed)), min(max(n, 0), 40))...)
		greeds(t, b, prompt, most)
	})
}

func FuzzNext(f *testing.F) {
	f.Add(5, 3, -3, 100, 2)
	f.Add(math.MinInt, math.MinInt, math.MaxInt, 0, 70)
	f.Add(-1, 1<<30, -1<<30, 1<<30-100, 64)
	f.Fuzz(func(t *testing.T, draw, a, b, c, n int) {
		scores := slices.Repeat([]int{a, b, c, 0}, 30)[:min(max(n, 0), 120)]
		want := -1
		if len(scores) == 0 {
			want = 0
		} else if len(scores) <= 64 {
			want = drawn(draw, scores)
		}
		if got := Next(draw, scores...); got != want {
			t.Errorf("%d of %v: %d, not %d", draw, scores, got, want)
		}
	})
}
