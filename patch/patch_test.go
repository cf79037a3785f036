package patch

import (
	"crypto/sha256"
	"encoding/binary"
	"encoding/hex"
	"math"
	"math/big"
	"math/rand/v2"
	"slices"
	"strings"
	"testing"

	"coadjutor/api"
)

// What follows reckons by the words of chapter 19: what a deed can be with numbers without a bound, and bytes by the library.

// can: whether a deed can be, of a base of so many bytes.
func can(base int, op Op) bool {
	n, from, size, data := big.NewInt(int64(base)), big.NewInt(int64(op.From)), big.NewInt(int64(op.Size)), big.NewInt(int64(len(op.Data)))
	within := func(size *big.Int) bool {
		return from.Sign() >= 0 && new(big.Int).Add(from, size).Cmp(n) <= 0
	}
	told := data.Sign() > 0 && len(op.Data) < 8193
	switch op.Kind {
	case 1:
		return size.Sign() > 0 && within(size) && data.Sign() == 0
	case 2:
		return from.Sign() == 0 && size.Sign() == 0 && told
	case 3:
		return told && size.Sign() == 0 && within(data)
	}
	return false
}

// comes: what comes of a base by one deed that can be.
func comes(base string, op Op) string {
	switch op.Kind {
	case 1:
		return base[op.From:][:op.Size]
	case 2:
		return op.Data
	}
	list := []byte(base[op.From:][:len(op.Data)])
	for i := range list {
		list[i] = byte((int(list[i]) + int(op.Data[i])) % 256)
	}
	return string(list)
}

// applied: what comes of a base, or the first error, deed by deed.
func applied(base string, ops []Op) (string, api.Errno) {
	next := ""
	for _, op := range ops {
		if !can(len(base), op) {
			return "", api.ErrArg
		}
		next += comes(base, op)
		if len(next) > 8192 {
			return "", api.ErrLong
		}
	}
	return next, api.OK
}

func numOf(n int) string {
	return string(binary.LittleEndian.AppendUint32(nil, uint32(n)))
}

func textOf(s string) string {
	return numOf(len(s)) + s
}

// told: a deed's bytes.
func told(op Op) string {
	switch op.Kind {
	case 1:
		return "\x01" + numOf(op.From) + numOf(op.Size)
	case 2:
		return "\x02" + textOf(op.Data)
	}
	return "\x03" + numOf(op.From) + textOf(op.Data)
}

// written: deeds' bytes, or the error.
func written(ops []Op) (string, api.Errno) {
	var s strings.Builder
	s.WriteString(numOf(len(ops)))
	for _, op := range ops {
		if !can(1<<31-1, op) {
			return "", api.ErrArg
		}
		s.WriteString(told(op))
	}
	if len(ops) > 256 {
		return "", api.ErrArg
	}
	return s.String(), api.OK
}

// reader reads numbers and texts off a row of bytes, till one isn't there.
type reader struct {
	s   string
	bad bool
}

func (r *reader) take(n int) string {
	if r.bad || n > len(r.s) {
		r.bad = true
		return ""
	}
	s := r.s[:n]
	r.s = r.s[n:]
	return s
}

func (r *reader) num() int {
	s := r.take(4)
	if r.bad {
		return 0
	}
	return int(binary.LittleEndian.Uint32([]byte(s)))
}

// parsed: the deeds with these bytes; false, if there are none. Whatever can be read is read, and then held against what was told.
func parsed(s string) ([]Op, bool) {
	r := &reader{s: s}
	count := r.num()
	ops := []Op{}
	for i := 0; i < count && i < 300 && !r.bad; i++ {
		var op Op
		for _, b := range []byte(r.take(1)) {
			op.Kind = int(b)
		}
		switch op.Kind {
		case 1:
			op.From = r.num()
			op.Size = r.num()
		case 2:
			op.Data = r.take(r.num())
		case 3:
			op.From = r.num()
			op.Data = r.take(r.num())
		}
		ops = append(ops, op)
	}
	want, err := written(ops)
	return ops, err == api.OK && want == s
}

// applies: whether Apply answers what the chapter says.
func applies(t testing.TB, base string, ops ...Op) {
	t.Helper()
	want, err := applied(base, ops)
	got, e := Apply(base, ops...)
	if got != want || e != err {
		t.Fatalf("of %d bytes by %d deeds, %.200v: %d bytes, %d, not %d, %d", len(base), len(ops), ops, len(got), e, len(want), err)
	}
}

// writes: whether Bytes, Cost, and Parse of what they tell, answer what the chapter says.
func writes(t testing.TB, ops ...Op) {
	t.Helper()
	want, err := written(ops)
	got, e := Bytes(ops...)
	if got != want || e != err {
		t.Fatalf("%d deeds, %.200v: %.80q, %d, not %.80q, %d", len(ops), ops, got, e, want, err)
	}
	if n := Cost(ops...); n != len(want) {
		t.Fatalf("%d deeds, %.200v: %d bytes, not %d", len(ops), ops, n, len(want))
	}
	if err != api.OK {
		return
	}
	if again, e := Parse(want); e != api.OK || !slices.Equal(again, ops) {
		t.Fatalf("%d deeds, %.200v: read as %.200v, %d", len(ops), ops, again, e)
	}
}

// reads: whether Parse answers what the chapter says; whether there are deeds.
func reads(t testing.TB, s string) bool {
	t.Helper()
	want, ok := parsed(s)
	got, e := Parse(s)
	if ok && (e != api.OK || !slices.Equal(got, want)) || !ok && (e != api.ErrForm || len(got) > 0) {
		t.Fatalf("%.200q: %.200v, %d, not %.200v, %v", s, got, e, want, ok)
	}
	return ok
}

// makes: whether Make answers deeds as the chapter says; them.
func makes(t testing.TB, base, next string) []Op {
	t.Helper()
	ops := Make(base, next)
	if len(next) == 0 || len(next) > 8192 {
		if len(ops) != 0 {
			t.Fatalf("%d bytes of %d: %.200v", len(next), len(base), ops)
		}
		return nil
	}
	if got, err := applied(base, ops); err != api.OK || got != next {
		t.Fatalf("%d bytes of %d: %d, %d bytes", len(next), len(base), err, len(got))
	}
	if got, err := Apply(base, ops...); err != api.OK || got != next {
		t.Fatalf("%d bytes of %d: %d, %d bytes by Apply", len(next), len(base), err, len(got))
	}
	s, err := written(ops)
	if err != api.OK || len(ops) > 256 || len(s) > 4+1+4+len(next) || Cost(ops...) != len(s) {
		t.Fatalf("%d bytes of %d: %d deeds, %d bytes, %d", len(next), len(base), len(ops), len(s), err)
	}
	return ops
}

// noise: bytes of so many kinds, the same ones for the same numbers.
func noise(n, kinds, seed int) string {
	r := rand.New(rand.NewPCG(uint64(seed), 19))
	list := make([]byte, n)
	for i := range list {
		list[i] = byte(r.IntN(kinds))
	}
	return string(list)
}

// edges: numbers where a From or a Size begins or ceases to be, and the type's ends.
func edges(near ...int) []int {
	list := []int{math.MinInt, math.MinInt + 1, -1 << 32, -8192, -2, -1, 0, 1, 2, 3, 255, 256, 8191, 8192, 8193, 1<<31 - 2, 1<<31 - 1, 1 << 31, 1<<32 - 1, 1 << 32, 1<<32 + 1, math.MaxInt - 8192, math.MaxInt - 1, math.MaxInt}
	for _, n := range near {
		list = append(list, n-1, n, n+1)
	}
	slices.Sort(list)
	return slices.Compact(list)
}

func kinds() []int {
	return []int{math.MinInt, -1 << 32, -255, -3, -2, -1, 0, 1, 2, 3, 4, 5, 6, 255, 256, 257, 258, 259, 1<<32 + 1, 1<<32 + 2, 1<<32 + 3, math.MaxInt}
}

func datas() []string {
	return []string{"", "\x00", "a", "ab", "\xff\x00\x80", noise(255, 256, 1), noise(256, 256, 2), noise(8191, 256, 3), noise(8192, 256, 4), noise(8193, 256, 5), noise(9000, 256, 6), noise(1<<16+1, 256, 7)}
}

// few: as any deeds, small ones that can be, of a base of so many bytes, and seldom ones that can't.
func few(r *rand.Rand, base, n int) []Op {
	list := []Op{}
	for range n {
		from, size := r.IntN(base+1), 1+r.IntN(base+1)
		if r.IntN(30) > 0 {
			size = min(size, base-from)
		}
		op := Op{Kind: 1 + r.IntN(3)}
		switch op.Kind {
		case Copy:
			op.From, op.Size = from, size
		case Lay:
			op.Data = noise(1+r.IntN(9), 256, r.Int())
		case Add:
			op.From, op.Data = from, noise(max(size, 0), 256, r.Int())
		}
		switch r.IntN(100) {
		case 0:
			op.Kind = r.IntN(6)
		case 1:
			op.From = r.IntN(20) - 10
		case 2:
			op.Size = r.IntN(4) - 2
		case 3:
			op.Data = noise(r.IntN(3), 256, 1)
		}
		list = append(list, op)
	}
	return list
}

// sound: deeds as few tells them, all of which can be.
func sound(r *rand.Rand, base, n int) []Op {
	list := []Op{}
	for len(list) < n {
		for _, op := range few(r, base, n) {
			if can(base, op) && len(list) < n {
				list = append(list, op)
			}
		}
	}
	return list
}

// P19.1

func TestKinds(t *testing.T) {
	if Copy != 1 || Lay != 2 || Add != 3 {
		t.Error(Copy, Lay, Add)
	}
}

func TestGood(t *testing.T) {
	goods := 0
	for _, kind := range kinds() {
		for _, data := range datas() {
			numbers := edges(10, len(data), 1<<31-1-len(data))
			for _, base := range numbers {
				for _, from := range numbers {
					for _, size := range numbers {
						op := Op{kind, from, size, data}
						want := can(base, op)
						if want {
							goods++
						}
						if got := Good(base, op); got != want {
							t.Fatalf("of %d bytes %d %d %d, %d bytes: %v", base, kind, from, size, len(data), got)
						}
					}
				}
			}
		}
	}
	if goods < 1000 {
		t.Error(goods)
	}
}

func TestGoodSmall(t *testing.T) {
	for kind := range 6 {
		for base := -2; base < 8; base++ {
			for from := -2; from < 10; from++ {
				for size := -2; size < 10; size++ {
					for n := range 10 {
						op := Op{kind, from, size, "abcdefghi"[:n]}
						if got := Good(base, op); got != can(base, op) {
							t.Errorf("of %d bytes %v: %v", base, op, got)
						}
					}
				}
			}
		}
	}
}

func TestGoodByHand(t *testing.T) {
	for _, c := range []struct {
		base int
		op   Op
		want bool
	}{
		{10, Op{Kind: Copy, From: 0, Size: 10}, true}, {10, Op{Kind: Copy, From: 9, Size: 1}, true}, {10, Op{Kind: Copy, From: 0, Size: 1}, true},
		{10, Op{Kind: Copy, From: 0, Size: 11}, false}, {10, Op{Kind: Copy, From: 10, Size: 1}, false}, {10, Op{Kind: Copy, From: 1, Size: 10}, false},
		{10, Op{Kind: Copy, From: 10, Size: 0}, false}, {10, Op{Kind: Copy, From: 0, Size: 0}, false}, {10, Op{Kind: Copy, From: -1, Size: 2}, false}, {10, Op{Kind: Copy, From: 3, Size: -1}, false},
		{10, Op{Kind: Copy, From: 0, Size: 1, Data: "a"}, false}, {0, Op{Kind: Copy, From: 0, Size: 1}, false}, {1 << 20, Op{Kind: Copy, From: 5, Size: 1<<20 - 5}, true},
		{10, Op{Kind: Copy, From: math.MaxInt, Size: 1}, false}, {10, Op{Kind: Copy, From: 1, Size: math.MaxInt}, false}, {10, Op{Kind: Copy, From: math.MaxInt, Size: math.MaxInt}, false}, {math.MinInt, Op{Kind: Copy, From: 0, Size: 1}, false},
		{0, Op{Kind: Lay, Data: "a"}, true}, {10, Op{Kind: Lay, Data: strings.Repeat("a", 8192)}, true}, {10, Op{Kind: Lay, Data: strings.Repeat("a", 8193)}, false},
		{10, Op{Kind: Lay}, false}, {10, Op{Kind: Lay, From: 1, Data: "a"}, false}, {10, Op{Kind: Lay, Size: 1, Data: "a"}, false}, {10, Op{Kind: Lay, From: -1, Data: "a"}, false}, {10, Op{Kind: Lay, Size: -1, Data: "a"}, false},
		{10, Op{Kind: Add, From: 0, Data: "0123456789"}, true}, {10, Op{Kind: Add, From: 9, Data: "a"}, true}, {8192, Op{Kind: Add, Data: strings.Repeat("a", 8192)}, true},
		{10, Op{Kind: Add, From: 1, Data: "0123456789"}, false}, {10, Op{Kind: Add, From: 10, Data: "a"}, false}, {8193, Op{Kind: Add, Data: strings.Repeat("a", 8193)}, false}, {8191, Op{Kind: Add, Data: strings.Repeat("a", 8192)}, false},
		{10, Op{Kind: Add, From: 0}, false}, {10, Op{Kind: Add, From: 10}, false}, {10, Op{Kind: Add, From: 0, Size: 1, Data: "a"}, false}, {10, Op{Kind: Add, From: -1, Data: "ab"}, false}, {10, Op{Kind: Add, From: math.MaxInt, Data: "a"}, false},
		{10, Op{}, false}, {10, Op{Kind: 0, Data: "a"}, false}, {10, Op{Kind: 4, Data: "a"}, false}, {10, Op{Kind: 257, Size: 1}, false}, {10, Op{Kind: -1, Size: 1}, false},
	} {
		if got := Good(c.base, c.op); got != c.want {
			t.Errorf("of %d bytes %.80v: %v", c.base, c.op, got)
		}
	}
}

func TestApplyByHand(t *testing.T) {
	for _, c := range []struct {
		base, want string
		ops        []Op
	}{
		{"abcd", "bcxb", []Op{{Kind: Copy, From: 1, Size: 2}, {Kind: Lay, Data: "x"}, {Kind: Add, From: 0, Data: "\x01"}}},
		{"", "", nil}, {"abcd", "", nil}, {"abcd", "", []Op{}}, {"", "xy", []Op{{Kind: Lay, Data: "xy"}}},
		{"abcd", "abcd", []Op{{Kind: Copy, Size: 4}}}, {"abcd", "abcdabcdcd", []Op{{Kind: Copy, Size: 4}, {Kind: Copy, Size: 4}, {Kind: Copy, From: 2, Size: 2}}},
		{"abcd", "bded", []Op{{Kind: Add, Data: "\x01\x02\x02"}, {Kind: Add, From: 3, Data: "\x00"}}},
		{"\xff\x00\x80\x01", "\x00\xff\x00\x00\xfe", []Op{{Kind: Add, Data: "\x01\xff\x80\xff"}, {Kind: Add, Data: "\xff"}}},
		{"abcd", "xyzbc\x00", []Op{{Kind: Lay, Data: "x"}, {Kind: Lay, Data: "yz"}, {Kind: Copy, From: 1, Size: 2}, {Kind: Lay, Data: "\x00"}}},
	} {
		if got, err := Apply(c.base, c.ops...); got != c.want || err != api.OK {
			t.Errorf("of %q by %v: %q, %d, not %q", c.base, c.ops, got, err, c.want)
		}
		applies(t, c.base, c.ops...)
	}
}

func TestEachByteAndEachMore(t *testing.T) {
	for b := range 256 {
		for more := range 256 {
			got, err := Apply(string([]byte{byte(b)}), Op{Kind: Add, Data: string([]byte{byte(more)})})
			if err != api.OK || got != string([]byte{byte((b + more) % 256)}) {
				t.Fatalf("%d and %d: %q, %d", b, more, got, err)
			}
		}
	}
}

func TestApplyOfDeedsThatCantBe(t *testing.T) {
	base := "0123456789"
	for _, kind := range kinds() {
		for _, from := range edges(10) {
			for _, size := range edges(10) {
				for _, data := range []string{"", "a", "0123456789", "0123456789a"} {
					op := Op{kind, from, size, data}
					applies(t, base, op)
					applies(t, base, Op{Kind: Copy, Size: 3}, op, Op{Kind: Lay, Data: "z"})
					applies(t, "", op)
				}
			}
		}
	}
}

// As many bytes as may come do, and one more doesn't, of each kind of deed.
func TestApplyOfTooMuch(t *testing.T) {
	base := noise(20000, 256, 1)
	for _, n := range []int{1, 2, 8190, 8191, 8192, 8193, 8194, 10000, 20000} {
		ops := []Op{{Kind: Copy, From: 20000 - n, Size: n}}
		if n <= 8192 {
			ops = append(ops, Op{Kind: Lay, Data: noise(n, 256, 2)}, Op{Kind: Add, From: 20000 - n, Data: noise(n, 256, 3)})
		}
		for _, op := range ops {
			applies(t, base, op)
			want := api.OK
			if n > 8192 {
				want = api.ErrLong
			}
			if _, err := Apply(base, op); err != want {
				t.Errorf("%d %d bytes: %d", op.Kind, n, err)
			}
			for _, last := range []Op{{Kind: Copy, Size: 1}, {Kind: Lay, Data: "a"}, {Kind: Add, Data: "a"}, {Kind: Copy, From: 5, Size: 2}, {Kind: Lay, Data: "ab"}, {Kind: Add, Data: "ab"}} {
				applies(t, base, op, last)
				applies(t, base, last, op)
				applies(t, base, op, last, last)
			}
		}
	}
	if s, err := Apply(base, Op{Kind: Copy, Size: 8192}); len(s) != 8192 || err != api.OK {
		t.Error(len(s), err)
	}
	if s, err := Apply(base, Op{Kind: Copy, Size: 8192}, Op{Kind: Lay, Data: "a"}); s != "" || err != api.ErrLong {
		t.Error(len(s), err)
	}
}

// More deeds can be applied than can be told.
func TestApplyOfManyDeeds(t *testing.T) {
	base := noise(300, 256, 1)
	for _, one := range []Op{{Kind: Copy, From: 7, Size: 1}, {Kind: Lay, Data: "q"}, {Kind: Add, From: 299, Data: "\x05"}} {
		for _, n := range []int{255, 256, 257, 8191, 8192, 8193, 20000} {
			got, err := Apply(base, slices.Repeat([]Op{one}, n)...)
			if n > 8192 {
				if got != "" || err != api.ErrLong {
					t.Errorf("%d times %v: %d bytes, %d", n, one, len(got), err)
				}
			} else if got != strings.Repeat(comes(base, one), n) || err != api.OK {
				t.Errorf("%d times %v: %d bytes, %d", n, one, len(got), err)
			}
		}
	}
}

// The first error is told, deed by deed: that of what can't be, or that of what is too much.
func TestApplyIsInOrder(t *testing.T) {
	base := noise(9000, 256, 1)
	full, over := Op{Kind: Lay, Data: noise(8192, 256, 2)}, Op{Kind: Copy, Size: 8193}
	one, bad := Op{Kind: Copy, From: 8999, Size: 1}, Op{Kind: Copy, From: 9000, Size: 1}
	for _, c := range []struct {
		want api.Errno
		ops  []Op
	}{
		{api.OK, []Op{full}}, {api.ErrArg, []Op{bad}}, {api.ErrLong, []Op{over}}, {api.ErrArg, []Op{bad, over}}, {api.ErrLong, []Op{over, bad}},
		{api.ErrLong, []Op{full, one}}, {api.ErrLong, []Op{one, full}}, {api.ErrArg, []Op{full, bad}}, {api.ErrArg, []Op{full, bad, one}}, {api.ErrLong, []Op{full, one, bad}}, {api.ErrLong, []Op{one, full, bad}},
		{api.ErrArg, []Op{one, bad, full}}, {api.ErrArg, []Op{one, bad, over}}, {api.ErrLong, []Op{one, over, bad}}, {api.ErrArg, []Op{full, {Kind: Lay, Data: noise(8193, 256, 2)}}},
	} {
		if s, err := Apply(base, c.ops...); err != c.want || err != api.OK && s != "" {
			t.Errorf("%d deeds: %d bytes, %d, not %d", len(c.ops), len(s), err, c.want)
		}
		applies(t, base, c.ops...)
	}
}

func TestApplyOfAnyDeeds(t *testing.T) {
	r := rand.New(rand.NewPCG(1, 19))
	ok := 0
	for range 20000 {
		base := noise(r.IntN(30), 256, r.Int())
		ops := few(r, len(base), r.IntN(6))
		applies(t, base, ops...)
		if _, err := applied(base, ops); err == api.OK {
			ok++
		}
	}
	if ok < 1000 || ok > 19000 {
		t.Error(ok)
	}
	for i := range 300 {
		base := noise(r.IntN(9000), 256, i)
		applies(t, base, few(r, len(base), r.IntN(9))...)
	}
}

// P19.2

func TestBytesByHand(t *testing.T) {
	for _, c := range []struct {
		want string
		ops  []Op
	}{
		{"\x00\x00\x00\x00", nil}, {"\x00\x00\x00\x00", []Op{}},
		{"\x01\x00\x00\x00\x01\x02\x01\x00\x00\x03\x00\x00\x00", []Op{{Kind: Copy, From: 258, Size: 3}}},
		{"\x01\x00\x00\x00\x02\x02\x00\x00\x00xy", []Op{{Kind: Lay, Data: "xy"}}},
		{"\x01\x00\x00\x00\x03\x04\x03\x02\x01\x01\x00\x00\x00\xff", []Op{{Kind: Add, From: 0x01020304, Data: "\xff"}}},
		{"\x03\x00\x00\x00\x01\x01\x00\x00\x00\x02\x00\x00\x00\x02\x01\x00\x00\x00x\x03\x00\x00\x00\x00\x01\x00\x00\x00\x01", []Op{{Kind: Copy, From: 1, Size: 2}, {Kind: Lay, Data: "x"}, {Kind: Add, From: 0, Data: "\x01"}}},
		{"\x01\x00\x00\x00\x01\xfe\xff\xff\x7f\x01\x00\x00\x00", []Op{{Kind: Copy, From: 1<<31 - 2, Size: 1}}}, {"\x01\x00\x00\x00\x01\x00\x00\x00\x00\xff\xff\xff\x7f", []Op{{Kind: Copy, Size: 1<<31 - 1}}},
	} {
		if got, err := Bytes(c.ops...); got != c.want || err != api.OK || Cost(c.ops...) != len(c.want) {
			t.Errorf("%v: %q, %d, %d", c.ops, got, err, Cost(c.ops...))
		}
		if got, err := Parse(c.want); !slices.Equal(got, c.ops) || err != api.OK {
			t.Errorf("%q: %v, %d", c.want, got, err)
		}
		writes(t, c.ops...)
	}
}

func TestBytesOfEachDeed(t *testing.T) {
	for _, kind := range kinds() {
		for _, data := range datas() {
			for _, from := range edges(1<<31-1-len(data), 1<<31-8193) {
				for _, size := range edges(1<<31-1-from, 1<<31-8193) {
					op := Op{kind, from, size, data}
					// Most can't be, and the short texts show that as well.
					if len(data) > 300 && !can(1<<31-1, op) && from+size&3 > 0 {
						continue
					}
					writes(t, op)
				}
			}
		}
	}
}

// Each place of a row is one where a deed that can't be spoils all.
func TestBytesOfDeedsThatCantBe(t *testing.T) {
	r := rand.New(rand.NewPCG(2, 19))
	for _, bad := range []Op{{}, {Kind: 4}, {Kind: 258, Data: "a"}, {Kind: Copy}, {Kind: Copy, Size: 1, Data: "a"}, {Kind: Copy, From: -1, Size: 1}, {Kind: Copy, From: 1<<31 - 1, Size: 1}, {Kind: Copy, From: 1, Size: 1<<31 - 1}, {Kind: Lay}, {Kind: Lay, From: 1, Data: "a"}, {Kind: Lay, Size: 1, Data: "a"}, {Kind: Lay, Data: noise(8193, 9, 1)}, {Kind: Add}, {Kind: Add, Size: 1, Data: "a"}, {Kind: Add, From: -1, Data: "a"}, {Kind: Add, From: 1<<31 - 1, Data: "a"}, {Kind: Add, Data: noise(8193, 9, 1)}} {
		for _, n := range []int{1, 2, 7, 256, 257} {
			for _, at := range []int{0, n / 2, n - 1} {
				ops := sound(r, 20, n)
				ops[at] = bad
				if s, err := Bytes(ops...); s != "" || err != api.ErrArg || Cost(ops...) != 0 {
					t.Errorf("%.80v at %d of %d: %d bytes, %d, %d", bad, at, n, len(s), err, Cost(ops...))
				}
			}
		}
	}
}

func TestBytesOfManyDeeds(t *testing.T) {
	r := rand.New(rand.NewPCG(3, 19))
	for _, n := range []int{1, 2, 127, 128, 254, 255, 256, 257, 258, 300, 512, 513, 1000, 1 << 16} {
		ops := sound(r, 20, n)
		writes(t, ops...)
		if _, err := Bytes(ops...); (err == api.OK) != (n <= 256) {
			t.Errorf("%d deeds: %d", n, err)
		}
	}
	// The most bytes that there are.
	writes(t, slices.Repeat([]Op{{Kind: Add, From: 1<<31 - 8193, Data: noise(8192, 256, 1)}}, 256)...)
	if n := Cost(slices.Repeat([]Op{{Kind: Add, From: 5, Data: noise(8192, 256, 1)}}, 256)...); n != 4+256*(9+8192) {
		t.Error(n)
	}
	writes(t, slices.Repeat([]Op{{Kind: Add, From: 5, Data: noise(8192, 256, 1)}}, 257)...)
}

func TestBytesOfAnyDeeds(t *testing.T) {
	r := rand.New(rand.NewPCG(4, 19))
	for range 20000 {
		writes(t, few(r, r.IntN(40), r.IntN(8))...)
	}
}

func TestParseOfOtherBytes(t *testing.T) {
	for _, s := range []string{
		"", "\x00", "\x00\x00\x00", "\x00\x00\x00\x00\x00", "\x01\x00\x00\x00", "\x00\x00\x00\x01", "\x00\x01\x00\x00", "\x01\x01\x00\x00", "\xff\xff\xff\xff", "\x00\x00\x00\x80",
		"\x01\x00\x00\x00\x00", "\x01\x00\x00\x00\x04", "\x01\x00\x00\x00\xff", "\x01\x00\x00\x00\x01", "\x01\x00\x00\x00\x02", "\x01\x00\x00\x00\x03",
		"\x01\x00\x00\x00\x00\x00\x00\x00\x00\x01\x00\x00\x00", "\x01\x00\x00\x00\x04\x00\x00\x00\x00\x01\x00\x00\x00a", "\x01\x00\x00\x00\x01\x00\x00\x00\x00\x00\x00\x00\x00",
		"\x01\x00\x00\x00\x01" + numOf(1<<31-1) + numOf(1), "\x01\x00\x00\x00\x01" + numOf(1) + numOf(1<<31-1), "\x01\x00\x00\x00\x01" + numOf(0) + numOf(1<<31), "\x01\x00\x00\x00\x01" + numOf(1<<31) + numOf(1), "\x01\x00\x00\x00\x01" + numOf(1<<32-1) + numOf(1), "\x01\x00\x00\x00\x01" + numOf(0) + numOf(1<<32-1),
		"\x01\x00\x00\x00\x02\x00\x00\x00\x00", "\x01\x00\x00\x00\x02\x02\x00\x00\x00a", "\x01\x00\x00\x00\x02\x01\x00\x00\x00ab", "\x01\x00\x00\x00\x02" + textOf(noise(8193, 256, 1)),
		"\x01\x00\x00\x00\x03\x00\x00\x00\x00\x00\x00\x00\x00", "\x01\x00\x00\x00\x03" + numOf(1<<31-1) + textOf("a"), "\x01\x00\x00\x00\x03" + numOf(1<<31-2) + textOf("ab"), "\x01\x00\x00\x00\x03" + numOf(1<<31) + textOf("a"), "\x01\x00\x00\x00\x03" + numOf(0) + textOf(noise(8193, 256, 1)),
		"\x02\x00\x00\x00\x02\x01\x00\x00\x00a", "\x01\x00\x00\x00\x02\x01\x00\x00\x00a\x02\x01\x00\x00\x00a",
		numOf(257) + strings.Repeat(told(Op{Kind: Lay, Data: "a"}), 257), numOf(257) + strings.Repeat(told(Op{Kind: Lay, Data: "a"}), 256), numOf(256) + strings.Repeat(told(Op{Kind: Lay, Data: "a"}), 257), numOf(256) + strings.Repeat(told(Op{Kind: Lay, Data: "a"}), 255), numOf(1<<16) + strings.Repeat(told(Op{Kind: Lay, Data: "a"}), 1<<16),
	} {
		if got, err := Parse(s); err != api.ErrForm || len(got) != 0 {
			t.Errorf("%.80q: %.80v, %d", s, got, err)
		}
		if reads(t, s) {
			t.Errorf("%.80q is taken for deeds", s)
		}
	}
	for _, s := range []string{
		"\x00\x00\x00\x00", "\x01\x00\x00\x00\x01" + numOf(1<<31-2) + numOf(1), "\x01\x00\x00\x00\x01" + numOf(0) + numOf(1<<31-1), "\x01\x00\x00\x00\x03" + numOf(1<<31-2) + textOf("a"), "\x01\x00\x00\x00\x03" + numOf(1<<31-8193) + textOf(noise(8192, 256, 1)), "\x01\x00\x00\x00\x02" + textOf(noise(8192, 256, 1)),
		numOf(256) + strings.Repeat(told(Op{Kind: Lay, Data: "a"}), 256),
	} {
		if !reads(t, s) {
			t.Errorf("%.80q isn't taken for deeds", s)
		}
	}
}

// Of some deeds' bytes each byte as each other one, one more at each place, one less, and each beginning and end.
func TestParseOfTurnedBytes(t *testing.T) {
	s := "\x03\x00\x00\x00" + told(Op{Kind: Copy, From: 1, Size: 258}) + told(Op{Kind: Lay, Data: "\x00\x02\x01"}) + told(Op{Kind: Add, From: 0, Data: "\x03\x00\x00"})
	reads(t, s)
	for at := range len(s) {
		for b := range 256 {
			reads(t, s[:at]+string([]byte{byte(b)})+s[at+1:])
			reads(t, s[:at]+string([]byte{byte(b)})+s[at:])
		}
		reads(t, s[:at]+s[at+1:])
		if reads(t, s[:at]) || reads(t, s+s[:at+1]) {
			t.Error(at)
		}
		reads(t, s[at:])
	}
}

func TestParseOfAnyBytes(t *testing.T) {
	r := rand.New(rand.NewPCG(5, 19))
	ok := 0
	for range 100000 {
		s := []byte("\x01\x00\x00\x00\x01\x00\x00\x00\x00\x01\x00\x00\x00\x00"[:4+r.IntN(11)] + noise(r.IntN(12), 4, r.Int()))
		for range r.IntN(4) {
			s[r.IntN(len(s))] = byte(r.IntN(5))
		}
		if reads(t, string(s)) {
			ok++
		}
	}
	if ok < 500 {
		t.Error(ok)
	}
}

// P19.3

func TestMakeByHand(t *testing.T) {
	long := noise(60, 256, 1)
	for _, c := range []struct {
		base, next string
		want       []Op
	}{
		{"", "", nil}, {"abc", "", nil}, {"", "a", []Op{{Kind: Lay, Data: "a"}}}, {"abc", "xyz", []Op{{Kind: Lay, Data: "xyz"}}}, {"ab", "ab", []Op{{Kind: Lay, Data: "ab"}}},
		{long, long, []Op{{Kind: Copy, Size: 60}}}, {long, long[7:30], []Op{{Kind: Copy, From: 7, Size: 23}}}, {"x" + long, long + "y", []Op{{Kind: Copy, From: 1, Size: 60}, {Kind: Lay, Data: "y"}}},
		{long, "zz" + long, []Op{{Kind: Lay, Data: "zz"}, {Kind: Copy, Size: 60}}}, {long, long[:29] + "??" + long[31:], []Op{{Kind: Copy, Size: 29}, {Kind: Lay, Data: "??"}, {Kind: Copy, From: 31, Size: 29}}},
		{long, long[40:] + long[:40], []Op{{Kind: Copy, From: 40, Size: 20}, {Kind: Copy, Size: 40}}}, {long, long + long, []Op{{Kind: Copy, Size: 60}, {Kind: Copy, Size: 60}}},
	} {
		if got := makes(t, c.base, c.next); !slices.Equal(got, c.want) {
			t.Errorf("%q of %q: %v, not %v", c.next, c.base, got, c.want)
		}
	}
}

func TestMakeOfTooMuch(t *testing.T) {
	base := noise(20000, 256, 1)
	for _, n := range []int{8190, 8191, 8192, 8193, 8194, 9000, 20000} {
		for _, next := range []string{base[:n], base[20000-n:], noise(n, 256, 2), strings.Repeat("\x00", n)} {
			for _, base := range []string{base, base[:8192], base[:n], "", "a"} {
				ops := makes(t, base, next)
				if (len(ops) == 0) != (n > 8192) {
					t.Errorf("%d bytes: %d deeds", n, len(ops))
				}
			}
		}
	}
}

// fewest: the bytes of the cheapest deeds, at most so many, by which a text comes of a base: all ways to part it are tried.
func fewest(base, next string, most int) int {
	const none = 1 << 30
	row := slices.Repeat([]int{none}, len(next)+1)
	row[0] = 4
	for range most {
		after := slices.Clone(row)
		for from := range len(next) {
			for end := from + 1; end <= len(next); end++ {
				after[end] = min(after[end], row[from]+5+end-from)
				if strings.Contains(base, next[from:end]) {
					after[end] = min(after[end], row[from]+9)
				}
			}
		}
		row = after
	}
	return row[len(next)]
}

// Beyond what is asked: no other copies and lays have fewer bytes.
func TestMakeIsCheapest(t *testing.T) {
	r := rand.New(rand.NewPCG(6, 19))
	copies := 0
	for range 1500 {
		base := noise(r.IntN(60), 2+r.IntN(6), r.Int())
		next := noise(r.IntN(30), 2+r.IntN(3), r.Int())
		for len(base) > 0 && len(next) < 60 && r.IntN(4) > 0 {
			from := r.IntN(len(base))
			next += base[from:min(from+r.IntN(30), len(base))] + noise(r.IntN(3), 256, r.Int())
		}
		if len(next) == 0 {
			continue
		}
		ops := makes(t, base, next)
		if got, want := Cost(ops...), fewest(base, next, 20); got != want {
			t.Fatalf("%q of %q: %d bytes, not %d: %v", next, base, got, want, ops)
		}
		for _, op := range ops {
			if op.Kind == Copy {
				copies++
			}
		}
	}
	if copies < 500 {
		t.Error(copies)
	}
}

// Where more deeds than there may be would be cheaper, just as many are. Between the base's pieces there is a byte that the text hasn't, so that no copy has more than a piece.
func TestMakeOfManyPieces(t *testing.T) {
	for _, size := range []int{10, 12, 16, 20, 25, 30, 31, 32, 33} {
		for _, count := range []int{1, 2, 100, 255, 256, 257, 258, 259, 300, 400} {
			if count*size > 8192 {
				continue
			}
			base, next := "", ""
			for i := range count {
				piece := noise(size, 255, i)
				base += piece + "\xff"
				next = piece + next
			}
			ops := makes(t, base, next)
			// One Lay has the pieces for which there is no deed of their own.
			want := 4 + 9*count
			if count > 256 {
				want = 4 + 9*255 + 5 + (count-255)*size
			}
			if len(ops) != min(count, 256) || Cost(ops...) != want {
				t.Errorf("%d pieces of %d bytes: %d deeds, %d bytes, not %d", count, size, len(ops), Cost(ops...), want)
			}
		}
	}
}

func TestMakeOfTurnedBytes(t *testing.T) {
	for _, n := range []int{1, 2, 20, 100, 1000, 8191, 8192} {
		base := noise(n, 256, n)
		for _, count := range []int{0, 1, 2, 5, 30, 127, 128, 129, 200, 1000, 8192} {
			r := rand.New(rand.NewPCG(uint64(count), 19))
			list := []byte(base)
			for range count {
				list[r.IntN(n)] += byte(1 + r.IntN(255))
			}
			ops := makes(t, base, string(list))
			// A Copy ahead of each byte, and behind the last one, and a Lay of each: more can't be needed.
			if count <= 127 && Cost(ops...) > 4+9+15*count {
				t.Errorf("%d of %d bytes: %d", count, n, Cost(ops...))
			}
		}
	}
}

// Texts in which much is alike: all of one byte, of turns of a few, of powers of two.
func TestMakeOfTextsThatAreAlike(t *testing.T) {
	ruler := make([]byte, 8192)
	for i := range ruler {
		ruler[i] = byte((i + 1) & -(i + 1) % 251)
	}
	texts := []string{
		"", "\x00", "a", "ab", strings.Repeat("\x00", 8192), strings.Repeat("\xff", 300), strings.Repeat("ab", 4096), strings.Repeat("ba", 1000), strings.Repeat("abc", 2730), strings.Repeat("\x00", 4095) + "\x01" + strings.Repeat("\x00", 4096),
		"\x01" + strings.Repeat("\x00", 8191), strings.Repeat("\x00", 8191) + "\x01", string(ruler), string(ruler[:1000]), noise(8192, 2, 1), noise(3000, 2, 2), noise(8192, 3, 3), noise(8192, 256, 4), noise(8191, 256, 4), noise(40, 256, 4),
		strings.Repeat(noise(100, 256, 5), 80), strings.Repeat(noise(500, 2, 6), 16),
	}
	for _, base := range texts {
		for _, next := range texts {
			ops := makes(t, base, next)
			if len(next) > 13 && strings.Contains(base, next) && len(ops) != 1 {
				t.Errorf("%.40q, %d bytes, of %.40q, %d: %d deeds", next, len(next), base, len(base), len(ops))
			}
		}
	}
}

// A base may be longer than any text that comes.
func TestMakeOfALongBase(t *testing.T) {
	base := noise(1<<20, 256, 1)
	for _, n := range []int{8192, 8216, 16383, 16384, 16385, 20000, 1 << 20} {
		for _, from := range []int{0, 1, 24, n - 8192} {
			if from+8192 <= n {
				ops := makes(t, base[:n], base[from:from+8192])
				if n <= 16384 && len(ops) != 1 {
					t.Errorf("%d bytes, from %d on: %d deeds", n, from, len(ops))
				}
			}
		}
	}
	makes(t, strings.Repeat("\x00", 1<<24), strings.Repeat("\x00", 8192))
	makes(t, strings.Repeat("ab", 1<<23), strings.Repeat("ba", 4096))
}

func TestMakeOfAnyTexts(t *testing.T) {
	r := rand.New(rand.NewPCG(7, 19))
	for range 2000 {
		kinds := 1 + r.IntN(256)
		base := noise(r.IntN(500), kinds, r.Int())
		next := noise(r.IntN(500), kinds, r.Int())
		for range r.IntN(20) {
			if len(base) > 0 {
				from := r.IntN(len(base))
				next += base[from:min(from+r.IntN(100), len(base))]
			}
		}
		makes(t, base, next)
	}
}

// All texts of up to five bytes of two kinds, of all such bases.
func TestMakeOfSmallTexts(t *testing.T) {
	texts := []string{""}
	for from := 0; len(texts[from]) < 5; from++ {
		texts = append(texts, texts[from]+"a", texts[from]+"b")
	}
	for _, base := range texts {
		for _, next := range texts {
			makes(t, base, next)
		}
	}
}

// P19.4

func TestToldIsRead(t *testing.T) {
	r := rand.New(rand.NewPCG(8, 19))
	for i := range 400 {
		base := noise(50, 256, i)
		ops := sound(r, 50, r.IntN(257))
		s, err := Bytes(ops...)
		if err != api.OK {
			t.Fatal(err)
		}
		again, err := Parse(s)
		if err != api.OK || !slices.Equal(again, ops) {
			t.Fatal(again, ops, err)
		}
		applies(t, base, again...)
		made := Make(base, noise(20, 256, i)+base[i%50:])
		s, err = Bytes(made...)
		if err != api.OK {
			t.Fatal(err)
		}
		if again, err = Parse(s); err != api.OK || !slices.Equal(again, made) {
			t.Fatal(again, made, err)
		}
	}
}

func TestOneBehindTheOther(t *testing.T) {
	r := rand.New(rand.NewPCG(9, 19))
	for i := range 2000 {
		base := noise(1+r.IntN(40), 256, i)
		ops := sound(r, len(base), r.IntN(12))
		all, err := Apply(base, ops...)
		if err != api.OK {
			t.Fatal(err)
		}
		for cut := range len(ops) + 1 {
			a, e1 := Apply(base, ops[:cut]...)
			b, e2 := Apply(base, ops[cut:]...)
			if e1 != api.OK || e2 != api.OK || a+b != all {
				t.Fatalf("of %q by %v: %q and %q, not %q", base, ops, a, b, all)
			}
		}
		one := ""
		for _, op := range ops {
			s, err := Apply(base, op)
			if err != api.OK || s != comes(base, op) {
				t.Fatalf("of %q by %v: %q, %d", base, op, s, err)
			}
			one += s
		}
		if one != all {
			t.Fatalf("of %q by %v: %q, not %q", base, ops, all, one)
		}
	}
}

// Rule 3: what is handed in is as it was, its spare room too, and isn't kept; answers are new memory.
func TestListsAreLeft(t *testing.T) {
	base := "0123456789"
	room := []Op{{Kind: Copy, From: 1, Size: 3}, {Kind: Add, From: 2, Data: "\x01\x02"}, {Kind: Lay, Data: "xyz"}, {Kind: 9, From: 9, Size: 9, Data: "spare"}}
	kept := slices.Clone(room)
	ops := room[:2]
	first, _ := Apply(base, ops...)
	bytes, _ := Bytes(ops...)
	if Cost(ops...) != len(bytes) || !slices.Equal(room, kept) || first != "12335" {
		t.Errorf("%v, not %v; %q", room, kept, first)
	}
	read, _ := Parse(bytes)
	again, _ := Parse(bytes)
	made, other := Make(base+base, base+"zz"+base), Make(base+base, base+"zz"+base)
	for _, list := range [][]Op{read, made} {
		list = list[:cap(list)]
		for i := range list {
			list[i] = Op{Kind: 7, Data: "other"}
		}
	}
	if !slices.Equal(again, ops) || !slices.Equal(room, kept) {
		t.Errorf("%v, not %v", again, ops)
	}
	if s, err := Apply(base+base, other...); err != api.OK || s != base+"zz"+base {
		t.Error(s, err)
	}
	room[0], room[1] = Op{}, Op{}
	if third, _ := Apply(base, again...); third != first || first != "12335" {
		t.Error(first, third)
	}
}

// Rule 4: the same is answered each time.
func TestTheSameEachTime(t *testing.T) {
	base, next := noise(5000, 7, 1), noise(3000, 7, 2)+noise(5000, 7, 1)[1000:4000]
	first := makes(t, base, next)
	for range 5 {
		makes(t, next, base)
		if again := Make(base, next); !slices.Equal(first, again) {
			t.Error("another answer")
		}
	}
}

func sum(s string) string {
	d := sha256.Sum256([]byte(s))
	return hex.EncodeToString(d[:])
}

// The sums of what comes, and of the deeds' bytes, are those that another program works out of the same chapters.
func TestAnotherProgram(t *testing.T) {
	for _, c := range []struct {
		base, deeds, by, from, came, cost int
		next, bytes                       string
	}{
		{1, 3, 5, 7, 3, 25, "d4b10c5ea2ef4eb0fd8512d10c849f50ad99df3bdaf7c4e356bd6f4dd6f1da94", "39498d408f5753fab4bce99b8fef6021e7171a3712b5dfee68952fe2f89fc904"},
		{10, 20, 3, 4, 62, 198, "fd9eaaa81a969716b6eb4207dbbe786547a82d69fb443d08b3b1edfa50fa1c02", "d3975cfca593842143a18ca9e350acda151ae089d1a9f6202a0ff3e14363a99b"},
		{300, 100, 37, 22, 1944, 2006, "9b63006d90920b133fb9d0ce301b0d968e64b7252d4901a182776abdadbab154", "e1edf516b3fd05ef7d0b323926da0fcacb202b27e729684c72ebd8ec5ab83105"},
		{4096, 256, 101, 6, 5316, 5534, "af346f7ced17370c5ac3540fabe41c73539a48b3b2c48456bd05a15430441a72", "f2d0b97845a833794d89be309d27dd1e9d3988d03e45fedd6f070f3fd0062bf3"},
		{8216, 255, 77, 250, 5853, 5838, "ce3e2a91beb1bff595e3c08473cbe757dc55be662b67e45b5f107ee6de768401", "1dc1255915091038e7c5da47147134216667c0cb3f4dce36cdbd42040c8a86ac"},
	} {
		list := make([]byte, c.base)
		for i := range list {
			list[i] = byte(i*i*c.by + c.from + i/7)
		}
		ops := make([]Op, c.deeds)
		for k := range ops {
			from := (k*c.by + c.from) % c.base
			size := 1 + (k*c.from+c.by)%min(40, c.base-from)
			data := make([]byte, size)
			for j := range data {
				data[j] = byte(k*j + c.by*k + j*j + c.from)
			}
			ops[k] = []Op{{Copy, from, size, ""}, {Lay, 0, 0, string(data)}, {Add, from, 0, string(data)}}[(k*k+k/3)%3]
		}
		if s, err := Apply(string(list), ops...); err != api.OK || len(s) != c.came || sum(s) != c.next {
			t.Errorf("%d deeds: %d bytes, %d, %s", c.deeds, len(s), err, sum(s))
		}
		if s, err := Bytes(ops...); err != api.OK || len(s) != c.cost || sum(s) != c.bytes {
			t.Errorf("%d deeds: told in %d bytes, %d, %s", c.deeds, len(s), err, sum(s))
		}
	}
}

func FuzzParse(f *testing.F) {
	f.Add("")
	f.Add("\x00\x00\x00\x00")
	f.Add("\x03\x00\x00\x00\x01\x01\x00\x00\x00\x02\x00\x00\x00\x02\x01\x00\x00\x00x\x03\x00\x00\x00\x00\x01\x00\x00\x00\x01")
	f.Add("\x01\x00\x00\x00\x01\xff\xff\xff\x7f\x01\x00\x00\x00")
	f.Add("\x00\x01\x00\x00" + strings.Repeat("\x02\x01\x00\x00\x00a", 256))
	f.Fuzz(func(t *testing.T, s string) {
		reads(t, s)
	})
}

func FuzzDeeds(f *testing.F) {
	f.Add("abcd", 1, 1, 2, "", 3, 0, 0, "\x01")
	f.Add("", 2, 0, 0, "a", 1, 0, 1, "")
	f.Add("0123456789", 1, math.MaxInt, 1, "", 1, 1, math.MaxInt, "")
	f.Add("\xff\x80", 3, 1, 0, "\x80", 3, 2, 0, "\x01")
	f.Add("a", 1, 1<<31-2, 1, "", 3, 1<<31-1, 0, "z")
	f.Fuzz(func(t *testing.T, base string, kind, from, size int, data string, kind2, from2, size2 int, data2 string) {
		ops := []Op{{kind, from, size, data}, {kind2, from2, size2, data2}}
		for _, op := range ops {
			for _, n := range []int{len(base), from, size, from + size, from + len(data)} {
				if got := Good(n, op); got != can(n, op) {
					t.Errorf("of %d bytes %v: %v", n, op, got)
				}
			}
		}
		applies(t, base, ops...)
		applies(t, base, ops[1])
		writes(t, ops...)
		writes(t, ops[1])
	})
}

func FuzzMake(f *testing.F) {
	f.Add("", "", 0, 0)
	f.Add("0123456789abcdef", "x0123456789yabcdef", 1, 1)
	f.Add("ab", "ba", 4096, 4096)
	f.Add("\x00", "\x00", 9000, 8193)
	f.Add("0123456789", "012345678", 1639, 900)
	f.Fuzz(func(t *testing.T, base, next string, times, more int) {
		base = strings.Repeat(base, min(max(times, 1), 10000/(len(base)+1)+1))
		next = strings.Repeat(next, min(max(more, 1), 10000/(len(next)+1)+1))
		makes(t, base, next)
	})
}
