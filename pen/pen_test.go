package pen

import (
	"encoding/binary"
	"math"
	"slices"
	"strings"
	"testing"

	"coadjutor/api"
)

const most = math.MaxInt

// numbers: those around each byte's end, and both ends of what can be.
func numbers() []int {
	return []int{
		0, 1, 9, 127, 128, 255, 256, 257, 258, 1<<16 - 1, 1 << 16, 1<<16 + 1, 1<<24 - 1, 1 << 24, 1<<24 + 1,
		1<<31 - 1, 1 << 31, 1<<31 + 1, 0x01020304, 0xfefdfcfb, 1<<32 - 2, 1<<32 - 1,
	}
}

// strange: numbers that can't be.
func strange() []int {
	return []int{-1, -2, -255, -256, -1 << 31, -1 << 32, math.MinInt, math.MinInt + 1, 1 << 32, 1<<32 + 1, 1<<32 + 258, 1 << 33, 1 << 40, math.MaxInt - 1, math.MaxInt}
}

func texts() []string {
	all := make([]byte, 256)
	for i := range all {
		all[i] = byte(i)
	}
	return []string{
		"", "a", "xyz", "\x00", "\x00\x00\x00\x00", "\xff\xfe", "é世", "\x05\x00\x00\x00", string(all), string(all[:255]),
		strings.Repeat("s", 257), strings.Repeat("t", 1<<16-1), strings.Repeat("u", 1<<16), strings.Repeat("v", 1<<16+1),
	}
}

// digest: a sum of bytes that are all others, and others for each n.
func digest(n int) api.Digest {
	var d api.Digest
	for i := range d {
		d[i] = byte(i*7 + n*31 + 1)
	}
	return d
}

// numOf: what the document says of a number's bytes, by the library.
func numOf(n int) string {
	return string(binary.LittleEndian.AppendUint32(nil, uint32(n)))
}

func textOf(s string) string {
	return numOf(len(s)) + s
}

func sumOf(d api.Digest) string {
	return string(d[:])
}

// held: whether the pen says just this.
func held(t *testing.T, name string, p *Pen, want string, bad bool) {
	t.Helper()
	for range 2 {
		if p.Bytes() != want || p.Bad() != bad {
			t.Errorf("%s: %.80q, bad %v; not %.80q, %v", name, p.Bytes(), p.Bad(), want, bad)
		}
	}
}

// good: whether the eye has nothing to complain of, and so many bytes left.
func good(t *testing.T, name string, e *Eye, left int) {
	t.Helper()
	end := api.OK
	if left > 0 {
		end = api.ErrForm
	}
	// Asked twice, since to ask changes nothing.
	for range 2 {
		if e.Left() != left || e.Err() != api.OK || e.End() != end {
			t.Errorf("%s: %d left, %d, %d", name, e.Left(), e.Err(), e.End())
		}
	}
}

// failed: whether the eye says ErrForm, and nothing else whatever it is asked.
func failed(t *testing.T, name string, e *Eye) {
	t.Helper()
	for range 2 {
		if e.Left() != 0 || e.Err() != api.ErrForm || e.End() != api.ErrForm {
			t.Errorf("%s: %d left, %d, %d", name, e.Left(), e.Err(), e.End())
		}
		if b, n, s, d := e.Byte(), e.Num(most), e.Text(most), e.Digest(); b != 0 || n != 0 || s != "" || d != (api.Digest{}) {
			t.Errorf("%s: %d %d %q %x", name, b, n, s, d)
		}
	}
}

// P3.1

func TestEmptyPen(t *testing.T) {
	var p Pen
	held(t, "empty", &p, "", false)
	held(t, "empty, another way", new(Pen), "", false)
	p.Byte()
	p.Num()
	p.Text()
	p.Digest()
	p.Byte([]byte{}...)
	p.Num([]int{}...)
	p.Text([]string{}...)
	p.Digest([]api.Digest{}...)
	held(t, "nothing of each", &p, "", false)
	p.Byte(7)
	p.Byte()
	p.Num()
	p.Text()
	p.Digest()
	held(t, "nothing of each behind a byte", &p, "\x07", false)
}

func TestByte(t *testing.T) {
	var one, all Pen
	want, list := "", []byte{}
	for b := range 256 {
		want += string([]byte{byte(b)})
		list = append(list, byte(b))
		one.Byte(byte(b))
		held(t, "one by one", &one, want, false)
	}
	all.Byte(list...)
	held(t, "all", &all, want, false)
	all.Byte(5, 5, 0)
	held(t, "three behind them", &all, want+"\x05\x05\x00", false)
}

func TestNum(t *testing.T) {
	var p Pen
	p.Num(258)
	held(t, "the example", &p, "\x02\x01\x00\x00", false)
	p.Num(0, 1<<32-1, 0x01020304)
	held(t, "three more", &p, "\x02\x01\x00\x00\x00\x00\x00\x00\xff\xff\xff\xff\x04\x03\x02\x01", false)
	var one, all Pen
	want := ""
	for _, n := range numbers() {
		want += numOf(n)
		one.Num(n)
		held(t, "one by one", &one, want, false)
	}
	all.Num(numbers()...)
	held(t, "all", &all, want, false)
}

func TestNumThatCantBe(t *testing.T) {
	for _, n := range strange() {
		var p Pen
		p.Num(n)
		held(t, "alone", &p, "\x00\x00\x00\x00", true)
		var q Pen
		q.Num(3, n, 4)
		held(t, "between others", &q, "\x03\x00\x00\x00\x00\x00\x00\x00\x04\x00\x00\x00", true)
		q.Num(5)
		q.Byte(6)
		q.Text("z")
		q.Digest(digest(1))
		held(t, "from then on", &q, numOf(3)+numOf(0)+numOf(4)+numOf(5)+"\x06"+textOf("z")+sumOf(digest(1)), true)
		q.Num()
		q.Num(n)
		held(t, "twice", &q, numOf(3)+numOf(0)+numOf(4)+numOf(5)+"\x06"+textOf("z")+sumOf(digest(1))+numOf(0), true)
	}
	var p Pen
	p.Num(strange()...)
	held(t, "all", &p, strings.Repeat("\x00", 4*len(strange())), true)
}

func TestText(t *testing.T) {
	var p Pen
	p.Text("")
	held(t, "no bytes", &p, "\x00\x00\x00\x00", false)
	p.Text("xyz", "", "\x00")
	held(t, "three more", &p, "\x00\x00\x00\x00\x03\x00\x00\x00xyz\x00\x00\x00\x00\x01\x00\x00\x00\x00", false)
	var one, all Pen
	want := ""
	for _, s := range texts() {
		want += textOf(s)
		one.Text(s)
		held(t, "one by one", &one, want, false)
	}
	all.Text(texts()...)
	held(t, "all", &all, want, false)
}

func TestDigest(t *testing.T) {
	var p Pen
	p.Digest(api.Digest{})
	held(t, "zeros", &p, strings.Repeat("\x00", 32), false)
	p.Digest(digest(1), digest(2), digest(1))
	held(t, "three more", &p, strings.Repeat("\x00", 32)+sumOf(digest(1))+sumOf(digest(2))+sumOf(digest(1)), false)
}

func TestAllBehindEachOther(t *testing.T) {
	var p Pen
	want := ""
	for i := range 60 {
		p.Text(strings.Repeat("q", i), "r")
		p.Byte(byte(i), 0xff)
		p.Digest(digest(i), digest(i+1))
		p.Num(i, 1<<i&maxNum)
		want += textOf(strings.Repeat("q", i)) + textOf("r") + string([]byte{byte(i), 0xff}) + sumOf(digest(i)) + sumOf(digest(i+1)) + numOf(i) + numOf(1<<i&maxNum)
		held(t, "all kinds", &p, want, false)
	}
}

func TestManyCalls(t *testing.T) {
	const calls = 300000
	var p Pen
	for i := range calls {
		p.Byte(byte(i % 251))
	}
	all := p.Bytes()
	if len(all) != calls || p.Bad() {
		t.Fatal(len(all), p.Bad())
	}
	for i := range calls {
		if all[i] != byte(i%251) {
			t.Fatalf("byte %d: %d", i, all[i])
		}
	}
}

func TestNilPen(t *testing.T) {
	var p *Pen
	p.Byte(1)
	p.Num(1, -1, 1<<32)
	p.Text("a", "")
	p.Digest(digest(1))
	p.Byte()
	p.Num()
	p.Text()
	p.Digest()
	held(t, "nil", p, "", false)
}

// Pens know nothing of each other, a pen and its copy neither.
func TestPensAlone(t *testing.T) {
	for n := range 70 {
		var p, other Pen
		other.Num(-1)
		for range n {
			p.Byte('p')
		}
		q := p
		p.Byte('1')
		q.Byte('2')
		r := p
		p.Num(-1)
		p = q
		p.Byte('3')
		stem := strings.Repeat("p", n)
		held(t, "set back", &p, stem+"23", false)
		held(t, "a copy", &q, stem+"2", false)
		held(t, "another copy", &r, stem+"1", false)
		held(t, "another pen", &other, "\x00\x00\x00\x00", true)
	}
}

// A struct that embeds a pen writes by it.
func TestEmbedded(t *testing.T) {
	var w struct {
		Pen
		n int
	}
	w.Byte(1)
	w.Num(2, -2)
	w.Text("a")
	held(t, "embedded", &w.Pen, "\x01"+numOf(2)+numOf(0)+textOf("a"), true)
	if w.Bytes() != w.Pen.Bytes() || !w.Bad() || w.n != 0 {
		t.Error("promoted")
	}
}

// Rule 3: what is handed in is as it was, its spare room too, and isn't kept.
func TestListsAreLeft(t *testing.T) {
	bytes, nums, words, sums := []byte{1, 2, 3, 4}, []int{5, -6, 7, 8}, []string{"a", "b", "c", "d"}, []api.Digest{digest(1), digest(2), digest(3), digest(4)}
	var p Pen
	p.Byte(bytes[:2]...)
	p.Num(nums[:2]...)
	p.Text(words[:2]...)
	p.Digest(sums[:2]...)
	p.Byte(9)
	if !slices.Equal(bytes, []byte{1, 2, 3, 4}) || !slices.Equal(nums, []int{5, -6, 7, 8}) || !slices.Equal(words, []string{"a", "b", "c", "d"}) || !slices.Equal(sums, []api.Digest{digest(1), digest(2), digest(3), digest(4)}) {
		t.Error("a list was changed")
	}
	bytes[0], nums[0], words[0], sums[0] = 0xee, 0xee, "e", digest(9)
	held(t, "lists that are changed later", &p, "\x01\x02"+numOf(5)+numOf(0)+textOf("a")+textOf("b")+sumOf(digest(1))+sumOf(digest(2))+"\x09", true)
}

// P3.2

func TestReadByte(t *testing.T) {
	all := texts()[8]
	e := Of(all)
	for i := range len(all) {
		if b := e.Byte(); b != byte(i) {
			t.Errorf("byte %d: %d", i, b)
		}
		good(t, "bytes", e, len(all)-1-i)
	}
	e.Byte()
	failed(t, "one byte too many", e)
	e = Of("")
	if e.Byte() != 0 {
		t.Error("of no bytes")
	}
	failed(t, "of no bytes", e)
}

func TestReadNum(t *testing.T) {
	e := Of("\x02\x01\x00\x00\x04\x03\x02\x01!")
	if a, b := e.Num(258), e.Num(most); a != 258 || b != 0x01020304 {
		t.Error(a, b)
	}
	good(t, "two numbers", e, 1)
	for _, n := range numbers() {
		for _, high := range []int{n, n + 1, n + 258, 1 << 32, 1 << 40, most} {
			e := Of(numOf(n) + "ab")
			if got := e.Num(high); got != n {
				t.Errorf("%d, up to %d: %d", n, high, got)
			}
			good(t, "a number", e, 2)
		}
		for _, high := range []int{n - 1, n - 256, n - 1<<16, -1, -1 << 32, math.MinInt} {
			if high >= n {
				continue
			}
			e := Of(numOf(n) + "ab" + strings.Repeat("\x00", 64))
			if got := e.Num(high); got != 0 {
				t.Errorf("%d, up to %d: %d", n, high, got)
			}
			failed(t, "a number above most", e)
		}
		for cut := range numSize {
			e := Of(numOf(n)[:cut])
			if got := e.Num(most); got != 0 {
				t.Errorf("%d bytes of %d: %d", cut, n, got)
			}
			failed(t, "a part of a number", e)
		}
	}
}

func TestReadText(t *testing.T) {
	for _, s := range texts() {
		for _, high := range []int{len(s), len(s) + 1, 1 << 32, most} {
			e := Of(textOf(s) + "ab")
			if got := e.Text(high); got != s {
				t.Errorf("%d bytes, up to %d: %d", len(s), high, len(got))
			}
			good(t, "a text", e, 2)
		}
		for _, high := range []int{len(s) - 1, len(s) - 256, -1, math.MinInt} {
			if high >= len(s) {
				continue
			}
			e := Of(textOf(s) + strings.Repeat("\x00", 64))
			if got := e.Text(high); got != "" {
				t.Errorf("%d bytes, up to %d: %d", len(s), high, len(got))
			}
			failed(t, "a text longer than most", e)
		}
		for _, cut := range []int{0, 1, 2, 3, 4, len(s)/2 + 4, len(s) + 3} {
			if cut >= len(s)+4 {
				continue
			}
			e := Of(textOf(s)[:cut])
			if got := e.Text(most); got != "" {
				t.Errorf("%d bytes of a text of %d: %d", cut, len(s), len(got))
			}
			failed(t, "a part of a text", e)
		}
	}
	for _, n := range []int{6, 1 << 16, 1<<31 - 1, 1 << 31, 1<<32 - 1} {
		for _, high := range []int{n, most} {
			e := Of(numOf(n) + "abcde")
			if got := e.Text(high); got != "" {
				t.Errorf("%d bytes that aren't there: %q", n, got)
			}
			failed(t, "bytes that aren't there", e)
		}
	}
}

func TestReadDigest(t *testing.T) {
	e := Of(sumOf(digest(1)) + sumOf(api.Digest{}) + sumOf(digest(2)) + "!")
	for i, want := range []api.Digest{digest(1), {}, digest(2)} {
		if got := e.Digest(); got != want {
			t.Errorf("sum %d: %x", i, got)
		}
		good(t, "sums", e, (2-i)*32+1)
	}
	if got := e.Digest(); got != (api.Digest{}) {
		t.Errorf("of a byte: %x", got)
	}
	failed(t, "one sum too many", e)
	for cut := range 32 {
		e := Of(sumOf(digest(3))[:cut])
		if got := e.Digest(); got != (api.Digest{}) {
			t.Errorf("of %d bytes: %x", cut, got)
		}
		failed(t, "a part of a sum", e)
	}
}

// What comes behind what was wrong isn't read, though it could be.
func TestWrongFromThenOn(t *testing.T) {
	behind := textOf("abc") + sumOf(digest(1)) + strings.Repeat("\x01", 100)
	for name, read := range map[string]func(e *Eye){
		"a number": func(e *Eye) { e.Num(4) },
		"a text":   func(e *Eye) { e.Text(4) },
	} {
		e := Of("\x09" + numOf(5) + "abcde" + behind)
		if e.Byte() != 9 {
			t.Error("the first byte")
		}
		good(t, "ahead of "+name, e, 9+len(behind))
		read(e)
		failed(t, name, e)
	}
	e := Of(numOf(200) + behind)
	e.Text(300)
	failed(t, "a text that isn't all there", e)
}

// P3.3

func TestLeftAndEnd(t *testing.T) {
	e := Of("")
	good(t, "no bytes", e, 0)
	e = Of("\x07" + numOf(1) + textOf("abc") + sumOf(digest(1)))
	good(t, "not yet read", e, 44)
	e.Byte()
	good(t, "behind a byte", e, 43)
	e.Num(1)
	good(t, "behind a number", e, 39)
	e.Text(3)
	good(t, "behind a text", e, 32)
	if e.Digest() != digest(1) {
		t.Error("an End that said ErrForm changed something")
	}
	good(t, "behind a sum", e, 0)
	e.Byte()
	failed(t, "behind the end", e)
}

func TestNilEye(t *testing.T) {
	var e *Eye
	for range 2 {
		if b, n, s, d := e.Byte(), e.Num(most), e.Text(most), e.Digest(); b != 0 || n != 0 || s != "" || d != (api.Digest{}) {
			t.Errorf("%d %d %q %x", b, n, s, d)
		}
		if e.Num(-1) != 0 || e.Text(-1) != "" || e.Left() != 0 || e.Err() != api.ErrNil || e.End() != api.ErrNil {
			t.Error(e.Left(), e.Err(), e.End())
		}
	}
}

// Eyes know nothing of each other, and of the same bytes each reads all.
func TestEyesAlone(t *testing.T) {
	s := numOf(5) + "ab"
	a, b := Of(s), Of(s)
	c := *a
	a.Num(4)
	failed(t, "one", a)
	good(t, "another", b, 6)
	good(t, "a copy", &c, 6)
	if b.Num(5) != 5 || c.Byte() != 5 {
		t.Error("read twice")
	}
	good(t, "another", b, 2)
	good(t, "a copy", &c, 5)
}

// P3.4

// row: what a number tells, written by a pen and read by an eye.
type row struct {
	kinds []int
	nums  []int
	words []string
	sums  []api.Digest
}

// rowOf: so many things of all kinds; the seed goes on by a fixed rule, so the rows are always the same.
func rowOf(seed, size int) row {
	var r row
	next := func(n int) int {
		seed = (seed*1103515245 + 12345) & (1<<31 - 1)
		return seed >> 8 % n
	}
	for range size {
		r.kinds = append(r.kinds, next(4))
		r.nums = append(r.nums, numbers()[next(len(numbers()))])
		r.words = append(r.words, texts()[next(len(texts())-3)])
		r.sums = append(r.sums, digest(next(256)))
	}
	return r
}

func (r row) write() string {
	var p Pen
	for i, kind := range r.kinds {
		switch kind {
		case 0:
			p.Byte(byte(r.nums[i]))
		case 1:
			p.Num(r.nums[i])
		case 2:
			p.Text(r.words[i])
		case 3:
			p.Digest(r.sums[i])
		}
	}
	return p.Bytes()
}

// read: how many of the row's things were read as they are.
func (r row) read(e *Eye) int {
	same := 0
	for i, kind := range r.kinds {
		ok := false
		switch kind {
		case 0:
			ok = e.Byte() == byte(r.nums[i])
		case 1:
			ok = e.Num(r.nums[i]) == r.nums[i]
		case 2:
			ok = e.Text(len(r.words[i])) == r.words[i]
		case 3:
			ok = e.Digest() == r.sums[i]
		}
		if ok && e.Err() == api.OK {
			same++
		}
	}
	return same
}

func TestWrittenIsRead(t *testing.T) {
	for seed := range 200 {
		r := rowOf(seed, 1+seed%40)
		s := r.write()
		e := Of(s)
		if n := r.read(e); n != len(r.kinds) {
			t.Errorf("row %d: %d things of %d", seed, n, len(r.kinds))
		}
		good(t, "all read", e, 0)
		e = Of(s + "xy")
		r.read(e)
		good(t, "two more bytes", e, 2)
		for cut := max(0, len(s)-40); cut < len(s); cut++ {
			e := Of(s[:cut])
			if n := r.read(e); n >= len(r.kinds) {
				t.Errorf("row %d, cut to %d of %d bytes: all was read", seed, cut, len(s))
			}
			failed(t, "cut", e)
		}
	}
}

// Rule 6: bytes may be any. Whatever is read is what stands there, or nothing.
func FuzzEye(f *testing.F) {
	f.Add("", "", 0)
	f.Add("\x02\x00\x00\x00ab", "\x02", 2)
	f.Add(numOf(1)+textOf("abc")+sumOf(digest(1))+"\x09", "\x01\x02\x03\x00", 3)
	f.Add(numOf(1<<32-1)+"abc", "\x02\x01", most)
	f.Fuzz(func(t *testing.T, s, reads string, high int) {
		e := Of(s)
		at := 0
		for _, kind := range []byte(reads) {
			rest := s[at:]
			want := wanted(rest, kind%4, high)
			got := readOne(e, kind%4, high)
			if want == "" {
				if got != "" {
					t.Fatalf("%q of %q", got, rest)
				}
				failed(t, "wrong", e)
				return
			}
			if got != want {
				t.Fatalf("%q, not %q", got, want)
			}
			at += len(want)
			good(t, "read", e, len(s)-at)
		}
	})
}

// wanted: the bytes of what comes next; none, if it is wrong.
func wanted(rest string, kind byte, high int) string {
	size := []int{1, 4, 4, 32}[kind]
	if len(rest) < size {
		return ""
	}
	if kind == 1 || kind == 2 {
		n := int(binary.LittleEndian.Uint32([]byte(rest)))
		if n > high {
			return ""
		}
		if kind == 2 {
			size += n
		}
	}
	if len(rest) < size {
		return ""
	}
	return rest[:size]
}

// readOne: the bytes of what the eye reads; none, if it says that it is wrong.
func readOne(e *Eye, kind byte, high int) string {
	s := ""
	switch kind {
	case 0:
		s = string([]byte{e.Byte()})
	case 1:
		s = numOf(e.Num(high))
	case 2:
		s = textOf(e.Text(high))
	case 3:
		s = sumOf(e.Digest())
	}
	if e.Err() != api.OK {
		return ""
	}
	return s
}
