package bits

import (
	"math"
	"math/big"
	"math/rand"
	"slices"
	"strings"
	"testing"

	"coadjutor/api"
)

const most = 1024

// model is a set as the chapter tells it: of each number whether it is there.
type model []bool

// modelOf: the numbers of so many that a rule tells.
func modelOf(n int, there func(int) bool) model {
	m := make(model, n)
	for k := range m {
		m[k] = there(k)
	}
	return m
}

func (m model) row() []int {
	row := []int{}
	for k, there := range m {
		if there {
			row = append(row, k)
		}
	}
	return row
}

func (m model) first() int {
	return slices.Index(m, false)
}

// text: all numbers' bits as one great number, whose bytes are told from the lowest on.
func (m model) text() string {
	all := new(big.Int)
	for k, there := range m {
		if there {
			all.SetBit(all, k, 1)
		}
	}
	bytes := all.FillBytes(make([]byte, len(m)/8+min(1, len(m)%8)))
	slices.Reverse(bytes)
	return string(bytes)
}

// set: the set that is this model, number by number.
func (m model) set(t testing.TB) *Set {
	t.Helper()
	s := New(len(m))
	for k, there := range m {
		if !there {
			continue
		}
		if errno := s.Add(k); errno != api.OK {
			t.Fatalf("of %d add %d: %d", len(m), k, errno)
		}
	}
	return s
}

// held: whether a set says just what the model says, to all that can be asked; twice, since to ask changes nothing.
func held(t testing.TB, name string, s *Set, m model) {
	t.Helper()
	if s == nil {
		t.Fatalf("%s: nil", name)
	}
	row, text := m.row(), m.text()
	for range 2 {
		if s.Len() != len(m) || s.Count() != len(row) || s.First() != m.first() {
			t.Fatalf("%s: %d of %d, first %d; not %d of %d, %d", name, s.Count(), s.Len(), s.First(), len(row), len(m), m.first())
		}
		if got := s.Row(); !slices.Equal(got, row) {
			t.Fatalf("%s: row %v, not %v", name, got, row)
		}
		if got := s.Text(); got != text {
			t.Fatalf("%s: text %q, not %q", name, got, text)
		}
		if !s.Has() || !s.Has(row...) {
			t.Fatalf("%s: hasn't %v", name, row)
		}
	}
	for k := -1; k <= len(m); k++ {
		if s.Has(k) != (k >= 0 && k < len(m) && m[k]) {
			t.Fatalf("%s: has %d: %v", name, k, s.Has(k))
		}
	}
}

// lengths: those around each byte's and each word's end, and both ends.
func lengths() []int {
	return []int{1, 2, 3, 7, 8, 9, 10, 15, 16, 17, 31, 32, 33, 63, 64, 65, 127, 128, 129, 255, 256, 257, 1000, 1015, 1016, 1017, 1022, 1023, 1024}
}

// strange: numbers that aren't a set's of n.
func strange(n int) []int {
	return []int{
		-1, -2, -7, -8, -9, -64, -n, -1024, -1 << 31, -1 << 32, math.MinInt, math.MinInt + 1, math.MinInt + 8,
		n, n + 1, n + 7, n + 8, n + 64, 1024, 1025, 1<<31 - 1, 1 << 31, 1 << 32, 1<<32 + 1, math.MaxInt - 1, math.MaxInt,
	}
}

// patterns: rows of all kinds, of so many.
func patterns(n int) []model {
	return []model{
		modelOf(n, func(int) bool { return false }),
		modelOf(n, func(int) bool { return true }),
		modelOf(n, func(k int) bool { return k%2 == 0 }),
		modelOf(n, func(k int) bool { return k%3 == 1 }),
		modelOf(n, func(k int) bool { return k == 0 || k == n-1 }),
		modelOf(n, func(k int) bool { return k != 0 && k != n-1 }),
		modelOf(n, func(k int) bool { return k*k%7 < 3 }),
		modelOf(n, func(k int) bool { return k < n/2 }),
	}
}

// P8.1

func TestNew(t *testing.T) {
	for n := -1100; n <= 2100; n++ {
		s := New(n)
		if n < 1 || n > most {
			if s != nil {
				t.Errorf("%d: a set", n)
			}
			continue
		}
		held(t, "new", s, make(model, n))
	}
	for _, n := range []int{math.MinInt, math.MinInt + 1, -1 << 32, -1 << 31, 1 << 31, 1<<32 + 1, 1<<32 + 1024, math.MaxInt - 1, math.MaxInt} {
		if New(n) != nil {
			t.Errorf("%d: a set", n)
		}
	}
}

func TestNewIsAnother(t *testing.T) {
	a, b := New(9), New(9)
	a.Add(3)
	held(t, "the other one", b, make(model, 9))
	b.Add(8)
	held(t, "the one", a, modelOf(9, func(k int) bool { return k == 3 }))
}

func TestAddDrop(t *testing.T) {
	s := New(10)
	for i, c := range []struct {
		add  bool
		list []int
		want api.Errno
		row  []int
	}{
		{true, nil, api.OK, nil},
		{false, nil, api.OK, nil},
		{true, []int{}, api.OK, nil},
		{true, []int{0, 9}, api.OK, []int{0, 9}},
		{true, []int{9, 0}, api.OK, []int{0, 9}},
		{true, []int{4, 4, 4}, api.OK, []int{0, 4, 9}},
		{true, []int{10}, api.ErrRange, []int{0, 4, 9}},
		{true, []int{-1}, api.ErrRange, []int{0, 4, 9}},
		{true, []int{1, 2, 10}, api.ErrRange, []int{0, 4, 9}},
		{true, []int{10, 1, 2}, api.ErrRange, []int{0, 4, 9}},
		{true, []int{1, -1, 2}, api.ErrRange, []int{0, 4, 9}},
		{false, []int{3}, api.OK, []int{0, 4, 9}},
		{false, []int{0, 10}, api.ErrRange, []int{0, 4, 9}},
		{false, []int{-1, 0}, api.ErrRange, []int{0, 4, 9}},
		{false, []int{0, 0}, api.OK, []int{4, 9}},
		{false, []int{8, 9, 7}, api.OK, []int{4}},
		{true, []int{5, 3, 8, 1, 0, 2, 9, 7, 6}, api.OK, []int{0, 1, 2, 3, 4, 5, 6, 7, 8, 9}},
		{false, []int{9, 8, 7, 6, 5, 4, 3, 2, 1, 0}, api.OK, nil},
	} {
		call := s.Drop
		if c.add {
			call = s.Add
		}
		if got := call(c.list...); got != c.want {
			t.Errorf("%d: %d, not %d", i, got, c.want)
		}
		held(t, "row", s, modelOf(10, func(k int) bool { return slices.Contains(c.row, k) }))
	}
}

// Each number that can't be, at each place of lists, with sets of all kinds: nothing is changed.
func TestRange(t *testing.T) {
	for _, n := range lengths() {
		for _, m := range patterns(n) {
			s := m.set(t)
			for _, k := range strange(n) {
				if k >= 0 && k < n {
					continue
				}
				for _, list := range [][]int{{k}, {k, 0}, {0, k}, {0, n - 1, k}, {n / 2, k, n - 1}, {k, k}} {
					if errno := s.Add(list...); errno != api.ErrRange {
						t.Errorf("of %d add %v: %d", n, list, errno)
					}
					if errno := s.Drop(list...); errno != api.ErrRange {
						t.Errorf("of %d drop %v: %d", n, list, errno)
					}
				}
				if s.Has(k) || s.Has(k, 0) || s.Has(0, k) || s.Has(append(m.row(), k)...) {
					t.Errorf("of %d has %d", n, k)
				}
			}
			held(t, "behind what can't be", s, m)
		}
	}
}

func TestHas(t *testing.T) {
	s := New(12)
	s.Add(0, 3, 7, 8, 11)
	for i, c := range []struct {
		list []int
		want bool
	}{
		{nil, true}, {[]int{}, true}, {[]int{0}, true}, {[]int{11}, true}, {[]int{0, 3, 7, 8, 11}, true},
		{[]int{11, 8, 7, 3, 0}, true}, {[]int{3, 3, 3}, true}, {[]int{1}, false}, {[]int{0, 1}, false}, {[]int{1, 0}, false},
		{[]int{0, 3, 9, 8}, false}, {[]int{0, 12}, false}, {[]int{12}, false}, {[]int{-1}, false}, {[]int{-1, 0}, false},
	} {
		if got := s.Has(c.list...); got != c.want {
			t.Errorf("%d: %v: %v", i, c.list, got)
		}
	}
	if !New(1).Has() || New(1).Has(0) || New(most).Has(most-1) {
		t.Error("an empty set")
	}
}

// Of all sets of six numbers, all lists that a set of six numbers is.
func TestHasAll(t *testing.T) {
	const n = 6
	for x := range 1 << n {
		s := modelOf(n, func(k int) bool { return x>>k&1 == 1 }).set(t)
		for y := range 1 << n {
			list := modelOf(n, func(k int) bool { return y>>k&1 == 1 }).row()
			if s.Has(list...) != (x&y == y) {
				t.Errorf("%b has %b: %v", x, y, s.Has(list...))
			}
		}
	}
}

// All sets of five numbers, and all lists that are added to them and dropped of them.
func TestAddDropAll(t *testing.T) {
	const n = 5
	of := func(x int) model { return modelOf(n, func(k int) bool { return x>>k&1 == 1 }) }
	for x := range 1 << n {
		for y := range 1 << n {
			list := of(y).row()
			s := of(x).set(t)
			if errno := s.Add(list...); errno != api.OK {
				t.Errorf("add: %d", errno)
			}
			held(t, "added", s, of(x|y))
			s = of(x).set(t)
			if errno := s.Drop(list...); errno != api.OK {
				t.Errorf("drop: %d", errno)
			}
			held(t, "dropped", s, of(x&^y))
		}
	}
}

// A list may be longer than the set, and is left as it was handed in, with its spare room.
func TestLists(t *testing.T) {
	list := make([]int, 5000, 6000)
	for i := range list {
		list[i] = i * 7 % 100
	}
	kept := slices.Clone(list[:cap(list)])
	s := New(100)
	if s.Add(list...) != api.OK || s.Count() != 100 || !s.Has(list...) {
		t.Error("add")
	}
	if s.Drop(list[:50]...) != api.OK || s.Count() != 50 || s.Has(list...) {
		t.Error("drop")
	}
	if !slices.Equal(list[:cap(list)], kept) {
		t.Error("the list is another one")
	}
	s = New(100)
	s.Add(list[:3]...)
	copy(list, []int{50, 51, 52})
	if !slices.Equal(s.Row(), []int{0, 7, 14}) {
		t.Error("the list was kept")
	}
}

func TestNil(t *testing.T) {
	var s *Set
	for _, list := range [][]int{nil, {0}, {-1}, {1, 2, 3}, {math.MaxInt}} {
		if s.Add(list...) != api.ErrNil || s.Drop(list...) != api.ErrNil || s.Has(list...) {
			t.Error("a list", list)
		}
	}
	if s.Count() != 0 || s.Len() != 0 || s.First() != -1 || len(s.Row()) != 0 || s.Text() != "" {
		t.Error("what is asked")
	}
	if New(0).Add() != api.ErrNil || New(most+1).First() != -1 {
		t.Error("what can't be")
	}
}

// P8.2, P8.3

// All sets of up to ten numbers, against the model; and the way back from their texts.
func TestAllSets(t *testing.T) {
	for n := 1; n <= 10; n++ {
		for x := range 1 << n {
			m := modelOf(n, func(k int) bool { return x>>k&1 == 1 })
			s := m.set(t)
			held(t, "set", s, m)
			back, errno := Parse(n, s.Text())
			if errno != api.OK {
				t.Fatalf("of %d %b: %d", n, x, errno)
			}
			held(t, "back", back, m)
			if !Same(back, s) {
				t.Errorf("of %d %b: not the same", n, x)
			}
		}
	}
}

func TestPatterns(t *testing.T) {
	for n := 1; n <= most; n++ {
		for _, m := range patterns(n) {
			s := New(n)
			if errno := s.Add(m.row()...); errno != api.OK {
				t.Fatalf("of %d: %d", n, errno)
			}
			held(t, "pattern", s, m)
			back, errno := Parse(n, m.text())
			if errno != api.OK {
				t.Fatalf("of %d parse: %d", n, errno)
			}
			held(t, "parsed", back, m)
		}
	}
}

// Each number alone, and all but each.
func TestFirst(t *testing.T) {
	for _, n := range lengths() {
		s := New(n)
		for k := range n {
			if s.First() != k || s.Count() != k {
				t.Fatalf("of %d, %d are there: first %d, count %d", n, k, s.First(), s.Count())
			}
			s.Add(k)
		}
		if s.First() != -1 || s.Count() != n {
			t.Errorf("of %d all: first %d, count %d", n, s.First(), s.Count())
		}
		for k := range n {
			s.Drop(k)
			if s.First() != k || s.Count() != n-1 {
				t.Errorf("of %d all but %d: first %d, count %d", n, k, s.First(), s.Count())
			}
			s.Add(k)
		}
	}
}

func TestText(t *testing.T) {
	for i, c := range []struct {
		n    int
		list []int
		want string
	}{
		{10, []int{0, 9}, "\x01\x02"},
		{1, nil, "\x00"},
		{1, []int{0}, "\x01"},
		{8, []int{7}, "\x80"},
		{8, []int{0, 1, 2, 3, 4, 5, 6, 7}, "\xff"},
		{9, []int{7}, "\x80\x00"},
		{9, []int{8}, "\x00\x01"},
		{16, []int{15}, "\x00\x80"},
		{17, []int{16, 0}, "\x01\x00\x01"},
		{24, []int{4, 5, 6, 7, 8, 9, 10, 11}, "\xf0\x0f\x00"},
		{1024, []int{1023}, strings.Repeat("\x00", 127) + "\x80"},
		{1017, []int{1016, 1015}, strings.Repeat("\x00", 126) + "\x80\x01"},
		{1016, []int{1015}, strings.Repeat("\x00", 126) + "\x80"},
	} {
		s := New(c.n)
		s.Add(c.list...)
		if s.Text() != c.want {
			t.Errorf("%d: %q, not %q", i, s.Text(), c.want)
		}
		back, errno := Parse(c.n, c.want)
		if errno != api.OK || !Same(back, s) {
			t.Errorf("%d: back %d", i, errno)
		}
	}
}

// refused: there is no set, and the error is this one.
func refused(t testing.TB, n int, text string, want api.Errno) {
	t.Helper()
	if s, errno := Parse(n, text); s != nil || errno != want {
		t.Errorf("parse %d, %.40q: %v, %d, not %d", n, text, s != nil, errno, want)
	}
}

func TestParseNoSet(t *testing.T) {
	for _, n := range []int{0, -1, -7, -8, -9, -1024, 1025, 1032, 2048, 1<<31 - 1, 1 << 31, 1<<32 + 8, math.MinInt, math.MaxInt - 6, math.MaxInt} {
		for _, text := range []string{"", "\x00", "\x01", strings.Repeat("\x00", 128), strings.Repeat("\x00", 129), strings.Repeat("\xff", 256)} {
			refused(t, n, text, api.ErrArg)
		}
	}
}

func TestParseLength(t *testing.T) {
	for n := 1; n <= most; n++ {
		size := len(make(model, n).text())
		for _, fill := range []string{"\x00", "\xff"} {
			for _, other := range []int{0, size - 1, size + 1, 2 * size, 128, 129, 1000} {
				if other != size {
					refused(t, n, strings.Repeat(fill, other), api.ErrForm)
				}
			}
		}
	}
}

// Each bit of the last byte, with nothing ahead of it, and with all that can be.
func TestParseLastByte(t *testing.T) {
	for n := 1; n <= most; n++ {
		for _, m := range []model{make(model, n), modelOf(n, func(int) bool { return true })} {
			bytes := []byte(m.text())
			last := len(bytes) - 1
			kept := bytes[last]
			for b := range 8 {
				bytes[last] = kept ^ 1<<b
				k := 8*last + b
				if k >= n {
					refused(t, n, string(bytes), api.ErrForm)
					continue
				}
				s, errno := Parse(n, string(bytes))
				if errno != api.OK {
					t.Fatalf("of %d bit %d: %d", n, k, errno)
				}
				m[k] = !m[k]
				held(t, "turned", s, m)
				m[k] = !m[k]
			}
		}
	}
}

// All texts of one and of two bytes, for all sets that have as many: just those are taken whose bits are all of numbers.
func TestParseAll(t *testing.T) {
	for n := 1; n <= 16; n++ {
		size := 1
		if n > 8 {
			size = 2
		}
		for x := range 1 << (8 * size) {
			text := string([]byte{byte(x), byte(x >> 8)}[:size])
			s, errno := Parse(n, text)
			if x>>n != 0 {
				if s != nil || errno != api.ErrForm {
					t.Fatalf("of %d %q: %d", n, text, errno)
				}
				continue
			}
			if errno != api.OK || s.Text() != text || s.Len() != n {
				t.Fatalf("of %d %q: %d", n, text, errno)
			}
			for k := range n {
				if s.Has(k) != (x>>k&1 == 1) {
					t.Fatalf("of %d %q has %d: %v", n, text, k, s.Has(k))
				}
			}
		}
	}
}

// A set that was parsed is as any other.
func TestParsedGoesOn(t *testing.T) {
	a, _ := Parse(10, "\x01\x02")
	b, _ := Parse(10, "\x01\x02")
	if a.Add(5) != api.OK || a.Drop(0) != api.OK || a.Add(10) != api.ErrRange {
		t.Error("add")
	}
	if a.Text() != "\x20\x02" || b.Text() != "\x01\x02" {
		t.Errorf("%q %q", a.Text(), b.Text())
	}
	text := a.Text()
	a.Drop(5, 9)
	if text != "\x20\x02" || a.Text() != "\x00\x00" {
		t.Errorf("%q %q", text, a.Text())
	}
}

func TestSame(t *testing.T) {
	// Both ways, and each with itself.
	for n := 1; n <= 9; n++ {
		for o := 1; o <= 9; o++ {
			for _, a := range patterns(n) {
				for _, b := range patterns(o) {
					x, y := a.set(t), b.set(t)
					want := slices.Equal(a, b)
					if Same(x, y) != want || Same(y, x) != want || !Same(x, x) {
						t.Errorf("%v %v: %v", a, b, Same(x, y))
					}
				}
			}
		}
	}
	if !Same(nil, nil) || Same(nil, New(1)) || Same(New(1), nil) || Same(nil, New(most)) || !Same(New(0), New(most+1)) {
		t.Error("nil")
	}
}

// One number more or less, wherever it is, and one number to choose of more or less.
func TestSameButOne(t *testing.T) {
	for _, n := range lengths() {
		for _, m := range patterns(n) {
			a, b := m.set(t), m.set(t)
			for k := range n {
				turn := b.Add
				back := b.Drop
				if m[k] {
					turn, back = back, turn
				}
				turn(k)
				if Same(a, b) || Same(b, a) {
					t.Fatalf("of %d: the same but for %d", n, k)
				}
				back(k)
				if !Same(a, b) {
					t.Fatalf("of %d: not the same behind %d", n, k)
				}
			}
			if n == most {
				continue
			}
			more := New(n + 1)
			more.Add(m.row()...)
			if Same(a, more) || Same(more, a) {
				t.Fatalf("%d and %d are the same", n, n+1)
			}
		}
	}
}

// An answer is new memory.
func TestRowIsNew(t *testing.T) {
	s := New(20)
	s.Add(2, 3, 5, 7, 11, 13, 17, 19)
	want := []int{2, 3, 5, 7, 11, 13, 17, 19}
	a, b := s.Row(), s.Row()
	for i := range a {
		a[i] = 1
	}
	a = append(a, 4)
	if !slices.Equal(b, want) || !slices.Equal(s.Row(), want) {
		t.Error(b, s.Row())
	}
	s.Drop(b...)
	if !slices.Equal(b, want) || s.Count() != 0 {
		t.Error(b, s.Row())
	}
}

// P8.4

// Each number added and dropped, with all others there, none, or some.
func TestOthersStay(t *testing.T) {
	for _, n := range lengths() {
		for _, m := range patterns(n) {
			s := m.set(t)
			for k := range n {
				was := m[k]
				m[k] = true
				if errno := s.Add(k); errno != api.OK || s.Text() != m.text() {
					t.Fatalf("of %d add %d: %d", n, k, errno)
				}
				m[k] = false
				if errno := s.Drop(k); errno != api.OK || s.Text() != m.text() {
					t.Fatalf("of %d drop %d: %d", n, k, errno)
				}
				m[k] = was
				if was {
					s.Add(k)
				}
			}
			held(t, "at the end", s, m)
		}
	}
}

// walk: one step that some bytes tell, in the set and in the model.
func walk(t testing.TB, s *Set, m model, add bool, list []int) {
	t.Helper()
	want := api.OK
	for _, k := range list {
		if k < 0 || k >= len(m) {
			want = api.ErrRange
		}
	}
	call := s.Drop
	if add {
		call = s.Add
	}
	if got := call(list...); got != want {
		t.Fatalf("of %d add %v %v: %d, not %d", len(m), add, list, got, want)
	}
	if want != api.OK {
		return
	}
	for _, k := range list {
		m[k] = add
	}
}

func TestWalks(t *testing.T) {
	r := rand.New(rand.NewSource(8))
	for _, n := range lengths() {
		for range 4 {
			s, m := New(n), make(model, n)
			for range 60 {
				list := make([]int, r.Intn(n/2+3))
				for i := range list {
					list[i] = r.Intn(n)
				}
				if others := strange(n); len(list) > 0 && r.Intn(6) == 0 {
					list[r.Intn(len(list))] = others[r.Intn(len(others))]
				}
				walk(t, s, m, r.Intn(2) == 0, list)
				held(t, "walk", s, m)
			}
		}
	}
}

func FuzzWalk(f *testing.F) {
	f.Add(10, "\x01\x00\x09\xff\x00\x03\xff\x01\x0a\xff")
	f.Add(1024, "\x01\xfe\xfd")
	f.Add(1, "\x01\x00\xff\x00\x00\x00\xff")
	f.Fuzz(func(t *testing.T, n int, steps string) {
		s := New(n)
		if n < 1 || n > most {
			if s != nil {
				t.Fatal("a set of", n)
			}
			return
		}
		m := make(model, n)
		// A step is a byte that tells what is done, and the list's numbers up to a byte 255; they are spread over the whole length.
		for i := 0; i < len(steps); {
			add := steps[i]%2 == 1
			i++
			var list []int
			for ; i < len(steps) && steps[i] != 255; i++ {
				list = append(list, int(steps[i])*max(1, n/200)-2)
			}
			i++
			walk(t, s, m, add, list)
		}
		held(t, "walk", s, m)
		back, errno := Parse(n, s.Text())
		if errno != api.OK || !Same(back, s) {
			t.Fatal("back", errno)
		}
	})
}

func FuzzParse(f *testing.F) {
	f.Add(10, "\x01\x02")
	f.Add(10, "\x01\x04")
	f.Add(9, "\x01")
	f.Add(0, "")
	f.Add(1024, strings.Repeat("\xff", 128))
	f.Fuzz(func(t *testing.T, n int, text string) {
		if n < 1 || n > most {
			refused(t, n, text, api.ErrArg)
			return
		}
		m := make(model, n)
		fits := len(text) == len(m.text())
		for i := range len(text) {
			for b := range 8 {
				if text[i]>>b&1 == 0 {
					continue
				}
				if k := 8*i + b; k < n {
					m[k] = true
				} else {
					fits = false
				}
			}
		}
		if !fits {
			refused(t, n, text, api.ErrForm)
			return
		}
		s, errno := Parse(n, text)
		if errno != api.OK {
			t.Fatal(errno)
		}
		held(t, "parsed", s, m)
	})
}
