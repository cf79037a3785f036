package manifest

import (
	"bytes"
	"crypto/sha256"
	"encoding/binary"
	"encoding/hex"
	"math"
	"math/rand/v2"
	"slices"
	"strings"
	"testing"
	"unsafe"

	"coadjutor/api"
)

// What follows reckons by the words of chapters 2, 3 and 20: sums by the library, chunks by counting byte after byte.

// chunks: how many there are, by counting; 0, if the numbers can't be a manifest's.
func chunks(base, version, size, chunk int) int {
	between := func(n, most int) bool { return n > 0 && n <= most }
	if base == version || !between(base, 2147483647) || !between(version, 2147483647) || !between(size, 4096) || !between(chunk, 256) {
		return 0
	}
	n := 0
	for left := size; left > 0; left -= chunk {
		n++
	}
	if n > 64 {
		return 0
	}
	return n
}

// can: whether a manifest can be.
func can(m Manifest) bool {
	n := chunks(m.Base, m.Version, m.Size, m.Chunk)
	return n > 0 && n == len(m.Sums)
}

// cut: a text's pieces of so many bytes, and what is left.
func cut(s string, chunk int) []string {
	list := []string{}
	for at, b := range []byte(s) {
		if at%chunk == 0 {
			list = append(list, "")
		}
		list[len(list)-1] += string([]byte{b})
	}
	return list
}

func sumOf(s string) api.Digest {
	return sha256.Sum256([]byte(s))
}

// treeOf: the sum of a row of sums, pair by pair.
func treeOf(list []api.Digest) api.Digest {
	if len(list) == 0 {
		return sumOf("")
	}
	row := slices.Clone(list)
	for len(row) > 1 {
		next := []api.Digest{}
		for pair := range slices.Chunk(row, 2) {
			if len(pair) == 2 {
				pair = []api.Digest{sumOf("\x01" + string(pair[0][:]) + string(pair[1][:]))}
			}
			next = append(next, pair[0])
		}
		row = next
	}
	return row[0]
}

// made: what Make has to answer.
func made(base, version, chunk int, patch string, result api.Digest) (Manifest, api.Errno) {
	if chunks(base, version, len(patch), chunk) == 0 {
		return Manifest{}, api.ErrArg
	}
	m := Manifest{Base: base, Version: version, Size: len(patch), Chunk: chunk, Result: result}
	for _, part := range cut(patch, chunk) {
		m.Sums = append(m.Sums, sumOf(part))
	}
	return m, api.OK
}

func numOf(n int) string {
	return string(binary.LittleEndian.AppendUint32(nil, uint32(n)))
}

// told: a manifest's bytes, whether it can be or not, with any root.
func told(m Manifest, root api.Digest) string {
	var b bytes.Buffer
	for _, n := range []int{m.Base, m.Version, m.Size, m.Chunk} {
		b.WriteString(numOf(n))
	}
	for _, d := range append(slices.Clone(m.Sums), m.Result, root) {
		b.Write(d[:])
	}
	return b.String()
}

// written: what Bytes has to answer.
func written(m Manifest) (string, api.Errno) {
	if !can(m) {
		return "", api.ErrArg
	}
	return told(m, treeOf(m.Sums)), api.OK
}

// parsed: what Parse has to answer. The length tells how many sums there would be, and then all is held against the numbers.
func parsed(s string) (Manifest, api.Errno) {
	if len(s) < 16+64 || (len(s)-16)%32 != 0 {
		return Manifest{}, api.ErrForm
	}
	var numbers [4]int
	for i := range numbers {
		numbers[i] = int(binary.LittleEndian.Uint32([]byte(s[4*i:])))
	}
	var sums []api.Digest
	for at := 16; at < len(s); at += 32 {
		sums = append(sums, api.Digest([]byte(s[at:at+32])))
	}
	last := len(sums) - 1
	m := Manifest{numbers[0], numbers[1], numbers[2], numbers[3], sums[:last-1], sums[last-1]}
	if !can(m) {
		return Manifest{}, api.ErrForm
	}
	if treeOf(m.Sums) != sums[last] {
		return Manifest{}, api.ErrSum
	}
	return m, api.OK
}

// alike: whether two manifests are the same, told as bytes, with how many sums there are.
func alike(a, b Manifest) bool {
	for _, pair := range [][2]int{{a.Base, b.Base}, {a.Version, b.Version}, {a.Size, b.Size}, {a.Chunk, b.Chunk}, {len(a.Sums), len(b.Sums)}} {
		if pair[0] != pair[1] {
			return false
		}
	}
	return told(a, api.Digest{}) == told(b, api.Digest{})
}

// empty: whether a manifest is the zero value.
func empty(m Manifest) bool {
	return m.Base|m.Version|m.Size|m.Chunk|len(m.Sums) == 0 && m.Result == api.Digest{}
}

// makes: whether Make answers what the chapter says; that.
func makes(t testing.TB, base, version, chunk int, patch string, result api.Digest) Manifest {
	t.Helper()
	want, err := made(base, version, chunk, patch, result)
	got, e := Make(base, version, chunk, patch, result)
	if e != err || !alike(got, want) {
		t.Fatalf("%d to %d, %d bytes, %d a chunk: %.200v, %d, not %.200v, %d", base, version, len(patch), chunk, got, e, want, err)
	}
	return got
}

// writes: whether Bytes, and Parse of what it tells, answer what the chapter says.
func writes(t testing.TB, m Manifest) {
	t.Helper()
	want, err := written(m)
	got, e := Bytes(m)
	if got != want || e != err {
		t.Fatalf("%.200v: %.80q, %d, not %.80q, %d", m, got, e, want, err)
	}
	if err != api.OK {
		return
	}
	if again, e := Parse(got); e != api.OK || !alike(again, m) {
		t.Fatalf("%.200v is read as %.200v, %d", m, again, e)
	}
}

// reads: whether Parse answers what the chapter says; its error.
func reads(t testing.TB, s string) api.Errno {
	t.Helper()
	want, err := parsed(s)
	got, e := Parse(s)
	if e != err || !alike(got, want) || err != api.OK && !empty(got) {
		t.Fatalf("%d bytes, %.200q: %.200v, %d, not %.200v, %d", len(s), s, got, e, want, err)
	}
	if err == api.OK {
		if again, e := Bytes(got); again != s || e != api.OK {
			t.Fatalf("%.200q is told as %.200q, %d", s, again, e)
		}
	}
	return e
}

// counts: whether Good, Count and Length answer what the chapter says.
func counts(t testing.TB, m Manifest) {
	t.Helper()
	n := 0
	if can(m) {
		n = len(m.Sums)
	}
	if Good(m) != (n > 0) || Count(m) != n {
		t.Fatalf("%d to %d, %d bytes, %d a chunk, %d sums: %v, %d, not %d", m.Base, m.Version, m.Size, m.Chunk, len(m.Sums), Good(m), Count(m), n)
	}
	for _, at := range []int{math.MinInt, -1, 0, 1, n / 2, n - 2, n - 1, n, n + 1, 63, 64, math.MaxInt} {
		if got := Length(m, at); got != lengthOf(m, n, at) {
			t.Fatalf("%d bytes, %d a chunk, %d of %d: %d, not %d", m.Size, m.Chunk, at, n, got, lengthOf(m, n, at))
		}
	}
}

// lengthOf: how many bytes one of n chunks has.
func lengthOf(m Manifest, n, at int) int {
	switch {
	case at < 0 || at >= n:
		return 0
	case at < n-1:
		return m.Chunk
	}
	return m.Size - (n-1)*m.Chunk
}

// checks: whether Check answers what the chapter says; that.
func checks(t testing.TB, m Manifest, at int, data string) api.Errno {
	t.Helper()
	want := api.OK
	switch {
	case !can(m), at < 0, at >= len(m.Sums):
		want = api.ErrRange
	case len(data) != lengthOf(m, len(m.Sums), at):
		want = api.ErrForm
	case sumOf(data) != m.Sums[at]:
		want = api.ErrSum
	}
	if got := Check(m, at, data); got != want {
		t.Fatalf("%d bytes, %d a chunk, %d sums, at %d %d bytes, %.80q: %d, not %d", m.Size, m.Chunk, len(m.Sums), at, len(data), data, got, want)
	}
	return want
}

// parts: whether Part answers what the chapter says of each chunk, and of what is none.
func parts(t testing.TB, m Manifest, patch string) {
	t.Helper()
	list := []string{}
	if can(m) && len(patch) == m.Size {
		list = cut(patch, m.Chunk)
	}
	for at := -2; at < len(m.Sums)+3; at++ {
		want := ""
		if at >= 0 && at < len(list) {
			want = list[at]
		}
		if got := Part(m, at, patch); got != want {
			t.Fatalf("%d bytes of %d, %d a chunk, %d sums, at %d: %q, not %q", len(patch), m.Size, m.Chunk, len(m.Sums), at, got, want)
		}
	}
}

// noise: bytes of so many kinds, the same ones for the same numbers.
func noise(n, kinds, seed int) string {
	r := rand.New(rand.NewPCG(uint64(seed), 20))
	list := make([]byte, n)
	for i := range list {
		list[i] = byte(r.IntN(kinds))
	}
	return string(list)
}

// digests: so many sums, all unlike, the same ones for the same numbers.
func digests(n, seed int) []api.Digest {
	list := []api.Digest{}
	for i := range n {
		list = append(list, sumOf(numOf(i)+numOf(seed)))
	}
	return list
}

// one: a manifest with any sums, as many as there have to be.
func one(base, version, size, chunk int) Manifest {
	return Manifest{base, version, size, chunk, digests(chunks(base, version, size, chunk), size), sumOf("a result")}
}

// turned: the same text, but for a bit.
func turned(s string, at int, bit byte) string {
	return s[:at] + string([]byte{s[at] ^ bit}) + s[at+1:]
}

// apart: a patch of so many bytes whose chunks are all unlike.
func apart(n int) string {
	return noise(n, 256, n)
}

func versions() []int {
	return []int{math.MinInt, math.MinInt + 1, -1<<32 + 1, -1 << 31, -2, -1, 0, 1, 2, 3, 1<<31 - 2, 1<<31 - 1, 1 << 31, 1<<31 + 1, 1<<32 - 1, 1 << 32, 1<<32 + 1, 1<<32 + 2, math.MaxInt - 1, math.MaxInt}
}

func sizes() []int {
	return []int{math.MinInt, math.MinInt + 255, -4096, -1, 0, 1, 2, 63, 64, 65, 127, 128, 129, 255, 256, 257, 4031, 4032, 4033, 4095, 4096, 4097, 1<<32 + 1, 1<<32 + 64, math.MaxInt - 255, math.MaxInt}
}

func perChunk() []int {
	return []int{math.MinInt, -256, -64, -1, 0, 1, 2, 3, 62, 63, 64, 65, 66, 127, 128, 255, 256, 257, 258, 4096, 1<<32 + 1, 1<<32 + 64, math.MaxInt - 1, math.MaxInt}
}

// P20.1: Good, Count, Length

func TestByHand(t *testing.T) {
	// A patch of 10 bytes, 4 a chunk: three chunks, the last one of 2.
	m, err := Make(3, 9, 4, "0123456789", sumOf("made"))
	want := Manifest{3, 9, 10, 4, []api.Digest{sumOf("0123"), sumOf("4567"), sumOf("89")}, sumOf("made")}
	if err != api.OK || !alike(m, want) || !Good(m) || Count(m) != 3 {
		t.Fatal(m, err, Count(m))
	}
	for at, part := range []string{"0123", "4567", "89", ""} {
		if Length(m, at) != len(part) || Part(m, at, "0123456789") != part {
			t.Error(at, Length(m, at), Part(m, at, "0123456789"))
		}
	}
	a, b := sumOf("\x01"+string(m.Sums[0][:])+string(m.Sums[1][:])), m.Sums[2]
	if Root(m) != sumOf("\x01"+string(a[:])+string(b[:])) {
		t.Error(Root(m))
	}
}

func TestGoodOfEachSizeAndChunk(t *testing.T) {
	sums := digests(66, 1)
	for size := -1; size < 4100; size++ {
		for chunk := -1; chunk < 260; chunk++ {
			n := 0
			if size > 0 && size < 4097 && chunk > 0 && chunk < 257 && size <= 64*chunk {
				n = int(math.Ceil(float64(size) / float64(chunk)))
			}
			for _, have := range []int{0, n - 1, n, n + 1} {
				if have < 0 {
					continue
				}
				m := Manifest{Base: 1, Version: 2, Size: size, Chunk: chunk, Sums: sums[:have]}
				if want := n > 0 && have == n; Good(m) != want || Count(m) > 0 != want || want && Count(m) != n {
					t.Fatalf("%d bytes, %d a chunk, %d sums: %v, %d", size, chunk, have, Good(m), Count(m))
				}
			}
		}
	}
}

func TestCountsOfEdges(t *testing.T) {
	sums := digests(65, 2)
	for _, base := range versions() {
		for _, version := range versions() {
			for _, size := range []int{math.MinInt, 0, 1, 3, 4096, 4097, math.MaxInt} {
				for _, chunk := range []int{math.MinInt, 0, 1, 256, 257, math.MaxInt} {
					for _, have := range []int{0, 1, 3, 16, 17} {
						counts(t, Manifest{Base: base, Version: version, Size: size, Chunk: chunk, Sums: sums[:have]})
					}
				}
			}
		}
	}
	for _, size := range sizes() {
		for _, chunk := range perChunk() {
			for have := range len(sums) + 1 {
				counts(t, Manifest{Base: 7, Version: 6, Size: size, Chunk: chunk, Sums: sums[:have]})
			}
		}
	}
	counts(t, Manifest{Base: 1, Version: 2, Size: 4096, Chunk: 64, Sums: digests(1<<16+64, 1)})
	counts(t, Manifest{Sums: sums[:1]})
	counts(t, Manifest{})
}

func TestGoodByHand(t *testing.T) {
	last := 1<<31 - 1
	for _, c := range []struct {
		base, version, size, chunk, sums int
		want                             bool
	}{
		{1, 2, 1, 1, 1, true}, {2, 1, 1, 1, 1, true}, {1, last, 1, 1, 1, true}, {last, 1, 1, 1, 1, true}, {last - 1, last, 1, 1, 1, true},
		{1, 1, 1, 1, 1, false}, {last, last, 1, 1, 1, false}, {0, 1, 1, 1, 1, false}, {1, 0, 1, 1, 1, false}, {-1, 1, 1, 1, 1, false}, {1, -1, 1, 1, 1, false}, {1, last + 1, 1, 1, 1, false}, {last + 1, 1, 1, 1, 1, false},
		{1, 2, 4096, 64, 64, true}, {1, 2, 4097, 256, 17, false}, {1, 2, 4097, 65, 64, false}, {1, 2, 4096, 63, 66, false}, {1, 2, 4096, 256, 16, true}, {1, 2, 4096, 257, 16, false},
		{1, 2, 64, 1, 64, true}, {1, 2, 65, 1, 65, false}, {1, 2, 65, 2, 33, true}, {1, 2, 65, 2, 32, false}, {1, 2, 65, 2, 34, false}, {1, 2, 0, 1, 0, false}, {1, 2, 0, 1, 1, false}, {1, 2, 1, 0, 0, false}, {1, 2, 1, 0, 1, false}, {1, 2, -1, 1, 0, false}, {1, 2, 1, -1, 0, false}, {1, 2, -4, -2, 2, false},
		{1, 2, 256, 256, 1, true}, {1, 2, 257, 256, 2, true}, {1, 2, 257, 256, 1, false}, {1, 2, 1, 256, 1, true}, {1, 2, 1, 256, 0, false}, {1, 2, 1, 256, 2, false},
	} {
		m := Manifest{Base: c.base, Version: c.version, Size: c.size, Chunk: c.chunk, Sums: digests(c.sums, 3)}
		if Good(m) != c.want {
			t.Errorf("%v: %v", c, Good(m))
		}
		counts(t, m)
	}
}

// Length of each chunk, one behind the other, comes to the size.
func TestLengths(t *testing.T) {
	for size := 1; size <= 4096; size += 1 + size/50 {
		for chunk := (size + 63) / 64; chunk <= 256; chunk++ {
			m := one(5, 4, size, chunk)
			all := 0
			for at := range Count(m) {
				n := Length(m, at)
				if n < 1 || n > chunk || at < Count(m)-1 && n != chunk {
					t.Fatalf("%d bytes, %d a chunk, at %d: %d", size, chunk, at, n)
				}
				all += n
			}
			if all != size {
				t.Fatalf("%d bytes, %d a chunk: %d", size, chunk, all)
			}
			for _, at := range []int{math.MinInt, -1 << 32, -Count(m), -1, Count(m), Count(m) + 1, 64, 1 << 32, math.MaxInt} {
				if Length(m, at) != 0 {
					t.Fatalf("%d bytes, %d a chunk, at %d: %d", size, chunk, at, Length(m, at))
				}
			}
		}
	}
}

// P20.1: Make

func TestMakeOfEdges(t *testing.T) {
	patch := noise(4200, 256, 1)
	for _, base := range versions() {
		for _, version := range versions() {
			for _, size := range []int{0, 1, 5, 4097} {
				for _, chunk := range []int{math.MinInt, 0, 1, 4, 5, 256, 257, math.MaxInt} {
					makes(t, base, version, chunk, patch[:size], sumOf("x"))
				}
			}
		}
	}
	ok := 0
	for _, size := range sizes() {
		if size < 0 || size > len(patch) {
			continue
		}
		for _, chunk := range perChunk() {
			if m := makes(t, 1, 2, chunk, patch[:size], sumOf("x")); can(m) {
				ok++
			}
		}
	}
	if ok < 100 {
		t.Error(ok)
	}
}

func TestMakeOfEachChunk(t *testing.T) {
	patch := noise(4300, 256, 2)
	for chunk := 1; chunk <= 256; chunk++ {
		for _, n := range []int{1, 2, 7, 16, 31, 63, 64} {
			for size := n*chunk - 1; size <= n*chunk+1; size++ {
				if size <= len(patch) {
					makes(t, 10, 20, chunk, patch[:size], api.Digest{})
				}
			}
		}
	}
}

func TestMakeThatCant(t *testing.T) {
	for _, c := range []struct {
		base, version, chunk int
		patch                string
	}{
		{0, 2, 4, "patch"}, {2, 0, 4, "patch"}, {-1, 2, 4, "patch"}, {2, -1, 4, "patch"}, {1 << 31, 2, 4, "patch"}, {2, 1 << 31, 4, "patch"}, {2, 2, 4, "patch"}, {2, 3, 0, "patch"}, {2, 3, -4, "patch"}, {2, 3, 257, "patch"}, {2, 3, 4, ""}, {2, 3, 0, ""},
		{2, 3, 256, noise(4097, 256, 1)}, {2, 3, 64, noise(4097, 256, 1)}, {2, 3, 63, noise(4033, 256, 1)}, {2, 3, 1, noise(65, 256, 1)}, {2, 3, 256, noise(1<<20, 256, 1)}, {2, 3, 256, noise(1<<16+1, 256, 1)}, {2, 3, 1 << 32, "patch"}, {1<<32 + 2, 3, 5, "patch"},
	} {
		if m, err := Make(c.base, c.version, c.chunk, c.patch, sumOf("x")); err != api.ErrArg || !empty(m) {
			t.Errorf("%d to %d, %d bytes, %d a chunk: %.200v, %d", c.base, c.version, len(c.patch), c.chunk, m, err)
		}
	}
	if m, err := Make(1<<31-1, 1<<31-2, 64, noise(4096, 256, 1), sumOf("x")); err != api.OK || len(m.Sums) != 64 {
		t.Error(m, err)
	}
}

// Chunks that are alike have the same sum; the result is any.
func TestMakeOfTheSameChunks(t *testing.T) {
	for _, d := range append(digests(3, 4), api.Digest{}) {
		m := makes(t, 1, 2, 3, "abcabcabcab", d)
		if m.Sums[0] != m.Sums[2] || m.Sums[2] == m.Sums[3] || m.Result != d {
			t.Error(m)
		}
	}
	makes(t, 1, 2, 256, strings.Repeat("\x00", 4096), sumOf("x"))
	makes(t, 1, 2, 64, strings.Repeat("\xff", 4096), sumOf("x"))
}

// P20.1: Part

func TestPart(t *testing.T) {
	patch := noise(4096, 256, 3)
	for size := 1; size <= 4096; size += 1 + size/7 {
		for chunk := max((size+63)/64, 1); chunk <= 256; chunk += 1 + chunk/9 {
			m := makes(t, 8, 9, chunk, patch[:size], sumOf("x"))
			parts(t, m, patch[:size])
			all := ""
			for at := range Count(m) {
				all += Part(m, at, patch[:size])
			}
			if all != patch[:size] {
				t.Fatalf("%d bytes, %d a chunk: %q", size, chunk, all)
			}
		}
	}
}

// It is the patch's place that counts, not its sum.
func TestPartOfAnotherPatch(t *testing.T) {
	m := makes(t, 8, 9, 4, "0123456789", sumOf("x"))
	parts(t, m, "ABCDEFGHIJ")
	if Part(m, 1, "ABCDEFGHIJ") != "EFGH" || Part(m, 2, "ABCDEFGHIJ") != "IJ" {
		t.Error(Part(m, 1, "ABCDEFGHIJ"), Part(m, 2, "ABCDEFGHIJ"))
	}
	for n := range 30 {
		parts(t, m, noise(n, 256, n))
		for at := range 3 {
			if got := Part(m, at, noise(n, 256, n)); (got != "") != (n == 10) {
				t.Errorf("of %d bytes: %q", n, got)
			}
		}
	}
	for _, at := range []int{math.MinInt, -3, -1, 3, 4, 64, 1 << 32, math.MaxInt} {
		if got := Part(m, at, "0123456789"); got != "" {
			t.Errorf("at %d: %q", at, got)
		}
	}
}

func TestPartOfWhatCantBe(t *testing.T) {
	for _, m := range strange() {
		for at := -1; at < 5; at++ {
			for _, patch := range []string{"", "0", "0123456789", noise(4097, 256, 1)} {
				if got := Part(m, at, patch); got != "" {
					t.Errorf("%.200v at %d: %q", m, at, got)
				}
			}
		}
		parts(t, m, "0123456789")
	}
}

// strange are manifests that can't be, each by one thing alone, or by all.
func strange() []Manifest {
	three := digests(3, 5)
	return []Manifest{
		{}, {Sums: three}, {Base: -1, Version: -2, Size: -3, Chunk: -4, Sums: three}, {0, 2, 10, 4, three, three[0]}, {-1, 2, 10, 4, three, three[0]}, {1 << 31, 2, 10, 4, three, three[0]}, {1<<32 + 1, 2, 10, 4, three, three[0]}, {1, 0, 10, 4, three, three[0]}, {1, -1, 10, 4, three, three[0]}, {1, 1 << 31, 10, 4, three, three[0]}, {1, 1<<32 + 2, 10, 4, three, three[0]}, {1, 1, 10, 4, three, three[0]},
		{1, 2, 0, 4, three, three[0]}, {1, 2, 0, 4, nil, three[0]}, {1, 2, -10, 4, three, three[0]}, {1, 2, -10, -4, three, three[0]}, {1, 2, 8, 4, three, three[0]}, {1, 2, 13, 4, three, three[0]}, {1, 2, 4097, 256, digests(17, 5), three[0]}, {1, 2, 1<<32 + 10, 4, three, three[0]}, {1, 2, math.MaxInt, 4, three, three[0]}, {1, 2, math.MinInt, 4, three, three[0]},
		{1, 2, 10, 0, three, three[0]}, {1, 2, 10, -4, three, three[0]}, {1, 2, 10, 3, three, three[0]}, {1, 2, 10, 5, three, three[0]}, {1, 2, 10, 257, three[:1], three[0]}, {1, 2, 600, 257, three, three[0]}, {1, 2, 10, 1<<32 + 4, three, three[0]}, {1, 2, 10, math.MaxInt, three, three[0]}, {1, 2, 10, math.MaxInt, three[:1], three[0]}, {1, 2, 10, math.MinInt, three, three[0]}, {1, 2, math.MaxInt, math.MaxInt, three[:1], three[0]},
		{1, 2, 65, 1, digests(65, 5), three[0]}, {1, 2, 4096, 63, digests(66, 5), three[0]}, {1, 2, 10, 4, nil, three[0]}, {1, 2, 10, 4, []api.Digest{}, three[0]}, {1, 2, 10, 4, three[:2], three[0]}, {1, 2, 10, 4, digests(4, 5), three[0]}, {1, 2, 10, 4, digests(1000, 5), three[0]},
	}
}

func TestStrangeOnes(t *testing.T) {
	for _, m := range strange() {
		if can(m) || Good(m) || Count(m) != 0 {
			t.Errorf("%.200v can be", m)
		}
		counts(t, m)
	}
}

// P20.1: Root, Same

func TestRoot(t *testing.T) {
	list := digests(300, 6)
	for n := range 131 {
		for _, m := range []Manifest{{Sums: list[:n]}, {1, 2, n, 1, list[:n], list[7]}, {-1, math.MaxInt, math.MinInt, 0, list[:n], list[8]}} {
			if got := Root(m); got != treeOf(list[:n]) {
				t.Errorf("%d sums: %x", n, got)
			}
		}
	}
	if Root(Manifest{Sums: list}) != treeOf(list) || Root(Manifest{}) != sumOf("") || Root(Manifest{Sums: list[5:6], Result: list[0]}) != list[5] {
		t.Error("a root")
	}
	first := Root(Manifest{Sums: list[:7]})
	for at := range 7 {
		other := slices.Clone(list[:7])
		other[at][at] ^= 1
		if Root(Manifest{Sums: other}) == first {
			t.Error(at)
		}
	}
}

// others: manifests that are each unlike m, by one thing alone where there is one.
func others(m Manifest) []Manifest {
	list := []Manifest{}
	for _, more := range []int{-1, 1, 1 << 32, math.MinInt} {
		for i := range 4 {
			other := m
			*[]*int{&other.Base, &other.Version, &other.Size, &other.Chunk}[i] += more
			list = append(list, other)
		}
	}
	for i := range m.Sums {
		for bit := range 256 {
			other := m
			other.Sums = slices.Clone(m.Sums)
			other.Sums[i][bit/8] ^= 1 << (bit % 8)
			list = append(list, other)
		}
		short, swapped := m, m
		short.Sums = slices.Delete(slices.Clone(m.Sums), i, i+1)
		list = append(list, short)
		if i > 0 {
			swapped.Sums = slices.Clone(m.Sums)
			swapped.Sums[0], swapped.Sums[i] = swapped.Sums[i], swapped.Sums[0]
			list = append(list, swapped)
		}
	}
	for bit := range 256 {
		other := m
		other.Result[bit/8] ^= 1 << (bit % 8)
		list = append(list, other)
	}
	for _, d := range []api.Digest{{}, m.Result} {
		long, longer := m, m
		long.Sums = append(slices.Clone(m.Sums), d)
		longer.Sums = append([]api.Digest{d}, m.Sums...)
		list = append(list, long, longer)
	}
	return list
}

func TestSame(t *testing.T) {
	for _, m := range append(strange(), one(1, 2, 10, 4), one(1<<31-1, 7, 4096, 64), one(5, 6, 1, 1)) {
		if len(m.Sums) > 70 {
			m.Sums = m.Sums[:70]
		}
		again := m
		again.Sums = slices.Clone(m.Sums)
		if !Same(m, m) || !Same(m, again) || !Same(again, m) {
			t.Errorf("%.200v isn't the same", m)
		}
		for i, other := range others(m) {
			if Same(m, other) || Same(other, m) {
				t.Fatalf("%d: %.200v and %.200v", i, m, other)
			}
		}
	}
	a, b := Manifest{Base: 1, Version: 2}, Manifest{Base: 2, Version: 1}
	if Same(a, b) || !Same(Manifest{}, Manifest{Sums: []api.Digest{}}) || !Same(Manifest{Sums: make([]api.Digest, 0, 5)}, Manifest{}) {
		t.Error("of none, or of numbers at other places")
	}
	c, d := Manifest{Size: 3, Chunk: 4}, Manifest{Size: 4, Chunk: 3}
	if Same(c, d) || Same(Manifest{Base: 3}, Manifest{Chunk: 3}) || Same(Manifest{}, Manifest{Sums: make([]api.Digest, 1)}) {
		t.Error("numbers at other places")
	}
}

// P20.2: Bytes

func TestBytesByHand(t *testing.T) {
	m := Manifest{0x01020304, 0x7fffffff, 258, 256, digests(2, 7), sumOf("made")}
	a, b, c := string(m.Sums[0][:]), string(m.Sums[1][:]), string(m.Result[:])
	root := sumOf("\x01" + a + b)
	want := "\x04\x03\x02\x01\xff\xff\xff\x7f\x02\x01\x00\x00\x00\x01\x00\x00" + a + b + c + string(root[:])
	if got, err := Bytes(m); got != want || err != api.OK {
		t.Errorf("%q, %d", got, err)
	}
	if got, err := Parse(want); !alike(got, m) || err != api.OK {
		t.Error(got, err)
	}
	single := Manifest{1, 2, 1, 1, m.Sums[:1], api.Digest{}}
	want = "\x01\x00\x00\x00\x02\x00\x00\x00\x01\x00\x00\x00\x01\x00\x00\x00" + a + strings.Repeat("\x00", 32) + a
	if got, err := Bytes(single); got != want || err != api.OK {
		t.Errorf("%q, %d", got, err)
	}
	if got, err := Parse(want); !alike(got, single) || err != api.OK {
		t.Error(got, err)
	}
}

func TestBytesOfEachSizeAndChunk(t *testing.T) {
	for size := 1; size <= 4096; size += 1 + size/7 {
		for chunk := 1; chunk <= 256; chunk += 1 + chunk/9 {
			m := one(8, 9, size, chunk)
			writes(t, m)
			if s, _ := Bytes(m); can(m) && len(s) != 16+32*len(m.Sums)+64 {
				t.Fatalf("%d bytes, %d a chunk: %d", size, chunk, len(s))
			}
		}
	}
}

func TestBytesOfEdges(t *testing.T) {
	for _, base := range versions() {
		for _, version := range versions() {
			m := one(8, 9, 10, 4)
			m.Base, m.Version = base, version
			writes(t, m)
		}
	}
	for _, size := range sizes() {
		for _, chunk := range perChunk() {
			for _, have := range []int{0, 1, 2, 3, 16, 32, 63, 64, 65} {
				writes(t, Manifest{1, 2, size, chunk, digests(have, 8), sumOf("made")})
			}
		}
	}
	for _, m := range strange() {
		if s, err := Bytes(m); s != "" || err != api.ErrArg {
			t.Errorf("%.200v: %.80q, %d", m, s, err)
		}
	}
}

// P20.2: Parse

// Numbers and sums that can't be are of no form, whether the root is right or not.
func TestParseOfStrangeOnes(t *testing.T) {
	for _, m := range strange() {
		tellable := true
		for _, n := range []int{m.Base, m.Version, m.Size, m.Chunk} {
			tellable = tellable && n >= 0 && n < 1<<32
		}
		for _, root := range []api.Digest{treeOf(m.Sums), {}} {
			if e := reads(t, told(m, root)); tellable && e != api.ErrForm {
				t.Errorf("%.200v: %d", m, e)
			}
		}
	}
}

func TestParseOfEdges(t *testing.T) {
	list := []int{0, 1, 2, 3, 4, 5, 10, 63, 64, 65, 255, 256, 257, 1 << 16, 4095, 4096, 4097, 1<<24 + 1, 1<<31 - 2, 1<<31 - 1, 1 << 31, 1<<31 + 1, 1<<32 - 2, 1<<32 - 1}
	ok := 0
	for _, have := range []int{1, 2, 3, 16, 64} {
		base := Manifest{1, 2, 10, 10, digests(have, 9), sumOf("made")}
		root := treeOf(base.Sums)
		for _, a := range list {
			for _, b := range list {
				versions, shape := base, base
				versions.Base, versions.Version, versions.Size, versions.Chunk = a, b, have*9, 9
				shape.Size, shape.Chunk = a, b
				for _, m := range []Manifest{versions, shape} {
					if reads(t, told(m, root)) == api.OK {
						ok++
					}
					reads(t, told(m, api.Digest{}))
					reads(t, told(m, root)[1:])
					reads(t, told(m, root)+"\x00")
				}
			}
		}
	}
	if ok < 500 {
		t.Error(ok)
	}
}

// Of some bytes each byte as each other one, one more at each place, one less, and each beginning and end.
func TestParseOfTurnedBytes(t *testing.T) {
	for _, m := range []Manifest{one(3, 9, 10, 4), one(1, 256, 1, 1), one(258, 2, 256, 64)} {
		s, err := Bytes(m)
		if err != api.OK || reads(t, s) != api.OK {
			t.Fatal(m, err)
		}
		for at := range len(s) {
			for b := range 256 {
				reads(t, s[:at]+string([]byte{byte(b)})+s[at+1:])
			}
			for _, b := range []string{"\x00", "\x01", "\xff", "\x00\x00\x00\x00", strings.Repeat("\x07", 32)} {
				reads(t, s[:at]+b+s[at:])
			}
			for _, wrong := range []string{s[:at] + s[at+1:], s[:at], s + s[:at+1], s[:at] + "\x00" + s[at:]} {
				if e := reads(t, wrong); e != api.ErrForm {
					t.Errorf("at %d: %d", at, e)
				}
			}
			if at > 0 {
				reads(t, s[at:])
			}
		}
	}
}

// Which error each place's change comes to: the numbers' is ErrForm, the sums' and the root's ErrSum, and the result's none.
func TestParseOfEachBit(t *testing.T) {
	m := one(3, 9, 10, 4)
	s, _ := Bytes(m)
	for at := 16; at < len(s); at++ {
		for bit := range 8 {
			want := api.ErrSum
			if at >= 16+3*32 && at < 16+4*32 {
				want = api.OK
			}
			if e := reads(t, turned(s, at, 1<<bit)); e != want {
				t.Fatalf("bit %d of %d: %d", bit, at, e)
			}
		}
	}
	for at, want := range map[int]api.Errno{3: api.ErrForm, 7: api.ErrForm, 11: api.ErrForm, 15: api.ErrForm, 13: api.ErrForm} {
		if e := reads(t, turned(s, at, 0x80)); e != want {
			t.Errorf("at %d: %d", at, e)
		}
	}
	// Other numbers with as many chunks are another manifest's.
	for _, c := range []struct {
		at   int
		to   byte
		want api.Errno
	}{{0, 4, api.OK}, {0, 9, api.ErrForm}, {0, 0, api.ErrForm}, {4, 3, api.ErrForm}, {4, 0, api.ErrForm}, {4, 200, api.OK}, {8, 9, api.OK}, {8, 12, api.OK}, {8, 13, api.ErrForm}, {8, 8, api.ErrForm}, {8, 0, api.ErrForm}, {12, 5, api.ErrForm}, {12, 3, api.ErrForm}, {12, 0, api.ErrForm}} {
		other := s[:c.at] + string([]byte{c.to}) + s[c.at+1:]
		if e := reads(t, other); e != c.want {
			t.Errorf("%d at %d: %d", c.to, c.at, e)
		}
		// The form is told ahead of the sum.
		if e := reads(t, turned(other, len(other)-1, 1)); e != api.ErrForm && c.want == api.ErrForm || e != api.ErrSum && c.want == api.OK {
			t.Errorf("%d at %d, and another root: %d", c.to, c.at, e)
		}
	}
}

// Bytes of another length are of no form, whatever the root would be.
func TestParseOfOtherLengths(t *testing.T) {
	for _, size := range []int{1, 10, 64, 65, 256} {
		m := one(3, 9, size, 4)
		for _, have := range []int{0, 1, 2, 3, len(m.Sums) - 1, len(m.Sums), len(m.Sums) + 1, 63, 64, 65, 66, 300} {
			other := m
			other.Sums = digests(max(have, 0), 10)
			for _, root := range []api.Digest{treeOf(other.Sums), treeOf(m.Sums), {}} {
				e := reads(t, told(other, root))
				if have != len(m.Sums) && e != api.ErrForm {
					t.Errorf("%d sums, not %d: %d", have, len(m.Sums), e)
				}
			}
		}
	}
	for _, n := range []int{0, 1, 4, 15, 16, 17, 48, 79, 80, 81, 112, 1 << 12, 1 << 16, 1 << 20} {
		for _, s := range []string{strings.Repeat("\x00", n), strings.Repeat("\x01", n), strings.Repeat("\xff", n), noise(n, 256, n)} {
			if e := reads(t, s); e != api.ErrForm {
				t.Errorf("%d bytes: %d", n, e)
			}
		}
	}
}

func TestParseOfAnyBytes(t *testing.T) {
	r := rand.New(rand.NewPCG(1, 20))
	answers := map[api.Errno]int{}
	for range 30000 {
		m := one(1+r.IntN(3), 1+r.IntN(3), r.IntN(20), r.IntN(6))
		if r.IntN(9) == 0 {
			m.Sums = digests(r.IntN(9), 11)
		}
		root := treeOf(m.Sums)
		if r.IntN(5) == 0 {
			root[r.IntN(32)] ^= 1 << r.IntN(8)
		}
		s := []byte(told(m, root))
		for range r.IntN(3) {
			s[r.IntN(len(s))] = byte(r.IntN(5))
		}
		answers[reads(t, string(s))]++
	}
	if answers[api.OK] < 2000 || answers[api.ErrForm] < 2000 || answers[api.ErrSum] < 2000 {
		t.Error(answers)
	}
}

// P20.3

func TestCheckByHand(t *testing.T) {
	m := makes(t, 3, 9, 4, "0123456789", sumOf("made"))
	for _, c := range []struct {
		at   int
		data string
		want api.Errno
	}{
		{0, "0123", api.OK}, {1, "4567", api.OK}, {2, "89", api.OK},
		{-1, "0123", api.ErrRange}, {3, "", api.ErrRange}, {3, "89", api.ErrRange}, {math.MaxInt, "89", api.ErrRange}, {math.MinInt, "0123", api.ErrRange}, {1 << 32, "0123", api.ErrRange},
		{0, "", api.ErrForm}, {0, "012", api.ErrForm}, {0, "01234", api.ErrForm}, {2, "8", api.ErrForm}, {2, "89\x00", api.ErrForm}, {2, "8901", api.ErrForm}, {2, "", api.ErrForm}, {1, "89", api.ErrForm}, {0, "0123456789", api.ErrForm},
		{0, "4567", api.ErrSum}, {1, "0123", api.ErrSum}, {0, "0124", api.ErrSum}, {2, "98", api.ErrSum}, {0, "\x00\x00\x00\x00", api.ErrSum},
	} {
		if e := Check(m, c.at, c.data); e != c.want {
			t.Errorf("at %d %q: %d, not %d", c.at, c.data, e, c.want)
		}
		checks(t, m, c.at, c.data)
	}
}

func TestCheckOfEachBit(t *testing.T) {
	for _, c := range [][2]int{{10, 4}, {300, 256}, {256, 256}, {1, 1}, {64, 1}, {130, 64}} {
		patch := noise(c[0], 256, c[1])
		m := makes(t, 3, 9, c[1], patch, sumOf("made"))
		for at, part := range cut(patch, c[1]) {
			for i := range len(part) * 8 {
				if e := checks(t, m, at, turned(part, i/8, 1<<(i%8))); e != api.ErrSum {
					t.Fatalf("%v at %d, bit %d: %d", c, at, i, e)
				}
			}
			for i := range 256 {
				other := m
				other.Sums = slices.Clone(m.Sums)
				other.Sums[at][i/8] ^= 1 << (i % 8)
				if e := checks(t, other, at, part); e != api.ErrSum {
					t.Fatalf("%v at %d, bit %d of the sum: %d", c, at, i, e)
				}
			}
		}
	}
}

func TestCheckOfEachLength(t *testing.T) {
	for _, c := range [][2]int{{10, 4}, {600, 256}, {512, 256}, {1, 1}, {4096, 64}, {4033, 64}} {
		patch := noise(c[0], 256, c[1])
		m := makes(t, 3, 9, c[1], patch, sumOf("made"))
		last := len(m.Sums) - 1
		for _, at := range []int{0, 1, last / 2, last - 1, last, last + 1, -1, 63, 64} {
			for n := range min(300, len(patch)+1) {
				want := api.OK
				if at < 0 || at > last {
					want = api.ErrRange
				} else if n != len(cut(patch, c[1])[at]) {
					want = api.ErrForm
				} else if n > 0 && at > 0 {
					want = api.ErrSum
				}
				if e := checks(t, m, at, patch[:n]); e != want {
					t.Fatalf("%v at %d %d bytes: %d", c, at, n, e)
				}
			}
			checks(t, m, at, patch)
			checks(t, m, at, noise(1<<16, 256, 1))
		}
	}
}

// No chunk of a manifest that can't be is there, even if it has that sum and so many bytes.
func TestCheckOfWhatCantBe(t *testing.T) {
	for _, m := range strange() {
		m.Sums = slices.Clone(m.Sums)
		for i := range m.Sums {
			m.Sums[i] = sumOf("0123")
		}
		for _, at := range []int{math.MinInt, -1, 0, 1, 2, 3, 4, 64, math.MaxInt} {
			for _, data := range []string{"", "0123", "01", noise(300, 256, 1)} {
				if e := checks(t, m, at, data); e != api.ErrRange {
					t.Errorf("%.200v at %d: %d", m, at, e)
				}
			}
		}
	}
}

// Its other numbers, its result and its other sums play no part.
func TestCheckHangsOnItsSumAlone(t *testing.T) {
	m := makes(t, 3, 9, 4, "0123456789", sumOf("made"))
	other := Manifest{77, 1, 10, 4, []api.Digest{{1}, m.Sums[1], {2}}, api.Digest{3}}
	for _, c := range []struct {
		at   int
		data string
		want api.Errno
	}{{0, "0123", api.ErrSum}, {1, "4567", api.OK}, {2, "89", api.ErrSum}} {
		if e := checks(t, other, c.at, c.data); e != c.want {
			t.Error(c, e)
		}
	}
}

// P20.4

func TestToldIsRead(t *testing.T) {
	r := rand.New(rand.NewPCG(2, 20))
	for range 3000 {
		chunk := 1 + r.IntN(256)
		patch := noise(1+r.IntN(min(4096, 64*chunk)), 256, r.Int())
		base := 1 + r.IntN(1<<r.IntN(31))
		version := base ^ 1<<r.IntN(31)
		if version == 0 {
			continue
		}
		m := makes(t, base, version, chunk, patch, sumOf(patch[:1]))
		s, err := Bytes(m)
		again, e := Parse(s)
		if err != api.OK || e != api.OK || !Same(m, again) || !alike(m, again) || !Good(again) || Count(again) != Count(m) {
			t.Fatalf("%.200v: %d, %.200v, %d", m, err, again, e)
		}
		if twice, _ := Bytes(again); twice != s {
			t.Fatalf("%.200v is told another way", again)
		}
		for at := range Count(again) {
			if Check(again, at, Part(again, at, patch)) != api.OK || Length(again, at) != len(Part(m, at, patch)) {
				t.Fatalf("%d bytes, %d a chunk, at %d", len(patch), chunk, at)
			}
		}
	}
}

// Of chunks that are all unlike each is right at its own place alone.
func TestEachAtItsPlace(t *testing.T) {
	for _, c := range [][2]int{{10, 4}, {40, 10}, {4096, 64}, {4095, 64}, {1000, 16}, {4096, 256}, {257, 256}} {
		patch := apart(c[0])
		m := makes(t, 1, 2, c[1], patch, sumOf("made"))
		for at := range Count(m) {
			for place := range Count(m) {
				want := api.OK
				switch {
				case Length(m, at) != Length(m, place):
					want = api.ErrForm
				case at != place:
					want = api.ErrSum
				}
				if e := checks(t, m, place, Part(m, at, patch)); e != want {
					t.Errorf("%v: the chunk %d at %d: %d", c, at, place, e)
				}
			}
		}
	}
}

// Rule 3: what is handed in is as it was, its spare room too, and isn't kept; answers are new memory.
func TestListsAreLeft(t *testing.T) {
	room := digests(8, 12)
	kept := slices.Clone(room)
	m := Manifest{3, 9, 10, 4, room[:3], sumOf("made")}
	other := m
	other.Sums = slices.Clone(kept[:3])
	s, err := Bytes(m)
	if err != api.OK || !Good(m) || Count(m) != 3 || Length(m, 0) != 4 || Part(m, 2, "0123456789") != "89" || Check(m, 0, "0123") != api.ErrSum || !Same(m, other) || !Same(other, m) {
		t.Fatal(m, err)
	}
	root := Root(m)
	if !slices.Equal(room, kept) || len(m.Sums) != 3 {
		t.Errorf("%x, not %x", room, kept)
	}
	first, _ := Parse(s)
	second, _ := Parse(s)
	one, _ := Make(3, 9, 4, "0123456789", m.Result)
	two, _ := Make(3, 9, 4, "0123456789", m.Result)
	for _, list := range [][]api.Digest{first.Sums, one.Sums} {
		list = list[:cap(list)]
		for i := range list {
			list[i] = api.Digest{7}
		}
	}
	if !Same(second, m) || two.Sums[0] != sumOf("0123") || two.Sums[2] != sumOf("89") || !slices.Equal(room, kept) {
		t.Error("lists have memory in common")
	}
	room[0] = api.Digest{}
	if again, _ := Bytes(second); again != s || Root(second) != root || Root(m) == root {
		t.Error("a list is kept")
	}
}

// Rule 3: a part has memory of its own, also where it is the whole patch.
func TestPartsAreCopies(t *testing.T) {
	for _, chunk := range []int{1, 4, 10, 256} {
		patch := noise(10, 256, 13)
		m := makes(t, 3, 9, chunk, patch, sumOf("made"))
		from := uintptr(unsafe.Pointer(unsafe.StringData(patch)))
		for at := range Count(m) {
			part := Part(m, at, patch)
			if p := uintptr(unsafe.Pointer(unsafe.StringData(part))); p >= from && p < from+uintptr(len(patch)) && len(part) > 1 {
				t.Errorf("%d a chunk, at %d: the patch's memory", chunk, at)
			}
		}
	}
}

// Rule 4: the same is answered each time, whatever is asked between.
func TestTheSameEachTime(t *testing.T) {
	patch := noise(4000, 256, 14)
	m := makes(t, 3, 9, 64, patch, sumOf("made"))
	s, _ := Bytes(m)
	for i := range 20 {
		makes(t, 1+i, 50, 1+i, patch[:1+i], api.Digest{})
		reads(t, s[:len(s)-i])
		checks(t, m, i, patch[:64])
		if again, _ := Bytes(m); again != s || !Same(makes(t, 3, 9, 64, patch, sumOf("made")), m) {
			t.Error("another answer")
		}
	}
}

// The sums of manifests' bytes, and their roots, are those that another program works out of the same chapters.
func TestAnotherProgram(t *testing.T) {
	for _, c := range []struct {
		base, version, size, chunk, bytes int
		root, sum                         string
	}{
		{1, 2, 1, 1, 112, "4bf5122f344554c53bde2ebb8cd2b7e3d1600ad631c385a5d7cce23c7785459a", "40e3fec299868e597a24d4095438a44bbb86b8ad1fdba09eb68386a37aa32b4a"},
		{7, 8, 10, 4, 176, "4c96051e95dec57fb9224f43f5dbccf2ca5b2a234072aa537dc87e9a232aea4e", "29f5cd37cdcfd28d2551fefecaa14c38010bd17df3ec38301f38d2a11f8a046f"},
		{2147483647, 2147483646, 4096, 64, 2128, "48d80825b46fc983e9f85bf80e73bdc3128ba54877555a68fa178c38a7bd5e17", "d405dea2b01e619f6ac3c19c2200406a6953361165a31895270c5925b8470f23"},
		{300, 1, 4033, 64, 2128, "4562efc48f8079bd1d6fc5188b01079d2db2142c5fbc1c985fd49abc50fd6dad", "9a30e159bb2bdc7305b7c33ec3cae089708f420781a59586150892c45c7af6a1"},
		{65536, 16777217, 64, 1, 2128, "7aaf97ab0918406d92ec28f626540c1c68121126891ba5352f36e262e08745af", "21cba707b6b97a245dc833e6fdcf0a4649e77f71e2cbbd01a4ec8f368831ce6b"},
		{12, 5, 4096, 256, 592, "ffd1ea4e388db4b2e4d94dbfbe31605948ccdba91c1f85f770ae8fe4920fd92d", "2dd301ae5d916f6963106927ab93e85f5c712274e2c84dae0ad6f7118ab7916b"},
		{99, 100, 3001, 83, 1264, "ec1d883e882db19dd4b1f1b3eed468e4c33b4c60667faca58225fe05c476d4fd", "ae4c36658cee44a44383e4182377b73cc534820648d5ec82a8f866c4ed415c81"},
	} {
		list := make([]byte, c.size)
		for i := range list {
			list[i] = byte(i*i*c.base + c.chunk + i/7)
		}
		m, err := Make(c.base, c.version, c.chunk, string(list), sumOf("result "+numOf(c.version)))
		if err != api.OK {
			t.Errorf("%v: %d", c, err)
			continue
		}
		s, err := Bytes(m)
		root, sum := Root(m), sumOf(s)
		if err != api.OK || len(s) != c.bytes || hex.EncodeToString(root[:]) != c.root || hex.EncodeToString(sum[:]) != c.sum {
			t.Errorf("%v: %d bytes, %d, %x, %x", c, len(s), err, root, sum)
		}
	}
}

func FuzzParse(f *testing.F) {
	f.Add("")
	f.Add(strings.Repeat("\x01", 80))
	for _, m := range []Manifest{one(3, 9, 10, 4), one(1, 2, 1, 1), one(1<<31-1, 2, 64, 1), one(8, 7, 512, 256)} {
		f.Add(told(m, treeOf(m.Sums)))
		f.Add(told(m, m.Result))
	}
	f.Fuzz(func(t *testing.T, s string) {
		reads(t, s)
		// With the root mended, so that it is seldom only the sum that is told.
		if len(s) > 16+64 && (len(s)-16)%32 == 0 {
			var sums []api.Digest
			for at := 16; at < len(s)-64; at += 32 {
				sums = append(sums, api.Digest([]byte(s[at:at+32])))
			}
			root := treeOf(sums)
			reads(t, s[:len(s)-32]+string(root[:]))
		}
	})
}

func FuzzMake(f *testing.F) {
	f.Add(3, 9, 4, "0123456789", 1, 0)
	f.Add(1<<31-1, 1, 256, "0123456789abcdef", 256, -1)
	f.Add(1, 1<<31, 64, "a", 4097, 3)
	f.Add(1, 2, 1, "a", 65, 64)
	f.Add(5, 5, 1<<32+1, "ab", 1, math.MaxInt)
	f.Fuzz(func(t *testing.T, base, version, chunk int, patch string, times, at int) {
		patch = strings.Repeat(patch, min(max(times, 1), 5000/(len(patch)+1)+1))
		m := makes(t, base, version, chunk, patch, sumOf(patch))
		counts(t, m)
		writes(t, m)
		parts(t, m, patch)
		checks(t, m, at, patch)
		checks(t, m, at, Part(m, at, patch))
		for at := range Count(m) {
			if e := checks(t, m, at, Part(m, at, patch)); e != api.OK {
				t.Error(at, e)
			}
		}
	})
}

func FuzzManifest(f *testing.F) {
	f.Add(3, 9, 10, 4, 3, 0, "0123")
	f.Add(1<<31-1, 1, 4096, 64, 64, 63, "a")
	f.Add(1, 2, 4097, 256, 17, 16, "a")
	f.Add(1, 1, math.MaxInt, math.MaxInt, 1, 0, "")
	f.Add(1, 2, math.MinInt, -1, 0, math.MinInt, "ab")
	f.Fuzz(func(t *testing.T, base, version, size, chunk, have, at int, data string) {
		m := Manifest{base, version, size, chunk, digests(have&127, 1), sumOf(data)}
		if at >= 0 && at < len(m.Sums) {
			m.Sums[at] = sumOf(data)
		}
		counts(t, m)
		writes(t, m)
		parts(t, m, data)
		checks(t, m, at, data)
		if Root(m) != treeOf(m.Sums) || !Same(m, m) || Same(m, Manifest{}) {
			t.Error(m)
		}
	})
}
