package parcel

import (
	"crypto/sha256"
	"encoding/binary"
	"encoding/hex"
	"math"
	"math/rand/v2"
	"slices"
	"strings"
	"testing"
	"unsafe"

	"coadjutor/api"
	"coadjutor/brain"
	"coadjutor/conf"
	"coadjutor/manifest"
)

// What follows reckons by the words of chapters 15, 16 and 19 to 21: sums and numbers by the library, chunks by counting byte after byte.

func sumOf(s string) api.Digest {
	return sha256.Sum256([]byte(s))
}

func numOf(n int) string {
	return string(binary.LittleEndian.AppendUint32(nil, uint32(n)))
}

// cut: a text's pieces of so many bytes, and what is left.
func cut(s string, chunk int) []string {
	list := []string{}
	for at, b := range []byte(s) {
		if at%chunk == 0 {
			list = append(list, "")
		}
		list[len(list)-1] += string([]byte{b})
	}
	return list
}

// told: the manifest of a patch, as chapter 20 tells it.
func told(base, version, chunk int, patch string, result api.Digest) manifest.Manifest {
	m := manifest.Manifest{Base: base, Version: version, Size: len(patch), Chunk: chunk, Result: result}
	for _, part := range cut(patch, chunk) {
		m.Sums = append(m.Sums, sumOf(part))
	}
	return m
}

// alike: whether two manifests are the same.
func alike(a, b manifest.Manifest) bool {
	return [4]int{a.Base, a.Version, a.Size, a.Chunk} == [4]int{b.Base, b.Version, b.Size, b.Chunk} && a.Result == b.Result && slices.Equal(a.Sums, b.Sums)
}

// deed is one of a patch: its kind, and from where on how many bytes of the base it takes.
type deed struct {
	kind, from, size int
	data             string
}

func copied(from, size int) deed       { return deed{1, from, size, ""} }
func laid(data string) deed            { return deed{2, 0, 0, data} }
func added(from int, data string) deed { return deed{3, from, len(data), data} }

// written: a patch of deeds, whether they can be or not.
func written(list ...deed) string {
	s := strings.Builder{}
	s.WriteString(numOf(len(list)))
	for _, d := range list {
		s.WriteByte(byte(d.kind))
		if d.kind != 2 {
			s.WriteString(numOf(d.from))
		}
		if d.kind == 1 {
			s.WriteString(numOf(d.size))
		} else {
			s.WriteString(numOf(len(d.data)) + d.data)
		}
	}
	return s.String()
}

// read: the deeds of a patch; false, if there are none that can be of any base.
func read(s string) ([]deed, bool) {
	bad := false
	take := func(n int) string {
		if bad || n > len(s) {
			bad = true
			return strings.Repeat("\xff", 4)
		}
		part := s[:n]
		s = s[n:]
		return part
	}
	num := func() int { return int(binary.LittleEndian.Uint32([]byte(take(4)))) }
	count := num()
	if count > 256 {
		return nil, false
	}
	list := []deed{}
	for range count {
		d := deed{kind: int(take(1)[0])}
		if d.kind == 1 || d.kind == 3 {
			d.from = num()
		}
		switch d.kind {
		case 1:
			d.size = num()
		case 2, 3:
			d.data = take(num())
			if len(d.data) > 8192 {
				return nil, false
			}
			d.size = len(d.data)
		default:
			return nil, false
		}
		if bad || d.size < 1 || d.from+d.size > 2147483647 {
			return nil, false
		}
		list = append(list, d)
	}
	return list, !bad && s == ""
}

// comes: the bytes that come of a base by one deed.
func (d deed) comes(base string) string {
	switch d.kind {
	case 1:
		return base[d.from : d.from+d.size]
	case 2:
		return d.data
	}
	list := []byte{}
	for i := range d.size {
		list = append(list, byte((int(base[d.from+i])+int(d.data[i]))%256))
	}
	return string(list)
}

// model: whether bytes are a model's.
func model(s string) bool {
	if len(s) < 24 {
		return false
	}
	var n [6]int
	for i, most := range [6]int{32, 16, 4, 3, 32, 32} {
		n[i] = int(binary.LittleEndian.Uint32([]byte(s[4*i:])))
		if n[i] < 1 || n[i] > most {
			return false
		}
	}
	vocab, dim, heads, blocks, hidden, context := n[0], n[1], n[2], n[3], n[4], n[5]
	weights := vocab*dim + context*dim + blocks*(dim+4*dim*dim+dim+3*hidden*dim) + dim
	return vocab > 1 && dim%heads == 0 && weights <= 8192 && len(s) == 24+weights
}

// reckoned: the bytes of the model that a patch makes of a base's, or the error.
func reckoned(result api.Digest, base, patch string) (string, api.Errno) {
	list, ok := read(patch)
	if !ok {
		return "", api.ErrForm
	}
	next := ""
	for _, d := range list {
		if d.kind != 2 && d.from+d.size > len(base) {
			return "", api.ErrArg
		}
		next += d.comes(base)
		if len(next) > 8192 {
			return "", api.ErrLong
		}
	}
	if !model(next) {
		return "", api.ErrForm
	}
	if sumOf(next) != result {
		return "", api.ErrSum
	}
	return next, api.OK
}

// is: whether an answer is the model of these bytes, or none with that error.
func is(t testing.TB, b *brain.Brain, e api.Errno, want string, err api.Errno) {
	t.Helper()
	if e != err || (b != nil) != (err == api.OK) || b.Bytes() != want {
		t.Fatalf("%v, %d, not %.80q, %d", b, e, want, err)
	}
}

// builds: whether Build answers what the chapter says; its error.
func builds(t testing.TB, m manifest.Manifest, base *brain.Brain, patch string) api.Errno {
	t.Helper()
	before := base.Bytes()
	want, err := reckoned(m.Result, before, patch)
	b, e := Build(m, base, patch)
	is(t, b, e, want, err)
	if base.Bytes() != before {
		t.Fatal("the base is changed")
	}
	return err
}

// watch is a parcel, and what came of its chunks.
type watch struct {
	*Parcel
	m    manifest.Manifest
	came map[int]string
}

// fresh: a new parcel of a manifest that can be.
func fresh(t testing.TB, m manifest.Manifest) *watch {
	t.Helper()
	p, e := New(m)
	if e != api.OK || p == nil {
		t.Fatalf("%.200v: %v, %d", m, p, e)
	}
	m.Sums = slices.Clone(m.Sums)
	w := &watch{p, m, map[int]string{}}
	w.holds(t)
	return w
}

// holds: whether a parcel answers all as the chapter says of what came.
func (w *watch) holds(t testing.TB) {
	t.Helper()
	missing, text := -1, ""
	for at := len(w.m.Sums) - 1; at >= 0; at-- {
		data, ok := w.came[at]
		if !ok {
			missing = at
		}
		text = data + text
	}
	if w.Missing() != missing || w.Whole() != (missing == -1) || w.Have() != len(w.came) {
		t.Fatalf("%d of %d: %d, %v, %d, not %d", len(w.came), len(w.m.Sums), w.Missing(), w.Whole(), w.Have(), missing)
	}
	want, none := api.OK, api.ErrNil
	if missing != -1 {
		text, want, none = "", api.ErrState, api.ErrState
	}
	if got, e := w.Text(); got != text || e != want {
		t.Fatalf("%d of %d: %q, %d, not %q, %d", len(w.came), len(w.m.Sums), got, e, text, want)
	}
	b, e := w.Build(nil)
	is(t, b, e, "", none)
	if !alike(w.Manifest, w.m) {
		t.Fatalf("%.200v, not %.200v", w.Manifest, w.m)
	}
}

// put: whether Put answers what the chapter says, and all is as it says behind it; its error.
func (w *watch) put(t testing.TB, at int, data string) api.Errno {
	t.Helper()
	want := api.OK
	_, there := w.came[at]
	switch n := len(w.m.Sums); {
	case at < 0, at >= n:
		want = api.ErrRange
	case at < n-1 && len(data) != w.m.Chunk, at == n-1 && len(data) != w.m.Size-at*w.m.Chunk:
		want = api.ErrForm
	case sumOf(data) != w.m.Sums[at]:
		want = api.ErrSum
	case there:
		want = api.ErrTwice
	default:
		w.came[at] = data
	}
	if e := w.Put(at, data); e != want {
		t.Fatalf("at %d of %d, %d bytes: %d, not %d", at, len(w.m.Sums), len(data), e, want)
	}
	w.holds(t)
	return want
}

// noise: so many bytes, the same ones for the same numbers.
func noise(n, seed int) string {
	r := rand.New(rand.NewPCG(uint64(seed), 21))
	list := make([]byte, n)
	for i := range list {
		list[i] = byte(r.IntN(256))
	}
	return string(list)
}

// turned: the same text, but for a bit.
func turned(s string, at int, bit byte) string {
	return s[:at] + string([]byte{s[at] ^ bit}) + s[at+1:]
}

// edges: numbers that no chunk of a manifest of n chunks has.
func edges(n int) []int {
	return []int{math.MinInt, math.MinInt + n, -1 << 32, -n, -2, -1, n, n + 1, n + 64, 64, 65, 256, 1024, 1 << 16, 1 << 31, 1 << 32, 1<<32 + n - 1, math.MaxInt - 1, math.MaxInt}
}

// small: the shape with the fewest weights but one place more, 14.
func small() api.Config {
	return api.Config{Vocab: 2, Dim: 1, Heads: 1, Blocks: 1, Hidden: 1, Context: 2}
}

// head: the bytes of a shape's numbers.
func head(c api.Config) string {
	return numOf(c.Vocab) + numOf(c.Dim) + numOf(c.Heads) + numOf(c.Blocks) + numOf(c.Hidden) + numOf(c.Context)
}

// brainOf: the model of a shape and weights, which has to be one.
func brainOf(t testing.TB, c api.Config, weights string) *brain.Brain {
	t.Helper()
	b, e := brain.Of(c, weights)
	if e != api.OK {
		t.Fatalf("%v, %d weights: %d", c, len(weights), e)
	}
	return b
}

// shapes: shapes of several sizes; the last two have the most weights whose bytes a patch can make, and the next more.
func shapes() []api.Config {
	return []api.Config{
		small(), {Vocab: 2, Dim: 1, Heads: 1, Blocks: 1, Hidden: 1, Context: 1}, {Vocab: 4, Dim: 2, Heads: 1, Blocks: 1, Hidden: 2, Context: 3}, {Vocab: 4, Dim: 2, Heads: 2, Blocks: 1, Hidden: 2, Context: 3},
		{Vocab: 5, Dim: 4, Heads: 2, Blocks: 2, Hidden: 3, Context: 6}, {Vocab: 32, Dim: 8, Heads: 4, Blocks: 3, Hidden: 16, Context: 32}, {Vocab: 2, Dim: 16, Heads: 1, Blocks: 3, Hidden: 31, Context: 30}, {Vocab: 2, Dim: 16, Heads: 1, Blocks: 3, Hidden: 31, Context: 31},
	}
}

func sizeOf(c api.Config) int {
	return conf.Shape{Config: c}.Size()
}

// P21.1: New

func TestByHand(t *testing.T) {
	// Two chunks, the second one first: Missing is 0.
	m := told(3, 9, 4, "012345", sumOf("made"))
	p, e := New(m)
	if e != api.OK || p.Have() != 0 || p.Missing() != 0 || p.Whole() {
		t.Fatal(p, e)
	}
	if e := p.Put(1, "45"); e != api.OK || p.Missing() != 0 || p.Whole() || p.Have() != 1 {
		t.Error(e, p.Missing(), p.Whole(), p.Have())
	}
	if s, e := p.Text(); s != "" || e != api.ErrState {
		t.Error(s, e)
	}
	if e := p.Put(0, "0123"); e != api.OK || p.Missing() != -1 || !p.Whole() || p.Have() != 2 {
		t.Error(e, p.Missing(), p.Whole(), p.Have())
	}
	if s, e := p.Text(); s != "012345" || e != api.OK {
		t.Error(s, e)
	}
	// The manifest is embedded: its numbers are the parcel's.
	if p.Base != 3 || p.Version != 9 || p.Size != 6 || p.Chunk != 4 || len(p.Sums) != 2 || p.Sums[1] != sumOf("45") || p.Result != sumOf("made") || !manifest.Same(p.Manifest, m) {
		t.Error(p.Manifest)
	}
}

func TestNew(t *testing.T) {
	for _, size := range []int{1, 2, 3, 63, 64, 65, 127, 128, 255, 256, 257, 1000, 4033, 4095, 4096} {
		for _, chunk := range []int{1, 2, 3, 63, 64, 65, 128, 255, 256} {
			if (size+chunk-1)/chunk > 64 {
				continue
			}
			patch := noise(size, chunk)
			w := fresh(t, told(1, 2147483647, chunk, patch, sumOf(patch)))
			for at, part := range cut(patch, chunk) {
				if e := w.put(t, at, part); e != api.OK {
					t.Fatalf("%d bytes, %d a chunk, at %d: %d", size, chunk, at, e)
				}
			}
			if s, e := w.Text(); s != patch || e != api.OK {
				t.Fatalf("%d bytes, %d a chunk: %q, %d", size, chunk, s, e)
			}
		}
	}
}

// Each can't be for one cause alone, or for all.
func TestNewOfWhatCantBe(t *testing.T) {
	m := told(3, 9, 4, "0123456789", sumOf("made"))
	others := []manifest.Manifest{{}, {Sums: m.Sums}, {Base: -1, Version: -2, Size: -3, Chunk: -4, Sums: m.Sums}}
	for _, change := range []func(m *manifest.Manifest){
		func(m *manifest.Manifest) { m.Base = 0 }, func(m *manifest.Manifest) { m.Base = -3 }, func(m *manifest.Manifest) { m.Base = 1 << 31 }, func(m *manifest.Manifest) { m.Base = 9 }, func(m *manifest.Manifest) { m.Version = 0 }, func(m *manifest.Manifest) { m.Version = 1<<32 + 9 }, func(m *manifest.Manifest) { m.Version = 3 },
		func(m *manifest.Manifest) { m.Size = 0 }, func(m *manifest.Manifest) { m.Size = -10 }, func(m *manifest.Manifest) { m.Size = 8 }, func(m *manifest.Manifest) { m.Size = 13 }, func(m *manifest.Manifest) { m.Size = math.MaxInt }, func(m *manifest.Manifest) { m.Size = math.MinInt }, func(m *manifest.Manifest) { m.Size = 1<<32 + 10 },
		func(m *manifest.Manifest) { m.Chunk = 0 }, func(m *manifest.Manifest) { m.Chunk = -4 }, func(m *manifest.Manifest) { m.Chunk = 3 }, func(m *manifest.Manifest) { m.Chunk = 5 }, func(m *manifest.Manifest) { m.Chunk = math.MaxInt }, func(m *manifest.Manifest) { m.Chunk = math.MinInt },
		func(m *manifest.Manifest) { m.Sums = nil }, func(m *manifest.Manifest) { m.Sums = m.Sums[:2] }, func(m *manifest.Manifest) { m.Sums = append(m.Sums, m.Sums...) }, func(m *manifest.Manifest) { m.Chunk, m.Sums = 257, m.Sums[:1] }, func(m *manifest.Manifest) { m.Size, m.Chunk, m.Sums = 65, 1, make([]api.Digest, 65) }, func(m *manifest.Manifest) { m.Size, m.Chunk, m.Sums = 4097, 256, make([]api.Digest, 17) },
	} {
		other := m
		other.Sums = slices.Clip(slices.Clone(m.Sums))
		change(&other)
		others = append(others, other)
	}
	for _, other := range others {
		if p, e := New(other); p != nil || e != api.ErrArg {
			t.Errorf("%.200v: %v, %d", other, p, e)
		}
	}
	fresh(t, m)
}

// P21.1: Put

func TestPutOfEdges(t *testing.T) {
	for _, c := range [][2]int{{1, 1}, {6, 4}, {10, 4}, {64, 1}, {300, 256}, {512, 256}, {4096, 64}} {
		patch := noise(c[0], c[1])
		w := fresh(t, told(3, 9, c[1], patch, sumOf("made")))
		parts := cut(patch, c[1])
		wrong := func() {
			for _, at := range edges(len(parts)) {
				for _, data := range []string{"", parts[0], parts[len(parts)-1], patch, "x"} {
					if at >= 0 && at < len(parts) {
						continue
					}
					if e := w.put(t, at, data); e != api.ErrRange {
						t.Fatal(at, e)
					}
				}
			}
			for at, part := range parts {
				for _, data := range []string{"", part[1:], part + "x", part + "\x00", part + part, "x" + part, patch + patch} {
					if e := w.put(t, at, data); e != api.ErrForm {
						t.Fatal(at, e)
					}
				}
			}
		}
		// Wrong ones are refused ahead of all, between, and behind all, and of chunks that are there too: that they are there is told last.
		wrong()
		for at := range parts {
			w.put(t, at, parts[at])
			if at == len(parts)/2 {
				wrong()
			}
		}
		wrong()
	}
}

func TestPutOfEachBit(t *testing.T) {
	patch := noise(10, 1)
	w := fresh(t, told(3, 9, 4, patch, sumOf("made")))
	for range 2 {
		for at, part := range cut(patch, 4) {
			for i := range 8 * len(part) {
				if e := w.put(t, at, turned(part, i/8, 1<<(i%8))); e != api.ErrSum {
					t.Fatalf("at %d, bit %d: %d", at, i, e)
				}
			}
		}
		for at, part := range cut(patch, 4) {
			w.put(t, at, part)
		}
	}
}

// Of chunks that are all unlike each is right at its own place alone.
func TestPutAtOtherPlaces(t *testing.T) {
	for _, c := range [][2]int{{10, 4}, {12, 4}, {4096, 64}, {4033, 64}, {257, 256}} {
		patch := noise(c[0], c[1])
		w := fresh(t, told(3, 9, c[1], patch, sumOf("made")))
		parts := cut(patch, c[1])
		for at, part := range parts {
			for place := range parts {
				want := api.ErrSum
				if len(parts[place]) != len(part) {
					want = api.ErrForm
				}
				if e := w.put(t, place, part); place != at && e != want || place == at && e != api.OK {
					t.Fatalf("%v: the chunk %d at %d: %d", c, at, place, e)
				}
			}
		}
	}
}

func TestPutTwice(t *testing.T) {
	patch := noise(4000, 1)
	w := fresh(t, told(3, 9, 64, patch, sumOf("made")))
	parts := cut(patch, 64)
	for at, part := range parts {
		w.put(t, at, part)
		for before := range at + 1 {
			if e := w.put(t, before, parts[before]); e != api.ErrTwice {
				t.Fatalf("%d behind %d: %d", before, at, e)
			}
		}
	}
}

// Chunks with the same bytes are one each.
func TestPutOfTheSameBytes(t *testing.T) {
	w := fresh(t, told(3, 9, 2, "abababab", sumOf("made")))
	for _, at := range []int{2, 0, 3, 1} {
		if e := w.put(t, at, "ab"); e != api.OK {
			t.Fatal(at, e)
		}
		if e := w.put(t, at, "ab"); e != api.ErrTwice {
			t.Fatal(at, e)
		}
	}
}

// Each subset of chunks, so that the first one that isn't there is each one.
func TestEachSubset(t *testing.T) {
	patch := noise(29, 1)
	m := told(3, 9, 3, patch, sumOf("made"))
	parts := cut(patch, 3)
	for set := range 1 << len(parts) {
		p, _ := New(m)
		w := &watch{p, m, map[int]string{}}
		for at := range parts {
			if set>>at&1 == 1 {
				p.Put(at, parts[at])
				w.came[at] = parts[at]
			}
		}
		w.holds(t)
	}
}

func TestNil(t *testing.T) {
	var p *Parcel
	base := brainOf(t, small(), noise(14, 1))
	for _, at := range append(edges(3), 0, 1, 2) {
		for _, data := range []string{"", "x", noise(300, 1)} {
			if e := p.Put(at, data); e != api.ErrNil {
				t.Error(at, e)
			}
		}
	}
	if s, e := p.Text(); s != "" || e != api.ErrNil {
		t.Error(s, e)
	}
	if p.Missing() != -1 || p.Whole() || p.Have() != 0 {
		t.Error(p.Missing(), p.Whole(), p.Have())
	}
	for _, b := range []*brain.Brain{nil, base} {
		made, e := p.Build(b)
		is(t, made, e, "", api.ErrNil)
	}
}

// P21.2

// example: a model, a patch that changes its last weight, and what comes of it.
func example(t testing.TB) (base *brain.Brain, patch, next string) {
	base = brainOf(t, small(), "abcdefghijklmn")
	patch = "\x02\x00\x00\x00" + "\x01\x00\x00\x00\x00\x25\x00\x00\x00" + "\x02\x01\x00\x00\x00X"
	return base, patch, head(small()) + "abcdefghijklmX"
}

func TestBuildByHand(t *testing.T) {
	base, patch, next := example(t)
	m := told(3, 4, 7, patch, sumOf(next))
	b, e := Build(m, base, patch)
	is(t, b, e, next, api.OK)
	if b.Config != small() || b.Weights() != "abcdefghijklmX" || b.Digest() != m.Result {
		t.Error(b)
	}
	w := fresh(t, m)
	for _, c := range []struct {
		at   int
		data string
	}{{2, "\x00\x00\x00\x00X"[1:]}, {1, patch[7:14]}, {2, patch[14:]}, {0, patch[:7]}} {
		b, e := w.Build(base)
		is(t, b, e, "", api.ErrState)
		w.put(t, c.at, c.data)
	}
	b, e = w.Build(base)
	is(t, b, e, next, api.OK)
	// Of another base comes another model.
	b, e = w.Build(brainOf(t, small(), "bbcdefghijklmn"))
	is(t, b, e, "", api.ErrSum)
	b, e = w.Build(nil)
	is(t, b, e, "", api.ErrNil)
	// The weight that is laid plays no part.
	b, e = w.Build(brainOf(t, small(), "abcdefghijklmY"))
	is(t, b, e, next, api.OK)
}

// The errors, in their order: each of these has all that are told behind it too, where that may be.
func TestBuildErrors(t *testing.T) {
	base, patch, next := example(t)
	none := api.Digest{}
	long := laid(noise(8192, 1))
	for i, c := range []struct {
		patch  string
		result api.Digest
		want   api.Errno
	}{
		{patch, sumOf(next), api.OK}, {patch, none, api.ErrSum}, {patch, sumOf(base.Bytes()), api.ErrSum}, {patch, sumOf(patch), api.ErrSum},
		{"", none, api.ErrForm}, {"", sumOf(""), api.ErrForm}, {"\x00\x00\x00\x00", sumOf(""), api.ErrForm}, {"\x00\x00\x00\x00", none, api.ErrForm}, {patch[1:], sumOf(next), api.ErrForm}, {patch[:18], sumOf(next), api.ErrForm}, {patch + "\x00", sumOf(next), api.ErrForm}, {next, sumOf(next), api.ErrForm},
		{written(copied(0, 38)), sumOf(base.Bytes()), api.OK}, {written(copied(0, 39)), none, api.ErrArg}, {written(copied(1, 38)), none, api.ErrArg}, {written(copied(38, 1)), none, api.ErrArg}, {written(copied(37, 1)), none, api.ErrForm}, {written(copied(0, 2147483647)), none, api.ErrArg},
		{written(added(0, strings.Repeat("\x00", 38))), sumOf(base.Bytes()), api.OK}, {written(added(1, strings.Repeat("\x00", 38))), none, api.ErrArg}, {written(added(0, strings.Repeat("\x00", 39))), none, api.ErrArg},
		{written(laid(next)), sumOf(next), api.OK}, {written(laid(next)), none, api.ErrSum}, {written(laid(next[:37])), sumOf(next[:37]), api.ErrForm}, {written(laid(next + "x")), sumOf(next + "x"), api.ErrForm}, {written(laid(noise(8192, 1))), none, api.ErrForm},
		{written(long, laid("x")), none, api.ErrLong}, {written(long, laid("x"), copied(39, 1)), none, api.ErrLong}, {written(copied(39, 1), long, laid("x")), none, api.ErrArg}, {written(long, copied(39, 1), laid("x")), none, api.ErrArg}, {written(long, laid("x"))[:8200], none, api.ErrForm}, {written(long, laid("x"), copied(39, 0)), none, api.ErrForm}, {written(copied(39, 1), laid("")), none, api.ErrForm},
	} {
		m := told(3, 4, 256, "0123456789", c.result)
		if e := builds(t, m, base, c.patch); e != c.want {
			t.Errorf("%d: %d, not %d", i, e, c.want)
		}
		// A nil base is told ahead of all.
		b, e := Build(m, nil, c.patch)
		is(t, b, e, "", api.ErrNil)
		// Chunk by chunk it is the same, where the patch is one of a manifest.
		if m = told(3, 4, 256, c.patch, c.result); manifest.Good(m) {
			w := fresh(t, m)
			for at, part := range cut(c.patch, 256) {
				b, e := w.Build(base)
				is(t, b, e, "", api.ErrState)
				w.put(t, at, part)
			}
			b, e := w.Build(base)
			want, err := reckoned(c.result, base.Bytes(), c.patch)
			is(t, b, e, want, err)
			if e != c.want {
				t.Errorf("%d: %d, not %d", i, e, c.want)
			}
		}
	}
}

// Of the manifest the result alone plays a part: a patch of more bytes than a manifest's may have is built too.
func TestBuildHangsOnTheResultAlone(t *testing.T) {
	base, patch, next := example(t)
	for _, m := range []manifest.Manifest{{}, told(3, 4, 7, patch, api.Digest{}), told(8, 8, 1, "another", api.Digest{}), {Base: -1, Version: math.MinInt, Size: math.MaxInt, Chunk: math.MinInt, Sums: make([]api.Digest, 100)}} {
		if e := builds(t, m, base, patch); e != api.ErrSum {
			t.Error(m, e)
		}
		m.Result = sumOf(next)
		if e := builds(t, m, base, patch); e != api.OK {
			t.Error(m, e)
		}
	}
}

func TestBuildOfEachBitOfTheResult(t *testing.T) {
	base, patch, next := example(t)
	for i := range 256 {
		m := told(3, 4, 7, patch, sumOf(next))
		m.Result[i/8] ^= 1 << (i % 8)
		if e := builds(t, m, base, patch); e != api.ErrSum {
			t.Fatal(i, e)
		}
	}
}

// Each byte of the base plays its part: of one that is another one comes another model, or none.
func TestBuildOfOtherBases(t *testing.T) {
	base, _, _ := example(t)
	patch := written(copied(0, 24), added(24, noise(7, 1)), copied(31, 7))
	want, _ := reckoned(api.Digest{}, base.Bytes(), patch)
	if want != "" {
		t.Fatal(want)
	}
	next := base.Bytes()[:24] + added(24, noise(7, 1)).comes(base.Bytes()) + base.Bytes()[31:]
	m := told(3, 4, 7, patch, sumOf(next))
	if e := builds(t, m, base, patch); e != api.OK {
		t.Fatal(e)
	}
	for at := range 14 {
		for x := range 256 {
			weights := base.Weights()[:at] + string([]byte{byte(x)}) + base.Weights()[at+1:]
			e := builds(t, m, brainOf(t, small(), weights), patch)
			if weights == base.Weights() && e != api.OK || weights != base.Weights() && e != api.ErrSum {
				t.Fatal(at, x, e)
			}
		}
	}
	for _, c := range shapes()[1:] {
		builds(t, m, brainOf(t, c, noise(sizeOf(c), 1)), patch)
	}
}

// Each byte of a patch as each other one.
func TestBuildOfTurnedPatches(t *testing.T) {
	base, patch, next := example(t)
	answers := map[api.Errno]int{}
	for at := range patch {
		for x := range 256 {
			turned := patch[:at] + string([]byte{byte(x)}) + patch[at+1:]
			answers[builds(t, told(3, 4, 7, turned, sumOf(next)), base, turned)]++
		}
	}
	for n := range patch {
		if e := builds(t, told(3, 4, 7, patch, sumOf(next)), base, patch[:n]); e != api.ErrForm {
			t.Error(n, e)
		}
	}
	if answers[api.OK] != len(patch) || answers[api.ErrForm] < 1000 || answers[api.ErrArg] < 500 || answers[api.ErrSum] < 255 {
		t.Error(answers)
	}
}

// Models of one shape become those of each other one; of the last shape no patch makes one, as its bytes are too many.
func TestBuildOfShapes(t *testing.T) {
	for i, from := range shapes() {
		base := brainOf(t, from, noise(sizeOf(from), i))
		for j, to := range shapes() {
			next := head(to) + noise(sizeOf(to), 100+j)
			list := []deed{laid(next[:min(len(next), 24+j)]), laid(next[min(len(next), 24+j):])}
			want := api.OK
			if j == len(shapes())-1 {
				list = []deed{laid(next[:8000]), laid(next[8000:])}
				want = api.ErrLong
			}
			if list[1].data == "" {
				list = list[:1]
			}
			m := told(1, 2, 256, "x", sumOf(next))
			if e := builds(t, m, base, written(list...)); e != want {
				t.Errorf("%v to %v: %d", from, to, e)
			}
		}
		// What the base has besides may be a model as well, moved by its own bytes.
		more := brainOf(t, from, noise(sizeOf(from), i))
		builds(t, told(1, 2, 256, "x", more.Digest()), base, written(copied(0, 24), copied(24, sizeOf(from))))
		builds(t, told(1, 2, 256, "x", more.Digest()), base, written(copied(24, sizeOf(from)), copied(0, 24)))
	}
}

// Bytes of a shape that can't be, and of shapes with fewer weights or more, are no model's.
func TestBuildOfWhatIsNoModel(t *testing.T) {
	base, _, next := example(t)
	for at := range 24 {
		for _, x := range []byte{0, 1, 2, 3, 4, 5, 16, 17, 32, 33, 255} {
			other := next[:at] + string([]byte{x}) + next[at+1:]
			e := builds(t, told(1, 2, 256, "x", sumOf(other)), base, written(laid(other)))
			if want := map[bool]api.Errno{true: api.OK, false: api.ErrForm}[other == next]; e != want {
				t.Errorf("%d at %d: %d", x, at, e)
			}
		}
	}
	for n := 1; n < 60; n++ {
		other := (next + noise(60, 1))[:n]
		e := builds(t, told(1, 2, 256, "x", sumOf(other)), base, written(laid(other)))
		if want := map[bool]api.Errno{true: api.OK, false: api.ErrForm}[n == 38]; e != want {
			t.Errorf("%d bytes: %d", n, e)
		}
	}
}

// 256 deeds are a patch, one more isn't.
func TestBuildOfManyDeeds(t *testing.T) {
	c := shapes()[5]
	base := brainOf(t, c, noise(sizeOf(c), 1))
	s := base.Bytes()
	list := []deed{}
	for i := range 255 {
		list = append(list, copied(i, 1))
	}
	rest := copied(255, len(s)-255)
	if e := builds(t, told(1, 2, 256, "x", sumOf(s)), base, written(append(list, rest)...)); e != api.OK {
		t.Error(e)
	}
	list = append(list, copied(255, 1), copied(256, len(s)-256))
	if e := builds(t, told(1, 2, 256, "x", sumOf(s)), base, written(list...)); e != api.ErrForm {
		t.Error(e)
	}
}

func TestBuildOfAnyPatches(t *testing.T) {
	r := rand.New(rand.NewPCG(1, 21))
	answers := map[api.Errno]int{}
	for range 20000 {
		c := shapes()[r.IntN(5)]
		base := brainOf(t, c, noise(sizeOf(c), r.IntN(100)))
		s := base.Bytes()
		list := []deed{}
		for at := 0; at < len(s); {
			size := 1 + r.IntN(len(s)-at)
			switch r.IntN(3) {
			case 0:
				list = append(list, copied(at, size))
			case 1:
				list = append(list, laid(s[at:at+size]))
			case 2:
				list = append(list, added(at, strings.Repeat("\x00", max(min(24-at, size), 0))+noise(max(size-max(24-at, 0), 0), r.Int())))
			}
			at += size
		}
		if r.IntN(8) == 0 {
			list[r.IntN(len(list))].from += r.IntN(40)
		}
		if r.IntN(8) == 0 {
			list = append(list, laid(noise(8000+r.IntN(193), 3)))
		}
		patch := written(list...)
		if r.IntN(8) == 0 {
			patch = turned(patch, r.IntN(len(patch)), 1<<r.IntN(8))
		}
		next := ""
		for _, d := range list {
			if d.kind == 2 || d.from+d.size <= len(s) {
				next += d.comes(s)
			}
		}
		answers[builds(t, told(1, 2, 256, "x", sumOf(next)), base, patch)]++
	}
	for _, e := range []api.Errno{api.OK, api.ErrForm, api.ErrArg, api.ErrLong, api.ErrSum} {
		if answers[e] < 50 {
			t.Error(answers)
		}
	}
}

// P21.3

// orders: all orders of the numbers below n.
func orders(n int) [][]int {
	if n == 0 {
		return [][]int{nil}
	}
	list := [][]int{}
	for _, order := range orders(n - 1) {
		for at := range n {
			list = append(list, slices.Insert(slices.Clone(order), at, n-1))
		}
	}
	return list
}

func TestInEachOrder(t *testing.T) {
	base, patch, next := example(t)
	for _, chunk := range []int{3, 4, 7, 10, 18, 19, 256} {
		parts := cut(patch, chunk)
		m := told(3, 4, chunk, patch, sumOf(next))
		list := orders(len(parts))
		for _, order := range list {
			p, _ := New(m)
			for _, at := range order {
				if e := p.Put(at, parts[at]); e != api.OK {
					t.Fatal(order, at, e)
				}
			}
			b, e := p.Build(base)
			is(t, b, e, next, api.OK)
			if s, e := p.Text(); s != patch || e != api.OK {
				t.Fatal(order, s, e)
			}
		}
		if chunk == 3 && len(list) != 5040 {
			t.Error(len(list))
		}
	}
}

// Up to 64 chunks in any order, with others that are refused between, and some twice.
func TestInAnyOrder(t *testing.T) {
	r := rand.New(rand.NewPCG(2, 21))
	for i := range 300 {
		c := shapes()[r.IntN(5)]
		base := brainOf(t, c, noise(sizeOf(c), i))
		s := base.Bytes()
		from := 24 + r.IntN(sizeOf(c))
		patch := written(copied(0, from), added(from, noise(len(s)-from, -i)))
		next := s[:from] + added(from, noise(len(s)-from, -i)).comes(s)
		chunk := max(1+r.IntN(40), (len(patch)+63)/64)
		w := fresh(t, told(1+i, 1000, chunk, patch, sumOf(next)))
		parts := cut(patch, chunk)
		order := r.Perm(len(parts))
		for place, at := range order {
			w.put(t, order[r.IntN(place+1)], parts[at])
			w.put(t, at, turned(parts[at], r.IntN(len(parts[at])), 1<<r.IntN(8)))
			b, e := w.Build(base)
			if w.Whole() {
				is(t, b, e, next, api.OK)
			} else {
				is(t, b, e, "", api.ErrState)
			}
			w.put(t, at, parts[at])
			w.put(t, order[r.IntN(place+1)], parts[at])
			w.put(t, r.IntN(2*len(parts)), parts[at])
		}
		b, e := w.Build(base)
		is(t, b, e, next, api.OK)
		direct, e := Build(w.m, base, patch)
		if is(t, direct, e, next, api.OK); !brain.Same(b, direct) {
			t.Fatal("another model")
		}
	}
}

// Rules

// Rule 3: what is handed in is as it was, its spare room too, and isn't kept.
func TestListsAreLeft(t *testing.T) {
	base, patch, next := example(t)
	for _, spare := range []int{0, 5} {
		m := told(3, 4, 7, patch, sumOf(next))
		room := append(slices.Clone(m.Sums), make([]api.Digest, spare)...)
		kept := slices.Clone(room)
		m.Sums = room[:3]
		w, other := fresh(t, m), fresh(t, m)
		for at, part := range cut(patch, 7) {
			w.put(t, at, part)
		}
		builds(t, m, base, patch)
		if !slices.Equal(room, kept) || len(m.Sums) != 3 {
			t.Fatalf("%x, not %x", room, kept)
		}
		// The parcel's sums are its own: neither the argument's, nor another parcel's.
		for i := range room {
			room[i] = api.Digest{}
		}
		w.holds(t)
		w.Sums[0] = api.Digest{}
		other.holds(t)
		if e := other.put(t, 0, patch[:7]); e != api.OK {
			t.Fatal(e)
		}
	}
}

// Rule 3: a chunk's bytes aren't kept, and neither are those of a text that was answered.
func TestTextsAreCopies(t *testing.T) {
	for _, chunk := range []int{7, 19, 256} {
		base, patch, next := example(t)
		buffer := []byte(patch)
		p, _ := New(told(3, 4, chunk, patch, sumOf(next)))
		for at, part := range cut(patch, chunk) {
			data := unsafe.String(&buffer[at*chunk], len(part))
			if e := p.Put(at, data); e != api.OK {
				t.Fatal(at, e)
			}
		}
		clear(buffer)
		for range 2 {
			s, e := p.Text()
			if s != patch || e != api.OK {
				t.Fatalf("%d a chunk: %q, %d", chunk, s, e)
			}
			clear(unsafe.Slice(unsafe.StringData(s), len(s)))
		}
		b, e := p.Build(base)
		is(t, b, e, next, api.OK)
	}
}

// Rule 3: a model is made of memory of its own.
func TestModelsAreCopies(t *testing.T) {
	base, _, next := example(t)
	patch := []byte(written(laid(next)))
	b, e := Build(told(3, 4, 7, string(patch), sumOf(next)), base, unsafe.String(&patch[0], len(patch)))
	is(t, b, e, next, api.OK)
	clear(patch)
	is(t, b, e, next, api.OK)
	again, e := Build(told(3, 4, 7, "x", base.Digest()), base, written(copied(0, 38)))
	is(t, again, e, base.Bytes(), api.OK)
	if again == base || unsafe.StringData(again.Weights()) == unsafe.StringData(base.Weights()) {
		t.Error("the base's memory")
	}
}

// Rule 4: the same each time, whatever is asked of other parcels between.
func TestTheSameEachTime(t *testing.T) {
	base, patch, next := example(t)
	parts := cut(patch, 7)
	w := fresh(t, told(3, 4, 7, patch, sumOf(next)))
	w.put(t, 1, parts[1])
	for i := range 20 {
		other := fresh(t, told(5, 6, 1+i, noise(1+i, i), sumOf("made")))
		other.put(t, 0, noise(1+i, i))
		fresh(t, w.m).put(t, 2, parts[2])
		builds(t, w.m, base, patch[:i])
		w.holds(t)
		b, e := w.Build(base)
		is(t, b, e, "", api.ErrState)
		if builds(t, w.m, base, patch) != api.OK {
			t.Fatal("another answer")
		}
	}
	w.put(t, 0, parts[0])
	w.put(t, 2, parts[2])
	for range 3 {
		b, e := w.Build(base)
		is(t, b, e, next, api.OK)
		w.holds(t)
	}
}

// A parcel whose open numbers somebody changed says what it says, but ends.
func TestChangedNumbersEnd(t *testing.T) {
	base, patch, next := example(t)
	for _, other := range []manifest.Manifest{{}, told(3, 4, 1, patch, sumOf(next)), told(3, 4, 19, patch, sumOf(next)), {Base: 1, Version: 2, Size: 10, Chunk: 1, Sums: nil}, {Base: math.MaxInt, Size: math.MinInt}} {
		for _, first := range []bool{true, false} {
			p, _ := New(told(3, 4, 7, patch, sumOf(next)))
			for at, part := range cut(patch, 7) {
				if first {
					p.Put(at, part)
				}
			}
			p.Manifest = other
			for at := -1; at < 70; at++ {
				p.Put(at, manifest.Part(other, at, patch))
				p.Put(at, "")
			}
			p.Missing()
			p.Whole()
			p.Have()
			p.Text()
			p.Build(base)
			p.Build(nil)
		}
	}
}

// squares: bytes by a short rule, that another program has too.
func squares(n, k int) string {
	list := make([]byte, n)
	for i := range list {
		list[i] = byte(i*i*k + i/7 + k)
	}
	return string(list)
}

// The sums of patches, and of the models that come of them, are those that another program works out of the same chapters.
func TestAnotherProgram(t *testing.T) {
	for k, c := range []struct {
		shape               [6]int
		chunk, size, chunks int
		patch, next         string
	}{
		{[6]int{2, 1, 1, 1, 1, 2}, 7, 45, 7, "d97f83e03da670e79a4ccaad006bc5aaf0da9ca5e7be2fe7119c32f5b794c036", "a50194855084c25f7280b5f37c070900161a8bfe427bd672d8823dc5b309487e"},
		{[6]int{4, 2, 1, 1, 2, 3}, 7, 62, 9, "629be38ee105e5170a1372519d645c11eb43af363b9a3b0af59fd5590c8803b5", "74c6cf24751127cf544aee05a1d40401166bce1e724692ac62667b61a0f06e27"},
		{[6]int{5, 4, 2, 2, 3, 6}, 7, 170, 25, "f1dd131f4a0bac53c5a51f15a6bd948193863d27393fddabeb2b9adc5b2fe157", "d1aa66817fd1c0f301b037b8cc6953d211855119e04b8418dc014191ea44b56c"},
		{[6]int{32, 8, 4, 3, 16, 32}, 21, 1282, 62, "0645c016d2623115d3dd5ab2819b25da99b860da7ec462fc4086eec8586b2bef", "1e116cd937d34c1d2f1c5f55eaba32d1930da19f194b68ae857344df6c3982b5"},
		{[6]int{2, 16, 1, 3, 31, 30}, 25, 1537, 62, "a51d3425e5b5b7c2c9a18edc9f1f93bd0981912b5396310819a0c8e48957f41d", "939e57cfd7a5baa4560112416cb17327ed4350055cd2e79b3c798d2d7612c058"},
	} {
		shape := api.Config{Vocab: c.shape[0], Dim: c.shape[1], Heads: c.shape[2], Blocks: c.shape[3], Hidden: c.shape[4], Context: c.shape[5]}
		n := sizeOf(shape)
		from := 24 + n/3
		to := min(from+1+n/2, from+1500, 24+n)
		patch := written(copied(0, from), added(from, squares(to-from, k+7)), laid(squares(1, k)), copied(to, 24+n-to-1))
		var result api.Digest
		if d, err := hex.DecodeString(c.next); err != nil || copy(result[:], d) != 32 {
			t.Fatal(err)
		}
		if d := sumOf(patch); hex.EncodeToString(d[:]) != c.patch || len(patch) != c.size {
			t.Fatalf("%v: another patch, of %d bytes", c.shape, len(patch))
		}
		w := fresh(t, told(1, 2, c.chunk, patch, result))
		if len(w.Sums) != c.chunks {
			t.Fatalf("%v: %d chunks", c.shape, len(w.Sums))
		}
		parts := cut(patch, c.chunk)
		for at := len(parts) - 1; at >= 0; at-- {
			w.put(t, at, parts[at])
		}
		b, e := w.Build(brainOf(t, shape, squares(n, k+1)))
		if e != api.OK || b.Digest() != result || b.Config != shape {
			t.Errorf("%v: %d", c.shape, e)
		}
	}
}

func FuzzPut(f *testing.F) {
	f.Add("0123456789", 4, "\x02\x00\x01", 3, "x")
	f.Add("012345", 4, "\x01\x00", -1, "0123")
	f.Add("a", 1, "\x00\x00\x01", 0, "a")
	f.Add("aaaaaaaa", 2, "\x03\x03\x83\x43\x00\x01\x02", 1<<32, "aa")
	f.Fuzz(func(t *testing.T, patch string, chunk int, order string, at int, data string) {
		if len(patch) < 1 || len(patch) > 4096 || chunk < 1 || chunk > 256 || (len(patch)+chunk-1)/chunk > 64 {
			return
		}
		w := fresh(t, told(3, 9, chunk, patch, sumOf(patch)))
		w.put(t, at, data)
		parts := cut(patch, chunk)
		for _, b := range []byte(order[:min(len(order), 100)]) {
			// Six bits are the place, the other two what is wrong with the chunk.
			place := int(b & 63)
			part := parts[place%len(parts)]
			switch b >> 6 {
			case 1:
				part = turned(part, len(part)-1, 1)
			case 2:
				part += "x"
			}
			w.put(t, place, part)
		}
		w.put(t, at, data)
	})
}

func FuzzBuild(f *testing.F) {
	base, patch, next := example(f)
	f.Add(base.Weights(), patch, "")
	f.Add(base.Weights(), written(laid(next)), next)
	f.Add(base.Weights(), written(copied(0, 30), added(30, "12345678")), "")
	f.Add(base.Weights(), written(copied(0, 38), copied(0, 38)), "")
	f.Add("", "", "")
	f.Fuzz(func(t *testing.T, weights, patch, made string) {
		weights = (weights + strings.Repeat("\x00", 14))[:14]
		base := brainOf(t, small(), weights)
		m := told(1, 2, 256, patch, sumOf(made))
		builds(t, m, base, patch)
		if made != "" {
			builds(t, m, base, written(laid(made)))
		}
		// With the sum mended, so that it is seldom only the sum that is told.
		if list, ok := read(patch); ok {
			made = ""
			for _, d := range list {
				if d.kind == 2 || d.from+d.size <= 38 {
					made += d.comes(base.Bytes())
				}
			}
			m.Result = sumOf(made)
			builds(t, m, base, patch)
		}
		if manifest.Good(m) {
			w := fresh(t, m)
			parts := cut(patch, 256)
			for at := len(parts) - 1; at >= 0; at-- {
				w.put(t, at, parts[at])
			}
			want, err := reckoned(m.Result, base.Bytes(), patch)
			b, e := w.Build(base)
			is(t, b, e, want, err)
		}
	})
}

func FuzzNew(f *testing.F) {
	f.Add(3, 9, 10, 4, 3, 0, "0123")
	f.Add(1<<31-1, 1, 4096, 64, 64, 63, "a")
	f.Add(1, 2, 4097, 256, 17, 16, "a")
	f.Add(1, 1, math.MaxInt, math.MaxInt, 1, 0, "")
	f.Add(1, 2, math.MinInt, -1, 0, math.MinInt, "ab")
	f.Fuzz(func(t *testing.T, base, version, size, chunk, have, at int, data string) {
		m := manifest.Manifest{Base: base, Version: version, Size: size, Chunk: chunk, Sums: make([]api.Digest, have&127)}
		for i := range m.Sums {
			m.Sums[i] = sumOf(numOf(i))
		}
		if at >= 0 && at < len(m.Sums) {
			m.Sums[at] = sumOf(data)
		}
		if manifest.Good(m) {
			w := fresh(t, m)
			w.put(t, at, data)
			w.put(t, at, data)
		} else if p, e := New(m); p != nil || e != api.ErrArg {
			t.Error(p, e)
		}
	})
}
