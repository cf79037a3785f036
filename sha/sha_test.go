package sha

import (
	"crypto/sha256"
	"encoding/binary"
	"math/big"
	"slices"
	"strings"
	"testing"

	"coadjutor/api"
)

const abc = "ba7816bf8f01cfea414140de5dae2223b00361a396177a9cb410ff61f20015ad"

// known: sums that stand in FIPS 180-4's examples, and of the edges of a block (55, 56, 63, 64, 65 letters).
func known() map[string]string {
	return map[string]string{
		"":    "e3b0c44298fc1c149afbf4c8996fb92427ae41e4649b934ca495991b7852b855",
		"abc": abc,
		"abcdbcdecdefdefgefghfghighijhijkijkljklmklmnlmnomnopnopq":                                                         "248d6a61d20638b8e5c026930c3e6039a33ce45964ff2167f6ecedd419db06c1",
		"abcdefghbcdefghicdefghijdefghijkefghijklfghijklmghijklmnhijklmnoijklmnopjklmnopqklmnopqrlmnopqrsmnopqrstnopqrstu": "cf5b16a778af8380036ce59e7b0492370b249b11e8f07a51afac45037afee9d1",
		strings.Repeat("a", 55):      "9f4390f8d30c2dd92ec9f095b65e2b9ae9b0a925a5258e241c9f1e910f734318",
		strings.Repeat("a", 56):      "b35439a4ac6f0948b6d6f9e3c6af0f5f590ce20f1bde7090ef7970686ec6738a",
		strings.Repeat("a", 63):      "7d3e74a05d7db15bce4ad9ec0658ea98e3f06eeecf16b4c6fff2da457ddc2f34",
		strings.Repeat("a", 64):      "ffe054fe7ae0cb6dc65c3af9b61d5209f439851db43d0ba5997337df154668eb",
		strings.Repeat("a", 65):      "635361c48bb9eab14198e76ea8ab7f1a41685d6ad62aa9146d301d4f17eb0ae0",
		strings.Repeat("a", 1000000): "cdc76e5c9914fb9281a1c7e284d73e67f1809a48a497200e046d39ccc7112cd0",
	}
}

// mixed: n bytes, no two neighbouring ones alike, that go through all values.
func mixed(n int) string {
	list := make([]byte, n)
	for i := range list {
		list[i] = byte(i*167 + i/256*31 + 5)
	}
	return string(list)
}

// digest: a sum of bytes that the number tells.
func digest(n int) api.Digest {
	return sha256.Sum256([]byte{byte(n), byte(n >> 8)})
}

func digests(n int) []api.Digest {
	list := []api.Digest{}
	for i := range n {
		list = append(list, digest(i))
	}
	return list
}

// pairOf: what the document says of a Pair, by another program's sums.
func pairOf(a, b api.Digest) api.Digest {
	return sha256.Sum256(slices.Concat([]byte{1}, a[:], b[:]))
}

func treeOf(list []api.Digest) api.Digest {
	switch len(list) {
	case 0:
		return sha256.Sum256(nil)
	case 1:
		return list[0]
	}
	row := []api.Digest{}
	for i := 0; i < len(list); i += 2 {
		if i+1 == len(list) {
			row = append(row, list[i])
			continue
		}
		row = append(row, pairOf(list[i], list[i+1]))
	}
	return treeOf(row)
}

// P2.1

func TestOfKnown(t *testing.T) {
	for s, want := range known() {
		if got := Text(Of(s)); got != want {
			t.Errorf("%d bytes: %s, not %s", len(s), got, want)
		}
	}
	if Of() != Of("") || Of() != Of("", "", "") || Text(Of()) != known()[""] {
		t.Error("no parts")
	}
}

func TestOfAllLengths(t *testing.T) {
	all := mixed(1100)
	for n := range len(all) {
		for _, s := range []string{all[:n], strings.Repeat("\x00", n), strings.Repeat("\x80", n), strings.Repeat("\xff", n)} {
			if Of(s) != api.Digest(sha256.Sum256([]byte(s))) {
				t.Errorf("%d bytes of %q..", n, s[:1])
			}
		}
	}
	for _, n := range []int{4095, 4096, 8191, 8192, 8192 + 55, 8192 + 56, 1<<16 + 1} {
		if s := mixed(n); Of(s) != api.Digest(sha256.Sum256([]byte(s))) {
			t.Errorf("%d bytes", n)
		}
	}
}

// The number of bits has 8 bytes, not 4. To add so many bytes would take long, so the sum on its way says that they were.
func TestManyBits(t *testing.T) {
	for _, count := range []uint64{0, 64, 1<<29 - 64, 1 << 29, 1<<29 + 128, 1<<31 - 64, 1 << 31, 1 << 40, 1<<61 - 64} {
		last := running{words: firstWords}
		last.block[0] = 0x80
		binary.BigEndian.PutUint64(last.block[56:], 8*count)
		last.mix()
		s := running{words: firstWords, count: count}
		for i, b := range s.end() {
			if b != byte(last.words[i/4]>>(24-i%4*8)) {
				t.Errorf("%d bytes: byte %d", count, i)
			}
		}
	}
}

func TestPair(t *testing.T) {
	zero, a, b := api.Digest{}, Of("a"), Of("b")
	for _, pair := range [][2]api.Digest{{a, b}, {b, a}, {a, a}, {zero, zero}, {zero, a}, {a, zero}} {
		if Pair(pair[0], pair[1]) != pairOf(pair[0], pair[1]) {
			t.Errorf("%x", pair)
		}
	}
	if Pair(a, b) == Pair(b, a) {
		t.Error("the order plays no part")
	}
	if Pair(a, b) == Of(string(a[:]), string(b[:])) {
		t.Error("a pair is a text")
	}
}

func TestTree(t *testing.T) {
	a, b, c, d, e := digest(0), digest(1), digest(2), digest(3), digest(4)
	for i, one := range []struct{ got, want api.Digest }{
		{Tree(), Of()}, {Tree([]api.Digest{}...), Of()}, {Tree(a), a}, {Tree(api.Digest{}), api.Digest{}},
		{Tree(a, b), Pair(a, b)}, {Tree(b, a), Pair(b, a)}, {Tree(a, a), Pair(a, a)},
		{Tree(a, b, c), Pair(Pair(a, b), c)},
		{Tree(a, b, c, d), Pair(Pair(a, b), Pair(c, d))},
		{Tree(a, b, c, d, e), Pair(Pair(Pair(a, b), Pair(c, d)), e)},
	} {
		if one.got != one.want {
			t.Errorf("case %d", i)
		}
	}
	list := digests(140)
	for n := range len(list) + 1 {
		if Tree(list[:n]...) != treeOf(list[:n]) {
			t.Errorf("%d sums", n)
		}
	}
	if Tree(digests(4097)...) != treeOf(digests(4097)) {
		t.Error("4097 sums")
	}
}

// Rule 3: what is handed in is as it was, its spare room too.
func TestListsAreLeft(t *testing.T) {
	room := digests(20)
	for n := range len(room) {
		Tree(room[:n]...)
		if !slices.Equal(room, digests(20)) {
			t.Fatalf("of %d sums: the list was changed", n)
		}
	}
	parts := []string{"a", "b", "c", "d"}
	Of(parts[:2]...)
	if !slices.Equal(parts, []string{"a", "b", "c", "d"}) {
		t.Error("the parts were changed")
	}
}

// fraction: the first 32 bits of the fraction of a number's root of that power.
func fraction(n, power int64) uint32 {
	much := new(big.Int).Lsh(big.NewInt(n), uint(32*power))
	root := new(big.Int)
	for bit := 40; bit >= 0; bit-- {
		next := new(big.Int).SetBit(root, bit, 1)
		if new(big.Int).Exp(next, big.NewInt(power), nil).Cmp(much) <= 0 {
			root = next
		}
	}
	return uint32(root.Uint64())
}

func TestTables(t *testing.T) {
	at := 0
	for n := int64(2); at < len(constants); n++ {
		if !big.NewInt(n).ProbablyPrime(0) {
			continue
		}
		if at < len(firstWords) && firstWords[at] != fraction(n, 2) {
			t.Errorf("word %d: %08x, not %08x", at, firstWords[at], fraction(n, 2))
		}
		if constants[at] != fraction(n, 3) {
			t.Errorf("constant %d: %08x, not %08x", at, constants[at], fraction(n, 3))
		}
		at++
	}
}

// P2.2

func TestText(t *testing.T) {
	var rising, high api.Digest
	for i := range rising {
		rising[i] = byte(i*8 + i%8)
		high[i] = byte(255 - i)
	}
	for _, one := range []struct {
		d    api.Digest
		want string
	}{
		{api.Digest{}, strings.Repeat("00", 32)},
		{api.Digest{0: 0x0f, 31: 0xa9}, "0f" + strings.Repeat("00", 30) + "a9"},
		{api.Digest{0: 0xf0, 1: 0x12}, "f012" + strings.Repeat("00", 30)},
		{rising, "0009121b242d363f4049525b646d767f8089929ba4adb6bfc0c9d2dbe4edf6ff"},
		{high, "fffefdfcfbfaf9f8f7f6f5f4f3f2f1f0efeeedecebeae9e8e7e6e5e4e3e2e1e0"},
		{Of("abc"), abc},
	} {
		if got := Text(one.d); got != one.want {
			t.Errorf("%s, not %s", got, one.want)
		}
	}
}

func TestParseIsTheWayBack(t *testing.T) {
	list := append(digests(40), api.Digest{}, Of("abc"))
	for b := range 256 {
		for _, at := range []int{0, 1, 17, 31} {
			d := digest(b)
			d[at] = byte(b)
			list = append(list, d)
		}
	}
	for _, d := range list {
		if got, e := Parse(Text(d)); e != api.OK || got != d {
			t.Errorf("%s: %x, %d", Text(d), got, e)
		}
	}
	if d, e := Parse(abc); e != api.OK || d != Of("abc") {
		t.Error("abc", e)
	}
}

func TestParseErrors(t *testing.T) {
	list := []string{
		"", "a", "ab", abc[:62], abc[:63], abc + "0", abc + "00", abc + abc, " " + abc, abc + "\n", "0x" + abc, "0x" + abc[:62], "+" + abc[:63], abc[:63] + " ",
		strings.ToUpper(abc), strings.Repeat("A", 64), strings.Repeat(" ", 64), strings.Repeat("\x00", 64), strings.Repeat("é", 32), strings.Repeat("\uff10", 21) + "0",
	}
	for b := range 256 {
		if strings.IndexByte("0123456789abcdef", byte(b)) >= 0 {
			continue
		}
		for at := range 64 {
			list = append(list, abc[:at]+string([]byte{byte(b)})+abc[at+1:])
		}
	}
	for _, s := range list {
		if d, e := Parse(s); e != api.ErrForm || d != (api.Digest{}) {
			t.Errorf("%q: %x, %d", s, d, e)
		}
	}
}

// P2.3

func TestPartsPlayNoPart(t *testing.T) {
	for _, n := range []int{0, 1, 3, 55, 56, 57, 63, 64, 65, 119, 120, 127, 128, 129, 200} {
		s := mixed(n)
		want := Of(s)
		for i := range n + 1 {
			for j := i; j <= n; j++ {
				if Of(s[:i], s[i:j], s[j:]) != want {
					t.Fatalf("%d bytes, parted at %d and %d", n, i, j)
				}
			}
		}
		for size := 1; size <= 70; size++ {
			parts := []string{}
			for part := range slices.Chunk([]byte(s), size) {
				parts = append(parts, "", string(part))
			}
			if Of(append(parts, "")...) != want {
				t.Errorf("%d bytes, in parts of %d", n, size)
			}
		}
	}
}
