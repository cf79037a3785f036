package twin

import (
	"crypto/sha256"
	"encoding/binary"
	"math/rand"
	"slices"
	"strings"
	"testing"

	"coadjutor/api"
	"coadjutor/disk"
	"coadjutor/zone"
)

const (
	size = api.SectorSize
	most = 1<<31 - 1
)

// mixed: so many bytes, none like those beside it, other ones for each n.
func mixed(n, bytes int) string {
	all := make([]byte, bytes)
	for i := range all {
		all[i] = byte(i*7 + i/256 + n*31 + 1)
	}
	return string(all)
}

func zeros(sectors int) string {
	return strings.Repeat("\x00", sectors*size)
}

func numOf(n int) string {
	return string(binary.LittleEndian.AppendUint32(nil, uint32(n)))
}

func sumOf(s string) string {
	sum := sha256.Sum256([]byte(s))
	return string(sum[:])
}

// sectorsFor: how many sectors a text of so many bytes has, by counting.
func sectorsFor(bytes int) int {
	count := 0
	for count*28 < 36+bytes {
		count++
	}
	return count
}

// longest: how many bytes a text has at most, that has so many sectors.
func longest(sectors int) int {
	return min(28*sectors-36, 1024)
}

// bytesOf: a sealed text's bytes, without the numbers, by the library.
func bytesOf(s string) string {
	rest := numOf(len(s)) + s
	rest += strings.Repeat("\x00", 28*sectorsFor(len(s))-32-len(rest))
	return sumOf(rest) + rest
}

// laid: a sealed text's sectors, joined.
func laid(n int, s string) string {
	all := ""
	for part := range slices.Chunk([]byte(bytesOf(s)), 28) {
		all += string(part) + numOf(n)
	}
	return all
}

// copyWith: the places of a copy, so many, that has a text and zeros behind it.
func copyWith(places, n int, s string) string {
	all := laid(n, s)
	return all + zeros(places-len(all)/size)
}

// told: the sealed text that a copy's bytes are, read as the document has it; false, if they are none.
func told(half string) (string, int, bool) {
	bytes, nums := "", []int{}
	for part := range slices.Chunk([]byte(half), size) {
		bytes += string(part[:28])
		nums = append(nums, int(binary.LittleEndian.Uint32(part[28:])))
	}
	length := int(binary.LittleEndian.Uint32([]byte(bytes[32:36])))
	if length > 1024 || sectorsFor(length) > len(nums) {
		return "", 0, false
	}
	nums = nums[:sectorsFor(length)]
	if nums[0] < 1 || nums[0] > most || slices.Max(nums) != nums[0] || slices.Min(nums) != nums[0] {
		return "", 0, false
	}
	text := bytes[36 : 36+length]
	return text, nums[0], bytes[:28*len(nums)] == bytesOf(text)
}

// state is what a twin tells.
type state struct {
	text string
	gen  int
	side int
}

// lastOf: what is to be opened in a zone with these bytes; false, if nothing is.
func lastOf(all string) (state, bool) {
	one, n, first := told(all[:len(all)/2])
	two, m, second := told(all[len(all)/2:])
	if second && (!first || m > n) {
		return state{two, m, 1}, true
	}
	if !first {
		return state{}, false
	}
	return state{one, n, 0}, true
}

func made(t *testing.T, d *disk.Disk, from, count int) *zone.Zone {
	t.Helper()
	z, err := zone.New(d, from, count)
	if err != api.OK {
		t.Fatalf("zone.New(%d, %d): %d", from, count, err)
	}
	return z
}

// over: a zone of all of a disk with these bytes.
func over(t *testing.T, all string) *zone.Zone {
	t.Helper()
	return made(t, disk.Of(all), 0, len(all)/size)
}

func fine(t *testing.T, name string, err api.Errno) {
	t.Helper()
	if err != api.OK {
		t.Fatalf("%s: %d", name, err)
	}
}

// now: a disk's bytes, as they were written last.
func now(t *testing.T, d *disk.Disk) string {
	t.Helper()
	all := ""
	for at := range d.Len() {
		s, err := d.Read(at)
		fine(t, "read", err)
		all += s
	}
	return all
}

func shows(t *testing.T, name string, w *Twin, want state) {
	t.Helper()
	if w == nil {
		t.Fatalf("%s: no twin", name)
	}
	// Asked twice, since to ask changes nothing.
	for range 2 {
		if w.Text() != want.text || w.Gen() != want.gen || w.Side() != want.side {
			t.Fatalf("%s: %.50q, %d, %d; not %.50q, %d, %d", name, w.Text(), w.Gen(), w.Side(), want.text, want.gen, want.side)
		}
	}
}

func formatted(t *testing.T, z *zone.Zone, s string) *Twin {
	t.Helper()
	w, err := Format(z, s)
	fine(t, "format", err)
	shows(t, "format", w, state{s, 1, 0})
	return w
}

// opened: whether a zone is opened as what is told.
func opened(t *testing.T, name string, z *zone.Zone, want state) *Twin {
	t.Helper()
	w, err := Open(z)
	fine(t, name, err)
	shows(t, name, w, want)
	return w
}

// unopened: whether a zone isn't opened.
func unopened(t *testing.T, name string, z *zone.Zone, want api.Errno) {
	t.Helper()
	if w, err := Open(z); w != nil || err != want {
		t.Fatalf("%s: Open: %v, %d; not %d", name, w, err, want)
	}
}

// asTold: whether a zone is opened as its bytes say.
func asTold(t *testing.T, name string, z *zone.Zone) {
	t.Helper()
	all, err := z.All()
	fine(t, name, err)
	if want, ok := lastOf(all); ok {
		opened(t, name, z, want)
		return
	}
	unopened(t, name, z, api.ErrForm)
}

func wrongSizes() []int {
	return []int{1, 2, 3, 5, 7, 9, 11, 31, 33, 75, 77, 127, 4095}
}

func longTexts() []string {
	return []string{mixed(1, 1025), zeros(33), mixed(2, 1028), mixed(3, 1029), mixed(4, 2048), mixed(5, 1<<16)}
}

// stays: a zone in the middle of a disk, that nothing is done to; whether the power is there, a fuse of 0.
func stays(t *testing.T, sectors int, on bool, try func(z *zone.Zone)) {
	t.Helper()
	image := mixed(sectors, min(sectors+80, api.MaxSectors)*size)
	d := disk.Of(image)
	z := made(t, d, min(1, d.Len()-sectors), sectors)
	d.Fuse(0, true)
	if !on {
		d.Cut()
	}
	try(z)
	if d.IsOn() != on || d.Done() != 0 || d.Loose() != 0 || d.Image() != image || on && now(t, d) != image {
		t.Fatalf("%d sectors, on %v: something was changed", sectors, on)
	}
}

// maskOf: which of so many writes are kept.
func maskOf(mask, count int) []bool {
	keep := make([]bool, count)
	for i := range keep {
		keep[i] = mask>>i&1 == 1
	}
	return keep
}

// write is a sector's, on the way to a disk; a sync has no bytes.
type write struct {
	at    int
	bytes string
}

// fills: the writes that make the sectors from one on 0; old is what the disk has.
func fills(old string, from, count int) []write {
	list := []write{}
	for at := from; at < from+count; at++ {
		if old[at*size:(at+1)*size] != zeros(1) {
			list = append(list, write{at, zeros(1)})
		}
	}
	return list
}

// puts: the writes of a text, from a sector on.
func puts(from, n int, s string) []write {
	list := []write{}
	for part := range slices.Chunk([]byte(laid(n, s)), size) {
		list = append(list, write{from + len(list), string(part)})
	}
	return list
}

// formatOf: all that a Format of the zone from one sector on does.
func formatOf(old string, from, count int, s string) []write {
	return append(append(fills(old, from, count), puts(from, 1, s)...), write{})
}

// saveOf: all that a Save to the copy from one sector on does.
func saveOf(old string, from, count, n int, s string) []write {
	list := append(fills(old, from, count), write{})
	return append(append(list, puts(from, n, s)...), write{})
}

func set(image, bytes string, at int) string {
	return image[:at*size] + bytes + image[(at+1)*size:]
}

// after: what is safe when the power goes behind so many of the writes.
func after(image string, list []write, count int, keep []bool) string {
	loose := []write{}
	for _, w := range list[:count] {
		if w.bytes != "" {
			loose = append(loose, w)
			continue
		}
		for _, l := range loose {
			image = set(image, l.bytes, l.at)
		}
		loose = nil
	}
	for i, l := range loose {
		if i < len(keep) && keep[i] {
			image = set(image, l.bytes, l.at)
		}
	}
	return image
}

// looseAt: how many of the first writes aren't synced.
func looseAt(list []write, count int) int {
	loose := 0
	for _, w := range list[:count] {
		loose++
		if w.bytes == "" {
			loose = 0
		}
	}
	return loose
}

// losses: each place in a row of writes at which the power can go, with each way to keep some.
func losses(list []write, try func(fuse int, keep []bool)) {
	for fuse := range list {
		loose := looseAt(list, fuse)
		for mask := range 1 << loose {
			try(fuse, maskOf(mask, loose))
		}
	}
}

// P7.1: Format

func TestNil(t *testing.T) {
	for _, s := range append(longTexts(), "", "a", mixed(1, 1024)) {
		if w, err := Format(nil, s); w != nil || err != api.ErrNil {
			t.Errorf("Format(nil, %.30q): %v, %d", s, w, err)
		}
		var w *Twin
		if err := w.Save(s); err != api.ErrNil {
			t.Errorf("of nil: Save(%.30q): %d", s, err)
		}
	}
	unopened(t, "nil", nil, api.ErrNil)
	var w *Twin
	if w.Text() != "" || w.Gen() != 0 || w.Side() != 0 {
		t.Error(w.Text(), w.Gen(), w.Side())
	}
}

func TestFormatThatCant(t *testing.T) {
	refused := func(z *zone.Zone, s string) {
		t.Helper()
		if w, err := Format(z, s); w != nil || err != api.ErrArg {
			t.Fatalf("of %d: Format(%.30q of %d): %v, %d", z.Len(), s, len(s), w, err)
		}
	}
	for _, on := range []bool{true, false} {
		for _, sectors := range wrongSizes() {
			stays(t, sectors, on, func(z *zone.Zone) {
				for _, s := range append(longTexts(), "", "a", mixed(1, 100)) {
					refused(z, s)
				}
			})
		}
		for half := 2; half <= 41; half++ {
			stays(t, 2*half, on, func(z *zone.Zone) {
				for _, s := range longTexts() {
					refused(z, s)
				}
				for length := longest(half) + 1; length <= 1025; length += 9 {
					refused(z, mixed(length, length))
				}
			})
		}
	}
}

// The whole zone is made 0 but for the text, and that is safe; no other sector is changed.
func TestFormat(t *testing.T) {
	for half := 2; half <= 41; half++ {
		image := mixed(half, (2*half+7)*size)
		for _, length := range []int{0, 1, longest(half) / 2, longest(half) - 1, longest(half)} {
			d := disk.Of(image)
			z := made(t, d, 3, 2*half)
			s := mixed(length, length)
			w := formatted(t, z, s)
			want := image[:3*size] + copyWith(2*half, 1, s) + image[(2*half+3)*size:]
			if d.Image() != want || now(t, d) != want || d.Loose() != 0 || d.Done() != 2*half+sectorsFor(length)+1 {
				t.Fatalf("%d sectors, %d bytes: %d done, %d loose", 2*half, length, d.Done(), d.Loose())
			}
			if w.Zone != z || w.Disk != d || w.Len() != 2*half || !w.IsOn() {
				t.Fatal("it embeds another zone")
			}
			opened(t, "what was formatted", z, state{s, 1, 0})
		}
	}
}

// Sectors that are 0 already aren't filled; what is put is written, and synced with all that was loose on the disk.
func TestFormatOfZeros(t *testing.T) {
	d := disk.New(10)
	z := made(t, d, 1, 8)
	fine(t, "beside it", d.Write(9, mixed(1, size)))
	formatted(t, z, "a")
	if d.Done() != 4 || d.Loose() != 0 || d.Image() != zeros(1)+copyWith(8, 1, "a")+mixed(1, size) {
		t.Error(d.Done(), d.Loose())
	}
	formatted(t, z, "a")
	if d.Done() != 9 || d.Loose() != 0 || d.Image() != zeros(1)+copyWith(8, 1, "a")+mixed(1, size) {
		t.Error(d.Done(), d.Loose())
	}
}

// What was there ahead of it plays no part, whatever its number was.
func TestFormatOfTwin(t *testing.T) {
	for _, n := range []int{1, 2, most} {
		for _, m := range []int{1, 2, most} {
			z := over(t, copyWith(4, n, "one")+copyWith(4, m, mixed(1, 60)))
			w := formatted(t, z, "new")
			fine(t, "save", w.Save("newer"))
			shows(t, "save", w, state{"newer", 2, 1})
			if z.Image() != copyWith(4, 1, "new")+copyWith(4, 2, "newer") {
				t.Errorf("%q", z.Image())
			}
		}
	}
}

func TestFormatAway(t *testing.T) {
	for _, image := range []string{zeros(8), mixed(1, 8*size), copyWith(4, 1, "a") + zeros(4)} {
		z := over(t, image)
		z.Cut()
		if w, err := Format(z, "b"); w != nil || err != api.ErrDown {
			t.Errorf("away: %v, %d", w, err)
		}
		if z.Image() != image || z.Done() != 0 {
			t.Error("something was changed")
		}
	}
}

func TestFormatMeetsFuse(t *testing.T) {
	sealed := copyWith(2, 5, "old") + copyWith(2, 6, "older")
	for _, image := range []string{zeros(6), mixed(1, 6*size), zeros(1) + sealed + zeros(1), mixed(1, size) + sealed + mixed(2, size)} {
		list := formatOf(image, 1, 4, "new")
		losses(list, func(fuse int, keep []bool) {
			d := disk.Of(image)
			z := made(t, d, 1, 4)
			d.Fuse(fuse, keep...)
			if w, err := Format(z, "new"); w != nil || err != api.ErrDown {
				t.Fatalf("a fuse of %d: %v, %d", fuse, w, err)
			}
			if d.IsOn() || d.Done() != fuse || d.Image() != after(image, list, fuse, keep) {
				t.Fatalf("a fuse of %d that keeps %v: %q", fuse, keep, d.Image())
			}
			d.Come()
			asTold(t, "behind the loss", z)
		})
		d := disk.Of(image)
		d.Fuse(len(list))
		formatted(t, made(t, d, 1, 4), "new")
		d.Cut()
		if d.Image() != after(image, list, len(list), nil) {
			t.Error("what was formatted isn't safe")
		}
	}
}

// P7.1: Open

func TestOpenThatCant(t *testing.T) {
	for _, on := range []bool{true, false} {
		for _, sectors := range wrongSizes() {
			stays(t, sectors, on, func(z *zone.Zone) {
				unopened(t, "no zone that can be", z, api.ErrArg)
			})
		}
	}
	// A text stands at its place 0; but the zone can't be.
	for _, sectors := range []int{2, 3, 5, 7} {
		unopened(t, "a text in a zone that can't be", over(t, copyWith(sectors, 1, "a")), api.ErrArg)
	}
	opened(t, "just as many as can be", over(t, copyWith(4, 1, "a")), state{"a", 1, 0})
}

// While the power is away nothing is told of what stands there.
func TestOpenAway(t *testing.T) {
	for _, image := range []string{zeros(4), mixed(1, 8*size), copyWith(2, 1, "a") + copyWith(2, 2, "b"), copyWith(3, 1, "a") + zeros(3)} {
		z := over(t, image)
		z.Cut()
		unopened(t, "away", z, api.ErrDown)
		z.Come()
		asTold(t, "it came", z)
	}
}

// Each copy is a text with any number, or none that can be got.
func TestOpen(t *testing.T) {
	for _, half := range []int{2, 3, 5, 38, 40} {
		list := []string{zeros(half), mixed(7, half*size), strings.Repeat("\xff", half*size)}
		for _, n := range []int{1, 2, 3, 255, 256, 257, 1 << 16, 1 << 24, 1<<24 + 1, most - 1, most} {
			list = append(list, copyWith(half, n, mixed(n, longest(half)-n%3)))
		}
		whole := copyWith(half, 5, "whole")
		list = append(list, whole, copyWith(half, 0, "no number"), copyWith(half, 1<<31, "no number"))
		// Another sum, another length, another number in the second sector.
		list = append(list, "\x01\x02"+whole[2:], whole[:36]+"\x07"+whole[37:], whole[:60]+"\x06"+whole[61:])
		for _, one := range list {
			for _, two := range list {
				z := over(t, one+two)
				asTold(t, "both", z)
				z.Cut()
				if z.Image() != one+two || z.Done() != 0 {
					t.Fatal("what is opened is changed")
				}
			}
		}
	}
}

func TestOpenKnown(t *testing.T) {
	a, b := copyWith(3, 6, "a"), copyWith(3, 7, "b")
	opened(t, "the second one's number is greater", over(t, a+b), state{"b", 7, 1})
	opened(t, "the first one's number is greater", over(t, b+a), state{"b", 7, 0})
	opened(t, "the same number", over(t, a+copyWith(3, 6, "c")), state{"a", 6, 0})
	opened(t, "the first one alone", over(t, a+zeros(3)), state{"a", 6, 0})
	opened(t, "the second one alone", over(t, zeros(3)+a), state{"a", 6, 1})
	opened(t, "both, and the greatest", over(t, copyWith(3, most, "x")+copyWith(3, most-1, "y")), state{"x", most, 0})
	opened(t, "an empty text", over(t, zeros(3)+copyWith(3, 1, "")), state{"", 1, 1})
	opened(t, "an empty text that is the last one", over(t, a+copyWith(3, 7, "")), state{"", 7, 1})
	unopened(t, "none", over(t, zeros(6)), api.ErrForm)
	unopened(t, "none", over(t, mixed(1, 6*size)), api.ErrForm)
	unopened(t, "a text, but at no copy's place", over(t, zeros(1)+a+zeros(2)), api.ErrForm)
}

// A text that is whole, but has more sectors than half the zone, is no copy; nor is one that the zone's end cuts off.
func TestOpenReachesOver(t *testing.T) {
	for half := 2; half <= 37; half++ {
		s := mixed(half, longest(half)+1)
		z := over(t, copyWith(2*half, most, s))
		unopened(t, "over the middle", z, api.ErrForm)
		d := disk.Of(copyWith(half, 3, "first") + laid(9, s) + zeros(1))
		z = made(t, d, 0, 2*half)
		opened(t, "over the end", z, state{"first", 3, 0})
		d = disk.Of(zeros(half) + laid(9, s) + zeros(1))
		unopened(t, "over the end", made(t, d, 0, 2*half), api.ErrForm)
		s = mixed(half, longest(half))
		opened(t, "just as many", over(t, laid(9, s)+laid(8, s)), state{s, 9, 0})
		opened(t, "just as many", over(t, laid(8, s)+laid(9, s)), state{s, 9, 1})
	}
}

// The first text's bytes go on in the second copy's places, and are a sealed text there.
func TestOpenWithin(t *testing.T) {
	for half := 2; half <= 20; half++ {
		inner := mixed(half, longest(half)/2)
		outer := mixed(1, 28*half-36) + bytesOf(inner)
		z := over(t, copyWith(2*half, 4, outer))
		opened(t, "the one within", z, state{inner, 4, 1})
	}
}

// What is opened is what was written last, safe or not; to open changes nothing, and burns no fuse.
func TestOpenLooksAtLast(t *testing.T) {
	d := disk.Of(copyWith(2, 3, "a") + copyWith(2, 2, "b"))
	z := made(t, d, 0, 4)
	for _, w := range puts(2, 4, "c") {
		fine(t, "write", d.Write(w.at, w.bytes))
	}
	image := d.Image()
	d.Fuse(0, true, true)
	opened(t, "loose", z, state{"c", 4, 1})
	if !d.IsOn() || d.Loose() != 2 || d.Done() != 2 || d.Image() != image {
		t.Error("something was changed")
	}
	d.Cut()
	d.Come()
	opened(t, "it was lost", z, state{"a", 3, 0})
}

func TestOpenEmbeds(t *testing.T) {
	d := disk.Of(mixed(1, 2*size) + copyWith(2, 1, "a") + zeros(2) + mixed(2, size))
	z := made(t, d, 2, 4)
	w := opened(t, "a zone in the middle", z, state{"a", 1, 0})
	if w.Zone != z || w.Disk != d || w.Len() != 4 {
		t.Error("it embeds another zone")
	}
	if s, err := w.All(); err != api.OK || s != copyWith(2, 1, "a")+zeros(2) {
		t.Error(err)
	}
	// A twin's own calls don't hide a zone's: what they change is the zone, and no more.
	fine(t, "fill", w.Fill('x'))
	if w.Loose() != 4 || now(t, d) != mixed(1, 2*size)+strings.Repeat("x", 4*size)+mixed(2, size) {
		t.Error("another fill")
	}
	shows(t, "the text stays", w, state{"a", 1, 0})
	unopened(t, "filled", z, api.ErrForm)
}

// P7.2

// keeps: whether a call that is refused changes nothing.
func keeps(t *testing.T, name string, w *Twin, s string, want api.Errno) {
	t.Helper()
	was := state{w.Text(), w.Gen(), w.Side()}
	on, image, done, loose := w.IsOn(), w.Image(), w.Done(), w.Loose()
	for range 2 {
		if err := w.Save(s); err != want {
			t.Fatalf("%s: Save(%.30q of %d): %d, not %d", name, s, len(s), err, want)
		}
	}
	if w.IsOn() != on || w.Image() != image || w.Done() != done || w.Loose() != loose {
		t.Fatalf("%s: something was changed", name)
	}
	shows(t, name, w, was)
}

func TestSaveThatCant(t *testing.T) {
	for half := 2; half <= 41; half++ {
		z := over(t, zeros(2*half))
		w := formatted(t, z, "first")
		z.Fuse(0)
		for _, s := range longTexts() {
			keeps(t, "too long", w, s, api.ErrArg)
		}
		for length := longest(half) + 1; length <= 1025; length += 9 {
			keeps(t, "too many sectors", w, mixed(length, length), api.ErrArg)
		}
		z.Fuse(-1)
		s := mixed(half, longest(half))
		fine(t, "the longest", w.Save(s))
		shows(t, "the longest", w, state{s, 2, 1})
		fine(t, "the longest, again", w.Save(s))
		shows(t, "the longest, again", w, state{s, 3, 0})
		if z.Image() != laid(3, s)+zeros(half-sectorsFor(len(s)))+laid(2, s)+zeros(half-sectorsFor(len(s))) {
			t.Fatalf("half %d: other bytes", half)
		}
	}
}

func TestSaveFull(t *testing.T) {
	for side, image := range []string{copyWith(3, most, "last") + copyWith(3, most-1, "the one ahead"), zeros(3) + copyWith(3, most, "last")} {
		w := opened(t, "full", over(t, image), state{"last", most, side})
		w.Fuse(0)
		keeps(t, "full", w, "x", api.ErrFull)
		keeps(t, "full", w, "", api.ErrFull)
		keeps(t, "full, too long", w, mixed(1, longest(3)+1), api.ErrArg)
		w.Cut()
		keeps(t, "full, away", w, "x", api.ErrFull)
		keeps(t, "full, too long, away", w, mixed(1, longest(3)+1), api.ErrArg)
	}
	z := over(t, zeros(3)+copyWith(3, most-1, "one ahead"))
	w := opened(t, "one ahead", z, state{"one ahead", most - 1, 1})
	fine(t, "the last number", w.Save("last"))
	shows(t, "the last number", w, state{"last", most, 0})
	keeps(t, "full", w, "x", api.ErrFull)
	opened(t, "the last number", z, state{"last", most, 0})
}

// Behind an ErrDown: the errors that are named ahead of it are answered still.
func TestSaveFullDown(t *testing.T) {
	w := opened(t, "one ahead", over(t, copyWith(2, most-1, "a")+zeros(2)), state{"a", most - 1, 0})
	w.Fuse(1)
	if err := w.Save("b"); err != api.ErrDown {
		t.Fatal(err)
	}
	for range 2 {
		keeps(t, "down", w, "b", api.ErrDown)
		keeps(t, "down, too long", w, mixed(1, 21), api.ErrArg)
		w.Come()
	}
	fine(t, "save", opened(t, "open", w.Zone, state{"a", most - 1, 0}).Save("b"))
	// Another twin of the zone has made it full.
	keeps(t, "down", w, "c", api.ErrDown)
	keeps(t, "full", opened(t, "open", w.Zone, state{"b", most, 1}), "c", api.ErrFull)
}

// Of each save: the bytes, the writes and syncs, what is told, and what is opened.
func TestSave(t *testing.T) {
	for _, half := range []int{2, 3, 4, 7, 38, 40} {
		image := mixed(half, (2*half+5)*size)
		d := disk.Of(image)
		z := made(t, d, 2, 2*half)
		w := formatted(t, z, "first")
		parts := []string{copyWith(half, 1, "first"), zeros(half)}
		for i, length := range []int{0, longest(half), 1, longest(half), longest(half), 0, 0, longest(half) / 2, longest(half) - 1} {
			s, gen, side := mixed(i, length), i+2, (i+1)%2
			old, done := d.Image(), d.Done()
			list := saveOf(old, 2+side*half, half, gen, s)
			fine(t, "save", w.Save(s))
			parts[side] = copyWith(half, gen, s)
			want := image[:2*size] + strings.Join(parts, "") + image[(2+2*half)*size:]
			if d.Image() != want || now(t, d) != want || d.Loose() != 0 || d.Done() != done+len(list) {
				t.Fatalf("half %d, save %d: %d done, not %d; %d loose", half, i, d.Done()-done, len(list), d.Loose())
			}
			shows(t, "save", w, state{s, gen, side})
			opened(t, "what was saved", z, state{s, gen, side})
			d.Cut()
			if d.Image() != want {
				t.Fatal("it isn't safe")
			}
			d.Come()
			opened(t, "what was safe", z, state{s, gen, side})
		}
	}
}

// A text that is as the last one is a save as any.
func TestSaveTheSame(t *testing.T) {
	d := disk.New(4)
	w := formatted(t, made(t, d, 0, 4), "same")
	for i := range 6 {
		done := d.Done()
		fine(t, "save", w.Save("same"))
		shows(t, "save", w, state{"same", i + 2, (i + 1) % 2})
		if i > 0 && d.Done() != done+6 {
			t.Error(d.Done() - done)
		}
	}
	if d.Image() != laid(7, "same")+laid(6, "same") {
		t.Error("other bytes")
	}
}

// What was opened goes on from there, whichever copy the last one is, and whatever stands in the other one.
func TestSaveOfOpened(t *testing.T) {
	for _, other := range []string{zeros(3), mixed(1, 3*size), copyWith(3, 8, "other"), copyWith(3, 1, mixed(2, 48)), copyWith(3, 0, "none")} {
		last := copyWith(3, 8, "last")
		z := over(t, last+other)
		w := opened(t, "first", z, state{"last", 8, 0})
		fine(t, "save", w.Save("new"))
		shows(t, "save", w, state{"new", 9, 1})
		if z.Image() != last+copyWith(3, 9, "new") {
			t.Error("other bytes")
		}
		last = copyWith(3, 9, "last")
		z = over(t, other+last)
		w = opened(t, "second", z, state{"last", 9, 1})
		fine(t, "save", w.Save("new"))
		shows(t, "save", w, state{"new", 10, 0})
		if z.Image() != copyWith(3, 10, "new")+last {
			t.Error("other bytes")
		}
	}
}

// The power is away when Save is asked; from then on it says so, also when the power is there again.
func TestSaveAway(t *testing.T) {
	for _, other := range []string{zeros(2), copyWith(2, 2, "other")} {
		z := over(t, copyWith(2, 3, "last")+other)
		w := opened(t, "open", z, state{"last", 3, 0})
		z.Cut()
		keeps(t, "away", w, "new", api.ErrDown)
		z.Come()
		keeps(t, "it came", w, "new", api.ErrDown)
		keeps(t, "it came, too long", w, mixed(1, 21), api.ErrArg)
		w = opened(t, "opened again", z, state{"last", 3, 0})
		fine(t, "opened again", w.Save("new"))
		shows(t, "opened again", w, state{"new", 4, 1})
	}
}

// The power went and came while nobody asked: what was saved is safe, so it goes on.
func TestSaveBehindLoss(t *testing.T) {
	z := over(t, zeros(4))
	w := formatted(t, z, "a")
	fine(t, "save", w.Save("b"))
	z.Cut()
	z.Come()
	fine(t, "save", w.Save("c"))
	shows(t, "save", w, state{"c", 3, 0})
	opened(t, "save", z, state{"c", 3, 0})
	// A save that is refused for its text isn't one that was ErrDown.
	z.Cut()
	keeps(t, "too long", w, mixed(1, 21), api.ErrArg)
	z.Come()
	fine(t, "save", w.Save("d"))
	shows(t, "save", w, state{"d", 4, 1})
}

// All that is loose on the disk is synced with it; and has its places ahead of the twin's writes.
func TestSaveWithLoose(t *testing.T) {
	image := copyWith(2, 3, "last") + copyWith(2, 2, "other") + zeros(2)
	a, b := mixed(1, size), mixed(2, size)
	list := append([]write{{4, a}, {5, b}, {4, b}}, saveOf(image, 2, 2, 4, "new")...)
	for fuse := 3; fuse <= len(list); fuse++ {
		loose := looseAt(list, fuse)
		for mask := range 1 << loose {
			d := disk.Of(image)
			w := opened(t, "open", made(t, d, 0, 4), state{"last", 3, 0})
			for _, l := range list[:3] {
				fine(t, "write", d.Write(l.at, l.bytes))
			}
			keep := maskOf(mask, loose)
			d.Fuse(fuse-3, keep...)
			err := w.Save("new")
			if (err == api.OK) != (fuse == len(list)) || err != api.OK && err != api.ErrDown {
				t.Fatalf("a fuse of %d: %d", fuse, err)
			}
			if d.Image() != after(image, list, fuse, keep) {
				t.Fatalf("a fuse of %d that keeps %v: %q", fuse, keep, d.Image())
			}
		}
	}
}

// P7.3

// begun: zones with a twin, of each kind that a save can find.
func begun() []string {
	list := []string{}
	for _, s := range []string{"", "a", mixed(1, 48), mixed(2, 76)} {
		list = append(list, copyWith(4, 1, s)+zeros(4))
		for _, u := range []string{"b", mixed(3, 60), mixed(4, 76)} {
			list = append(list, copyWith(4, 6, s)+copyWith(4, 5, u), copyWith(4, 5, u)+copyWith(4, 6, s), copyWith(4, 6, u)+copyWith(4, 6, s))
		}
	}
	torn := copyWith(4, 9, mixed(5, 76))
	return append(list, copyWith(4, 8, "last")+torn[:2*size]+zeros(2), zeros(1)+torn[size:]+copyWith(4, 8, "last"), copyWith(4, most-1, "x")+mixed(1, 4*size))
}

// The power goes at each write and sync of a save, whatever is kept.
func TestSaveMeetsFuse(t *testing.T) {
	for _, image := range begun() {
		for _, s := range []string{"", "new", mixed(7, 20), mixed(8, 21), mixed(9, 76)} {
			was, ok := lastOf(image)
			if !ok {
				t.Fatal("no twin")
			}
			list := saveOf(image, 4*(1-was.side), 4, was.gen+1, s)
			losses(list, func(fuse int, keep []bool) {
				lossAs(t, image, s, was, list, fuse, keep)
			})
			z := over(t, image)
			w := opened(t, "open", z, was)
			z.Fuse(len(list))
			fine(t, "a fuse that is long enough", w.Save(s))
			shows(t, "a fuse that is long enough", w, state{s, was.gen + 1, 1 - was.side})
			z.Cut()
			z.Come()
			opened(t, "a fuse that is long enough", z, state{s, was.gen + 1, 1 - was.side})
		}
	}
}

// lossAs: a save that meets a loss; what is opened behind it is as it was, or the new one, and it can be saved again.
func lossAs(t *testing.T, image, s string, was state, list []write, fuse int, keep []bool) {
	t.Helper()
	z := over(t, image)
	w := opened(t, "open", z, was)
	z.Fuse(fuse, keep...)
	if err := w.Save(s); err != api.ErrDown || z.IsOn() || z.Done() != fuse {
		t.Fatalf("a fuse of %d: %d, %d done", fuse, err, z.Done())
	}
	want := after(image, list, fuse, keep)
	if z.Image() != want {
		t.Fatalf("a fuse of %d that keeps %v: %q", fuse, keep, z.Image())
	}
	unopened(t, "away", z, api.ErrDown)
	z.Come()
	if err := w.Save(s); err != api.ErrDown || z.Done() != fuse || now(t, z.Disk) != want {
		t.Fatalf("the power came: %d", err)
	}
	found := was
	// The new one is there if all its sectors were kept: the power went at the last sync then.
	if fuse == len(list)-1 && !slices.Contains(keep, false) {
		found = state{s, was.gen + 1, 1 - was.side}
	}
	w = opened(t, "behind the loss", z, found)
	if found.gen < most {
		fine(t, "a save behind it", w.Save("more"))
		shows(t, "a save behind it", w, state{"more", found.gen + 1, 1 - found.side})
		opened(t, "a save behind it", z, state{"more", found.gen + 1, 1 - found.side})
	}
}

// The power goes in each of some saves, one behind the other, opened again between.
func TestLossBehindLoss(t *testing.T) {
	r := rand.New(rand.NewSource(7))
	for range 400 {
		d := disk.Of(mixed(1, 12*size))
		z := made(t, d, 1, 10)
		w := formatted(t, z, "first")
		was := state{"first", 1, 0}
		for range 20 {
			s := mixed(r.Intn(99), r.Intn(longest(5)+1))
			next := state{s, was.gen + 1, 1 - was.side}
			d.Fuse(r.Intn(14), maskOf(r.Intn(1<<10), 10)...)
			if err := w.Save(s); err == api.OK {
				was = next
				d.Fuse(-1)
				shows(t, "saved", w, was)
				continue
			}
			d.Come()
			again, err := Open(z)
			fine(t, "open", err)
			found := state{again.Text(), again.Gen(), again.Side()}
			if found != was && found != next {
				t.Fatalf("opened: %v; it was %v, or %v", found, was, next)
			}
			w, was = again, found
		}
	}
}

// Twins share nothing.

func TestTwoTwins(t *testing.T) {
	d := disk.Of(mixed(1, 13*size))
	a := formatted(t, made(t, d, 0, 6), "a")
	b := formatted(t, made(t, d, 6, 6), "b")
	fine(t, "a", a.Save("aa"))
	shows(t, "b", b, state{"b", 1, 0})
	fine(t, "b", b.Save("bb"))
	fine(t, "a", a.Save("aaa"))
	shows(t, "a", a, state{"aaa", 3, 0})
	shows(t, "b", b, state{"bb", 2, 1})
	// It goes in a save of one of them: only that one is behind an ErrDown.
	d.Fuse(0)
	if err := a.Save("lost"); err != api.ErrDown {
		t.Error(err)
	}
	d.Come()
	keeps(t, "a", a, "lost", api.ErrDown)
	fine(t, "b", b.Save("bbb"))
	opened(t, "a", a.Zone, state{"aaa", 3, 0})
	opened(t, "b", b.Zone, state{"bbb", 3, 0})
}

// Rows of commands, held against a disk and a twin that are made of bytes alone.

// model is a disk with a zone in it, and what a twin of it is to tell.
type model struct {
	safe, last string
	loose      []write
	on         bool
	fuse       int
	keep       []bool
	done       int
	from, size int
	twin       state
	is, down   bool
}

func (m *model) fall(keep []bool) {
	for i, w := range m.loose {
		if i < len(keep) && keep[i] {
			m.safe = set(m.safe, w.bytes, w.at)
		}
	}
	m.last, m.loose, m.on, m.fuse = m.safe, nil, false, -1
}

// work: a row of writes is done, or ended by the loss of the power.
func (m *model) work(list []write) api.Errno {
	for _, w := range list {
		if m.on && m.fuse == 0 {
			m.fall(m.keep)
		}
		if !m.on {
			return api.ErrDown
		}
		m.fuse--
		m.done++
		if w.bytes == "" {
			m.safe, m.loose = m.last, nil
			continue
		}
		m.last, m.loose = set(m.last, w.bytes, w.at), append(m.loose, w)
	}
	return api.OK
}

func (m *model) save(s string) api.Errno {
	half := m.size / 2
	switch {
	case !m.is:
		return api.ErrNil
	case len(s) > longest(half):
		return api.ErrArg
	case m.twin.gen == most:
		return api.ErrFull
	case m.down || !m.on:
		m.down = true
		return api.ErrDown
	}
	next := state{s, m.twin.gen + 1, 1 - m.twin.side}
	if err := m.work(saveOf(m.last, m.from+next.side*half, half, next.gen, s)); err != api.OK {
		m.down = true
		return err
	}
	m.twin = next
	return api.OK
}

func (m *model) format(s string) api.Errno {
	m.is, m.down, m.twin = false, false, state{}
	if len(s) > longest(m.size/2) {
		return api.ErrArg
	}
	if err := m.work(formatOf(m.last, m.from, m.size, s)); err != api.OK {
		return err
	}
	m.is, m.twin = true, state{s, 1, 0}
	return api.OK
}

func (m *model) open() api.Errno {
	m.is, m.down, m.twin = false, false, state{}
	if !m.on {
		return api.ErrDown
	}
	found, ok := lastOf(m.last[m.from*size : (m.from+m.size)*size])
	if !ok {
		return api.ErrForm
	}
	m.is, m.twin = true, found
	return api.OK
}

// walk: a row of commands, three bytes each, done to both.
func walk(t *testing.T, row []byte) {
	t.Helper()
	if len(row) < 3 {
		return
	}
	half := 2 + int(row[0]%4)
	image := mixed(int(row[1]), (2*half+3)*size)
	if row[2]%2 == 0 {
		image = zeros(2) + copyWith(half, most-int(row[2]/2%4), "old") + copyWith(half, most-2, "older") + zeros(1)
	}
	d := disk.Of(image)
	z := made(t, d, 2, 2*half)
	m := &model{safe: image, last: image, on: true, fuse: -1, from: 2, size: 2 * half}
	var w *Twin
	for command := range slices.Chunk(row[3:], 3) {
		if len(command) == 3 {
			w = turn(t, m, z, w, int(command[0]), int(command[1]), int(command[2]))
		}
	}
}

// turn: one command of a row; the twin behind it.
func turn(t *testing.T, m *model, z *zone.Zone, w *Twin, kind, a, b int) *Twin {
	t.Helper()
	s := mixed(a, b%(longest(m.size/2)+4))
	got, want := api.OK, api.OK
	switch kind % 10 {
	case 0:
		want = m.format(s)
		w, got = Format(z, s)
	case 1, 2:
		want = m.open()
		w, got = Open(z)
	case 3, 4, 5:
		want = m.save(s)
		got = w.Save(s)
	case 6:
		z.Cut(maskOf(a, 8)...)
		if m.on {
			m.fall(maskOf(a, 8))
		}
	case 7:
		z.Come()
		m.on = true
	case 8:
		z.Fuse(b%16, maskOf(a, 8)...)
		if m.on {
			m.fuse, m.keep = b%16, maskOf(a, 8)
		}
	case 9:
		got = z.Write(b%m.size, mixed(a, size))
		want = m.work([]write{{m.from + b%m.size, mixed(a, size)}})
	}
	if got != want || (w != nil) != m.is || z.IsOn() != m.on || z.Done() != m.done || z.Loose() != len(m.loose) || z.Image() != m.safe {
		t.Fatalf("command %d, %d, %d: %d, not %d; done %d, not %d; loose %d, not %d", kind%10, a, b, got, want, z.Done(), m.done, z.Loose(), len(m.loose))
	}
	if m.is {
		shows(t, "behind a command", w, m.twin)
	}
	if m.on && now(t, z.Disk) != m.last {
		t.Fatalf("command %d, %d, %d: other bytes were written", kind%10, a, b)
	}
	return w
}

func TestWalks(t *testing.T) {
	r := rand.New(rand.NewSource(1))
	for range 3000 {
		row := make([]byte, 3+3*(1+r.Intn(30)))
		r.Read(row)
		walk(t, row)
	}
}

func FuzzWalk(f *testing.F) {
	f.Add([]byte{0, 1, 1, 0, 1, 2, 3, 4, 5, 8, 7, 4, 3, 2, 9, 7, 0, 0, 1, 0, 0, 3, 1, 1})
	f.Add([]byte{2, 0, 0, 1, 0, 0, 3, 3, 3, 3, 4, 5, 6, 5, 0, 7, 0, 0, 1, 0, 0})
	f.Fuzz(func(t *testing.T, row []byte) {
		walk(t, row[:min(len(row), 400)])
	})
}

func FuzzOpen(f *testing.F) {
	f.Add(copyWith(2, 1, "a") + copyWith(2, 2, "b"))
	f.Add(laid(3, mixed(1, 76)) + laid(3, mixed(2, 70)))
	f.Fuzz(func(t *testing.T, image string) {
		image = image[:min(len(image), 64*size)]
		if image = image[:len(image)/(2*size)*2*size]; len(image) >= 4*size {
			asTold(t, "raw", over(t, image))
		}
	})
}
