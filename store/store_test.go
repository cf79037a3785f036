package store

import (
	"crypto/sha256"
	"encoding/binary"
	"fmt"
	"math"
	"math/rand"
	"slices"
	"strings"
	"testing"

	"coadjutor/api"
	"coadjutor/disk"
)

const (
	size = api.SectorSize
	most = 1<<31 - 1
)

// mixed: so many bytes, none like those beside it, other ones for each n.
func mixed(n, bytes int) string {
	all := make([]byte, bytes)
	for i := range all {
		all[i] = byte(i*7 + i/256 + n*31 + 1)
	}
	return string(all)
}

func zeros(sectors int) string {
	return strings.Repeat("\x00", sectors*size)
}

func numOf(list ...int) string {
	all := []byte{}
	for _, n := range list {
		all = binary.LittleEndian.AppendUint32(all, uint32(n))
	}
	return string(all)
}

func sumOf(s string) string {
	sum := sha256.Sum256([]byte(s))
	return string(sum[:])
}

// sectorsFor: how many sectors a text of so many bytes has, by counting.
func sectorsFor(bytes int) int {
	count := 0
	for count*28 < 36+bytes {
		count++
	}
	return count
}

// longest: how many bytes a record's text has at most.
func longest(l Layout) int {
	return min(28*(l.Record/2)-36, 1024)
}

// bytesOf: a sealed text's bytes, without the numbers, by the library.
func bytesOf(s string) string {
	rest := numOf(len(s)) + s
	rest += strings.Repeat("\x00", 28*sectorsFor(len(s))-32-len(rest))
	return sumOf(rest) + rest
}

// laid: a sealed text's sectors, joined.
func laid(n int, s string) string {
	all := ""
	for part := range slices.Chunk([]byte(bytesOf(s)), 28) {
		all += string(part) + numOf(n)
	}
	return all
}

// copyWith: the places of a copy, so many, that has a text and zeros behind it.
func copyWith(places, n int, s string) string {
	all := laid(n, s)
	return all + zeros(places-len(all)/size)
}

// told: the sealed text that sectors begin with, read as layer 6 has it; false, if they are none.
func told(all string) (string, int, bool) {
	bytes, nums := "", []int{}
	for part := range slices.Chunk([]byte(all), size) {
		bytes += string(part[:28])
		nums = append(nums, int(binary.LittleEndian.Uint32(part[28:])))
	}
	length := int(binary.LittleEndian.Uint32([]byte(bytes[32:36])))
	if length > 1024 || sectorsFor(length) > len(nums) {
		return "", 0, false
	}
	nums = nums[:sectorsFor(length)]
	if nums[0] < 1 || nums[0] > most || slices.Max(nums) != nums[0] || slices.Min(nums) != nums[0] {
		return "", 0, false
	}
	text := bytes[36 : 36+length]
	if bytes[:28*len(nums)] != bytesOf(text) {
		return "", 0, false
	}
	return text, nums[0], true
}

// state is what a store tells.
type state struct {
	Layout
	text string
	gen  int
	side int
}

// needOf: how many sectors a layout has, by counting; 0, if it can't be.
func needOf(l Layout) int {
	if l.Record < 4 || l.Record > 128 || l.Record&1 == 1 || l.Size < 1 || l.Size > 256 || l.Chunks < 1 || l.Chunks > 64 {
		return 0
	}
	count := 2 + l.Record
	for range 2 * l.Chunks {
		count += sectorsFor(l.Size)
	}
	return count
}

// slotAt: the sectors ahead of a slot.
func slotAt(l Layout, i int) int {
	return 2 + l.Record + i*l.Chunks*sectorsFor(l.Size)
}

// read: what is to be opened on a disk with these bytes.
func read(image string) (state, api.Errno) {
	if len(image) < 2*size {
		return state{}, api.ErrArg
	}
	text, n, ok := told(image[:2*size])
	if !ok || n != 1 || len(text) != 12 {
		return state{}, api.ErrForm
	}
	nums := []int{}
	for part := range slices.Chunk([]byte(text), 4) {
		nums = append(nums, int(binary.LittleEndian.Uint32(part)))
	}
	l := Layout{nums[0], nums[1], nums[2]}
	if needOf(l) == 0 || needOf(l)*size > len(image) {
		return state{}, api.ErrForm
	}
	half := l.Record / 2 * size
	one, a, first := told(image[2*size : 2*size+half])
	two, b, second := told(image[2*size+half : 2*size+2*half])
	if second && (!first || b > a) {
		return state{l, two, b, 1}, api.OK
	}
	if !first {
		return state{}, api.ErrForm
	}
	return state{l, one, a, 0}, api.OK
}

// superOf: a superblock, of any numbers.
func superOf(list ...int) string {
	return laid(1, numOf(list...))
}

func superFor(l Layout) string {
	return superOf(l.Record, l.Size, l.Chunks)
}

// formattedAs: a disk's bytes behind a Format of one that had old ones.
func formattedAs(old string, l Layout, text string) string {
	half := l.Record / 2
	return superFor(l) + copyWith(half, 1, text) + zeros(half+2*l.Chunks*sectorsFor(l.Size)) + old[needOf(l)*size:]
}

// laidOut: a disk's bytes with this layout, these copies, and chunks of noise.
func laidOut(l Layout, copies string) string {
	return superFor(l) + copies + mixed(5, 2*l.Chunks*sectorsFor(l.Size)*size)
}

// layouts: some that can be, of all kinds.
func layouts() []Layout {
	return []Layout{
		{4, 1, 1}, {4, 20, 3}, {6, 100, 2}, {4, 21, 1}, {10, 256, 1}, {8, 49, 5}, {76, 30, 1}, {78, 5, 2}, {128, 1, 3},
		{74, 255, 4}, {126, 20, 1}, {6, 2, 64}, {128, 256, 64}, {4, 256, 64}, {12, 104, 7}, {14, 105, 63},
	}
}

// small: layouts with few sectors.
func small() []Layout {
	return []Layout{{4, 1, 1}, {4, 20, 1}, {6, 21, 1}, {8, 1, 2}}
}

// strange: numbers that are none of a layout.
func strange() []int {
	return []int{
		0, -1, -2, -4, -64, -256, math.MinInt, math.MinInt + 4, math.MinInt / 2, -1 << 31, -1 << 32, 4 - 1<<32, -1 << 61,
		257, 258, 260, 512, 4096, 1 << 31, 1<<31 + 4, 1 << 32, 1<<32 + 1, 1<<32 + 4, 1<<32 + 64, 1 << 61, 1<<61 + 4, 1 << 62, 1<<62 + 4, math.MaxInt / 2, math.MaxInt - 1, math.MaxInt,
	}
}

// wrongLayouts: some that can't be, each by one of its numbers alone, but for the first one and the last ones.
func wrongLayouts() []Layout {
	list := []Layout{{}, {2, 20, 3}, {3, 20, 3}, {5, 20, 3}, {7, 20, 3}, {127, 20, 3}, {129, 20, 3}, {130, 20, 3}, {132, 20, 3}, {4, 20, 65}, {4, 20, 66}, {4, 1, 128}}
	for _, n := range strange() {
		list = append(list, Layout{n, 20, 3}, Layout{4, n, 3}, Layout{4, 20, n})
	}
	return append(list, Layout{-4, -20, -3}, Layout{math.MinInt, math.MinInt, math.MinInt}, Layout{math.MaxInt, math.MaxInt, math.MaxInt})
}

func longTexts(l Layout) []string {
	return []string{mixed(1, longest(l)+1), mixed(2, longest(l)+29), mixed(3, 1025), zeros(33), mixed(4, 1028), mixed(5, 1029), mixed(6, 1<<16)}
}

func texts(l Layout) []string {
	return []string{"", "a", mixed(1, longest(l)/2), mixed(2, longest(l)-1), mixed(3, longest(l))}
}

func fine(t testing.TB, name string, err api.Errno) {
	t.Helper()
	if err != api.OK {
		t.Fatalf("%s: %d", name, err)
	}
}

// now: a disk's bytes, as they were written last.
func now(t testing.TB, d *disk.Disk) string {
	t.Helper()
	all := []byte{}
	for at := range d.Len() {
		s, err := d.Read(at)
		fine(t, "read", err)
		all = append(all, s...)
	}
	return string(all)
}

// shows: whether a store tells just this, of this disk.
func shows(t testing.TB, name string, s *Store, d *disk.Disk, want state) {
	t.Helper()
	if s == nil {
		t.Fatalf("%s: no store", name)
	}
	// Asked twice, since to ask changes nothing.
	for range 2 {
		if s.Layout() != want.Layout || s.Text() != want.text || s.Gen() != want.gen || s.Side() != want.side {
			t.Fatalf("%s: %v, %.50q, %d, %d; not %v", name, s.Layout(), s.Text(), s.Gen(), s.Side(), want)
		}
		if s.Disk != d || s.Len() != want.Record {
			t.Fatalf("%s: a record of another disk, or of %d sectors", name, s.Len())
		}
		for i := range 2 {
			c := s.Slot(i)
			if c == nil || c.Disk != d || c.Size() != want.Size || c.Chunks() != want.Chunks || c.Len() != want.Chunks*sectorsFor(want.Size) {
				t.Fatalf("%s: another slot %d", name, i)
			}
		}
		for _, i := range append(strange(), 2, 3, 4) {
			if i != 0 && s.Slot(i) != nil {
				t.Fatalf("%s: a slot %d", name, i)
			}
		}
	}
}

func formatted(t testing.TB, d *disk.Disk, l Layout, text string) *Store {
	t.Helper()
	s, err := Format(d, l, text)
	fine(t, "format", err)
	shows(t, "format", s, d, state{l, text, 1, 0})
	return s
}

func unformatted(t testing.TB, name string, d *disk.Disk, l Layout, text string, want api.Errno) {
	t.Helper()
	if s, err := Format(d, l, text); s != nil || err != want {
		t.Fatalf("%s: Format(%v, %.30q of %d): %v, %d; not %d", name, l, text, len(text), s, err, want)
	}
}

func unopened(t testing.TB, name string, d *disk.Disk, want api.Errno) {
	t.Helper()
	if s, err := Open(d); s != nil || err != want {
		t.Fatalf("%s: Open: %v, %d; not %d", name, s, err, want)
	}
}

// asTold: whether a disk, whose power is there, is opened as its bytes say, and that changes nothing.
func asTold(t testing.TB, name string, d *disk.Disk) *Store {
	t.Helper()
	done, loose, image := d.Done(), d.Loose(), d.Image()
	want, err := read(now(t, d))
	var s *Store
	if err != api.OK {
		unopened(t, name, d, err)
	} else {
		got, err := Open(d)
		fine(t, name, err)
		shows(t, name, got, d, want)
		s = got
	}
	if !d.IsOn() || d.Done() != done || d.Loose() != loose || d.Image() != image {
		t.Fatalf("%s: to open has changed something", name)
	}
	return s
}

// opened: whether a disk with these bytes is opened as this.
func opened(t testing.TB, name, image string, want state) {
	t.Helper()
	d := disk.Of(image)
	s, err := Open(d)
	fine(t, name, err)
	shows(t, name, s, d, want)
	if asTold(t, name, d) == nil {
		t.Fatalf("%s: the test's own reader says another thing", name)
	}
}

// stays: a disk that nothing is done to; whether the power is there, a fuse of 0.
func stays(t *testing.T, image string, on bool, try func(d *disk.Disk)) {
	t.Helper()
	d := disk.Of(image)
	d.Fuse(0, true)
	if !on {
		d.Cut()
	}
	try(d)
	if d.IsOn() != on || d.Done() != 0 || d.Loose() != 0 || d.Image() != image || on && now(t, d) != image {
		t.Fatalf("%d sectors, on %v: something was changed", d.Len(), on)
	}
}

// write is a sector's, on the way to a disk; a sync has no bytes.
type write struct {
	at    int
	bytes string
}

// puts: the writes of a text, from a sector on.
func puts(from, n int, s string) []write {
	list := []write{}
	for part := range slices.Chunk([]byte(laid(n, s)), size) {
		list = append(list, write{from + len(list), string(part)})
	}
	return list
}

// formatOf: all that a Format does, in its order; old is what the disk has.
func formatOf(old string, l Layout, text string) []write {
	list := []write{}
	for at := range needOf(l) {
		if old[at*size:(at+1)*size] != zeros(1) {
			list = append(list, write{at, zeros(1)})
		}
	}
	list = append(append(list, puts(2, 1, text)...), write{})
	return append(append(list, puts(0, 1, numOf(l.Record, l.Size, l.Chunks))...), write{})
}

// after: what is safe when the power goes behind so many of the writes.
func after(image string, list []write, count int, keep []bool) string {
	safe, loose := []byte(image), []write{}
	for _, w := range list[:count] {
		if w.bytes != "" {
			loose = append(loose, w)
			continue
		}
		for _, l := range loose {
			copy(safe[l.at*size:], l.bytes)
		}
		loose = nil
	}
	for i, l := range loose {
		if i < len(keep) && keep[i] {
			copy(safe[l.at*size:], l.bytes)
		}
	}
	return string(safe)
}

// looseAt: how many of the first writes aren't synced.
func looseAt(list []write, count int) int {
	loose := 0
	for _, w := range list[:count] {
		loose++
		if w.bytes == "" {
			loose = 0
		}
	}
	return loose
}

// maskOf: which of so many writes are kept.
func maskOf(mask uint64, count int) []bool {
	keep := make([]bool, count)
	for i := range keep {
		keep[i] = mask>>(i%64)&1 == 1
	}
	return keep
}

// losses: each place in a row of writes at which the power can go, with each way to keep some; where there are too many ways, some of them.
func losses(list []write, try func(fuse int, keep []bool)) {
	r := rand.New(rand.NewSource(10))
	for fuse := range list {
		loose := looseAt(list, fuse)
		if loose <= 7 {
			for mask := range uint64(1) << loose {
				try(fuse, maskOf(mask, loose))
			}
			continue
		}
		try(fuse, maskOf(0, loose))
		try(fuse, maskOf(math.MaxUint64, loose))
		for i := range loose {
			one := make([]bool, loose)
			one[i] = true
			try(fuse, one)
			most := maskOf(math.MaxUint64, loose)
			most[i] = false
			try(fuse, most)
			try(fuse, maskOf(r.Uint64(), loose))
		}
	}
}

// P10.1: Need

func TestNeed(t *testing.T) {
	per := map[int]int{}
	for n := 1; n <= 256; n++ {
		per[n] = sectorsFor(n)
	}
	for record := -3; record <= 133; record++ {
		for n := -2; n <= 259; n++ {
			for chunks := -2; chunks <= 67; chunks++ {
				want := 0
				if record >= 4 && record <= 128 && record%2 == 0 && per[n] > 0 && chunks >= 1 && chunks <= 64 {
					want = 2 + record + 2*chunks*per[n]
				}
				if got := Need(Layout{record, n, chunks}); got != want || got > api.MaxSectors {
					t.Fatalf("Need(%d, %d, %d): %d, not %d", record, n, chunks, got, want)
				}
			}
		}
	}
	for _, l := range wrongLayouts() {
		if Need(l) != 0 {
			t.Errorf("Need(%v): %d", l, Need(l))
		}
	}
	for l, want := range map[Layout]int{{4, 20, 3}: 18, {4, 1, 1}: 10, {6, 100, 2}: 28, {4, 20, 64}: 262, {4, 21, 64}: 390, {128, 1, 1}: 134, {128, 256, 64}: 1538, {4, 256, 1}: 28} {
		if Need(l) != want || needOf(l) != want {
			t.Errorf("Need(%v): %d, not %d", l, Need(l), want)
		}
	}
}

// P10.1: Format

func TestFormatOfNil(t *testing.T) {
	for _, l := range append(layouts(), wrongLayouts()...) {
		for _, text := range []string{"", "a", mixed(1, 1024), mixed(1, 1025)} {
			unformatted(t, "nil", nil, l, text, api.ErrNil)
		}
	}
}

func TestFormatThatCant(t *testing.T) {
	for _, on := range []bool{true, false} {
		stays(t, mixed(1, 4096*size), on, func(d *disk.Disk) {
			for _, l := range wrongLayouts() {
				for _, text := range []string{"", "a", mixed(1, 1024), mixed(1, 1025)} {
					unformatted(t, "a layout that can't be", d, l, text, api.ErrArg)
				}
			}
		})
		for _, l := range layouts() {
			for _, n := range []int{0, 1, 2, 3, 2 + l.Record, needOf(l) / 2, needOf(l) - 1} {
				stays(t, mixed(n, n*size), on, func(d *disk.Disk) {
					for _, text := range append(texts(l), longTexts(l)...) {
						unformatted(t, "too few sectors", d, l, text, api.ErrArg)
					}
				})
			}
			for _, n := range []int{needOf(l), needOf(l) + 1, 4096} {
				stays(t, mixed(n, n*size), on, func(d *disk.Disk) {
					for _, text := range longTexts(l) {
						unformatted(t, "too long", d, l, text, api.ErrArg)
					}
				})
			}
		}
		stays(t, "", on, func(d *disk.Disk) {
			for _, l := range wrongLayouts() {
				unformatted(t, "both", d, l, "", api.ErrArg)
			}
		})
	}
}

// For each record, the longest text that it has room for, and one byte more.
func TestFormatEachRecord(t *testing.T) {
	for record := 4; record <= 128; record += 2 {
		l := Layout{record, 1, 1}
		d := disk.New(needOf(l))
		unformatted(t, "one byte more", d, l, mixed(1, longest(l)+1), api.ErrArg)
		if d.Done() != 0 {
			t.Fatal("something was written")
		}
		text := mixed(record, longest(l))
		formatted(t, d, l, text)
		opened(t, "the longest", d.Image(), state{l, text, 1, 0})
	}
	if longest(Layout{Record: 74}) != 1000 || longest(Layout{Record: 76}) != 1024 || longest(Layout{Record: 4}) != 20 {
		t.Error("another longest text")
	}
}

func TestFormatAway(t *testing.T) {
	for _, l := range layouts() {
		for _, image := range []string{zeros(needOf(l)), mixed(1, (needOf(l)+3)*size), formattedAs(zeros(needOf(l)), l, "old")} {
			stays(t, image, false, func(d *disk.Disk) {
				for _, text := range texts(l) {
					unformatted(t, "away", d, l, text, api.ErrDown)
				}
			})
		}
	}
}

// All of the layout's sectors are made 0 but for the text and the superblock, and that is safe; those behind them stay.
func TestFormat(t *testing.T) {
	for _, l := range layouts() {
		for _, more := range []int{0, 1, 5} {
			for i, image := range []string{zeros(needOf(l) + more), mixed(more, (needOf(l)+more)*size), formattedAs(zeros(needOf(l)+more), l, "old")} {
				for _, text := range texts(l) {
					d := disk.Of(image)
					formatted(t, d, l, text)
					want := formattedAs(image, l, text)
					if d.Image() != want || now(t, d) != want || d.Loose() != 0 || d.Done() != len(formatOf(image, l, text)) {
						t.Fatalf("%v, %d bytes, on the disk %d: %d done, %d loose", l, len(text), i, d.Done(), d.Loose())
					}
					d.Cut()
					d.Come()
					opened(t, "what was formatted", d.Image(), state{l, text, 1, 0})
				}
			}
		}
	}
}

func TestTheExample(t *testing.T) {
	l := Layout{4, 20, 3}
	d := disk.New(18)
	s := formatted(t, d, l, "a")
	if Need(l) != 18 || d.Done() != 6 || s.Slot(0).Len() != 6 || s.Slot(1).Len() != 6 {
		t.Error(Need(l), d.Done(), s.Slot(0).Len(), s.Slot(1).Len())
	}
	if d.Image() != laid(1, "\x04\x00\x00\x00\x14\x00\x00\x00\x03\x00\x00\x00")+laid(1, "a")+zeros(14) {
		t.Errorf("%q", d.Image())
	}
	unformatted(t, "one less", disk.New(17), l, "a", api.ErrArg)
}

// What is loose elsewhere on the disk is synced with it, and stays.
func TestFormatWithLoose(t *testing.T) {
	l := Layout{4, 1, 1}
	d := disk.New(12)
	fine(t, "write", d.Write(11, mixed(1, size)))
	fine(t, "write", d.Write(3, mixed(2, size)))
	formatted(t, d, l, "a")
	if d.Image() != formattedAs(zeros(12), l, "a")[:11*size]+mixed(1, size) || d.Loose() != 0 || d.Done() != 2+1+6 {
		t.Error(d.Done(), d.Loose())
	}
}

// What stood there plays no part: a record with a greater number, or another layout.
func TestFormatAgain(t *testing.T) {
	d := disk.New(2000)
	for _, old := range layouts() {
		for _, l := range layouts() {
			s := formatted(t, d, old, "old")
			fine(t, "save", s.Save("older"))
			fine(t, "save", s.Save("oldest"))
			fine(t, "put", s.Slot(1).Put(0, 1, "c"))
			image := d.Image()
			formatted(t, d, l, "new")
			if d.Image()[:needOf(l)*size] != formattedAs(image, l, "new")[:needOf(l)*size] {
				t.Fatalf("%v behind %v: other bytes", l, old)
			}
			if s = asTold(t, "again", d); s.Text() != "new" {
				t.Fatalf("%v behind %v: %q", l, old, s.Text())
			}
			if all, err := s.Slot(1).Zone.All(); err != api.OK || strings.Trim(all, "\x00") != "" {
				t.Fatalf("%v behind %v: a slot with chunks", l, old)
			}
		}
	}
}

// The power goes at each write and sync of a Format, on disks of all kinds: it is ErrDown, and just the writes ahead of it were done.
func TestFormatMeetsFuse(t *testing.T) {
	for _, l := range small() {
		need := needOf(l)
		torn := []byte(laidOut(l, copyWith(l.Record/2, 6, "old")+copyWith(l.Record/2, 5, "older")) + mixed(1, 2*size))
		for _, image := range []string{zeros(need + 1), mixed(1, need*size), string(torn), zeros(need-1) + mixed(2, 2*size), mixed(3, size) + zeros(need)} {
			for _, text := range []string{"", mixed(1, longest(l))} {
				list := formatOf(image, l, text)
				losses(list, func(fuse int, keep []bool) {
					d := disk.Of(image)
					d.Fuse(fuse, keep...)
					unformatted(t, "a fuse", d, l, text, api.ErrDown)
					if d.IsOn() || d.Done() != fuse || d.Image() != after(image, list, fuse, keep) {
						t.Fatalf("%v: a fuse of %d that keeps %v: %d done", l, fuse, keep, d.Done())
					}
					d.Come()
					asTold(t, "behind the loss", d)
				})
				d := disk.Of(image)
				d.Fuse(len(list))
				formatted(t, d, l, text)
				d.Cut()
				if d.Image() != after(image, list, len(list), nil) || d.Image() != formattedAs(image, l, text) {
					t.Fatal("what was formatted isn't safe")
				}
			}
		}
	}
}

// P10.2

func TestNil(t *testing.T) {
	unopened(t, "nil", nil, api.ErrNil)
	var s *Store
	if s.Layout() != (Layout{}) {
		t.Error(s.Layout())
	}
	for _, i := range append(strange(), 0, 1, 2) {
		if s.Slot(i) != nil {
			t.Errorf("a slot %d of nil", i)
		}
	}
}

func TestOpenThatCant(t *testing.T) {
	whole := formattedAs(zeros(10), Layout{4, 1, 1}, "a")
	for _, on := range []bool{true, false} {
		for n := range 10 {
			want := api.ErrForm
			if n < 2 {
				want = api.ErrArg
			} else if !on {
				want = api.ErrDown
			}
			for _, image := range []string{zeros(n), mixed(n, n*size), whole[:n*size]} {
				stays(t, image, on, func(d *disk.Disk) { unopened(t, "few sectors", d, want) })
			}
		}
		for _, image := range []string{zeros(4096), mixed(1, 100*size), strings.Repeat("\xff", 20*size)} {
			stays(t, image, on, func(d *disk.Disk) {
				if on {
					unopened(t, "no superblock", d, api.ErrForm)
				} else {
					unopened(t, "away", d, api.ErrDown)
				}
			})
		}
	}
}

// While the power is away nothing is told of what stands there.
func TestOpenAway(t *testing.T) {
	for _, l := range layouts() {
		stays(t, formattedAs(zeros(needOf(l)), l, "a"), false, func(d *disk.Disk) {
			unopened(t, "away", d, api.ErrDown)
		})
	}
	d := disk.Of(formattedAs(zeros(10), Layout{4, 1, 1}, "a"))
	d.Cut()
	unopened(t, "away", d, api.ErrDown)
	d.Come()
	asTold(t, "it came", d)
}

// Disks that have just as many sectors as their layout, more, or fewer.
func TestOpenEachSize(t *testing.T) {
	for _, l := range layouts() {
		for _, more := range []int{0, 1, 7} {
			image := formattedAs(mixed(more, (needOf(l)+more)*size), l, "text")
			opened(t, "more sectors", image, state{l, "text", 1, 0})
		}
		image := formattedAs(zeros(needOf(l)), l, "text")
		for n := needOf(l) - 1; n >= 2; n = min(n-1, n*9/10+1) {
			unopened(t, "fewer sectors", disk.Of(image[:n*size]), api.ErrForm)
		}
		unopened(t, "half a sector less", disk.Of(image[:needOf(l)*size-1]), api.ErrForm)
	}
}

// Each bit of the superblock matters.
func TestOpenEachBit(t *testing.T) {
	for _, l := range []Layout{{4, 20, 3}, {128, 256, 64}} {
		image := formattedAs(zeros(needOf(l)+300), l, "a")
		for i := range 8 * 2 * size {
			bytes := []byte(image)
			bytes[i/8] ^= 1 << (i % 8)
			unopened(t, "a bit", disk.Of(string(bytes)), api.ErrForm)
		}
	}
}

func TestOpenOtherNumber(t *testing.T) {
	l := Layout{4, 20, 3}
	rest := formattedAs(zeros(18), l, "a")[2*size:]
	for _, n := range []int{0, 2, 3, 255, 256, 257, 1 << 16, 1<<16 + 1, 1<<24 + 1, most - 1, most, 1 << 31, 1<<31 + 1} {
		unopened(t, "another number", disk.Of(laid(n, numOf(4, 20, 3))+rest), api.ErrForm)
	}
	opened(t, "its number", laid(1, numOf(4, 20, 3))+rest, state{l, "a", 1, 0})
}

// A superblock that is whole, of any numbers: opened just if they are a layout that can be, whatever else is there.
func TestOpenEachLayout(t *testing.T) {
	record := copyWith(64, 4, "a")
	for _, n := range []int{0, 1, 2, 3, 4, 5, 6, 7, 8, 63, 64, 65, 66, 100, 126, 127, 128, 129, 130, 132, 255, 256, 257, 258, 512, 1 << 16, 1<<16 + 4, 1 << 24, most, 1 << 31, 1<<31 + 4, 1<<32 - 4, 1<<32 - 1} {
		for _, l := range []Layout{{n, 20, 3}, {4, n, 3}, {4, 20, n}, {128, n, 1}, {n, n, n}, {n, 256, 64}} {
			d := disk.Of(superFor(l) + record + mixed(1, 1500*size))
			asTold(t, "each layout", d)
			s, err := Open(d)
			if needOf(l) == 0 && (s != nil || err != api.ErrForm) || needOf(l) > 0 && (err != api.OK || s.Layout() != l) {
				t.Fatalf("%v: %v, %d", l, s, err)
			}
		}
	}
}

// Texts that aren't of three numbers.
func TestOpenOtherText(t *testing.T) {
	rest := formattedAs(zeros(18), Layout{4, 20, 3}, "a")[2*size:]
	whole := numOf(4, 20, 3)
	for n := range 12 {
		unopened(t, "fewer bytes", disk.Of(laid(1, whole[:n])+rest), api.ErrForm)
	}
	for n := 1; n <= 8; n++ {
		unopened(t, "more bytes", disk.Of(laid(1, whole+zeros(1)[:n])+rest), api.ErrForm)
		unopened(t, "more bytes", disk.Of(laid(1, whole+mixed(n, n))+rest), api.ErrForm)
	}
	for _, text := range []string{numOf(4, 20), numOf(4, 20, 3, 0), numOf(4, 20, 3, 4), numOf(0, 4, 20, 3), numOf(20, 3, 4), numOf(3, 20, 4), mixed(1, 12), zeros(1)[:12], "\x04\x14\x03", "\x00\x00\x00\x04\x00\x00\x00\x14\x00\x00\x00\x03"} {
		unopened(t, "another text", disk.Of(laid(1, text)+rest), api.ErrForm)
	}
	// A text of three sectors isn't within the superblock's two.
	unopened(t, "a longer text", disk.Of(laid(1, whole+mixed(1, 20))+rest), api.ErrForm)
	unopened(t, "not at its place", disk.Of(zeros(1)+laid(1, whole)+rest), api.ErrForm)
}

// The record's zone has copies of all kinds: what is opened is layer 7's.
func TestOpenEachRecord(t *testing.T) {
	for _, l := range []Layout{{4, 1, 1}, {6, 20, 2}, {10, 100, 1}, {128, 5, 1}} {
		half := l.Record / 2
		list := []string{zeros(half), mixed(7, half*size), strings.Repeat("\xff", half*size), copyWith(half, 0, "none"), copyWith(half, 1<<31, "none")}
		for _, n := range []int{1, 2, 3, 256, most - 1, most} {
			list = append(list, copyWith(half, n, mixed(n, longest(l)-n%3)))
		}
		list = append(list, "\x01\x02"+copyWith(half, 5, "another sum")[2:])
		for i, one := range list {
			for j, two := range list {
				d := disk.Of(laidOut(l, one+two))
				s := asTold(t, "copies", d)
				wrong := func(i int) bool { return i < 5 || i == len(list)-1 }
				if (s == nil) != (wrong(i) && wrong(j)) {
					t.Fatalf("%v, the copies %d and %d: %v", l, i, j, s)
				}
			}
		}
	}
	l := Layout{6, 20, 2}
	a, b := copyWith(3, 6, "a"), copyWith(3, 7, "b")
	opened(t, "the second one", laidOut(l, a+b), state{l, "b", 7, 1})
	opened(t, "the first one", laidOut(l, b+a), state{l, "b", 7, 0})
	opened(t, "the first one alone", laidOut(l, a+zeros(3)), state{l, "a", 6, 0})
	opened(t, "the second one alone", laidOut(l, zeros(3)+a), state{l, "a", 6, 1})
	// A text that would be one, if the record's zone had more sectors, or stood elsewhere.
	unopened(t, "over the middle", disk.Of(laidOut(l, laid(9, mixed(1, 100))+zeros(1))), api.ErrForm)
	unopened(t, "over the end", disk.Of(superFor(l)+zeros(3)+laid(9, mixed(1, 100))+zeros(9)), api.ErrForm)
	unopened(t, "not at its place", disk.Of(superFor(l)+zeros(1)+a+zeros(12)), api.ErrForm)
}

// What is opened is what was written last, safe or not.
func TestOpenLooksAtLast(t *testing.T) {
	l := Layout{4, 20, 1}
	d := disk.New(10)
	list := append(puts(2, 1, "a"), puts(0, 1, numOf(4, 20, 1))...)
	for i, w := range list {
		asTold(t, "not all is there", d)
		fine(t, fmt.Sprint(i), d.Write(w.at, w.bytes))
	}
	d.Fuse(0, true, true, true)
	shows(t, "loose", asTold(t, "loose", d), d, state{l, "a", 1, 0})
	d.Cut(true, true, true)
	d.Come()
	unopened(t, "it was lost", d, api.ErrForm)
}

// The twin's calls are the store's.
func TestEmbeds(t *testing.T) {
	l := Layout{6, 20, 2}
	d := disk.New(20)
	s := formatted(t, d, l, "first")
	fine(t, "save", s.Save("second"))
	shows(t, "save", s, d, state{l, "second", 2, 1})
	if all, err := s.All(); err != api.OK || all != copyWith(3, 1, "first")+copyWith(3, 2, "second") {
		t.Error(err)
	}
	if err := s.Save(mixed(1, 49)); err != api.ErrArg {
		t.Error(err)
	}
	d.Fuse(2)
	if err := s.Save("third"); err != api.ErrDown || s.IsOn() {
		t.Error(err)
	}
	s.Come()
	if err := s.Save("third"); err != api.ErrDown {
		t.Error(err)
	}
	s = asTold(t, "opened again", d)
	shows(t, "opened again", s, d, state{l, "second", 2, 1})
	fine(t, "save", s.Save("third"))
	opened(t, "save", d.Image(), state{l, "third", 3, 0})
}

// Two stores of one disk: each has its own twin.
func TestTwoStores(t *testing.T) {
	l := Layout{4, 20, 2}
	d := disk.New(14)
	a := formatted(t, d, l, "a")
	b := asTold(t, "open", d)
	fine(t, "save", a.Save("b"))
	shows(t, "the other one", b, d, state{l, "a", 1, 0})
	fine(t, "put", a.Slot(1).Put(1, 5, "chunk"))
	if c, n, err := b.Slot(1).Get(1); c != "chunk" || n != 5 || err != api.OK {
		t.Errorf("%q, %d, %d", c, n, err)
	}
	// What is formatted later, on another disk, changes neither.
	formatted(t, disk.New(60), Layout{8, 30, 3}, "c")
	shows(t, "one", a, d, state{l, "b", 2, 1})
	shows(t, "the other one", b, d, state{l, "a", 1, 0})
}

// P10.3

// Each part of a store is filled with bytes of its own: all stand just at their places.
func TestNothingInCommon(t *testing.T) {
	for _, l := range layouts() {
		image := mixed(1, (needOf(l)+3)*size)
		d := disk.Of(image)
		s := formatted(t, d, l, "text")
		fine(t, "fill", s.Slot(0).Fill('0'))
		fine(t, "fill", s.Slot(1).Fill('1'))
		asTold(t, "slots of bytes", d)
		fine(t, "fill", s.Fill('r'))
		want := superFor(l)
		for i, c := range []string{"r", "0", "1"} {
			count := l.Chunks * sectorsFor(l.Size)
			if i == 0 {
				count = l.Record
			}
			want += strings.Repeat(c, count*size)
		}
		if now(t, d) != want+image[needOf(l)*size:] {
			t.Fatalf("%v: other bytes", l)
		}
	}
}

// Each chunk of both slots, and the record: what was put is opened, and no other thing is changed by it.
func TestOpenedAsItWas(t *testing.T) {
	for _, l := range layouts() {
		d := disk.New(needOf(l) + 2)
		s := formatted(t, d, l, mixed(1, longest(l)))
		for i := range 2 {
			for at := range l.Chunks {
				fine(t, "put", s.Slot(i).Put(at, 3+i, mixed(at+100*i, l.Size)))
			}
		}
		fine(t, "save", s.Save(mixed(2, longest(l))))
		d.Cut()
		d = disk.Of(d.Image())
		s = asTold(t, "opened", d)
		shows(t, "opened", s, d, state{l, mixed(2, longest(l)), 2, 1})
		for i := range 2 {
			want := ""
			for at := range l.Chunks {
				want += mixed(at+100*i, l.Size)
				from := (slotAt(l, i) + at*sectorsFor(l.Size)) * size
				if laidAt := d.Image()[from : from+sectorsFor(l.Size)*size]; laidAt != laid(3+i, mixed(at+100*i, l.Size)) {
					t.Fatalf("%v: the chunk %d of %d stands elsewhere", l, at, i)
				}
			}
			if all, err := s.Slot(i).All(3+i, l.Chunks); err != api.OK || all != want {
				t.Fatalf("%v: the slot %d: %d", l, i, err)
			}
		}
	}
}

// The power goes in a Format of a new disk of zeros, whatever is kept: nothing is opened, or all was formatted.
func TestNewDiskMeetsFuse(t *testing.T) {
	for _, l := range []Layout{{4, 1, 1}, {4, 20, 3}, {6, 100, 2}, {76, 30, 1}, {128, 256, 64}} {
		for _, more := range []int{0, 4} {
			for _, text := range texts(l) {
				image := zeros(needOf(l) + more)
				list := formatOf(image, l, text)
				found := 0
				losses(list, func(fuse int, keep []bool) {
					d := disk.New(needOf(l) + more)
					d.Fuse(fuse, keep...)
					unformatted(t, "a fuse", d, l, text, api.ErrDown)
					unopened(t, "away", d, api.ErrDown)
					unformatted(t, "away", d, l, text, api.ErrDown)
					d.Come()
					if _, err := Open(d); err == api.ErrForm {
						return
					}
					found++
					shows(t, "behind the loss", asTold(t, "behind the loss", d), d, state{l, text, 1, 0})
					if d.Image() != formattedAs(image, l, text) || fuse != len(list)-1 || slices.Contains(keep, false) {
						t.Fatalf("%v: a fuse of %d that keeps %v: not all is there", l, fuse, keep)
					}
				})
				// The superblock's both sectors were kept, at the last sync: that is the one way.
				if found != 1 {
					t.Fatalf("%v: %d ways to find it formatted", l, found)
				}
			}
		}
	}
}

// Behind a loss in a Format another one goes as on any disk.
func TestFormatBehindLoss(t *testing.T) {
	r := rand.New(rand.NewSource(3))
	for range 300 {
		d := disk.New(60)
		for range 6 {
			l := layouts()[r.Intn(6)]
			text := mixed(r.Intn(9), r.Intn(longest(l)+1))
			if needOf(l) > 60 {
				continue
			}
			d.Fuse(r.Intn(70), maskOf(r.Uint64(), 64)...)
			s, err := Format(d, l, text)
			if err == api.OK {
				d.Fuse(-1)
				shows(t, "formatted", s, d, state{l, text, 1, 0})
				shows(t, "opened", asTold(t, "opened", d), d, state{l, text, 1, 0})
				continue
			}
			if s != nil || err != api.ErrDown {
				t.Fatalf("%v: %d", s, err)
			}
			d.Come()
			asTold(t, "behind a loss", d)
		}
	}
}

// Rows of commands on a store: whatever comes, what is opened is what its bytes say, and neither slots nor the record change each other.

// world is a disk with a store, and what is known of it.
type world struct {
	d     *disk.Disk
	s     *Store
	known state
	// What was put, by slot and chunk, and is safe.
	safe map[[2]int]string
	// What was put since.
	loose map[[2]int]string
}

// save: another text; whether the power went.
func (w *world) save(t testing.TB, text string) bool {
	t.Helper()
	next := state{w.known.Layout, text, w.known.gen + 1, 1 - w.known.side}
	switch err := w.s.Save(text); err {
	case api.OK:
		w.known = next
		w.sync()
		return false
	case api.ErrDown:
		w.again(t, w.known, next)
		return true
	default:
		t.Fatalf("save: %d", err)
		return false
	}
}

// sync: all that was put is safe.
func (w *world) sync() {
	for at, data := range w.loose {
		w.safe[at] = data
	}
	w.loose = map[[2]int]string{}
}

// again: the power comes, and the store is opened: its record is one of these.
func (w *world) again(t testing.TB, list ...state) {
	t.Helper()
	w.d.Cut()
	w.d.Come()
	w.s = asTold(t, "again", w.d)
	if w.s == nil {
		t.Fatal("again: no store")
	}
	found := state{w.s.Layout(), w.s.Text(), w.s.Gen(), w.s.Side()}
	if !slices.Contains(list, found) {
		t.Fatalf("again: %v; not one of %v", found, list)
	}
	w.known = found
	// What was put, and wasn't known to be safe, may stand there in part.
	for at := range w.loose {
		delete(w.safe, at)
	}
	w.loose = map[[2]int]string{}
}

// holds: whether the store shows all that is known.
func (w *world) holds(t testing.TB, name string) {
	t.Helper()
	shows(t, name, w.s, w.d, w.known)
	if want, err := read(now(t, w.d)); err != api.OK || want != w.known {
		t.Fatalf("%s: the bytes say %v, %d; not %v", name, want, err, w.known)
	}
	for _, list := range []map[[2]int]string{w.safe, w.loose} {
		for at, data := range list {
			if _, ok := w.loose[at]; ok && w.loose[at] != data {
				continue
			}
			if got, _, err := w.s.Slot(at[0]).Get(at[1]); got != data || err != api.OK {
				t.Fatalf("%s: the chunk %v: %.50q, %d; not %.50q", name, at, got, err, data)
			}
		}
	}
}

// do: a command that three bytes tell.
func (w *world) do(t testing.TB, kind, a, b byte) {
	t.Helper()
	l := w.known.Layout
	switch kind % 8 {
	case 0, 1:
		w.save(t, mixed(int(a), int(b)%(longest(l)+1)))
	case 2, 3, 4:
		at := [2]int{int(a) % 2, int(a) / 2 % l.Chunks}
		data := mixed(int(a)+int(b), int(b)%(l.Size+1))
		// Known ahead of it: what is there is gone with the first write.
		w.loose[at] = data
		if err := w.s.Slot(at[0]).Put(at[1], 1+int(b), data); err != api.OK {
			w.again(t, w.known)
		}
	case 5:
		if w.s.Sync() != api.OK {
			w.again(t, w.known)
			return
		}
		w.sync()
	case 6:
		w.d.Fuse(int(a)%16, maskOf(uint64(b)*0x9E3779B97F4A7C15, 64)...)
	case 7:
		w.d.Cut(maskOf(uint64(a)*uint64(b), 16)...)
		w.again(t, w.known)
	}
}

func walk(t testing.TB, l Layout, bytes []byte) {
	t.Helper()
	d := disk.Of(mixed(1, (needOf(l)+2)*size))
	w := &world{d, formatted(t, d, l, "first"), state{l, "first", 1, 0}, map[[2]int]string{}, map[[2]int]string{}}
	for i, part := range slices.Collect(slices.Chunk(bytes, 3)) {
		if len(part) < 3 {
			break
		}
		w.do(t, part[0], part[1], part[2])
		w.holds(t, fmt.Sprintf("%v: the command %d, %v", l, i, part))
	}
}

func TestLongRows(t *testing.T) {
	r := rand.New(rand.NewSource(5))
	for n := range 150 {
		bytes := make([]byte, 150)
		r.Read(bytes)
		walk(t, Layout{4 + 2*(n%6), 1 + n*13%256, 1 + n%5}, bytes)
	}
}

func FuzzRows(f *testing.F) {
	f.Add(byte(0), byte(20), byte(3), []byte{2, 1, 9, 0, 5, 5, 7, 3, 3, 6, 4, 200, 0, 1, 1})
	f.Add(byte(3), byte(100), byte(1), []byte{6, 2, 255, 2, 0, 90, 0, 1, 40, 5, 0, 0})
	f.Fuzz(func(t *testing.T, record, bytes, chunks byte, row []byte) {
		walk(t, Layout{4 + 2*(int(record)%10), 1 + int(bytes), 1 + int(chunks)%6}, row[:min(len(row), 90)])
	})
}

// An image that is anything; seeds are such as are opened, and some that aren't.
func FuzzImage(f *testing.F) {
	f.Add("")
	f.Add(zeros(12))
	f.Add(formattedAs(zeros(18), Layout{4, 20, 3}, "a"))
	f.Add(laidOut(Layout{4, 1, 1}, copyWith(2, 6, "a")+copyWith(2, 7, "b")))
	f.Add(superOf(4, 20, 1) + zeros(2) + copyWith(2, 7, "b") + zeros(10))
	f.Add(superOf(5, 20, 1) + copyWith(2, 7, "b") + zeros(10))
	f.Fuzz(func(t *testing.T, image string) {
		d := disk.Of(image)
		if whole := min(len(image)/size, api.MaxSectors); d.Len() != whole {
			t.Fatal(d.Len())
		}
		asTold(t, "image", d)
	})
}

// Superblocks that are whole, of any text and number, on any disk, laid by anyone; and a Format with the same numbers.
func FuzzLayout(f *testing.F) {
	f.Add(4, 20, 3, 18, 1, "text")
	f.Add(6, 100, 2, 40, 2, "text")
	f.Add(128, 256, 64, 1538, 1, mixed(1, 1024))
	f.Add(-4, 20, 1<<32, 30, 1, "")
	f.Fuzz(func(t *testing.T, record, bytes, chunks, sectors, number int, text string) {
		l := Layout{record, bytes, chunks}
		d := disk.New(sectors)
		if Need(l) != needOf(l) {
			t.Fatalf("Need(%v): %d", l, Need(l))
		}
		if d.Len() >= 4 {
			for at, part := range slices.Collect(slices.Chunk([]byte(superFor(l)), size)) {
				fine(t, "write", d.Write(at, string(part[:28])+numOf(number)))
			}
			fine(t, "write", d.Write(2, laid(3, "a")[:size]))
			fine(t, "write", d.Write(3, laid(3, "a")[size:]))
			fine(t, "sync", d.Sync())
		}
		asTold(t, "laid", d)
		image := d.Image()
		if needOf(l) == 0 || needOf(l) > d.Len() || len(text) > longest(l) {
			unformatted(t, "wrong", d, l, text, api.ErrArg)
			return
		}
		formatted(t, d, l, text)
		if d.Image() != formattedAs(image, l, text) {
			t.Fatal("other bytes")
		}
		shows(t, "opened", asTold(t, "opened", d), d, state{l, text, 1, 0})
	})
}
