package zone

import (
	"fmt"
	"math"
	"math/big"
	"math/rand"
	"slices"
	"strings"
	"testing"

	"coadjutor/api"
	"coadjutor/disk"
)

const size = api.SectorSize

// full: a sector that is all the byte.
func full(b byte) string {
	return strings.Repeat(string([]byte{b}), size)
}

// mixed: so many bytes, none like those beside it, other ones for each n.
func mixed(n, bytes int) string {
	all := make([]byte, bytes)
	for i := range all {
		all[i] = byte(i*7 + i/256 + n*31 + 1)
	}
	return string(all)
}

func sectorOf(n int) string {
	return mixed(n, size)
}

// wrongTexts: some that have not just a sector's bytes.
func wrongTexts() []string {
	return []string{"", "a", full('a')[1:], full('a') + "a", full('a') + full('a'), mixed(1, 1000)}
}

// wrongPlaces: places that a zone of n sectors hasn't; the disk has sectors at some of them, and beside the zone.
func wrongPlaces(n int) []int {
	return []int{-1, -2, -3, math.MinInt, math.MinInt + 1, -1 << 32, n, n + 1, n + 2, n * size, 1 << 31, 1 << 32, 1 << 59, math.MaxInt - 3, math.MaxInt}
}

// ends: numbers that a first place or a size can be handed in as.
func ends() []int {
	list := []int{math.MinInt, math.MinInt + 1, math.MinInt + 2, -1 << 32, -4096, 31, 32, 100, 4094, 4095, 4096, 4097, 1 << 31, 1 << 32, 1<<62 + 1, math.MaxInt - 2, math.MaxInt - 1, math.MaxInt}
	for n := -3; n <= 9; n++ {
		list = append(list, n)
	}
	return list
}

// fits: whether the places from one on, size of them, are among so many; the sum has no bound.
func fits(from, size, places int) bool {
	end := new(big.Int).Add(big.NewInt(int64(from)), big.NewInt(int64(size)))
	return size >= 1 && from >= 0 && end.Cmp(big.NewInt(int64(places))) <= 0
}

func made(t *testing.T, d *disk.Disk, from, size int) *Zone {
	t.Helper()
	z, err := New(d, from, size)
	if err != api.OK || z == nil {
		t.Fatalf("New(%d, %d): %v, %d", from, size, z, err)
	}
	return z
}

func parted(t *testing.T, z *Zone, from, size int) *Zone {
	t.Helper()
	p, err := z.Part(from, size)
	if err != api.OK || p == nil {
		t.Fatalf("Part(%d, %d): %v, %d", from, size, p, err)
	}
	return p
}

func fine(t *testing.T, name string, err api.Errno) {
	t.Helper()
	if err != api.OK {
		t.Fatalf("%s: %d", name, err)
	}
}

// now: a disk's bytes, as they were written last.
func now(t *testing.T, d *disk.Disk) string {
	t.Helper()
	all := ""
	for at := range d.Len() {
		s, err := d.Read(at)
		fine(t, "read", err)
		all += s
	}
	return all
}

// shows: whether a zone has just these bytes.
func shows(t *testing.T, name string, z *Zone, want string) {
	t.Helper()
	// Asked twice, since to ask changes nothing.
	for range 2 {
		if z.Len() != len(want)/size {
			t.Fatalf("%s: %d sectors, not %d", name, z.Len(), len(want)/size)
		}
		if s, err := z.All(); s != want || err != api.OK {
			t.Fatalf("%s: %.100q, %d; not %.100q", name, s, err, want)
		}
		for at := range z.Len() {
			if s, err := z.Read(at); s != want[at*size:(at+1)*size] || err != api.OK {
				t.Fatalf("%s: the place %d is %q, %d; not %q", name, at, s, err, want[at*size:(at+1)*size])
			}
		}
	}
}

// P5.1

func TestNewOfNil(t *testing.T) {
	for _, from := range ends() {
		for _, size := range ends() {
			if z, err := New(nil, from, size); z != nil || err != api.ErrNil {
				t.Errorf("New(nil, %d, %d): %v, %d", from, size, z, err)
			}
		}
	}
}

func TestNew(t *testing.T) {
	for _, n := range []int{0, 1, 2, 3, 7, 4095, 4096} {
		image := mixed(n, n*size)
		for _, on := range []bool{true, false} {
			d := disk.Of(image)
			if !on {
				d.Cut()
			}
			for _, from := range ends() {
				for _, size := range ends() {
					newAs(t, d, image, from, size)
				}
			}
			if d.IsOn() != on || d.Done() != 0 || d.Loose() != 0 || d.Image() != image {
				t.Fatal("a zone that is made has changed the disk")
			}
		}
	}
}

func newAs(t *testing.T, d *disk.Disk, image string, from, count int) {
	t.Helper()
	z, err := New(d, from, count)
	if !fits(from, count, d.Len()) {
		if z != nil || err != api.ErrArg {
			t.Fatalf("of %d: New(%d, %d): %v, %d", d.Len(), from, count, z, err)
		}
		return
	}
	if z == nil || err != api.OK || z.Len() != count || z.Disk != d {
		t.Fatalf("of %d: New(%d, %d): %v, %d", d.Len(), from, count, z, err)
	}
	if d.IsOn() && count < 40 {
		shows(t, "new", z, image[from*size:(from+count)*size])
	}
}

func TestWholeDisk(t *testing.T) {
	image := mixed(3, api.MaxSectors*size)
	d := disk.Of(image)
	z := made(t, d, 0, api.MaxSectors)
	if s, err := z.All(); s != image || err != api.OK || z.Len() != 4096 {
		t.Error("not all", z.Len(), err)
	}
	fine(t, "the last one", z.Write(4095, full('z')))
	last := made(t, d, 4095, 1)
	shows(t, "the last one", last, full('z'))
	fine(t, "all", z.Fill(9))
	if now(t, d) != strings.Repeat("\x09", api.MaxSectors*size) {
		t.Error("not all were filled")
	}
}

func TestPart(t *testing.T) {
	const n = 9
	image := mixed(5, n*size)
	for _, on := range []bool{true, false} {
		for from := range n {
			for count := 1; from+count <= n; count++ {
				d := disk.Of(image)
				if !on {
					d.Cut()
				}
				z := made(t, d, from, count)
				for _, at := range ends() {
					for _, places := range ends() {
						partAs(t, z, image[from*size:(from+count)*size], at, places)
					}
				}
				if d.IsOn() != on || d.Done() != 0 || d.Loose() != 0 || d.Image() != image {
					t.Fatal("a part has changed the disk")
				}
			}
		}
	}
}

func partAs(t *testing.T, z *Zone, bytes string, from, count int) {
	t.Helper()
	p, err := z.Part(from, count)
	if !fits(from, count, z.Len()) {
		if p != nil || err != api.ErrArg {
			t.Fatalf("of %d: Part(%d, %d): %v, %d", z.Len(), from, count, p, err)
		}
		return
	}
	if p == nil || p == z || err != api.OK || p.Len() != count || p.Disk != z.Disk {
		t.Fatalf("of %d: Part(%d, %d): %v, %d", z.Len(), from, count, p, err)
	}
	if z.IsOn() {
		shows(t, "part", p, bytes[from*size:(from+count)*size])
	}
}

// A part of a part has its places from the part's, not from the disk's.
func TestPartOfPart(t *testing.T) {
	image := mixed(6, 20*size)
	d := disk.Of(image)
	z := made(t, d, 3, 15)
	p := parted(t, z, 2, 10)
	q := parted(t, p, 4, 3)
	shows(t, "a part of a part", q, image[9*size:12*size])
	fine(t, "write", q.Write(2, full('q')))
	fine(t, "write", p.Write(0, full('p')))
	if now(t, d) != image[:5*size]+full('p')+image[6*size:11*size]+full('q')+image[12*size:] {
		t.Error("other sectors were written")
	}
	if x, err := q.Part(0, 4); x != nil || err != api.ErrArg {
		t.Error("beyond the part, within the one around it", err)
	}
	if x, err := q.Part(-1, 2); x != nil || err != api.ErrArg {
		t.Error("ahead of the part, within the one around it", err)
	}
	shows(t, "the one around is as long as it was", z, now(t, d)[3*size:18*size])
}

func TestNil(t *testing.T) {
	var z *Zone
	if z.Len() != 0 {
		t.Error(z.Len())
	}
	if s, err := z.All(); s != "" || err != api.ErrNil {
		t.Error(s, err)
	}
	for b := range 256 {
		if err := z.Fill(byte(b)); err != api.ErrNil {
			t.Error(err)
		}
	}
	for _, at := range ends() {
		if s, err := z.Read(at); s != "" || err != api.ErrNil {
			t.Errorf("Read(%d): %q, %d", at, s, err)
		}
		for _, s := range append(wrongTexts(), full('a')) {
			if err := z.Write(at, s); err != api.ErrNil {
				t.Errorf("Write(%d, %.9q): %d", at, s, err)
			}
		}
		for _, count := range ends() {
			if p, err := z.Part(at, count); p != nil || err != api.ErrNil {
				t.Errorf("Part(%d, %d): %v, %d", at, count, p, err)
			}
		}
	}
}

// P5.2

func TestTheExample(t *testing.T) {
	image := mixed(8, 5*size)
	d := disk.Of(image)
	z := made(t, d, 2, 2)
	if s, err := z.Read(1); s != image[3*size:4*size] || err != api.OK {
		t.Errorf("%q, %d", s, err)
	}
	fine(t, "write", z.Write(1, full('a')))
	if s, err := d.Read(3); s != full('a') || err != api.OK {
		t.Errorf("%q, %d", s, err)
	}
}

func TestReadBeyond(t *testing.T) {
	for _, on := range []bool{true, false} {
		d := disk.Of(mixed(1, 9*size))
		z := made(t, d, 3, 3)
		if !on {
			d.Cut()
		}
		for _, at := range wrongPlaces(3) {
			if s, err := z.Read(at); s != "" || err != api.ErrRange {
				t.Errorf("on %v: Read(%d): %q, %d", on, at, s, err)
			}
		}
	}
}

// Which error is ahead of which; and none of those ahead of the fuse burns it.
func TestWriteThatCant(t *testing.T) {
	image := mixed(2, 9*size)
	for _, fuse := range []int{-1, 0, 1} {
		for _, on := range []bool{true, false} {
			d := disk.Of(image)
			z := made(t, d, 3, 3)
			d.Fuse(fuse)
			if !on {
				d.Cut()
			}
			for _, at := range append(wrongPlaces(3), 0, 1, 2) {
				for _, s := range wrongTexts() {
					if err := z.Write(at, s); err != api.ErrArg {
						t.Errorf("Write(%d, %.9q): %d", at, s, err)
					}
				}
			}
			for _, at := range wrongPlaces(3) {
				if err := z.Write(at, full('a')); err != api.ErrRange {
					t.Errorf("Write(%d): %d", at, err)
				}
			}
			if d.IsOn() != on || d.Done() != 0 || d.Loose() != 0 || d.Image() != image || on && now(t, d) != image {
				t.Error("an error has changed something")
			}
		}
	}
}

func TestAway(t *testing.T) {
	image := mixed(2, 6*size)
	d := disk.Of(image)
	z := made(t, d, 1, 4)
	d.Cut()
	for range 2 {
		for at := range 4 {
			if s, err := z.Read(at); s != "" || err != api.ErrDown {
				t.Errorf("Read(%d): %q, %d", at, s, err)
			}
			if err := z.Write(at, full('a')); err != api.ErrDown {
				t.Errorf("Write(%d): %d", at, err)
			}
		}
		if s, err := z.All(); s != "" || err != api.ErrDown {
			t.Errorf("All: %.50q, %d", s, err)
		}
		for _, b := range []byte{0, 1, 'a', 255} {
			if err := z.Fill(b); err != api.ErrDown {
				t.Errorf("Fill(%d): %d", b, err)
			}
		}
		if z.Len() != 4 || d.Image() != image || d.Done() != 0 || z.IsOn() {
			t.Error(z.Len(), d.Done())
		}
	}
	d.Come()
	shows(t, "it came again", z, image[size:5*size])
	fine(t, "fill", z.Fill('a'))
	shows(t, "it came again", z, strings.Repeat("a", 4*size))
}

// That all are full of the byte already doesn't say so while the power is away.
func TestFillOfFullAway(t *testing.T) {
	d := disk.New(3)
	z := made(t, d, 0, 3)
	d.Cut()
	if err := z.Fill(0); err != api.ErrDown {
		t.Error(err)
	}
}

func TestWriteMeetsFuse(t *testing.T) {
	d := disk.New(4)
	z := made(t, d, 2, 2)
	d.Fuse(2, false, true)
	fine(t, "first", z.Write(0, full('a')))
	fine(t, "second", z.Write(1, full('b')))
	if z.Loose() != 2 || z.Done() != 2 {
		t.Error(z.Loose(), z.Done())
	}
	if err := z.Write(0, full('c')); err != api.ErrDown {
		t.Error(err)
	}
	if d.Image() != full(0)+full(0)+full(0)+full('b') || d.IsOn() || d.Done() != 2 {
		t.Errorf("%q", d.Image())
	}
}

func TestFillEachByte(t *testing.T) {
	image := mixed(7, 5*size)
	for b := range 256 {
		d := disk.Of(image)
		z := made(t, d, 1, 3)
		fine(t, "fill", z.Fill(byte(b)))
		middle := full(byte(b)) + full(byte(b)) + full(byte(b))
		shows(t, "filled", z, middle)
		if d.Image() != image || d.Loose() != 3 || d.Done() != 3 {
			t.Fatal("filled, but not synced", d.Loose(), d.Done())
		}
		fine(t, "once more", z.Fill(byte(b)))
		if d.Loose() != 3 || d.Done() != 3 {
			t.Fatal("what is full was written", d.Loose(), d.Done())
		}
		fine(t, "sync", z.Sync())
		if d.Image() != image[:size]+middle+image[4*size:] {
			t.Fatalf("%q", d.Image())
		}
	}
}

// One other byte, wherever it stands, and a sector isn't full.
func TestFillOfNearlyFull(t *testing.T) {
	for i := range size {
		for _, other := range []byte{'b', 'b' ^ 128, 0, 255} {
			s := full('a')
			s = s[:i] + string([]byte{other}) + s[i+1:]
			d := disk.Of(full('a') + s + full('a'))
			z := made(t, d, 0, 3)
			fine(t, "fill", z.Fill('a'))
			if d.Loose() != 1 || d.Done() != 1 {
				t.Fatalf("the byte %d: %d loose", i, d.Loose())
			}
			d.Cut(true)
			if d.Image() != full('a')+full('a')+full('a') {
				t.Fatalf("%q", d.Image())
			}
		}
	}
}

// What counts is what was written last, not what is safe.
func TestFillLooksAtLast(t *testing.T) {
	d := disk.New(3)
	z := made(t, d, 0, 3)
	fine(t, "write", z.Write(1, full('a')))
	fine(t, "fill", z.Fill(0))
	if d.Loose() != 2 {
		t.Error("safe, but not as it was written last", d.Loose())
	}
	shows(t, "filled", z, full(0)+full(0)+full(0))
	fine(t, "write", z.Write(2, full('a')))
	fine(t, "fill", z.Fill('a'))
	if d.Loose() != 5 {
		t.Error("as it was written last, but not safe", d.Loose())
	}
}

// A fill writes just those sectors that aren't full, rising, and stops where the power goes; all that were written are loose.
func TestFillMeetsFuse(t *testing.T) {
	const n = 5
	for mask := range 1 << n {
		image, places := full('<'), []int{}
		for at := range n {
			if mask>>at&1 == 1 {
				image, places = image+sectorOf(at), append(places, at+1)
			} else {
				image += full('x')
			}
		}
		image += full('>')
		for fuse := range n + 2 {
			fillAs(t, image, places, fuse)
		}
	}
}

func fillAs(t *testing.T, image string, places []int, fuse int) {
	t.Helper()
	for mask := range 1 << min(fuse, len(places)) {
		d := disk.Of(image)
		z := made(t, d, 1, d.Len()-2)
		keep := make([]bool, fuse)
		for i := range keep {
			keep[i] = mask>>i&1 == 1
		}
		d.Fuse(fuse, keep...)
		err := z.Fill('x')
		want := image
		for i, at := range places[:min(fuse, len(places))] {
			if keep[i] {
				want = want[:at*size] + full('x') + want[(at+1)*size:]
			}
		}
		if fuse >= len(places) {
			if err != api.OK || !d.IsOn() || d.Loose() != len(places) {
				t.Fatalf("a fuse of %d, for %d sectors: %d", fuse, len(places), err)
			}
			d.Cut(keep...)
		} else if err != api.ErrDown || d.IsOn() {
			t.Fatalf("a fuse of %d, for %d sectors: %d", fuse, len(places), err)
		}
		if d.Image() != want || d.Done() != min(fuse, len(places)) {
			t.Fatalf("a fuse of %d, for %v, keeps %v: %q", fuse, places, keep, d.Image())
		}
	}
}

func TestAsksBurnNoFuse(t *testing.T) {
	d := disk.New(4)
	z := made(t, d, 1, 2)
	d.Fuse(0, true)
	for range 5 {
		shows(t, "a fuse of 0", z, full(0)+full(0))
		fine(t, "what is full", z.Fill(0))
		made(t, d, 0, 4)
		parted(t, z, 1, 1)
		z.Read(2)
		z.Write(2, full('a'))
		z.Write(0, "short")
	}
	if !d.IsOn() || d.Done() != 0 {
		t.Error("it burnt", d.Done())
	}
	if err := z.Fill(1); err != api.ErrDown || d.IsOn() {
		t.Error(err)
	}
}

// P5.3

// Each write and fill of each zone of a disk, at all places and beyond, changes its own sectors alone.
func TestOwnSectorsAlone(t *testing.T) {
	const n = 6
	image := mixed(4, n*size)
	for from := range n {
		for count := 1; from+count <= n; count++ {
			for at := -n; at <= 2*n; at++ {
				d := disk.Of(image)
				z := made(t, d, from, count)
				err := z.Write(at, full('!'))
				want := image
				if at >= 0 && at < count {
					want = image[:(from+at)*size] + full('!') + image[(from+at+1)*size:]
				}
				if (err == api.OK) != (want != image) || now(t, d) != want || d.Image() != image {
					t.Fatalf("the zone %d, %d: Write(%d): %d", from, count, at, err)
				}
			}
			d := disk.Of(image)
			fine(t, "fill", made(t, d, from, count).Fill('!'))
			want := image[:from*size] + strings.Repeat("!", count*size) + image[(from+count)*size:]
			if now(t, d) != want || d.Loose() != count {
				t.Fatalf("the zone %d, %d: Fill", from, count)
			}
		}
	}
}

// What the zone embeds.

// The calls that a zone hasn't itself are the whole disk's.
func TestTheDisksCalls(t *testing.T) {
	d := disk.New(4)
	z := made(t, d, 1, 2)
	fine(t, "beside the zone", d.Write(3, full('d')))
	fine(t, "in the zone", z.Write(0, full('z')))
	if z.Loose() != 2 || z.Done() != 2 || !z.IsOn() || z.Image() != strings.Repeat("\x00", 4*size) {
		t.Error(z.Loose(), z.Done(), z.IsOn())
	}
	fine(t, "sync", z.Sync())
	want := full(0) + full('z') + full(0) + full('d')
	if z.Loose() != 0 || z.Done() != 3 || z.Image() != want || d.Image() != want {
		t.Errorf("%q", z.Image())
	}
	fine(t, "in the zone", z.Write(1, full('y')))
	fine(t, "beside the zone", d.Write(0, full('c')))
	z.Cut(false, true)
	want = full('c') + full('z') + full(0) + full('d')
	if d.IsOn() || z.IsOn() || z.Loose() != 0 || d.Image() != want {
		t.Errorf("%q", d.Image())
	}
	if err := z.Sync(); err != api.ErrDown {
		t.Error(err)
	}
	z.Come()
	if !d.IsOn() || !z.IsOn() {
		t.Error("it didn't come")
	}
	z.Fuse(1, true)
	fine(t, "beside the zone", d.Write(2, full('x')))
	if err := d.Write(1, full('w')); err != api.ErrDown || z.IsOn() {
		t.Error(err)
	}
	if z.Image() != full('c')+full('z')+full('x')+full('d') || z.Done() != 6 {
		t.Errorf("%q", z.Image())
	}
}

// Zones keep no bytes of their own: what one has of another's sectors, or of the disk's, it shows.
func TestZonesOfOneDisk(t *testing.T) {
	d := disk.New(5)
	a, b := made(t, d, 0, 3), made(t, d, 2, 3)
	p := parted(t, a, 2, 1)
	fine(t, "b", b.Write(0, full('b')))
	shows(t, "a", a, full(0)+full(0)+full('b'))
	shows(t, "the part", p, full('b'))
	fine(t, "the part", p.Fill('p'))
	shows(t, "b", b, full('p')+full(0)+full(0))
	d.Cut(true)
	d.Come()
	shows(t, "a, behind a loss", a, full(0)+full(0)+full('b'))
	shows(t, "b, behind a loss", b, full('b')+full(0)+full(0))
	shows(t, "the part, behind a loss", p, full('b'))
}

func TestAnswersStay(t *testing.T) {
	image := mixed(1, 3*size)
	z := made(t, disk.Of(image), 0, 3)
	s, _ := z.Read(1)
	whole, _ := z.All()
	fine(t, "fill", z.Fill('x'))
	fine(t, "sync", z.Sync())
	if s != image[size:2*size] || whole != image {
		t.Error("an answer was changed later")
	}
}

// Rows of commands on zones, held against the same rows on a disk without zones.

type deed struct {
	kind byte // w: write, f: fill, a: all, r: read, p: part, s: sync, c: cut, u: fuse, o: come
	zone int
	at   int
	n    int
	keep []bool
}

// span: what a zone is, of a disk without zones.
type span struct {
	from, size int
}

type pair struct {
	ours  *disk.Disk
	zones []*Zone
	other *disk.Disk
	spans []span
}

// both: a disk with a zone on it, and another one like it.
func both(n, from, count int) *pair {
	image := mixed(n, n*size)
	p := &pair{ours: disk.Of(image), other: disk.Of(image)}
	if z, err := New(p.ours, from, count); err == api.OK {
		p.zones, p.spans = append(p.zones, z), append(p.spans, span{from, count})
	}
	return p
}

func (p *pair) write(s span, at int, text string) api.Errno {
	if len(text) != size {
		return api.ErrArg
	}
	if at < 0 || at >= s.size {
		return api.ErrRange
	}
	return p.other.Write(s.from+at, text)
}

func (p *pair) fill(s span, b byte) api.Errno {
	for at := s.from; at < s.from+s.size; at++ {
		old, err := p.other.Read(at)
		if err == api.OK && strings.Trim(old, string([]byte{b})) != "" {
			err = p.other.Write(at, full(b))
		}
		if err != api.OK {
			return err
		}
	}
	return api.OK
}

func (p *pair) read(s span, at, count int) (string, api.Errno) {
	if at < 0 || at+count > s.size {
		return "", api.ErrRange
	}
	all := ""
	for i := range count {
		text, err := p.other.Read(s.from + at + i)
		if err != api.OK {
			return "", err
		}
		all += text
	}
	return all, api.OK
}

// do: one command, on both; what they answer.
func (p *pair) do(c deed) (string, api.Errno, string, api.Errno) {
	i := c.zone % len(p.zones)
	z, s := p.zones[i], p.spans[i]
	text := sectorOf(c.n)
	if c.n > 240 {
		text = text[c.n-240:]
	}
	switch c.kind {
	case 'w':
		return "", z.Write(c.at, text), "", p.write(s, c.at, text)
	case 'f':
		return "", z.Fill(byte(c.n % 3)), "", p.fill(s, byte(c.n%3))
	case 'a':
		a, err := z.All()
		b, want := p.read(s, 0, s.size)
		return a, err, b, want
	case 'r':
		a, err := z.Read(c.at)
		b, want := p.read(s, c.at, 1)
		return a, err, b, want
	case 'p':
		return p.part(z, s, c.at, c.n%6)
	case 's':
		return "", z.Sync(), "", p.other.Sync()
	case 'c':
		z.Cut(c.keep...)
		p.other.Cut(c.keep...)
	case 'u':
		z.Fuse(c.n%12-1, c.keep...)
		p.other.Fuse(c.n%12-1, c.keep...)
	case 'o':
		z.Come()
		p.other.Come()
	}
	return "", api.OK, "", api.OK
}

func (p *pair) part(z *Zone, s span, from, count int) (string, api.Errno, string, api.Errno) {
	got, err := z.Part(from, count)
	if !fits(from, count, s.size) {
		return "", err, "", api.ErrArg
	}
	if got != nil {
		p.zones, p.spans = append(p.zones, got), append(p.spans, span{s.from + from, count})
	}
	return "", err, "", api.OK
}

// alike: whether both disks, and all zones, tell the same.
func (p *pair) alike() bool {
	a, b := p.ours, p.other
	if a.IsOn() != b.IsOn() || a.Loose() != b.Loose() || a.Done() != b.Done() || a.Image() != b.Image() {
		return false
	}
	for at := range a.Len() {
		s, err := a.Read(at)
		if t, want := b.Read(at); s != t || err != want {
			return false
		}
	}
	for i, z := range p.zones {
		s, err := z.All()
		if t, want := p.read(p.spans[i], 0, p.spans[i].size); s != t || err != want || z.Len() != p.spans[i].size {
			return false
		}
	}
	return true
}

func walk(t *testing.T, p *pair, row []deed) {
	t.Helper()
	if len(p.zones) == 0 {
		return
	}
	for i, c := range row {
		a, err, b, want := p.do(c)
		if a != b || err != want || !p.alike() {
			t.Fatalf("%s: behind the command %d: %d, not %d", tell(row[:i+1]), i, err, want)
		}
	}
}

func tell(row []deed) string {
	s := ""
	for _, c := range row {
		s += fmt.Sprintf("%c of %d: %d %d %v; ", c.kind, c.zone, c.at, c.n, c.keep)
	}
	return s
}

// told: commands that bytes tell.
func told(bytes []byte) []deed {
	row := []deed{}
	for part := range slices.Chunk(bytes, 6) {
		part = append(slices.Clone(part), 0, 0, 0, 0, 0)
		c := deed{kind: "wwwwwwffarppsscuoo"[part[0]%18], zone: int(part[1] % 8), at: int(part[2]%10) - 1, n: int(part[3])}
		for i := range part[4] % 10 {
			c.keep = append(c.keep, part[5]>>i&1 == 1)
		}
		row = append(row, c)
	}
	return row
}

// alphabet: commands that all short rows are made of.
func alphabet() []deed {
	return []deed{
		{kind: 'w', n: 7}, {kind: 'w', at: 1, n: 8}, {kind: 'w', zone: 1, n: 9}, {kind: 'w', at: 2, n: 1}, {kind: 'w', at: -1, n: 250},
		{kind: 'f', n: 1}, {kind: 'f', zone: 1}, {kind: 'p', at: 1, n: 1}, {kind: 's'}, {kind: 'o'},
		{kind: 'c', keep: []bool{false, true}}, {kind: 'u', n: 1, keep: []bool{true}}, {kind: 'u', n: 2, keep: []bool{true}},
	}
}

func TestAllShortRows(t *testing.T) {
	letters := alphabet()
	row := make([]deed, 4)
	for n := range len(letters) * len(letters) * len(letters) * len(letters) {
		for i := range row {
			row[i] = letters[n%len(letters)]
			n /= len(letters)
		}
		walk(t, both(4, 1, 2), row)
	}
}

func TestLongRows(t *testing.T) {
	r := rand.New(rand.NewSource(5))
	for n := range 300 {
		bytes := make([]byte, 1200)
		r.Read(bytes)
		from := n / 10 % 5
		walk(t, both(9, from, 1+n%(9-from)), told(bytes))
	}
}

func FuzzZone(f *testing.F) {
	f.Add([]byte{9, 2, 5, 0, 0, 1, 7, 0, 0, 10, 0, 2, 2, 0, 0, 6, 1, 0, 2, 0, 0})
	f.Add([]byte{6, 0, 6, 15, 0, 0, 3, 4, 1, 6, 0, 0, 1, 0, 0, 14, 0, 0, 0, 9, 255})
	f.Fuzz(func(t *testing.T, bytes []byte) {
		if len(bytes) > 2 {
			walk(t, both(int(bytes[0]%10), int(bytes[1]%10), int(bytes[2]%10)), told(bytes[3:]))
		}
	})
}
