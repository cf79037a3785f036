package slot

import (
	"crypto/sha256"
	"encoding/binary"
	"fmt"
	"math"
	"math/rand"
	"slices"
	"strings"
	"testing"

	"coadjutor/api"
	"coadjutor/disk"
	"coadjutor/zone"
)

const (
	sector = api.SectorSize
	most   = 1<<31 - 1
)

// mixed: so many bytes, none like those beside it, other ones for each n.
func mixed(n, bytes int) string {
	all := make([]byte, bytes)
	for i := range all {
		all[i] = byte(i*7 + i/256 + n*31 + 1)
	}
	return string(all)
}

func numOf(n int) string {
	return string(binary.LittleEndian.AppendUint32(nil, uint32(n)))
}

func sumOf(s string) string {
	sum := sha256.Sum256([]byte(s))
	return string(sum[:])
}

// sectorsFor: how many sectors a text of so many bytes has, by counting.
func sectorsFor(bytes int) int {
	count := 0
	for count*28 < 36+bytes {
		count++
	}
	return count
}

// bytesOf: a sealed text's bytes, without the numbers, by the library.
func bytesOf(s string) string {
	rest := numOf(len(s)) + s
	rest += strings.Repeat("\x00", 28*sectorsFor(len(s))-32-len(rest))
	return sumOf(rest) + rest
}

// cutUp: bytes as sectors with this number.
func cutUp(n int, all string) []string {
	list := []string{}
	for part := range slices.Chunk([]byte(all), 28) {
		list = append(list, string(part)+numOf(n))
	}
	return list
}

// laid: a sealed text's sectors.
func laid(n int, s string) []string {
	return cutUp(n, bytesOf(s))
}

// told: the sealed text that sectors begin with, read as layer 6 has it.
func told(list []string) (string, int, api.Errno) {
	nums, all := []int{}, ""
	for _, s := range list {
		nums = append(nums, int(binary.LittleEndian.Uint32([]byte(s[28:]))))
		all += s[:28]
	}
	if nums[0] == 0 || nums[0] > most || len(list) < 2 || nums[1] != nums[0] {
		return "", 0, api.ErrForm
	}
	length := int(binary.LittleEndian.Uint32([]byte(all[32:])))
	if length > 1024 || sectorsFor(length) > len(list) {
		return "", 0, api.ErrForm
	}
	nums = nums[:sectorsFor(length)]
	if slices.Max(nums) != nums[0] || slices.Min(nums) != nums[0] {
		return "", 0, api.ErrForm
	}
	text := all[36 : 36+length]
	if all[:28*len(nums)] != bytesOf(text) {
		return "", 0, api.ErrSum
	}
	return text, nums[0], api.OK
}

// shape is a zone of a disk, and how many bytes a chunk has at most.
type shape struct{ from, count, size int }

func (p shape) per() int {
	return sectorsFor(p.size)
}

func (p shape) chunks() int {
	n := 0
	for n < 64 && (n+1)*p.per() <= p.count {
		n++
	}
	return n
}

// shapes: slots of all kinds: with sectors behind the last place, with room for one byte more in a place and without, with one chunk and with as many as there may be.
func shapes() []shape {
	return []shape{
		{1, 8, 30}, {0, 8, 20}, {2, 2, 1}, {1, 3, 20}, {3, 9, 21}, {0, 11, 48}, {1, 4, 49},
		{2, 7, 7}, {1, 12, 256}, {1, 34, 255}, {0, 130, 5}, {2, 131, 20}, {1, 128, 19}, {1, 127, 2}, {0, 26, 100},
	}
}

// view is a slot as the chapter tells it, of a disk's sectors, one by one.
type view struct {
	*disk.Disk
	shape
}

func (v view) place(at int) int {
	return v.from + at*v.per()
}

func (v view) get(at int) (string, int, api.Errno) {
	if at < 0 || at >= v.chunks() {
		return "", 0, api.ErrRange
	}
	list := []string{}
	// No text has more sectors than the longest one.
	for i := v.place(at); i < v.from+v.count && len(list) < sectorsFor(1024); i++ {
		s, err := v.Read(i)
		if err != api.OK {
			return "", 0, err
		}
		list = append(list, s)
	}
	text, n, err := told(list)
	if len(text) > v.size {
		return "", 0, api.ErrForm
	}
	return text, n, err
}

func (v view) put(at, n int, data string) api.Errno {
	if at < 0 || at >= v.chunks() {
		return api.ErrRange
	}
	if len(data) > v.size || n < 1 || n > most {
		return api.ErrArg
	}
	for i, s := range laid(n, data) {
		if err := v.Write(v.place(at)+i, s); err != api.OK {
			return err
		}
	}
	return api.OK
}

// look: which of the first so many chunks are whole, and of an update, and the bytes of these.
func (v view) look(n, count int) ([]int, string, api.Errno) {
	if count < 1 || count > v.chunks() {
		return nil, "", api.ErrArg
	}
	if !v.IsOn() {
		return nil, "", api.ErrDown
	}
	row, all := []int{}, ""
	for at := range count {
		if text, m, err := v.get(at); err == api.OK && m == n {
			row = append(row, at)
			all += text
		}
	}
	return row, all, api.OK
}

func fine(t testing.TB, name string, err api.Errno) {
	t.Helper()
	if err != api.OK {
		t.Fatalf("%s: %d", name, err)
	}
}

func zoned(t testing.TB, d *disk.Disk, from, count int) *zone.Zone {
	t.Helper()
	z, err := zone.New(d, from, count)
	fine(t, "zone", err)
	return z
}

// made: a slot of this shape, on a disk with four sectors behind it, and the view of it.
func made(t testing.TB, p shape, image string) (*Slot, view) {
	t.Helper()
	d := disk.New(p.from + p.count + 4)
	if image != "" {
		d = disk.Of(image)
	}
	s, err := New(zoned(t, d, p.from, p.count), p.size)
	fine(t, "new", err)
	if s == nil || s.Disk != d {
		t.Fatal("new: no slot of this disk")
	}
	return s, view{d, p}
}

// noise: a disk's bytes that no chunk is whole in.
func noise(p shape) string {
	return mixed(p.count, (p.from+p.count+4)*sector)
}

// now: a disk's bytes, as they were written last.
func now(t testing.TB, d *disk.Disk) string {
	t.Helper()
	all := ""
	for at := range d.Len() {
		s, err := d.Read(at)
		fine(t, "read", err)
		all += s
	}
	return all
}

// got: whether a chunk is just this one; asked twice, since to ask changes nothing.
func got(t testing.TB, name string, s *Slot, at, n int, want string) {
	t.Helper()
	for range 2 {
		if data, m, err := s.Get(at); data != want || m != n || err != api.OK {
			t.Fatalf("%s: Get(%d): %.50q, %d, %d; not %.50q, %d", name, at, data, m, err, want, n)
		}
	}
}

func refused(t testing.TB, name string, s *Slot, at int, want api.Errno) {
	t.Helper()
	for range 2 {
		if data, n, err := s.Get(at); data != "" || n != 0 || err != want {
			t.Fatalf("%s: Get(%d): %.50q, %d, %d; not %d", name, at, data, n, err, want)
		}
	}
}

// looked: whether Scan and All say what the view says.
func looked(t testing.TB, name string, s *Slot, v view, n, count int) {
	t.Helper()
	row, all, want := v.look(n, count)
	set, err := s.Scan(n, count)
	if err != want || (set == nil) != (want != api.OK) {
		t.Fatalf("%s: Scan(%d, %d): %v, %d; not %d", name, n, count, set, err, want)
	}
	if set != nil && (set.Len() != count || !slices.Equal(set.Row(), row)) {
		t.Fatalf("%s: Scan(%d, %d): %v of %d; not %v", name, n, count, set.Row(), set.Len(), row)
	}
	if want == api.OK && len(row) < count {
		all, want = "", api.ErrForm
	}
	if text, err := s.All(n, count); text != all || err != want {
		t.Fatalf("%s: All(%d, %d): %.50q, %d; not %.50q, %d", name, n, count, text, err, all, want)
	}
}

// held: whether a slot says just what the view says, to all that can be asked, of these numbers, and changes nothing.
func held(t testing.TB, name string, s *Slot, v view, numbers ...int) {
	t.Helper()
	if s.Chunks() != v.chunks() || s.Size() != v.size || s.Len() != v.count {
		t.Fatalf("%s: %d chunks of %d bytes in %d sectors", name, s.Chunks(), s.Size(), s.Len())
	}
	on, loose, done, image := s.IsOn(), s.Loose(), s.Done(), s.Image()
	for at := -1; at <= v.chunks(); at++ {
		data, n, want := v.get(at)
		if want != api.OK {
			refused(t, name, s, at, want)
			continue
		}
		got(t, name, s, at, n, data)
	}
	for _, n := range numbers {
		for _, count := range []int{-1, 0, 1, 2, 3, v.chunks() - 1, v.chunks(), v.chunks() + 1} {
			looked(t, name, s, v, n, count)
		}
	}
	if s.IsOn() != on || s.Loose() != loose || s.Done() != done || s.Image() != image {
		t.Fatalf("%s: to ask has changed something", name)
	}
}

// stays: a slot on a disk that nothing is done to; whether the power is there, a fuse of 0.
func stays(t *testing.T, p shape, on bool, try func(s *Slot, v view)) {
	t.Helper()
	image := noise(p)
	s, v := made(t, p, image)
	v.Fuse(0, true)
	if !on {
		v.Cut()
	}
	try(s, v)
	if v.IsOn() != on || v.Done() != 0 || v.Loose() != 0 || v.Image() != image || on && now(t, v.Disk) != image {
		t.Error("something was changed")
	}
}

// strange: numbers that are none of so many places or counts.
func strange(n int) []int {
	return []int{
		-1, -2, -n, -n - 1, -64, math.MinInt, math.MinInt + 1, math.MinInt / 2, -1 << 31, -1 << 32, -1 << 61, -1 << 60,
		n + 1, n + 2, 2*n + 1, 65, 66, 128, 4096, 1 << 31, 1 << 32, 1<<32 + 1, 1 << 60, 1 << 61, 1 << 62, 1<<62 + 1, math.MaxInt / 2, math.MaxInt/3 + 1, math.MaxInt - 1, math.MaxInt,
	}
}

func numbers() []int {
	return []int{1, 2, 3, 255, 256, 257, 1<<16 - 1, 1 << 16, 1 << 24, 0x01020304, most - 1, most}
}

// wrongNumbers: some that no chunk has.
func wrongNumbers() []int {
	return []int{0, -1, -2, -1 << 31, -1 << 32, 1 - 1<<32, math.MinInt, math.MinInt + 1, 1 << 31, 1<<31 + 1, 1<<32 - 1, 1 << 32, 1<<32 + 1, 1<<33 + 7, math.MaxInt}
}

// lengths: of how many bytes chunks are tried.
func lengths(size int) []int {
	list := []int{0, 1, 19, 20, 21, 47, 48, 49, 100, size / 2, size - 1, size}
	return slices.DeleteFunc(list, func(n int) bool { return n > size })
}

// some: chunks at both ends and in the middle.
func some(chunks int) []int {
	list := []int{}
	for _, at := range []int{0, 1, chunks / 2, chunks - 3, chunks - 2, chunks - 1} {
		if at >= 0 && at < chunks && !slices.Contains(list, at) {
			list = append(list, at)
		}
	}
	return list
}

// P9.1

func TestPer(t *testing.T) {
	for n := -600; n <= 1200; n++ {
		want := 0
		if n >= 1 && n <= 256 {
			want = sectorsFor(n)
		}
		if Per(n) != want {
			t.Errorf("Per(%d): %d, not %d", n, Per(n), want)
		}
	}
	for _, n := range []int{math.MinInt, math.MinInt + 1, -1 << 32, 1 - 1<<32, 1 << 31, 1<<32 + 1, 1<<32 + 256, math.MaxInt - 63, math.MaxInt} {
		if Per(n) != 0 {
			t.Errorf("Per(%d): %d", n, Per(n))
		}
	}
	for n, want := range map[int]int{1: 2, 20: 2, 21: 3, 30: 3, 48: 3, 49: 4, 104: 5, 105: 6, 244: 10, 245: 11, 256: 11} {
		if Per(n) != want {
			t.Errorf("Per(%d): %d, not %d", n, Per(n), want)
		}
	}
}

func TestNewOfNil(t *testing.T) {
	for _, n := range append(strange(256), 0, 1, 20, 255, 256, 257) {
		if s, err := New(nil, n); s != nil || err != api.ErrNil {
			t.Errorf("New(nil, %d): %v, %d", n, s, err)
		}
	}
}

// newAs: whether a zone, of a disk that has more sectors, gives a slot just where it can be.
func newAs(t *testing.T, d *disk.Disk, from, count, n int) {
	t.Helper()
	z := zoned(t, d, from, count)
	s, err := New(z, n)
	if n < 1 || n > 256 || count < sectorsFor(n) {
		if s != nil || err != api.ErrArg {
			t.Fatalf("New of %d sectors, %d: %v, %d", count, n, s, err)
		}
		return
	}
	if s == nil || err != api.OK || s.Zone != z || s.Size() != n || s.Chunks() != (shape{from, count, n}).chunks() || s.Len() != count {
		t.Fatalf("New of %d sectors, %d: %v, %d", count, n, s, err)
	}
}

func TestNew(t *testing.T) {
	image := mixed(3, api.MaxSectors*sector)
	for _, on := range []bool{true, false} {
		d := disk.Of(image)
		d.Fuse(0)
		if !on {
			d.Cut()
		}
		for _, count := range []int{1, 2, 3, 4, 5, 6, 7, 8, 9, 10, 11, 12, 13, 21, 22, 23, 33, 63, 64, 65, 126, 127, 128, 129, 130, 131, 191, 192, 193, 194, 195, 256, 692, 693, 703, 704, 705, 715, 4000, 4095} {
			for n := -2; n <= 300; n++ {
				newAs(t, d, 1, count, n)
			}
			for _, n := range []int{math.MinInt, math.MinInt + 1, -1 << 32, 1 << 31, 1<<32 + 1, 1<<32 + 256, math.MaxInt} {
				newAs(t, d, 1, count, n)
			}
		}
		newAs(t, d, 0, 4096, 1)
		newAs(t, d, 0, 4096, 256)
		if d.IsOn() != on || d.Done() != 0 || d.Loose() != 0 || d.Image() != image {
			t.Error("a slot that is made has changed the disk")
		}
	}
}

func TestTheExample(t *testing.T) {
	z := zoned(t, disk.New(8), 0, 8)
	s, err := New(z, 20)
	fine(t, "new", err)
	if s.Chunks() != 4 || s.Size() != 20 || Per(20) != 2 {
		t.Error(s.Chunks(), s.Size(), Per(20))
	}
}

func TestNil(t *testing.T) {
	var s *Slot
	if s.Chunks() != 0 || s.Size() != 0 {
		t.Error(s.Chunks(), s.Size())
	}
	for _, at := range append(strange(3), 0, 1, 2, 3) {
		refused(t, "nil", s, at, api.ErrNil)
		for _, n := range append(wrongNumbers(), 1, most) {
			for _, data := range []string{"", "a", mixed(1, 257), mixed(2, 1025)} {
				if err := s.Put(at, n, data); err != api.ErrNil {
					t.Errorf("Put(%d, %d): %d", at, n, err)
				}
			}
			if set, err := s.Scan(n, at); set != nil || err != api.ErrNil {
				t.Errorf("Scan(%d, %d): %v, %d", n, at, set, err)
			}
			if all, err := s.All(n, at); all != "" || err != api.ErrNil {
				t.Errorf("All(%d, %d): %q, %d", n, at, all, err)
			}
		}
	}
}

// The zone's own calls are the slot's, but All.
func TestEmbeds(t *testing.T) {
	p := shape{2, 8, 30}
	s, v := made(t, p, noise(p))
	image := v.Image()
	if x, err := s.Read(1); x != image[3*sector:4*sector] || err != api.OK {
		t.Errorf("%q, %d", x, err)
	}
	if all, err := s.Zone.All(); all != image[2*sector:10*sector] || err != api.OK {
		t.Errorf("%.50q, %d", all, err)
	}
	fine(t, "put", s.Put(1, 7, "a text"))
	part, err := s.Part(3, 2)
	fine(t, "part", err)
	for i, want := range laid(7, "a text") {
		if x, err := part.Read(i); x != want || err != api.OK {
			t.Errorf("%d: %q, %d", i, x, err)
		}
	}
	fine(t, "sync", s.Sync())
	if s.Loose() != 0 || s.Done() != 3 || s.Image() != now(t, v.Disk) {
		t.Error(s.Loose(), s.Done())
	}
	fine(t, "fill", s.Fill(0))
	refused(t, "filled", s, 1, api.ErrForm)
	s.Cut()
	if s.IsOn() || s.Len() != 8 || s.Chunks() != 2 || s.Size() != 30 {
		t.Error("away")
	}
	s.Come()
	got(t, "it was safe", s, 1, 7, "a text")
}

// P9.2: Put

// Which error is ahead of which; and none of these burns the fuse.
func TestPutThatCant(t *testing.T) {
	for _, p := range shapes() {
		for _, on := range []bool{true, false} {
			stays(t, p, on, func(s *Slot, v view) {
				long := []string{mixed(1, p.size+1), mixed(2, p.size+2), mixed(3, 1024), mixed(4, 1025), mixed(5, 5000)}
				all := append([]string{"", "a", mixed(6, p.size)}, long...)
				for _, at := range append(strange(p.chunks()), p.chunks()) {
					if at >= 0 && at < p.chunks() {
						continue
					}
					for _, data := range all {
						for _, n := range []int{1, most, 0, -1, 1 << 31} {
							if err := s.Put(at, n, data); err != api.ErrRange {
								t.Errorf("%v Put(%d, %d) of %d bytes: %d", p, at, n, len(data), err)
							}
						}
					}
				}
				for at := range p.chunks() {
					for _, n := range wrongNumbers() {
						for _, data := range all {
							if err := s.Put(at, n, data); err != api.ErrArg {
								t.Errorf("%v Put(%d, %d) of %d bytes: %d", p, at, n, len(data), err)
							}
						}
					}
					for _, n := range numbers() {
						for _, data := range long {
							if err := s.Put(at, n, data); err != api.ErrArg {
								t.Errorf("%v Put(%d, %d) of %d bytes: %d", p, at, n, len(data), err)
							}
						}
					}
				}
			})
		}
	}
}

func TestPutAway(t *testing.T) {
	for _, p := range shapes() {
		stays(t, p, false, func(s *Slot, v view) {
			for at := range p.chunks() {
				for _, length := range lengths(p.size) {
					if err := s.Put(at, 1, mixed(1, length)); err != api.ErrDown {
						t.Errorf("%v Put(%d) of %d bytes: %d", p, at, length, err)
					}
				}
				if s.Put(at, 0, "") != api.ErrArg || s.Put(at, 1, mixed(1, p.size+1)) != api.ErrArg || s.Put(p.chunks(), 0, mixed(1, p.size+1)) != api.ErrRange {
					t.Errorf("%v: the power is asked for ahead of the rest", p)
				}
			}
		})
	}
}

// Just the text's own sectors are written, at the chunk's place; they aren't safe.
func TestPut(t *testing.T) {
	for _, p := range shapes() {
		image := noise(p)
		for at := range p.chunks() {
			for i, length := range lengths(p.size) {
				s, v := made(t, p, image)
				data, n := mixed(length+at, length), numbers()[(at+i)%len(numbers())]
				fine(t, "put", s.Put(at, n, data))
				list := laid(n, data)
				from := v.place(at) * sector
				want := image[:from] + strings.Join(list, "") + image[from+len(list)*sector:]
				if now(t, v.Disk) != want || v.Image() != image || v.Loose() != len(list) || v.Done() != len(list) {
					t.Fatalf("%v Put(%d) of %d bytes: other sectors than its own were written, or synced", p, at, length)
				}
				got(t, "put", s, at, n, data)
			}
		}
	}
}

func TestPutEachLength(t *testing.T) {
	for _, size := range []int{1, 19, 20, 21, 48, 49, 255, 256} {
		s, v := made(t, shape{1, 40, size}, "")
		for length := range 300 {
			data := mixed(length, length)
			err := s.Put(length%s.Chunks(), length+1, data)
			if length > size {
				if err != api.ErrArg {
					t.Fatalf("of %d: %d bytes: %d", size, length, err)
				}
				continue
			}
			fine(t, "put", err)
			held(t, "each length", s, v, 1, length+1)
		}
	}
}

func TestPutEachNumber(t *testing.T) {
	s, v := made(t, shape{0, 9, 21}, "")
	for _, n := range numbers() {
		for at := range s.Chunks() {
			fine(t, "put", s.Put(at, n, mixed(n, at*10)))
		}
		held(t, "each number", s, v, n, n-1, n+1)
		for _, wrong := range wrongNumbers() {
			if err := s.Put(1, wrong, "a"); err != api.ErrArg {
				t.Errorf("Put of %d: %d", wrong, err)
			}
			held(t, "a wrong number", s, v, n, wrong)
		}
	}
}

// A chunk is put over another one, longer or shorter, of the same update or not.
func TestPutOver(t *testing.T) {
	for _, p := range []shape{{1, 8, 48}, {0, 25, 256}, {1, 5, 20}} {
		for _, a := range lengths(p.size) {
			for _, b := range lengths(p.size) {
				for _, n := range []int{4, 5} {
					s, v := made(t, p, "")
					fine(t, "first", s.Put(0, 4, mixed(1, a)))
					fine(t, "second", s.Put(0, n, mixed(2, b)))
					got(t, "over", s, 0, n, mixed(2, b))
					held(t, "over", s, v, 4, 5)
				}
			}
		}
	}
}

// All its sectors are written, rising, also those that were so already; what is written ahead of the loss is kept as the fuse says.
func TestPutMeetsFuse(t *testing.T) {
	p := shape{2, 9, 100}
	data := mixed(1, 100)
	list := laid(3, data)
	for fuse := range len(list) + 2 {
		written := min(fuse, len(list))
		for mask := range 1 << written {
			image := []byte(noise(p))
			s, v := made(t, p, string(image))
			keep := []bool{}
			for i := range written {
				keep = append(keep, mask>>i&1 == 1)
				if keep[i] {
					copy(image[(2+i)*sector:], list[i])
				}
			}
			v.Fuse(fuse, keep...)
			err := s.Put(0, 3, data)
			if fuse < len(list) && err != api.ErrDown || fuse >= len(list) && err != api.OK {
				t.Fatalf("a fuse of %d: %d", fuse, err)
			}
			v.Cut(keep...)
			if v.Done() != written || v.Image() != string(image) {
				t.Fatalf("a fuse of %d that keeps %v: %d, %q", fuse, keep, v.Done(), v.Image())
			}
			v.Come()
			held(t, "behind the loss", s, v, 3)
			if _, _, err := s.Get(0); (err == api.OK) != (mask == 1<<len(list)-1) {
				t.Fatalf("a fuse of %d that keeps %v: Get: %d", fuse, keep, err)
			}
		}
	}
}

// P9.2: Get

func TestGetThatCant(t *testing.T) {
	for _, p := range shapes() {
		for _, on := range []bool{true, false} {
			stays(t, p, on, func(s *Slot, v view) {
				for _, at := range append(strange(p.chunks()), p.chunks()) {
					if at < 0 || at >= p.chunks() {
						refused(t, "no chunk", s, at, api.ErrRange)
					}
				}
				for at := range p.chunks() {
					want := api.ErrForm
					if !on {
						want = api.ErrDown
					}
					refused(t, "noise", s, at, want)
				}
			})
		}
	}
}

// lay: texts' sectors on a disk, from sectors on, whatever they are.
func lay(t testing.TB, d *disk.Disk, from int, list []string) {
	t.Helper()
	for i, s := range list {
		if from+i < d.Len() {
			fine(t, "lay", d.Write(from+i, s))
		}
	}
}

// A text that is whole but too long is no chunk, be it all in the chunk's place or not, be it all in the zone or not.
func TestGetTooLong(t *testing.T) {
	for _, p := range shapes() {
		for _, at := range some(p.chunks()) {
			for _, length := range []int{p.size, p.size + 1, p.size + 2, 28*p.per() - 36, 28*p.per() - 35, 255, 256, 257, 500, 1024} {
				s, v := made(t, p, "")
				lay(t, v.Disk, v.place(at), laid(9, mixed(2, length)))
				if length <= p.size {
					got(t, "just not too long", s, at, 9, mixed(2, length))
				} else {
					refused(t, "too long", s, at, api.ErrForm)
				}
				held(t, "too long", s, v, 9)
			}
		}
	}
}

// The way of a text that is too long is layer 6's too: where its own sum is wrong, that is said.
func TestGetTooLongOfAnotherSum(t *testing.T) {
	p := shape{1, 12, 20}
	for _, length := range []int{0, 20, 21, 60, 100} {
		list := laid(8, mixed(3, length))
		list[0] = "x" + list[0][1:]
		for at := range p.chunks() {
			s, v := made(t, p, "")
			lay(t, v.Disk, v.place(at), list)
			want := api.ErrSum
			if at*2+len(list) > 12 {
				want = api.ErrForm
			}
			refused(t, "another sum", s, at, want)
			held(t, "another sum", s, v, 8)
		}
	}
}

// Each bit of a chunk matters, and none behind its text's sectors does.
func TestGetEachBit(t *testing.T) {
	p := shape{1, 9, 50}
	for _, length := range []int{0, 1, 20, 21, 50} {
		for i := range 8 * p.per() * sector {
			s, v := made(t, p, "")
			fine(t, "put", s.Put(1, 0x01020304, mixed(1, length)))
			at := v.place(1) + i/8/sector
			old, err := v.Read(at)
			fine(t, "read", err)
			bytes := []byte(old)
			bytes[i/8%sector] ^= 1 << (i % 8)
			fine(t, "write", v.Write(at, string(bytes)))
			held(t, "a bit", s, v, 0x01020304)
			if _, _, err := s.Get(1); (err == api.OK) != (i/8/sector >= sectorsFor(length)) {
				t.Fatalf("the bit %d of %d bytes: %d", i, length, err)
			}
		}
	}
}

// What is got is what was written last, safe or not.
func TestGetLooksAtLast(t *testing.T) {
	s, v := made(t, shape{1, 8, 30}, "")
	fine(t, "put", s.Put(1, 4, "first"))
	fine(t, "sync", s.Sync())
	fine(t, "put", s.Put(1, 5, "second"))
	v.Fuse(0)
	held(t, "loose", s, v, 4, 5)
	got(t, "loose", s, 1, 5, "second")
	v.Cut()
	held(t, "away", s, v, 4, 5)
	refused(t, "away", s, 1, api.ErrDown)
	v.Come()
	got(t, "it was lost", s, 1, 4, "first")
	held(t, "it was lost", s, v, 4, 5)
}

// P9.3

func TestLookThatCant(t *testing.T) {
	for _, p := range shapes() {
		for _, on := range []bool{true, false} {
			stays(t, p, on, func(s *Slot, v view) {
				for _, count := range append(strange(p.chunks()), 0) {
					if count >= 1 && count <= p.chunks() {
						continue
					}
					for _, n := range append(wrongNumbers(), 1, most) {
						if set, err := s.Scan(n, count); set != nil || err != api.ErrArg {
							t.Errorf("%v Scan(%d, %d): %v, %d", p, n, count, set, err)
						}
						if all, err := s.All(n, count); all != "" || err != api.ErrArg {
							t.Errorf("%v All(%d, %d): %.20q, %d", p, n, count, all, err)
						}
					}
				}
			})
		}
	}
}

// While the power is away nothing is told, also where all was there, or nothing.
func TestLookAway(t *testing.T) {
	for _, p := range shapes() {
		s, v := made(t, p, "")
		for at := range p.chunks() {
			fine(t, "put", s.Put(at, 6, mixed(at, p.size)))
		}
		fine(t, "sync", s.Sync())
		s.Cut()
		for _, n := range append(wrongNumbers(), 6, 7) {
			for count := 1; count <= p.chunks(); count++ {
				if set, err := s.Scan(n, count); set != nil || err != api.ErrDown {
					t.Errorf("%v Scan(%d, %d): %v, %d", p, n, count, set, err)
				}
				if all, err := s.All(n, count); all != "" || err != api.ErrDown {
					t.Errorf("%v All(%d, %d): %.20q, %d", p, n, count, all, err)
				}
			}
		}
		held(t, "away", s, v, 6)
		s.Come()
		held(t, "it came again", s, v, 6)
	}
}

// Five chunks, each there, of another update, of a wrong sum or not there.
func TestLookAtAllKinds(t *testing.T) {
	const chunks = 5
	p := shape{1, 2*chunks + 1, 20}
	for n := range 4 * 4 * 4 * 4 * 4 {
		s, v := made(t, p, "")
		want, all := []int{}, ""
		for at := range chunks {
			data := mixed(at, 4*at)
			switch n >> (2 * at) & 3 {
			case 1:
				fine(t, "put", s.Put(at, 8, data))
				want, all = append(want, at), all+data
			case 2:
				fine(t, "put", s.Put(at, 9, data))
			case 3:
				list := laid(8, data)
				lay(t, v.Disk, v.place(at), []string{"y" + list[0][1:], list[1]})
			}
		}
		set, err := s.Scan(8, chunks)
		if err != api.OK || !slices.Equal(set.Row(), want) || set.Len() != chunks {
			t.Fatalf("%b: Scan: %v, %d; not %v", n, set.Row(), err, want)
		}
		text, err := s.All(8, chunks)
		if len(want) == chunks && (text != all || err != api.OK) || len(want) < chunks && (text != "" || err != api.ErrForm) {
			t.Fatalf("%b: All: %.50q, %d", n, text, err)
		}
		for count := range chunks + 2 {
			for _, m := range []int{0, 8, 9, 10} {
				looked(t, "kinds", s, v, m, count)
			}
		}
	}
}

// Each count has just the first so many; what is behind them plays no part.
func TestLookAtEachCount(t *testing.T) {
	for _, p := range shapes() {
		s, v := made(t, p, "")
		for at := range p.chunks() {
			fine(t, "put", s.Put(at, 3, mixed(at, at%(p.size+1))))
		}
		for gone := p.chunks(); gone >= 0; gone-- {
			if gone < p.chunks() {
				lay(t, v.Disk, v.place(gone), []string{mixed(5, sector)})
			}
			all := ""
			for count := 1; count <= p.chunks(); count++ {
				all += mixed(count-1, (count-1)%(p.size+1))
				set, err := s.Scan(3, count)
				if err != api.OK || set.Len() != count || set.Count() != min(count, gone) || set.Count() > 0 && set.Row()[set.Count()-1] != set.Count()-1 {
					t.Fatalf("%v Scan(3, %d), %d are whole: %v, %d", p, count, gone, set.Row(), err)
				}
				text, err := s.All(3, count)
				if count <= gone && (text != all || err != api.OK) || count > gone && (text != "" || err != api.ErrForm) {
					t.Fatalf("%v All(3, %d), %d are whole: %.50q, %d", p, count, gone, text, err)
				}
			}
		}
	}
}

// Chunks without bytes are there too; one byte more than a chunk has isn't one.
func TestLookAtEnds(t *testing.T) {
	p := shape{1, 8, 19}
	s, v := made(t, p, "")
	for at := range 4 {
		fine(t, "put", s.Put(at, 1, ""))
	}
	if all, err := s.All(1, 4); all != "" || err != api.OK {
		t.Errorf("%q, %d", all, err)
	}
	held(t, "without bytes", s, v, 1)
	for at := range 4 {
		lay(t, v.Disk, v.place(at), laid(1, mixed(1, 20)))
		held(t, "one byte more", s, v, 1)
		if set, err := s.Scan(1, 4); err != api.OK || set.Has(at) || set.Count() != 3 {
			t.Errorf("one byte more: %v, %d", set.Row(), err)
		}
		if all, err := s.All(1, 4); all != "" || err != api.ErrForm {
			t.Errorf("one byte more: %q, %d", all, err)
		}
		fine(t, "put", s.Put(at, 1, ""))
	}
}

// Numbers that no chunk can have are those of no chunk, also where nothing but zeros stands there.
func TestLookForWrongNumbers(t *testing.T) {
	for _, put := range []bool{false, true} {
		s, _ := made(t, shape{1, 9, 30}, "")
		for at := range 3 {
			if put {
				fine(t, "put", s.Put(at, most, "a"))
			}
		}
		for _, n := range append(wrongNumbers(), 1, most-1) {
			for count := 1; count <= 3; count++ {
				if set, err := s.Scan(n, count); err != api.OK || set.Count() != 0 || set.Len() != count {
					t.Errorf("Scan(%d, %d): %v, %d", n, count, set.Row(), err)
				}
				if all, err := s.All(n, count); all != "" || err != api.ErrForm {
					t.Errorf("All(%d, %d): %q, %d", n, count, all, err)
				}
			}
		}
	}
}

func TestMostChunks(t *testing.T) {
	s, v := made(t, shape{1, 64*11 + 30, 256}, "")
	want := ""
	for at := range 64 {
		fine(t, "put", s.Put(at, 12, mixed(at, 256)))
		want += mixed(at, 256)
	}
	if all, err := s.All(12, 64); all != want || err != api.OK || len(all) != 1<<14 {
		t.Error(len(all), err)
	}
	if set, err := s.Scan(12, 64); err != api.OK || set.Count() != 64 || set.First() != -1 {
		t.Error(set.Row(), err)
	}
	if err := s.Put(64, 12, "a"); err != api.ErrRange {
		t.Error(err)
	}
	refused(t, "one more", s, 64, api.ErrRange)
	held(t, "all", s, v, 12)
}

// Answers are new memory: what is done to one shows in no other.
func TestAnswersStay(t *testing.T) {
	s, v := made(t, shape{1, 9, 30}, "")
	for at := range 3 {
		fine(t, "put", s.Put(at, 2, mixed(at, 30)))
	}
	one, err := s.Scan(2, 3)
	fine(t, "scan", err)
	all, err := s.All(2, 3)
	fine(t, "all", err)
	fine(t, "put", s.Put(1, 3, "other"))
	if one.Count() != 3 || all != mixed(0, 30)+mixed(1, 30)+mixed(2, 30) {
		t.Error("an answer was changed later")
	}
	fine(t, "drop", one.Drop(0, 1, 2))
	if again, err := s.Scan(2, 3); err != api.OK || !slices.Equal(again.Row(), []int{0, 2}) {
		t.Error("an answer was kept")
	}
	held(t, "all", s, v, 2, 3)
}

// P9.4

func TestPutChangesNoOther(t *testing.T) {
	for _, p := range shapes() {
		s, v := made(t, p, noise(p))
		for at := range p.chunks() {
			fine(t, "put", s.Put(at, 1, mixed(at, p.size)))
		}
		for at := range p.chunks() {
			for _, length := range lengths(p.size) {
				before := now(t, v.Disk)
				fine(t, "put", s.Put(at, 2, mixed(at+7, length)))
				from, to := v.place(at)*sector, v.place(at+1)*sector
				after := now(t, v.Disk)
				if after[:from] != before[:from] || after[to:] != before[to:] {
					t.Fatalf("%v Put(%d) of %d bytes has changed another place", p, at, length)
				}
			}
			for other := range p.chunks() {
				if other <= at {
					got(t, "put since", s, other, 2, mixed(other+7, p.size))
				} else {
					got(t, "not put since", s, other, 1, mixed(other, p.size))
				}
			}
		}
	}
}

// Two slots on one disk, beside each other, and a zone behind them.
func TestSlotsBesideEachOther(t *testing.T) {
	d := disk.Of(mixed(1, 24*sector))
	one, err := New(zoned(t, d, 2, 9), 48)
	fine(t, "new", err)
	two, err := New(zoned(t, d, 11, 9), 21)
	fine(t, "new", err)
	for at := range 3 {
		fine(t, "put", one.Put(at, 5, mixed(at, 48)))
		fine(t, "put", two.Put(at, 6, mixed(at+3, 21)))
	}
	for at := range 3 {
		got(t, "one", one, at, 5, mixed(at, 48))
		got(t, "two", two, at, 6, mixed(at+3, 21))
	}
	if all := now(t, d); all[:2*sector] != mixed(1, 24*sector)[:2*sector] || all[20*sector:] != mixed(1, 24*sector)[20*sector:] {
		t.Error("other sectors were written")
	}
}

// Some chunks are safe; others are put, and the power goes at each write, whatever is kept.
func TestSyncedChunksStay(t *testing.T) {
	p := shape{1, 13, 40}
	for fuse := range 9 {
		for mask := range 1 << fuse {
			s, v := made(t, p, noise(p))
			for at := range 4 {
				fine(t, "put", s.Put(at, 1, mixed(at, 10*at)))
			}
			fine(t, "sync", s.Sync())
			keep := []bool{}
			for i := range fuse {
				keep = append(keep, mask>>i&1 == 1)
			}
			v.Fuse(fuse, keep...)
			err := s.Put(1, 2, mixed(8, 40))
			for range 2 {
				if err == api.OK {
					err = s.Put(3, 3, mixed(9, 30))
				}
			}
			if err != api.ErrDown {
				t.Fatalf("a fuse of %d: %d", fuse, err)
			}
			v.Come()
			got(t, "not put since", s, 0, 1, "")
			got(t, "not put since", s, 2, 1, mixed(2, 20))
			oneOf(t, s, 1, "of 1", mixed(1, 10), 1, mixed(8, 40), 2)
			oneOf(t, s, 3, "of 3", mixed(3, 30), 1, mixed(9, 30), 3)
			held(t, "behind the loss", s, v, 1, 2, 3)
		}
	}
}

// oneOf: whether a chunk is one of two, or none.
func oneOf(t *testing.T, s *Slot, at int, name, a string, n int, b string, m int) {
	t.Helper()
	data, k, err := s.Get(at)
	if err == api.OK && (data != a || k != n) && (data != b || k != m) {
		t.Fatalf("%s: %.50q, %d", name, data, k)
	}
}

// Rows of commands, held against the same ones on a disk's sectors.

type deed struct {
	kind  byte
	at, n int
	bytes int
	keep  []bool
}

// do: one command, on both; what they answer.
func do(s *Slot, v view, c deed) (api.Errno, api.Errno) {
	data := mixed(c.n+c.at, c.bytes)
	switch c.kind {
	case 'p':
		return s.Put(c.at, c.n, data), v.put(c.at, c.n, data)
	case 'r':
		// A sector of a longer text, or of a chunk's.
		list := laid(c.n, data)
		at := c.at * 3 % v.count
		return s.Write(at, list[c.at%len(list)]), v.Write(v.from+at, list[c.at%len(list)])
	case 's':
		return s.Sync(), v.Sync()
	case 'c':
		s.Cut(c.keep...)
		v.Cut(c.keep...)
	case 'u':
		s.Fuse(c.bytes%9-1, c.keep...)
		v.Fuse(c.bytes%9-1, c.keep...)
	case 'o':
		s.Come()
		v.Come()
	}
	return api.OK, api.OK
}

func walk(t testing.TB, p shape, row []deed) {
	t.Helper()
	s, _ := made(t, p, noise(p))
	_, v := made(t, p, noise(p))
	for i, c := range row {
		name := tell(row[:i+1])
		if err, want := do(s, v, c); err != want {
			t.Fatalf("%s: %d, not %d", name, err, want)
		}
		if s.IsOn() != v.IsOn() || s.Loose() != v.Loose() || s.Done() != v.Done() || s.Image() != v.Image() {
			t.Fatalf("%s: the disks are unlike", name)
		}
		held(t, name, s, v, 1, 2)
	}
}

func tell(row []deed) string {
	s := ""
	for _, c := range row {
		s += fmt.Sprintf("%c %d %d %d %v; ", c.kind, c.at, c.n, c.bytes, c.keep)
	}
	return s
}

// toldRow: commands that bytes tell.
func toldRow(bytes []byte) []deed {
	row := []deed{}
	for part := range slices.Chunk(bytes, 6) {
		part = append(slices.Clone(part), 0, 0, 0, 0, 0)
		c := deed{kind: "pppppprsscuoo"[part[0]%13], at: int(part[1]%8) - 1, n: int(part[2] % 4), bytes: int(part[3]) % 60}
		if c.kind == 'r' {
			c.at++
		}
		for i := range part[4] % 10 {
			c.keep = append(c.keep, part[5]>>i&1 == 1)
		}
		row = append(row, c)
	}
	return row
}

// alphabet: commands that all short rows are made of.
func alphabet() []deed {
	return []deed{
		{kind: 'p', n: 1, bytes: 30}, {kind: 'p', n: 2, bytes: 5}, {kind: 'p', at: 1, n: 1, bytes: 30}, {kind: 'p', at: 1, n: 2, bytes: 48},
		{kind: 'p', at: 2, n: 1}, {kind: 'p', at: 0, n: 1, bytes: 49}, {kind: 'r', at: 1, n: 2, bytes: 30}, {kind: 's'}, {kind: 'o'},
		{kind: 'c', keep: []bool{false, true, true, true}}, {kind: 'u', bytes: 3, keep: []bool{true}}, {kind: 'u', bytes: 5, keep: []bool{true, false, true, true}},
	}
}

func TestAllShortRows(t *testing.T) {
	letters := alphabet()
	row := make([]deed, 3)
	for n := range len(letters) * len(letters) * len(letters) {
		for i := range row {
			row[i] = letters[n%len(letters)]
			n /= len(letters)
		}
		walk(t, shape{1, 7, 48}, row)
	}
}

func TestLongRows(t *testing.T) {
	r := rand.New(rand.NewSource(9))
	for n := range 120 {
		bytes := make([]byte, 300)
		r.Read(bytes)
		walk(t, shape{n % 3, 3 + n%14, 1 + n*7%48}, toldRow(bytes))
	}
}

func FuzzRows(f *testing.F) {
	f.Add(byte(1), byte(8), byte(30), []byte{0, 1, 1, 5, 0, 0, 0, 2, 1, 29, 0, 0, 7, 0, 0, 0, 0, 0, 10, 0, 0, 3, 3, 5})
	f.Add(byte(0), byte(5), byte(20), []byte{0, 1, 1, 20, 0, 0, 6, 2, 1, 50, 0, 0, 9, 0, 0, 0, 5, 255, 11})
	f.Fuzz(func(t *testing.T, from, count, size byte, bytes []byte) {
		p := shape{int(from % 5), 1 + int(count%24), 1 + int(size%60)}
		if p.chunks() > 0 {
			walk(t, p, toldRow(bytes[:min(len(bytes), 120)]))
		}
	})
}

// An image that is anything, under a slot of any shape.
func FuzzImage(f *testing.F) {
	f.Add(1, 8, 30, 5, strings.Repeat("\x00", 10*sector))
	f.Add(0, 4, 20, 7, strings.Join(append(laid(7, "abc"), laid(7, mixed(1, 20))...), ""))
	f.Add(0, 4, 20, 7, strings.Join(append(laid(7, mixed(1, 70)), laid(7, mixed(1, 20))...), ""))
	f.Fuzz(func(t *testing.T, from, count, size, n int, image string) {
		d := disk.Of(image)
		z, err := zone.New(d, from, count)
		if err != api.OK {
			return
		}
		s, err := New(z, size)
		if size < 1 || size > 256 || count < sectorsFor(size) {
			if s != nil || err != api.ErrArg {
				t.Errorf("New of %d sectors, %d: %v, %d", count, size, s, err)
			}
			return
		}
		fine(t, "new", err)
		held(t, "image", s, view{d, shape{from, count, size}}, n)
	})
}
