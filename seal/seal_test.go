package seal

import (
	"crypto/sha256"
	"encoding/binary"
	"encoding/hex"
	"math"
	"math/rand"
	"slices"
	"strings"
	"testing"

	"coadjutor/api"
	"coadjutor/disk"
	"coadjutor/zone"
)

const (
	size = api.SectorSize
	most = 1<<31 - 1
)

// mixed: so many bytes, none like those beside it, other ones for each n.
func mixed(n, bytes int) string {
	all := make([]byte, bytes)
	for i := range all {
		all[i] = byte(i*7 + i/256 + n*31 + 1)
	}
	return string(all)
}

func numbers() []int {
	return []int{1, 2, 3, 127, 128, 255, 256, 257, 258, 1<<16 - 1, 1 << 16, 1<<24 - 1, 1 << 24, 0x01020304, 1<<30 + 5, most - 1, most}
}

// wrongNumbers: some that no text has.
func wrongNumbers() []int {
	return []int{0, -1, -2, -256, -1 << 31, -1<<31 + 1, -1 << 32, 1 - 1<<32, math.MinInt, math.MinInt + 1, 1 << 31, 1<<31 + 1, 1<<32 - 1, 1 << 32, 1<<32 + 1, 1<<33 + 7, 1 << 40, math.MaxInt - 1, math.MaxInt}
}

// texts: of lengths around those at which there is a sector more, and of bytes of all kinds.
func texts() []string {
	all := mixed(0, 256)
	list := []string{"", "a", "\x00", "\xff", "text", "é世", "\x00\x00\x00\x00", "\x04\x00\x00\x00text", all}
	for _, n := range []int{19, 20, 21, 22, 47, 48, 49, 100, 255, 256, 257, 1000, 1003, 1004, 1005, 1023, 1024} {
		list = append(list, mixed(n, n), strings.Repeat("\x00", n), strings.Repeat("z", n))
	}
	return list
}

func longTexts() []string {
	return []string{mixed(1, 1025), strings.Repeat("\x00", 1025), mixed(2, 1026), mixed(3, 1052), mixed(4, 2048), mixed(5, 1<<16), mixed(6, 1<<16+4)}
}

// wrongPlaces: places that a zone of n sectors hasn't.
func wrongPlaces(n int) []int {
	return []int{-1, -2, -3, -n, math.MinInt, math.MinInt + 1, -1 << 32, n, n + 1, n + 2, n * size, 1 << 31, 1 << 32, 1 << 59, math.MaxInt - 40, math.MaxInt - 2, math.MaxInt - 1, math.MaxInt}
}

func numOf(n int) string {
	return string(binary.LittleEndian.AppendUint32(nil, uint32(n)))
}

func sumOf(s string) string {
	sum := sha256.Sum256([]byte(s))
	return string(sum[:])
}

// cutUp: bytes as sectors with this number, whatever they are; the last ones are 0.
func cutUp(n int, all string) []string {
	list := []string{}
	for part := range slices.Chunk([]byte(all), 28) {
		list = append(list, string(part)+strings.Repeat("\x00", 28-len(part))+numOf(n))
	}
	return list
}

// laid: a sealed text's sectors as the document has them, by the library.
func laid(n int, s string) []string {
	rest := numOf(len(s)) + s
	for (32+len(rest))%28 != 0 {
		rest += "\x00"
	}
	return cutUp(n, sumOf(rest)+rest)
}

// told: what the document says that is got of sectors, from the first one on.
func told(list []string) (string, int, api.Errno) {
	nums, all := []int{}, ""
	for _, s := range list {
		nums = append(nums, int(binary.LittleEndian.Uint32([]byte(s[28:]))))
		all += s[:28]
	}
	if nums[0] == 0 || nums[0] > most || len(list) < 2 || nums[1] != nums[0] {
		return "", 0, api.ErrForm
	}
	length := int(binary.LittleEndian.Uint32([]byte(all[32:])))
	if length > 1024 {
		return "", 0, api.ErrForm
	}
	count := 2
	for count*28 < 36+length {
		count++
	}
	if count > len(list) || slices.Max(nums[:count]) != nums[0] || slices.Min(nums[:count]) != nums[0] {
		return "", 0, api.ErrForm
	}
	rest := all[32 : count*28]
	if all[:32] != sumOf(rest) || strings.Trim(rest[4+length:], "\x00") != "" {
		return "", 0, api.ErrSum
	}
	return rest[4 : 4+length], nums[0], api.OK
}

func made(t *testing.T, d *disk.Disk, from, count int) *zone.Zone {
	t.Helper()
	z, err := zone.New(d, from, count)
	if err != api.OK {
		t.Fatalf("zone.New(%d, %d): %d", from, count, err)
	}
	return z
}

// over: a zone of just these sectors.
func over(t *testing.T, list []string) *zone.Zone {
	t.Helper()
	return made(t, disk.Of(strings.Join(list, "")), 0, len(list))
}

func fine(t *testing.T, name string, err api.Errno) {
	t.Helper()
	if err != api.OK {
		t.Fatalf("%s: %d", name, err)
	}
}

func got(t *testing.T, name string, z *zone.Zone, at int, want string, n int) {
	t.Helper()
	// Asked twice, since to ask changes nothing.
	for range 2 {
		if s, m, err := Get(z, at); s != want || m != n || err != api.OK {
			t.Fatalf("%s: Get(%d): %.50q, %d, %d; not %.50q, %d", name, at, s, m, err, want, n)
		}
	}
}

func refused(t *testing.T, name string, z *zone.Zone, at int, want api.Errno) {
	t.Helper()
	for range 2 {
		if s, n, err := Get(z, at); s != "" || n != 0 || err != want {
			t.Fatalf("%s: Get(%d): %.50q, %d, %d; not %d", name, at, s, n, err, want)
		}
	}
}

// asTold: whether these sectors are got as the document says.
func asTold(t *testing.T, name string, list []string) {
	t.Helper()
	text, n, err := told(list)
	if err != api.OK {
		refused(t, name, over(t, list), 0, err)
		return
	}
	got(t, name, over(t, list), 0, text, n)
}

// with: a list with another element at i.
func with(list []string, i int, s string) []string {
	other := slices.Clone(list)
	other[i] = s
	return other
}

// now: a disk's bytes, as they were written last.
func now(t *testing.T, d *disk.Disk) string {
	t.Helper()
	all := ""
	for at := range d.Len() {
		s, err := d.Read(at)
		fine(t, "read", err)
		all += s
	}
	return all
}

// P6.1

func TestMaxText(t *testing.T) {
	if MaxText != 1024 {
		t.Error(MaxText)
	}
}

func TestSize(t *testing.T) {
	sectors := 2
	for n := range 5000 {
		if n+36 > 28*sectors {
			sectors++
		}
		if got := Size(mixed(n, n)); got != sectors {
			t.Fatalf("of %d bytes: %d, not %d", n, got, sectors)
		}
	}
	for _, c := range []struct{ bytes, sectors int }{{0, 2}, {1, 2}, {20, 2}, {21, 3}, {48, 3}, {49, 4}, {1024, 38}, {1025, 38}, {1028, 38}, {1029, 39}, {1 << 16, 2342}, {1 << 20, 37451}} {
		if got := Size(strings.Repeat("\x00", c.bytes)); got != c.sectors {
			t.Errorf("of %d bytes: %d, not %d", c.bytes, got, c.sectors)
		}
	}
}

// Sums that another program worked out.
func TestKnown(t *testing.T) {
	for _, c := range []struct{ text, sum string }{
		{"", "9d908ecfb6b256def8b49a7c504e6c889c4b0e41fe6ce3e01863dd7b61a20aa0"},
		{"text", "3745f5dc91a89fce2c374ce038ea4f45c892fba1a77080e496f59d85b67abac9"},
	} {
		sum, _ := hex.DecodeString(c.sum)
		all := string(sum) + string([]byte{byte(len(c.text)), 0, 0, 0}) + c.text + strings.Repeat("\x00", 20-len(c.text))
		want := []string{all[:28] + "\x04\x03\x02\x01", all[28:] + "\x04\x03\x02\x01"}
		if list, err := Lay(0x01020304, c.text); !slices.Equal(list, want) || err != api.OK {
			t.Errorf("%q: %q, %d", c.text, list, err)
		}
	}
}

func TestLay(t *testing.T) {
	for _, n := range numbers() {
		for _, s := range texts() {
			layAs(t, n, s)
		}
	}
	for length := range MaxText + 1 {
		layAs(t, length+1, mixed(length, length))
	}
}

func layAs(t *testing.T, n int, s string) {
	t.Helper()
	want := laid(n, s)
	list, err := Lay(n, s)
	if !slices.Equal(list, want) || err != api.OK || len(list) != Size(s) {
		t.Fatalf("Lay(%d, %.30q of %d): %.100q, %d; not %.100q", n, s, len(s), list, err, want)
	}
	for _, sector := range list {
		if len(sector) != size {
			t.Fatalf("Lay(%d, %.30q of %d): %.100q", n, s, len(s), list)
		}
	}
	if again, _ := Lay(n, s); &again[0] == &list[0] {
		t.Fatal("both answers are one list")
	}
}

func TestLayThatCant(t *testing.T) {
	for _, n := range wrongNumbers() {
		for _, s := range append(texts(), longTexts()...) {
			if list, err := Lay(n, s); len(list) != 0 || err != api.ErrArg {
				t.Errorf("Lay(%d, %.30q of %d): %.100q, %d", n, s, len(s), list, err)
			}
		}
	}
	for _, n := range numbers() {
		for _, s := range longTexts() {
			if list, err := Lay(n, s); len(list) != 0 || err != api.ErrArg {
				t.Errorf("Lay(%d, %.30q of %d): %.100q, %d", n, s, len(s), list, err)
			}
		}
	}
}

// P6.2: Put

func TestPutNil(t *testing.T) {
	for _, at := range append(wrongPlaces(9), 0, 1) {
		for _, n := range append(wrongNumbers(), 1, most) {
			for _, s := range []string{"", "a", mixed(1, 1024), mixed(1, 1025)} {
				if err := Put(nil, at, n, s); err != api.ErrNil {
					t.Errorf("Put(nil, %d, %d, %.30q): %d", at, n, s, err)
				}
			}
		}
	}
}

// stays: a zone of places in the middle of a disk, that nothing has been done to; whether the power is there, a fuse of 0.
func stays(t *testing.T, places int, on bool, try func(z *zone.Zone)) {
	t.Helper()
	image := mixed(places, (places+80)*size)
	d := disk.Of(image)
	z := made(t, d, 40, places)
	d.Fuse(0, true)
	if !on {
		d.Cut()
	}
	try(z)
	if d.IsOn() != on || d.Done() != 0 || d.Loose() != 0 || d.Image() != image || on && now(t, d) != image {
		t.Fatalf("%d places, on %v: something was changed", places, on)
	}
}

func TestPutThatCant(t *testing.T) {
	for _, on := range []bool{true, false} {
		stays(t, 50, on, func(z *zone.Zone) {
			for _, at := range append(wrongPlaces(50), 0, 5, 49) {
				for _, n := range wrongNumbers() {
					for _, s := range []string{"", "a", mixed(1, 1024), mixed(1, 1025)} {
						if err := Put(z, at, n, s); err != api.ErrArg {
							t.Errorf("Put(%d, %d, %.30q): %d", at, n, s, err)
						}
					}
				}
				for _, s := range longTexts() {
					if err := Put(z, at, 1, s); err != api.ErrArg {
						t.Errorf("Put(%d, 1, %.30q): %d", at, s, err)
					}
				}
			}
		})
	}
}

// A text that hasn't room for all its sectors writes none of them, though the disk has room behind the zone.
func TestPutBeyond(t *testing.T) {
	for _, on := range []bool{true, false} {
		for places := 1; places <= 45; places++ {
			stays(t, places, on, func(z *zone.Zone) {
				for _, length := range []int{0, 1, 20, 21, 48, 49, 500, 1024} {
					s := mixed(1, length)
					room := max(places-len(laid(1, s))+1, 0)
					wrong := wrongPlaces(places)
					for at := room; at < places; at++ {
						wrong = append(wrong, at)
					}
					for _, at := range wrong {
						if err := Put(z, at, most, s); err != api.ErrRange {
							t.Fatalf("of %d places: Put(%d) of %d bytes: %d", places, at, length, err)
						}
					}
				}
			})
		}
	}
}

func TestPutAway(t *testing.T) {
	stays(t, 38, false, func(z *zone.Zone) {
		for _, s := range texts() {
			if err := Put(z, 0, 1, s); err != api.ErrDown {
				t.Errorf("Put(%.30q): %d", s, err)
			}
		}
		if err := Put(z, 36, 1, "the last two"); err != api.ErrDown {
			t.Error(err)
		}
	})
}

// At each place with room just the text's own sectors are changed; they aren't safe.
func TestPut(t *testing.T) {
	const places = 40
	image := mixed(9, (places+4)*size)
	for _, s := range texts() {
		list := laid(77, s)
		for at := 0; at+len(list) <= places; at++ {
			d := disk.Of(image)
			z := made(t, d, 2, places)
			fine(t, "put", Put(z, at, 77, s))
			want := image[:(2+at)*size] + strings.Join(list, "") + image[(2+at+len(list))*size:]
			if now(t, d) != want || d.Image() != image || d.Loose() != len(list) || d.Done() != len(list) {
				t.Fatalf("Put(%d, %.30q): other sectors than its own were written, or synced", at, s)
			}
			got(t, "put", z, at, s, 77)
		}
	}
}

// All sectors are written, also where they were so already.
func TestPutTwice(t *testing.T) {
	d := disk.New(6)
	z := made(t, d, 0, 6)
	s := mixed(1, 60)
	fine(t, "first", Put(z, 1, 5, s))
	fine(t, "sync", d.Sync())
	fine(t, "second", Put(z, 1, 5, s))
	if d.Loose() != 4 || d.Done() != 9 {
		t.Error(d.Loose(), d.Done())
	}
	got(t, "twice", z, 1, s, 5)
}

// The sectors are written rising, one by one, till the power goes; of those that were written some are kept.
func TestPutMeetsFuse(t *testing.T) {
	s := mixed(1, 100)
	list := laid(3, s)
	old := append(append([]string{mixed(7, size)}, laid(2, mixed(2, 100))...), mixed(8, size))
	for fuse := range len(list) + 2 {
		for mask := range 1 << min(fuse, len(list)) {
			d := disk.Of(strings.Join(old, ""))
			z := made(t, d, 0, len(old))
			keep := []bool{}
			want := slices.Clone(old)
			for i := range min(fuse, len(list)) {
				keep = append(keep, mask>>i&1 == 1)
				if keep[i] {
					want[1+i] = list[i]
				}
			}
			d.Fuse(fuse, keep...)
			err := Put(z, 1, 3, s)
			if fuse >= len(list) {
				fine(t, "a fuse that is long enough", err)
				d.Cut(keep...)
			} else if err != api.ErrDown {
				t.Fatalf("a fuse of %d: %d", fuse, err)
			}
			if d.IsOn() || d.Done() != min(fuse, len(list)) || d.Image() != strings.Join(want, "") {
				t.Fatalf("a fuse of %d that keeps %v: %q", fuse, keep, d.Image())
			}
			d.Come()
			asTold(t, "behind the loss", want[1:])
		}
	}
}

// P6.2: Get

func TestGetNil(t *testing.T) {
	for _, at := range append(wrongPlaces(9), 0, 1, 2) {
		refused(t, "nil", nil, at, api.ErrNil)
	}
}

func TestGetNoPlace(t *testing.T) {
	for _, on := range []bool{true, false} {
		for _, places := range []int{1, 2, 3, 40} {
			stays(t, places, on, func(z *zone.Zone) {
				for _, at := range wrongPlaces(places) {
					refused(t, "no place", z, at, api.ErrRange)
				}
			})
		}
	}
}

// While the power is away nothing is told of what stands there.
func TestGetAway(t *testing.T) {
	list := append(laid(4, "a text"), laid(0, "of no number")...)
	list = append(list, with(laid(4, "another sum"), 0, mixed(1, 28)+numOf(4))...)
	list = append(list, mixed(1, size))
	z := over(t, list)
	z.Cut()
	for at := range list {
		refused(t, "away", z, at, api.ErrDown)
	}
	z.Come()
	got(t, "it came again", z, 0, "a text", 4)
	refused(t, "it came again", z, 2, api.ErrForm)
	refused(t, "it came again", z, 4, api.ErrSum)
	refused(t, "it came again", z, 6, api.ErrForm)
}

// Whole, but for the number, that can't be, in all its sectors.
func TestGetWrongNumber(t *testing.T) {
	for _, n := range []int{0, 1 << 31, 1<<31 + 1, 1<<32 - 2, 1<<32 - 1} {
		for _, s := range texts() {
			refused(t, "a wrong number", over(t, laid(n, s)), 0, api.ErrForm)
		}
	}
	for _, n := range numbers() {
		got(t, "a number that can be", over(t, laid(n, "s")), 0, "s", n)
	}
}

// One sector has another number, that can be or can't: whatever else is wrong, that isn't of the form.
func TestGetUnlikeNumbers(t *testing.T) {
	for _, s := range []string{"", "a", mixed(1, 21), mixed(2, 100), mixed(3, 1024)} {
		for _, n := range []int{1, 5, 0x01020304, most} {
			list := laid(n, s)
			turned := with(list, 0, "\x00"+list[0][1:])
			for i := range list {
				for _, other := range []int{n - 1, n + 1, n ^ 1<<8, n ^ 1<<16, n ^ 1<<24, n | 1<<31, 0, 1<<32 - 1} {
					if other == n {
						continue
					}
					refused(t, "another number", over(t, with(list, i, list[i][:28]+numOf(other))), 0, api.ErrForm)
					refused(t, "another number, another sum", over(t, with(turned, i, turned[i][:28]+numOf(other))), 0, api.ErrForm)
				}
			}
			refused(t, "another sum", over(t, turned), 0, api.ErrSum)
			got(t, "one number", over(t, append(list, laid(n-1, "x")...)), 0, s, n)
		}
	}
}

// The zone ends within the text, though the disk goes on with it.
func TestGetBeyond(t *testing.T) {
	for _, s := range []string{"", "a", mixed(1, 21), mixed(2, 100), mixed(3, 1024)} {
		list := laid(9, s)
		all := mixed(1, 2*size) + strings.Join(list, "") + mixed(2, size)
		for places := 1; places <= len(list); places++ {
			z := made(t, disk.Of(all), 2, places)
			if places < len(list) {
				refused(t, "cut off", z, 0, api.ErrForm)
				continue
			}
			got(t, "just all", z, 0, s, 9)
		}
	}
}

// rawly: sectors of a text that says that it has so many bytes, with a sum that fits.
func rawly(n, length int, s string) []string {
	rest := numOf(length) + s
	return cutUp(n, sumOf(rest)+rest)
}

// With a sum that fits all the same, and sectors enough.
func TestGetWrongLength(t *testing.T) {
	for _, length := range []int{1025, 1026, 1028, 1029, 1052, 2000, 1 << 16, 1 << 24, 1<<24 + 1, 1<<31 - 1, 1 << 31, 1<<31 + 1, 1<<32 - 36, 1<<32 - 1} {
		count := (min(length, 2000)+36+27)/28*28 - 36
		z := over(t, append(rawly(6, length, mixed(1, count)), cutUp(6, strings.Repeat("\x00", 60*28))...))
		refused(t, "too long", z, 0, api.ErrForm)
	}
	got(t, "just not too long", over(t, rawly(6, 1024, mixed(1, 1024)+"\x00\x00\x00\x00")), 0, mixed(1, 1024), 6)
	refused(t, "too long, and its sectors end", over(t, rawly(6, 1025, "")), 0, api.ErrForm)
}

// The sum is that of the bytes behind the text too, and is right; but those must be 0.
func TestGetUnlikeZeros(t *testing.T) {
	for _, length := range []int{0, 1, 7, 19, 20, 21, 47, 100, 1023, 1024} {
		s := mixed(length, length)
		zeros := Size(s)*28 - 36 - length
		for i := range zeros {
			for _, b := range []byte{1, 128, 255, ' ', '0'} {
				fill := make([]byte, zeros)
				fill[i] = b
				refused(t, "not 0", over(t, rawly(2, length, s+string(fill))), 0, api.ErrSum)
			}
		}
		got(t, "all 0", over(t, rawly(2, length, s+strings.Repeat("\x00", zeros))), 0, s, 2)
		if zeros > 0 {
			rest := numOf(length) + s
			refused(t, "the sum of the text alone", over(t, cutUp(2, sumOf(rest)+rest)), 0, api.ErrSum)
		}
	}
}

// Each bit of a sealed text matters, and none behind it does.
func TestGetEachBit(t *testing.T) {
	for _, s := range []string{"", "a", mixed(1, 20), mixed(2, 60), strings.Repeat("\x00", 100)} {
		list := append(laid(0x01020304, s), mixed(1, size), mixed(2, size))
		for i, sector := range list {
			for bit := range 8 * size {
				b := []byte(sector)
				b[bit/8] ^= 1 << (bit % 8)
				other := with(list, i, string(b))
				asTold(t, "a bit", other)
				if _, _, err := Get(over(t, other), 0); (err == api.OK) != (i >= len(list)-2) {
					t.Fatalf("the bit %d of the sector %d, of %.20q: %d", bit, i, s, err)
				}
			}
		}
	}
}

// What is got is what was written last, safe or not; and to get changes nothing, and burns no fuse.
func TestGetLooksAtLast(t *testing.T) {
	d := disk.New(9)
	z := made(t, d, 2, 6)
	fine(t, "put", Put(z, 1, 1, "first"))
	fine(t, "sync", d.Sync())
	fine(t, "put", Put(z, 1, 2, "second"))
	got(t, "loose", z, 1, "second", 2)
	image, done := d.Image(), d.Done()
	d.Fuse(0, true, true)
	for at := -2; at < 9; at++ {
		Get(z, at)
	}
	if !d.IsOn() || d.Loose() != 2 || d.Done() != done || d.Image() != image {
		t.Error("something was changed")
	}
	d.Cut()
	d.Come()
	got(t, "it was lost", z, 1, "first", 1)
}

// A text that was put into one zone is got from another one that shares the sectors.
func TestPlacesAreTheZones(t *testing.T) {
	d := disk.New(12)
	a, b := made(t, d, 2, 8), made(t, d, 5, 7)
	p, err := a.Part(3, 4)
	fine(t, "part", err)
	fine(t, "put", Put(a, 4, 8, mixed(1, 30)))
	got(t, "a", a, 4, mixed(1, 30), 8)
	got(t, "b", b, 1, mixed(1, 30), 8)
	got(t, "a part", p, 1, mixed(1, 30), 8)
	p, err = a.Part(3, 3)
	fine(t, "part", err)
	refused(t, "a part that ends within it", p, 1, api.ErrForm)
}

// P6.3

func TestPutAndGet(t *testing.T) {
	d := disk.Of(mixed(1, 45*size))
	z := made(t, d, 1, 43)
	for _, n := range numbers() {
		for i, s := range texts() {
			fine(t, "put", Put(z, i%5, n, s))
			got(t, "put", z, i%5, s, n)
		}
	}
	for length := range MaxText + 1 {
		fine(t, "put", Put(z, length%6, length+1, mixed(length, length)))
		got(t, "each length", z, length%6, mixed(length, length), length+1)
	}
}

func TestUnlike(t *testing.T) {
	list := append(texts(), "\x00\x00", "a\x00", "\x00a", "b", "A", "text\x00")
	slices.Sort(list)
	list = slices.Compact(list)
	seen := map[string]bool{}
	for _, n := range numbers() {
		for _, s := range list {
			sectors, err := Lay(n, s)
			fine(t, "lay", err)
			all := strings.Join(sectors, "")
			if seen[all] {
				t.Errorf("Lay(%d, %.30q): that of another text or number", n, s)
			}
			seen[all] = true
		}
	}
	for _, s := range list {
		for i, n := range numbers() {
			one, _ := Lay(n, s)
			for _, m := range numbers()[:i] {
				other, _ := Lay(m, s)
				for at := range one {
					if one[at] == other[at] {
						t.Errorf("%.30q: the sector %d is that of the numbers %d and %d", s, at, n, m)
					}
				}
			}
		}
	}
}

// Each mixture of the sectors of two texts, with unlike numbers: one is got if all its own are there.
func TestMixtures(t *testing.T) {
	lengths := []int{0, 1, 20, 21, 48, 49, 90, 120, 200}
	for _, a := range lengths {
		for _, b := range lengths {
			mixAs(t, mixed(1, a), mixed(2, b), 7, 8)
			mixAs(t, mixed(3, a), mixed(3, b), 9, 8)
			mixAs(t, mixed(3, a), mixed(3, b), 1, 1<<24+1)
		}
	}
}

func mixAs(t *testing.T, s, u string, n, m int) {
	t.Helper()
	a, _ := Lay(n, s)
	b, _ := Lay(m, u)
	count := max(len(a), len(b))
	blank := strings.Repeat("\x00", size)
	for len(a) < count {
		a = append(a, blank)
	}
	for len(b) < count {
		b = append(b, blank)
	}
	for mask := range 1 << count {
		list := slices.Clone(a)
		ours, others := true, true
		for i := range count {
			if mask>>i&1 == 1 {
				list[i] = b[i]
				ours = ours && i >= Size(s)
			} else {
				others = others && i >= Size(u)
			}
		}
		switch {
		case ours:
			got(t, "the one", over(t, list), 0, s, n)
		case others:
			got(t, "the other", over(t, list), 0, u, m)
		default:
			// What is told of the first sectors alone is an error of any kind.
			if text, k, err := Get(over(t, list), 0); text != "" || k != 0 || err == api.OK {
				t.Fatalf("of %d and %d bytes, the mixture %b: %.30q, %d, %d", len(s), len(u), mask, text, k, err)
			}
			asTold(t, "a mixture", list)
		}
	}
}

// A text is put over another one, and the power goes at each write, whatever is kept.
func TestPutOverMeetsFuse(t *testing.T) {
	for _, a := range []int{0, 20, 21, 60, 130} {
		for _, b := range []int{0, 20, 21, 60, 130} {
			s, u := mixed(1, a), mixed(2, b)
			for fuse := range Size(u) {
				for mask := range 1 << fuse {
					overAs(t, s, u, fuse, mask)
				}
			}
		}
	}
}

func overAs(t *testing.T, s, u string, fuse, mask int) {
	t.Helper()
	d := disk.New(8)
	z := made(t, d, 1, 7)
	fine(t, "the first one", Put(z, 0, 4, s))
	fine(t, "sync", d.Sync())
	keep := make([]bool, fuse)
	for i := range keep {
		keep[i] = mask>>i&1 == 1
	}
	d.Fuse(fuse, keep...)
	if err := Put(z, 0, 5, u); err != api.ErrDown {
		t.Fatalf("a fuse of %d: %d", fuse, err)
	}
	d.Come()
	text, n, err := Get(z, 0)
	if mask == 0 && (text != s || n != 4 || err != api.OK) {
		t.Fatalf("nothing was kept: %.30q, %d, %d", text, n, err)
	}
	// The last sector of the new one was never written.
	if err == api.OK && (text != s || n != 4) {
		t.Fatalf("a fuse of %d that keeps %v: %.30q, %d", fuse, keep, text, n)
	}
}

// Answers are of what was asked alone.

func TestAnswersStay(t *testing.T) {
	z := over(t, laid(3, mixed(1, 100)))
	s, n, _ := Get(z, 0)
	list, _ := Lay(3, s)
	fine(t, "put", Put(z, 0, 4, mixed(2, 90)))
	clear(list)
	if s != mixed(1, 100) || n != 3 {
		t.Error("an answer was changed later")
	}
	if again, _ := Lay(3, s); !slices.Equal(again, laid(3, s)) {
		t.Error("an answer was kept")
	}
}

// Sectors of all kinds, held against what the document says of them.

// nearly: sectors that are nearly a sealed text's; bytes tell how.
func nearly(bytes []byte) []string {
	s := mixed(int(bytes[0]), int(bytes[1])*int(bytes[2]%6))
	list := laid(1+int(bytes[2])<<(bytes[3]%24), s[:min(len(s), MaxText)])
	list = append(list, laid(1+int(bytes[3]), mixed(4, int(bytes[4])))...)
	for change := range slices.Chunk(bytes[5:], 3) {
		if len(change) == 3 {
			i := (int(change[0])<<8 | int(change[1])) % (len(list) * size)
			sector := []byte(list[i/size])
			sector[i%size] = change[2]
			list[i/size] = string(sector)
		}
	}
	return list
}

func TestNearly(t *testing.T) {
	r := rand.New(rand.NewSource(6))
	counts := map[api.Errno]int{}
	for range 8000 {
		bytes := make([]byte, 5+3*r.Intn(3))
		r.Read(bytes)
		list := nearly(bytes)
		for at := range min(len(list), 4) {
			asTold(t, "nearly", list[at:])
			_, _, err := told(list[at:])
			counts[err]++
		}
	}
	if len(counts) != 3 {
		t.Error("not all that can be told was", counts)
	}
}

func FuzzGet(f *testing.F) {
	f.Add([]byte{1, 60, 1, 3, 20})
	f.Add([]byte{1, 60, 2, 3, 20, 0, 33, 7, 0, 60, 1})
	f.Fuzz(func(t *testing.T, bytes []byte) {
		if len(bytes) >= 5 {
			list := nearly(bytes)
			for at := range list {
				asTold(t, "nearly", list[at:])
			}
		}
	})
}

func FuzzRaw(f *testing.F) {
	f.Add(strings.Join(laid(1, "a"), ""))
	f.Add(strings.Join(laid(most, mixed(1, 200)), ""))
	f.Fuzz(func(t *testing.T, image string) {
		list := []string{}
		for part := range slices.Chunk([]byte(image), size) {
			if len(part) == size && len(list) < api.MaxSectors {
				list = append(list, string(part))
			}
		}
		for at := range list {
			asTold(t, "raw", list[at:])
		}
	})
}

func FuzzPut(f *testing.F) {
	f.Add(0, 1, "a")
	f.Add(3, most, mixed(1, 1024))
	f.Add(-1, 0, mixed(1, 1025))
	f.Fuzz(func(t *testing.T, at, n int, s string) {
		d := disk.Of(mixed(1, 44*size))
		z := made(t, d, 2, 41)
		err := Put(z, at, n, s)
		switch {
		case n < 1 || n > most || len(s) > MaxText:
			if err != api.ErrArg {
				t.Error(err)
			}
		case at < 0 || at >= 41 || at+len(laid(n, s)) > 41:
			if err != api.ErrRange {
				t.Error(err)
			}
		default:
			fine(t, "put", err)
			got(t, "put", z, at, s, n)
		}
		if err != api.OK && (d.Done() != 0 || now(t, d) != mixed(1, 44*size)) {
			t.Error("an error has changed something")
		}
	})
}
