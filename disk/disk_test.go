package disk

import (
	"fmt"
	"math"
	"math/rand"
	"slices"
	"strings"
	"testing"

	"coadjutor/api"
)

const size = api.SectorSize

// full: a sector that is all the byte.
func full(b byte) string {
	return strings.Repeat(string([]byte{b}), size)
}

// mixed: so many bytes, none like those beside it, other ones for each n.
func mixed(n, bytes int) string {
	all := make([]byte, bytes)
	for i := range all {
		all[i] = byte(i*7 + i/256 + n*31 + 1)
	}
	return string(all)
}

func sectorOf(n int) string {
	return mixed(n, size)
}

// wrongTexts: some that have not just a sector's bytes.
func wrongTexts() []string {
	return []string{"", "a", full('a')[1:], full('a') + "a", full('a') + full('a'), mixed(1, 1000)}
}

// wrongPlaces: places that a disk of n sectors hasn't.
func wrongPlaces(n int) []int {
	return []int{-1, -2, math.MinInt, math.MinInt + 1, -1 << 32, n, n + 1, n * size, 1 << 31, 1 << 32, 1 << 59, math.MaxInt}
}

func none(n int) []bool {
	return make([]bool, n)
}

func all(n int) []bool {
	return slices.Repeat([]bool{true}, n)
}

// masks: each way to keep some of n writes, and those that stop short or go on too long.
func masks(n int) [][]bool {
	list := [][]bool{nil}
	for length := 1; length <= n+1; length++ {
		for mask := range 1 << length {
			keep := make([]bool, length)
			for i := range keep {
				keep[i] = mask>>i&1 == 1
			}
			list = append(list, keep)
		}
	}
	return list
}

func written(t *testing.T, d *Disk, at int, s string) {
	t.Helper()
	if err := d.Write(at, s); err != api.OK {
		t.Fatalf("Write(%d): %d", at, err)
	}
}

func synced(t *testing.T, d *Disk) {
	t.Helper()
	if err := d.Sync(); err != api.OK {
		t.Fatalf("Sync: %d", err)
	}
}

// counts: what the disk tells of itself beside its bytes.
func counts(t *testing.T, name string, d *Disk, on bool, loose, done int) {
	t.Helper()
	// Asked twice, since to ask changes nothing.
	for range 2 {
		if d.IsOn() != on || d.Loose() != loose || d.Done() != done {
			t.Fatalf("%s: on %v, %d loose, %d done; not %v, %d, %d", name, d.IsOn(), d.Loose(), d.Done(), on, loose, done)
		}
	}
}

// shows: whether the sectors read are these bytes, and those that are safe are the others.
func shows(t *testing.T, name string, d *Disk, now, safe string) {
	t.Helper()
	for range 2 {
		if d.Image() != safe || d.Len() != len(safe)/size {
			t.Fatalf("%s: safe are %d sectors, %.100q; not %.100q", name, d.Len(), d.Image(), safe)
		}
		for at := range d.Len() {
			if s, err := d.Read(at); err != api.OK || s != now[at*size:(at+1)*size] {
				t.Fatalf("%s: the sector %d is %q, %d; not %q", name, at, s, err, now[at*size:(at+1)*size])
			}
		}
	}
}

// gone: whether the power is away, these bytes are safe, and nothing but ErrDown is answered for any sector.
func gone(t *testing.T, name string, d *Disk, safe string, done int) {
	t.Helper()
	for range 2 {
		counts(t, name, d, false, 0, done)
		if d.Image() != safe || d.Len() != len(safe)/size {
			t.Fatalf("%s: safe are %d sectors, %.100q; not %.100q", name, d.Len(), d.Image(), safe)
		}
		for at := range d.Len() {
			if s, err := d.Read(at); s != "" || err != api.ErrDown {
				t.Fatalf("%s: Read(%d): %q, %d", name, at, s, err)
			}
			if err := d.Write(at, full('!')); err != api.ErrDown {
				t.Fatalf("%s: Write(%d): %d", name, at, err)
			}
		}
		if err := d.Sync(); err != api.ErrDown {
			t.Fatalf("%s: Sync: %d", name, err)
		}
	}
}

// P4.1

func TestNew(t *testing.T) {
	for _, c := range []struct{ n, want int }{
		{math.MinInt, 0}, {math.MinInt + 1, 0}, {-1 << 32, 0}, {-4096, 0}, {-1, 0}, {0, 0}, {1, 1}, {2, 2}, {31, 31}, {32, 32}, {33, 33}, {100, 100},
		{4095, 4095}, {4096, 4096}, {4097, 4096}, {1 << 20, 4096}, {1 << 31, 4096}, {1<<32 + 1, 4096}, {math.MaxInt - 1, 4096}, {math.MaxInt, 4096},
	} {
		d := New(c.n)
		if d == nil || d.Len() != c.want {
			t.Fatalf("New(%d): %d", c.n, d.Len())
		}
		zeros := strings.Repeat("\x00", c.want*size)
		counts(t, "new", d, true, 0, 0)
		shows(t, "new", d, zeros, zeros)
		d.Cut(all(3)...)
		gone(t, "new", d, zeros, 0)
	}
}

func TestOf(t *testing.T) {
	for _, n := range []int{0, 1, 2, 3, 31, 32, 33, 34, 63, 64, 65, 95, 96, 97, 1000, 4096, 4095 * size, 4095*size + 31, 4096*size - 1, 4096 * size, 4096*size + 1, 4096*size + 31, 4097 * size, 5000 * size} {
		image := mixed(5, n)
		d := Of(image)
		if d == nil {
			t.Fatalf("%d bytes: nil", n)
		}
		want := image[:min(n/size, 4096)*size]
		if d.Len() != len(want)/size {
			t.Errorf("%d bytes: %d sectors", n, d.Len())
		}
		counts(t, "of an image", d, true, 0, 0)
		shows(t, "of an image", d, want, want)
		d.Cut()
		gone(t, "of an image", d, want, 0)
		d.Come()
		shows(t, "of an image", d, want, want)
	}
}

func TestNoFuseAtFirst(t *testing.T) {
	for _, d := range []*Disk{New(2), Of(full('a') + full('b'))} {
		for i := range 1000 {
			written(t, d, i%2, sectorOf(i))
			synced(t, d)
		}
		counts(t, "a thousand of both", d, true, 0, 2000)
	}
}

func TestLastSectorOfAll(t *testing.T) {
	d := New(api.MaxSectors)
	written(t, d, 4095, full('z'))
	synced(t, d)
	want := strings.Repeat("\x00", 4095*size) + full('z')
	shows(t, "the last one", d, want, want)
	if err := d.Write(4096, full('z')); err != api.ErrRange {
		t.Error(err)
	}
}

func TestNil(t *testing.T) {
	var d *Disk
	d.Cut()
	d.Cut(true)
	d.Fuse(0)
	d.Fuse(1, true)
	d.Fuse(-1)
	d.Come()
	counts(t, "nil", d, false, 0, 0)
	if d.Len() != 0 || d.Image() != "" {
		t.Error(d.Len(), d.Image())
	}
	for _, at := range append(wrongPlaces(0), 0, 1) {
		if s, err := d.Read(at); s != "" || err != api.ErrNil {
			t.Errorf("Read(%d): %q, %d", at, s, err)
		}
		for _, s := range append(wrongTexts(), full('a')) {
			if err := d.Write(at, s); err != api.ErrNil {
				t.Errorf("Write(%d, %.9q): %d", at, s, err)
			}
		}
	}
	if err := d.Sync(); err != api.ErrNil {
		t.Error(err)
	}
}

// P4.2

func TestReadBeyond(t *testing.T) {
	for _, n := range []int{0, 1, 2, 7, 4096} {
		d := New(n)
		for range 2 {
			for _, at := range wrongPlaces(n) {
				if s, err := d.Read(at); s != "" || err != api.ErrRange {
					t.Errorf("of %d, on %v: Read(%d): %q, %d", n, d.IsOn(), at, s, err)
				}
			}
			d.Cut()
		}
	}
}

// Which error is ahead of which, whatever else is wrong; and none of those ahead of the fuse burns it.
func TestWriteThatCant(t *testing.T) {
	for _, n := range []int{0, 1, 3} {
		for _, fuse := range []int{-1, 0, 1} {
			for _, on := range []bool{true, false} {
				d := Of(mixed(2, n*size))
				d.Fuse(fuse)
				if !on {
					d.Cut()
				}
				for _, at := range append(wrongPlaces(n), 0) {
					for _, s := range wrongTexts() {
						if err := d.Write(at, s); err != api.ErrArg {
							t.Errorf("Write(%d, %.9q): %d", at, s, err)
						}
					}
				}
				for _, at := range wrongPlaces(n) {
					if err := d.Write(at, full('a')); err != api.ErrRange {
						t.Errorf("Write(%d): %d", at, err)
					}
				}
				if counts(t, "nothing was written", d, on, 0, 0); d.Image() != mixed(2, n*size) {
					t.Error("an error has changed something")
				}
			}
		}
	}
}

func TestErrorsBurnNoFuse(t *testing.T) {
	d := New(2)
	d.Fuse(2, true)
	for range 5 {
		d.Write(0, "short")
		d.Write(2, full('a'))
		d.Write(-1, full('a'))
		d.Read(0)
		d.Read(9)
		d.Loose()
		d.Done()
		d.Image()
		d.Len()
		d.IsOn()
		d.Come()
	}
	written(t, d, 0, full('a'))
	d.Write(0, "short")
	written(t, d, 1, full('b'))
	d.Write(2, full('a'))
	counts(t, "at the fuse's end", d, true, 2, 2)
	if err := d.Write(1, full('c')); err != api.ErrDown {
		t.Error(err)
	}
	gone(t, "the fuse is burnt", d, full('a')+full(0), 2)
}

func TestWriteAndSync(t *testing.T) {
	first := mixed(3, 3*size)
	d := Of(first)
	written(t, d, 1, full('a'))
	shows(t, "one write", d, first[:size]+full('a')+first[2*size:], first)
	counts(t, "one write", d, true, 1, 1)
	written(t, d, 0, full('b'))
	written(t, d, 1, full('c'))
	second := full('b') + full('c') + first[2*size:]
	shows(t, "three writes", d, second, first)
	counts(t, "three writes", d, true, 3, 3)
	written(t, d, 1, full('c'))
	counts(t, "the same once more", d, true, 4, 4)
	synced(t, d)
	shows(t, "synced", d, second, second)
	counts(t, "synced", d, true, 0, 5)
	synced(t, d)
	counts(t, "synced twice", d, true, 0, 6)
	written(t, d, 2, full('d'))
	shows(t, "written behind a sync", d, second[:2*size]+full('d'), second)
	counts(t, "written behind a sync", d, true, 1, 7)
	written(t, d, 2, second[2*size:])
	shows(t, "written back", d, second, second)
	counts(t, "written back", d, true, 2, 8)
}

// Each byte of a sector is its own, and no other sector has it.
func TestEachByte(t *testing.T) {
	d := New(3)
	for i := range size {
		for b := range 256 {
			s := full(byte(i))
			s = s[:i] + string([]byte{byte(b)}) + s[i+1:]
			written(t, d, 1, s)
			if got, err := d.Read(1); got != s || err != api.OK {
				t.Fatalf("%q, %d; not %q", got, err, s)
			}
			synced(t, d)
			if d.Image() != full(0)+s+full(0) {
				t.Fatalf("%q", d.Image())
			}
		}
	}
}

func TestManyLoose(t *testing.T) {
	const writes = 20000
	d := New(16)
	keep := none(writes)
	for i := range writes {
		written(t, d, i%16, sectorOf(i))
		if d.Loose() != i+1 || d.Done() != i+1 {
			t.Fatal(d.Loose(), d.Done())
		}
	}
	keep[7], keep[10023], keep[10024] = true, true, true
	d.Cut(keep...)
	want := ""
	for at := range 16 {
		switch at {
		case 7:
			want += sectorOf(10023)
		case 8:
			want += sectorOf(10024)
		default:
			want += full(0)
		}
	}
	gone(t, "many loose ones", d, want, writes)
}

// P4.3

func TestTheExample(t *testing.T) {
	d := New(2)
	written(t, d, 0, full('a'))
	written(t, d, 1, full('b'))
	d.Cut(false, true)
	gone(t, "the example", d, full(0)+full('b'), 2)
	d.Come()
	shows(t, "the example", d, full(0)+full('b'), full(0)+full('b'))
	counts(t, "the example", d, true, 0, 2)
}

// places: where five writes go; some go to the same sector, so their order is to be seen.
func places() [][]int {
	return [][]int{{0, 1, 2, 3, 4}, {0, 0, 0, 0, 0}, {1, 0, 1, 0, 1}, {4, 3, 3, 2, 4}, {2, 2, 1, 1, 2}}
}

// kept: the safe bytes, with those of the writes laid on them that keep says.
func kept(safe string, row []int, keep []bool) string {
	for i, at := range row {
		if i < len(keep) && keep[i] {
			safe = safe[:at*size] + sectorOf(i) + safe[(at+1)*size:]
		}
	}
	return safe
}

func TestCutKeeps(t *testing.T) {
	first := mixed(9, 5*size)
	for _, row := range places() {
		for n := range len(row) + 1 {
			for _, keep := range masks(n) {
				d := Of(first)
				for i, at := range row[:n] {
					written(t, d, at, sectorOf(i))
				}
				d.Cut(keep...)
				want := kept(first, row[:n], keep)
				gone(t, "cut", d, want, n)
				d.Come()
				shows(t, "it came again", d, want, want)
				counts(t, "it came again", d, true, 0, n)
			}
		}
	}
}

// A fuse of n lets n writes go, and the next one meets the loss; all that are loose count, those ahead of the fuse too.
func TestFuseOfWrites(t *testing.T) {
	first := mixed(9, 5*size)
	for _, row := range places() {
		for ahead := range len(row) {
			for n := range len(row) - ahead {
				for _, keep := range masks(ahead + n) {
					d := Of(first)
					for i, at := range row[:ahead] {
						written(t, d, at, sectorOf(i))
					}
					d.Fuse(n, keep...)
					counts(t, "a fuse is lit", d, true, ahead, ahead)
					for i, at := range row[ahead : ahead+n] {
						written(t, d, at, sectorOf(ahead+i))
					}
					counts(t, "it burns", d, true, ahead+n, ahead+n)
					if err := d.Write(row[ahead+n], sectorOf(ahead+n)); err != api.ErrDown {
						t.Fatal(err)
					}
					gone(t, "it is burnt", d, kept(first, row[:ahead+n], keep), ahead+n)
				}
			}
		}
	}
}

func TestFuseOfSyncs(t *testing.T) {
	for n := range 5 {
		d := New(2)
		d.Fuse(n, false, true)
		for range n {
			synced(t, d)
		}
		counts(t, "syncs burn it", d, true, 0, n)
		if err := d.Sync(); err != api.ErrDown {
			t.Fatal(err)
		}
		gone(t, "the sync isn't", d, full(0)+full(0), n)
	}
	for _, keep := range masks(2) {
		d := New(2)
		d.Fuse(4, keep...)
		written(t, d, 0, full('a'))
		synced(t, d)
		written(t, d, 0, sectorOf(0))
		written(t, d, 1, sectorOf(1))
		counts(t, "at the fuse's end", d, true, 2, 4)
		if err := d.Sync(); err != api.ErrDown {
			t.Fatal(err)
		}
		gone(t, "a sync meets the loss", d, kept(full('a')+full(0), []int{0, 1}, keep), 4)
	}
}

// Reads and asks don't burn it.
func TestFuseWaits(t *testing.T) {
	d := New(1)
	d.Fuse(0, true)
	for range 10 {
		shows(t, "a fuse of 0", d, full(0), full(0))
		counts(t, "a fuse of 0", d, true, 0, 0)
	}
	if err := d.Sync(); err != api.ErrDown {
		t.Error(err)
	}
	gone(t, "a fuse of 0", d, full(0), 0)
}

func TestFuseIsTakenOut(t *testing.T) {
	for _, n := range []int{-1, -2, -1 << 32, math.MinInt} {
		d := New(1)
		d.Fuse(0, true)
		d.Fuse(n, true, true)
		for i := range 300 {
			written(t, d, 0, sectorOf(i))
			synced(t, d)
		}
		counts(t, "no fuse", d, true, 0, 600)
	}
}

func TestFuseIsSetAnew(t *testing.T) {
	d := New(3)
	d.Fuse(0, true, true, true)
	d.Fuse(5)
	written(t, d, 0, full('a'))
	d.Fuse(1, false, true)
	written(t, d, 1, full('b'))
	if err := d.Write(2, full('c')); err != api.ErrDown {
		t.Error(err)
	}
	gone(t, "the last fuse counts", d, full(0)+full('b')+full(0), 2)
}

func TestLongFuse(t *testing.T) {
	for _, n := range []int{600, 1 << 31, 1 << 32, math.MaxInt} {
		d := New(1)
		d.Fuse(n)
		for i := range 300 {
			written(t, d, 0, sectorOf(i))
			synced(t, d)
		}
		counts(t, "a long fuse", d, true, 0, 600)
	}
}

// What came ahead of the loss has no fuse left behind it, neither one that burnt nor one that hadn't.
func TestNoFuseBehindALoss(t *testing.T) {
	for _, fuse := range []int{0, 1, 2} {
		for _, cut := range []bool{true, false} {
			d := New(1)
			d.Fuse(fuse, true)
			if cut {
				d.Cut()
			} else {
				for d.Sync() == api.OK {
				}
			}
			done := d.Done()
			d.Fuse(0, true)
			d.Fuse(1)
			d.Come()
			for i := range 20 {
				written(t, d, 0, sectorOf(i))
				synced(t, d)
			}
			counts(t, "no fuse", d, true, 0, done+40)
		}
	}
}

// A cut keeps what it is told, not what the fuse was told.
func TestCutAheadOfFuse(t *testing.T) {
	d := New(2)
	d.Fuse(9, true, true)
	written(t, d, 0, full('a'))
	written(t, d, 1, full('b'))
	d.Cut(false, true)
	gone(t, "cut", d, full(0)+full('b'), 2)
}

func TestAwayNothingHappens(t *testing.T) {
	d := New(2)
	written(t, d, 0, full('a'))
	synced(t, d)
	written(t, d, 0, full('b'))
	written(t, d, 1, full('c'))
	d.Cut()
	for range 3 {
		gone(t, "away", d, full('a')+full(0), 4)
		d.Cut(true, true, true)
		d.Fuse(0, true, true)
		d.Fuse(3)
		d.Fuse(-1)
	}
	d.Come()
	shows(t, "it came", d, full('a')+full(0), full('a')+full(0))
	counts(t, "it came", d, true, 0, 4)
}

// While it is there, that it comes changes nothing: what is loose is, and the fuse burns on.
func TestComeWhileOn(t *testing.T) {
	d := New(2)
	d.Come()
	d.Fuse(2, true)
	d.Come()
	written(t, d, 0, full('a'))
	d.Come()
	written(t, d, 1, full('b'))
	d.Come()
	shows(t, "on", d, full('a')+full('b'), full(0)+full(0))
	counts(t, "on", d, true, 2, 2)
	if err := d.Sync(); err != api.ErrDown {
		t.Error(err)
	}
	gone(t, "burnt", d, full('a')+full(0), 2)
}

// Places count anew behind each sync and each loss.
func TestPlacesCountAnew(t *testing.T) {
	d := New(3)
	written(t, d, 0, full('a'))
	synced(t, d)
	written(t, d, 1, full('b'))
	d.Cut(true)
	gone(t, "behind a sync", d, full('a')+full('b')+full(0), 3)
	d.Come()
	written(t, d, 2, full('c'))
	d.Cut(false, true)
	gone(t, "behind a loss", d, full('a')+full('b')+full(0), 4)
	d.Come()
	written(t, d, 2, full('d'))
	d.Cut(true)
	gone(t, "behind another", d, full('a')+full('b')+full('d'), 5)
}

// Nothing that was lost comes back by a later sync or loss.
func TestLostIsLost(t *testing.T) {
	d := New(2)
	written(t, d, 0, full('a'))
	written(t, d, 1, full('b'))
	d.Cut(false, true)
	d.Come()
	synced(t, d)
	shows(t, "a sync behind it", d, full(0)+full('b'), full(0)+full('b'))
	d.Cut(true, true, true)
	gone(t, "a loss behind it", d, full(0)+full('b'), 3)
}

func TestNoSectors(t *testing.T) {
	d := New(0)
	d.Fuse(1, true)
	synced(t, d)
	if err := d.Sync(); err != api.ErrDown {
		t.Error(err)
	}
	gone(t, "no sectors", d, "", 1)
	d.Come()
	counts(t, "no sectors", d, true, 0, 1)
}

// Rule 3: what is handed in is as it was, its spare room too, and isn't kept.
func TestKeepIsLeft(t *testing.T) {
	keep := []bool{true, false, true, false}
	d := New(3)
	for at := range 3 {
		written(t, d, at, sectorOf(at))
	}
	d.Cut(keep[:2]...)
	gone(t, "cut", d, sectorOf(0)+full(0)+full(0), 3)
	d.Come()
	d.Fuse(3, keep[:2]...)
	keep[0], keep[1], keep[2] = false, true, false
	for at := range 3 {
		written(t, d, at, full('a'))
	}
	keep[1] = false
	d.Sync()
	gone(t, "a list that is changed later", d, full('a')+full(0)+full(0), 6)
	if !slices.Equal(keep, none(4)) {
		t.Error("a list was changed")
	}
}

func TestDisksAlone(t *testing.T) {
	image := mixed(4, 2*size)
	a, b := Of(image), Of(image)
	early, _ := a.Read(0)
	whole := a.Image()
	written(t, a, 0, full('a'))
	a.Fuse(1)
	synced(t, a)
	counts(t, "another one", b, true, 0, 0)
	shows(t, "another one", b, image, image)
	a.Sync()
	gone(t, "the first one", a, full('a')+image[size:], 2)
	c := Of(a.Image())
	counts(t, "a third one", c, true, 0, 0)
	written(t, c, 0, full('c'))
	synced(t, c)
	if early != image[:size] || whole != image || a.Image() != full('a')+image[size:] {
		t.Error("an answer was changed later")
	}
}

// P4.4

// Whatever is kept, a sector that wasn't written since has what was synced, and one that was has that, or one of the others.
func TestSyncedIsThere(t *testing.T) {
	for _, before := range places() {
		for _, since := range places() {
			for n := range 4 {
				for _, keep := range masks(n) {
					d := New(5)
					can := [5][]string{}
					last := [5]string{full(0), full(0), full(0), full(0), full(0)}
					for i, at := range before {
						written(t, d, at, sectorOf(100+i))
						last[at] = sectorOf(100 + i)
					}
					synced(t, d)
					for at := range can {
						can[at] = []string{last[at]}
					}
					for i, at := range since[:n] {
						written(t, d, at, sectorOf(i))
						can[at] = append(can[at], sectorOf(i))
					}
					d.Cut(keep...)
					d.Come()
					for at := range can {
						if s, err := d.Read(at); err != api.OK || !slices.Contains(can[at], s) {
							t.Fatalf("the sector %d is %q, %d", at, s, err)
						}
					}
				}
			}
		}
	}
}

// Rows of commands, held against a disk that is built another way.

// plain remembers the bytes that are safe, and each write behind them, and works all out of these when it is asked.
type plain struct {
	safe  string
	rows  []int
	texts []string
	on    bool
	fuse  int
	keep  []bool
	done  int
}

func (p *plain) put(image string, at int, s string) string {
	return image[:at*size] + s + image[(at+1)*size:]
}

func (p *plain) now() string {
	image := p.safe
	for i, at := range p.rows {
		image = p.put(image, at, p.texts[i])
	}
	return image
}

func (p *plain) lose(keep []bool) {
	if !p.on {
		return
	}
	image := p.safe
	for i, at := range p.rows {
		if i < len(keep) && keep[i] {
			image = p.put(image, at, p.texts[i])
		}
	}
	*p = plain{safe: image, fuse: -1, done: p.done}
}

// goes: what a write or a sync that is well formed is answered.
func (p *plain) goes() api.Errno {
	if !p.on {
		return api.ErrDown
	}
	if p.fuse == 0 {
		p.lose(p.keep)
		return api.ErrDown
	}
	p.fuse--
	p.done++
	return api.OK
}

// deed: one command of a row.
type deed struct {
	kind byte
	at   int
	text string
	keep []bool
}

func (p *plain) do(c deed) api.Errno {
	switch c.kind {
	case 'w':
		if len(c.text) != size {
			return api.ErrArg
		}
		if c.at < 0 || c.at >= len(p.safe)/size {
			return api.ErrRange
		}
		err := p.goes()
		if err == api.OK {
			p.rows, p.texts = append(p.rows, c.at), append(p.texts, c.text)
		}
		return err
	case 's':
		err := p.goes()
		if err == api.OK {
			p.safe, p.rows, p.texts = p.now(), nil, nil
		}
		return err
	case 'c':
		p.lose(c.keep)
	case 'f':
		if p.on {
			p.fuse, p.keep = max(c.at, -1), c.keep
		}
	case 'p':
		p.on = true
	}
	return api.OK
}

func do(d *Disk, c deed) api.Errno {
	switch c.kind {
	case 'w':
		return d.Write(c.at, c.text)
	case 's':
		return d.Sync()
	case 'c':
		d.Cut(c.keep...)
	case 'f':
		d.Fuse(c.at, c.keep...)
	case 'p':
		d.Come()
	}
	return api.OK
}

// alike: whether the disk tells what the plain one tells.
func alike(d *Disk, p *plain) bool {
	if d.IsOn() != p.on || d.Loose() != len(p.rows) || d.Done() != p.done || d.Len() != len(p.safe)/size || d.Image() != p.safe {
		return false
	}
	now := p.now()
	for at := range d.Len() {
		s, err := d.Read(at)
		if p.on && (s != now[at*size:(at+1)*size] || err != api.OK) {
			return false
		}
		if !p.on && (s != "" || err != api.ErrDown) {
			return false
		}
	}
	return true
}

// tell: a row of commands, in short.
func tell(row []deed) string {
	s := ""
	for _, c := range row {
		s += fmt.Sprintf("%c %d %.1q %v; ", c.kind, c.at, c.text, c.keep)
	}
	return s
}

// walk: a row of commands, on a disk and on a plain one.
func walk(t *testing.T, image string, row []deed) {
	t.Helper()
	d, p := Of(image), &plain{safe: image, on: true, fuse: -1}
	for i, c := range row {
		got, want := do(d, c), p.do(c)
		if got != want || !alike(d, p) {
			t.Fatalf("%s: behind the command %d: %d, not %d", tell(row[:i+1]), i, got, want)
		}
	}
}

// alphabet: commands that all short rows are made of.
func alphabet() []deed {
	return []deed{
		{kind: 'w', at: 0, text: full('a')}, {kind: 'w', at: 0, text: full('b')}, {kind: 'w', at: 1, text: full('c')},
		{kind: 'w', at: 2, text: full('d')}, {kind: 'w', at: 1, text: "d"}, {kind: 's'}, {kind: 'p'},
		{kind: 'c'}, {kind: 'c', keep: []bool{true}}, {kind: 'c', keep: []bool{false, true}},
		{kind: 'f', at: -1}, {kind: 'f', at: 0, keep: []bool{true, true}}, {kind: 'f', at: 1, keep: []bool{false, true}}, {kind: 'f', at: 2, keep: []bool{true}},
	}
}

func TestAllShortRows(t *testing.T) {
	letters := alphabet()
	image := mixed(6, 2*size)
	row := make([]deed, 4)
	for n := range len(letters) * len(letters) * len(letters) * len(letters) {
		for i := range row {
			row[i] = letters[n%len(letters)]
			n /= len(letters)
		}
		walk(t, image, row)
	}
}

// told: commands that bytes tell.
func told(bytes []byte) []deed {
	row := []deed{}
	next := func() int {
		if len(bytes) == 0 {
			return 0
		}
		b := int(bytes[0])
		bytes = bytes[1:]
		return b
	}
	for len(bytes) > 0 {
		c := deed{kind: "wwwwwwwwsscfppww"[next()%16]}
		switch c.kind {
		case 'w':
			c.at, c.text = next()%9-1, sectorOf(next())
			if next() > 250 {
				c.text = c.text[1:]
			}
		case 'c':
			c.keep = maskOf(next(), next())
		case 'f':
			c.at, c.keep = next()%12-1, maskOf(next(), next())
		}
		row = append(row, c)
	}
	return row
}

func maskOf(bits, n int) []bool {
	keep := none(n % 10)
	for i := range keep {
		keep[i] = bits>>i&1 == 1
	}
	return keep
}

func TestLongRows(t *testing.T) {
	r := rand.New(rand.NewSource(4))
	for n := range 300 {
		bytes := make([]byte, 600)
		r.Read(bytes)
		walk(t, mixed(n, n%9*size), told(bytes))
	}
}

func FuzzDisk(f *testing.F) {
	f.Add([]byte{3, 0, 1, 1, 0, 0, 2, 2, 0, 8, 0, 1, 3, 0, 10, 3, 2, 12})
	f.Add([]byte{2, 11, 3, 1, 2, 0, 1, 1, 0, 0, 2, 2, 0, 8, 12, 0, 1, 5, 0})
	f.Fuzz(func(t *testing.T, bytes []byte) {
		if len(bytes) > 0 {
			walk(t, mixed(1, int(bytes[0]%9)*size), told(bytes[1:]))
		}
	})
}
