package pages

import (
	"crypto/sha256"
	"encoding/hex"
	"fmt"
	"math"
	"math/rand/v2"
	"slices"
	"strings"
	"testing"

	"coadjutor/api"
	"coadjutor/brain"
	"coadjutor/conf"
	"coadjutor/step"
)

// What follows holds a pool against rows of pages that are told by the words of chapter 22, its entries as texts.

const last = 2147483647

// text: an entry's numbers, row by row.
func text(e step.Entry) string {
	s := strings.Builder{}
	for _, rows := range [][][]int{e.Keys, e.Values} {
		fmt.Fprint(&s, len(rows), ":")
		for _, row := range rows {
			fmt.Fprint(&s, " ", len(row), row)
		}
		s.WriteString(";")
	}
	return s.String()
}

func texts(list []step.Entry) []string {
	all := []string{}
	for _, e := range list {
		all = append(all, text(e))
	}
	return all
}

// entry: an entry of two rows of keys and one of values, that no other number has.
func entry(n int) step.Entry {
	return step.Entry{Keys: [][]int{{n, -n}, {n * n}}, Values: [][]int{{n + 1, n + 2, n + 3}}}
}

// entries: entries of all kinds; what can be no model's too.
func entries() []step.Entry {
	return []step.Entry{
		{}, {Keys: [][]int{}, Values: [][]int{}}, {Keys: [][]int{{}}}, {Values: [][]int{nil}}, {Keys: [][]int{{1}}}, {Values: [][]int{{1}}}, {Keys: [][]int{{1, 2}, {}, {3}}, Values: [][]int{{}, {4}}},
		{Keys: [][]int{{math.MinInt, math.MaxInt}}, Values: [][]int{{0, -1, 40000}}}, {Keys: make([][]int, 70), Values: [][]int{make([]int, 3000)}}, entry(5), entry(-5),
	}
}

// own is a page as the chapter tells it; a free one has no users.
type own struct {
	version, users int
	has            []string
}

// watch is a pool, and its pages as they should be.
type watch struct {
	*Pool
	pages []own
	// told: how many uses were told, but for those that were dropped.
	told int
}

func fresh(t testing.TB, n int) *watch {
	t.Helper()
	p := New(n)
	if p == nil {
		t.Fatalf("no pool of %d", n)
	}
	w := &watch{Pool: p, pages: make([]own, n)}
	w.holds(t)
	return w
}

func (w *watch) there(id int) bool {
	return id >= 0 && id < len(w.pages)
}

// used: whether there is such a page, and it isn't free.
func (w *watch) used(id int) bool {
	return w.there(id) && w.pages[id].users > 0
}

// edges: numbers that no page of a pool of n has.
func edges(n int) []int {
	return []int{math.MinInt, math.MinInt + n, -1 << 32, -1<<32 + 1, -64, -n - 1, -n, -2, -1, n, n + 1, 2 * n, 64, 65, 127, 128, 256, 1 << 16, 1 << 31, 1 << 32, 1<<32 + n - 1, math.MaxInt - 1, math.MaxInt}
}

// versions: numbers that versions go by, and others.
func versions() []int {
	return []int{math.MinInt, -1 << 32, -1 << 31, -last, -2, -1, 0, 1, 2, 3, last - 1, last, 1 << 31, 1<<31 + 1, 1 << 32, 1<<32 + 1, math.MaxInt}
}

// holds: whether a pool answers all that can be asked as the chapter says; to ask changes nothing, so it is asked twice.
func (w *watch) holds(t testing.TB) {
	t.Helper()
	for range 2 {
		w.answers(t)
	}
}

func (w *watch) answers(t testing.TB) {
	t.Helper()
	n, free, users := len(w.pages), 0, 0
	ids, all := []int{}, []string{}
	of := map[int][]int{}
	for _, v := range versions() {
		of[v] = nil
	}
	for id, page := range w.pages {
		if w.Version(id) != page.version || w.Users(id) != page.users {
			t.Fatalf("%d: %d, %d users; not %d, %d", id, w.Version(id), w.Users(id), page.version, page.users)
		}
		if got := texts(w.Get(id)); !slices.Equal(got, page.has) {
			t.Fatalf("%d: %v, not %v", id, got, page.has)
		}
		users += page.users
		ids, all = append(ids, id), append(all, page.has...)
		if page.users == 0 {
			free++
		} else {
			of[page.version] = append(of[page.version], id)
		}
	}
	if w.Len() != n || w.Free() != free || users != w.told {
		t.Fatalf("%d of %d free, not %d of %d; %d users of %d", w.Free(), w.Len(), free, n, users, w.told)
	}
	if got := texts(w.Get(ids...)); !slices.Equal(got, all) {
		t.Fatalf("all: %v, not %v", got, all)
	}
	for v, list := range of {
		if got := w.Of(v); !slices.Equal(got, list) {
			t.Fatalf("of %d: %v, not %v", v, got, list)
		}
	}
	for _, id := range edges(n) {
		if w.there(id) {
			continue
		}
		if w.Version(id) != 0 || w.Users(id) != 0 || len(w.Get(id)) != 0 {
			t.Fatalf("no page %d: %d, %d", id, w.Version(id), w.Users(id))
		}
	}
}

// take: whether Take answers as the chapter says, and all is so behind it; its answer.
func (w *watch) take(t testing.TB, version int) (int, api.Errno) {
	t.Helper()
	id, want := 0, api.OK
	if version < 1 || version > last {
		want = api.ErrArg
	} else if id = slices.IndexFunc(w.pages, func(page own) bool { return page.users == 0 }); id < 0 {
		id, want = 0, api.ErrPool
	} else {
		w.pages[id] = own{version, 1, nil}
		w.told++
	}
	if got, e := w.Take(version); got != id || e != want {
		t.Fatalf("take of %d: %d, %d; not %d, %d", version, got, e, id, want)
	}
	w.holds(t)
	return id, want
}

// share, likewise.
func (w *watch) share(t testing.TB, list ...int) api.Errno {
	t.Helper()
	want := api.OK
	for _, id := range list {
		if !w.used(id) {
			want = api.ErrNone
		}
	}
	if want == api.OK {
		for _, id := range list {
			w.pages[id].users++
		}
		w.told += len(list)
	}
	if e := w.Share(list...); e != want {
		t.Fatalf("share of %v: %d, not %d", list, e, want)
	}
	w.holds(t)
	return want
}

// drop, likewise.
func (w *watch) drop(t testing.TB, list ...int) api.Errno {
	t.Helper()
	want := api.OK
	often := map[int]int{}
	for _, id := range list {
		often[id]++
	}
	for id, times := range often {
		if !w.used(id) || times > w.pages[id].users {
			want = api.ErrNone
		}
	}
	if want == api.OK {
		for id, times := range often {
			w.pages[id].users -= times
			if w.pages[id].users == 0 {
				w.pages[id] = own{}
			}
		}
		w.told -= len(list)
	}
	if e := w.Drop(list...); e != want {
		t.Fatalf("drop of %v: %d, not %d", list, e, want)
	}
	w.holds(t)
	return want
}

// put, likewise.
func (w *watch) put(t testing.TB, id int, e step.Entry) api.Errno {
	t.Helper()
	want := api.OK
	switch {
	case !w.used(id):
		want = api.ErrNone
	case w.pages[id].users > 1:
		want = api.ErrState
	case len(w.pages[id].has) > 3:
		want = api.ErrFull
	default:
		w.pages[id].has = append(slices.Clone(w.pages[id].has), text(e))
	}
	if got := w.Put(id, e); got != want {
		t.Fatalf("put in %d: %d, not %d", id, got, want)
	}
	w.holds(t)
	return want
}

// get, likewise.
func (w *watch) get(t testing.TB, list ...int) {
	t.Helper()
	all := []string{}
	for _, id := range list {
		if w.there(id) {
			all = append(all, w.pages[id].has...)
		}
	}
	if got := texts(w.Get(list...)); !slices.Equal(got, all) {
		t.Fatalf("get of %v: %v, not %v", list, got, all)
	}
}

// is: whether an error is the one that is asked for.
func is(t testing.TB, e, want api.Errno) {
	t.Helper()
	if e != want {
		t.Fatalf("%d, not %d", e, want)
	}
}

// laid: a pool with pages of so many users each, and so many entries; of 0 users it is free.
func laid(t testing.TB, users, have []int) *watch {
	t.Helper()
	w := fresh(t, len(users))
	for id := range users {
		w.take(t, id+1)
		for i := range have[id] {
			w.put(t, id, entry(10*id+i))
		}
	}
	for id, n := range users {
		if n == 0 {
			w.drop(t, id)
		} else {
			w.share(t, slices.Repeat([]int{id}, n-1)...)
		}
	}
	return w
}

// P22.1

func TestByHand(t *testing.T) {
	// Take, Share, Drop, Drop: it is free again.
	p := New(2)
	if id, e := p.Take(7); id != 0 || e != api.OK || p.Version(0) != 7 || p.Users(0) != 1 || p.Free() != 1 || p.Len() != 2 {
		t.Fatal(id, e, p)
	}
	if e := p.Share(0); e != api.OK || p.Users(0) != 2 {
		t.Error(e, p.Users(0))
	}
	if e := p.Drop(0); e != api.OK || p.Users(0) != 1 || p.Free() != 1 {
		t.Error(e, p.Users(0))
	}
	if e := p.Put(0, entry(3)); e != api.OK {
		t.Error(e)
	}
	if list := p.Get(0); len(list) != 1 || !step.Same(list[0], entry(3)) {
		t.Error(list)
	}
	if e := p.Drop(0); e != api.OK || p.Users(0) != 0 || p.Version(0) != 0 || p.Free() != 2 || len(p.Get(0)) != 0 || len(p.Of(7)) != 0 {
		t.Error(e, p)
	}
	if e := p.Drop(0); e != api.ErrNone {
		t.Error(e)
	}
}

func TestNew(t *testing.T) {
	for n := -200; n <= 400; n++ {
		if n >= 1 && n <= 64 {
			fresh(t, n)
		} else if New(n) != nil {
			t.Errorf("a pool of %d", n)
		}
	}
	for _, n := range []int{math.MinInt, math.MinInt + 1, math.MinInt + 64, -1 << 32, -1<<32 + 8, -1 << 31, 1 << 16, last, 1 << 31, 1 << 32, 1<<32 + 1, 1<<32 + 64, math.MaxInt - 1, math.MaxInt} {
		if New(n) != nil {
			t.Errorf("a pool of %d", n)
		}
	}
}

// What one pool's pages are says nothing of another one's.
func TestNewIsAnother(t *testing.T) {
	a, b := fresh(t, 3), fresh(t, 3)
	a.take(t, 5)
	a.put(t, 0, entry(1))
	b.holds(t)
	b.take(t, 6)
	b.take(t, 7)
	b.put(t, 0, entry(2))
	b.share(t, 0, 1)
	a.holds(t)
	a.drop(t, 0)
	b.holds(t)
}

func TestTakeAll(t *testing.T) {
	for n := 1; n <= 64; n++ {
		w := fresh(t, n)
		for i := range n {
			if id, e := w.take(t, 1+i%3); id != i || e != api.OK {
				t.Fatal(n, i, id, e)
			}
		}
		for range 2 {
			if id, e := w.take(t, 1); id != 0 || e != api.ErrPool {
				t.Fatal(n, id, e)
			}
		}
		// Dropped in any order, the lowest one is taken.
		for _, id := range rand.New(rand.NewPCG(uint64(n), 22)).Perm(n) {
			w.drop(t, id)
			if got, _ := w.take(t, 4); got != id {
				t.Fatal(n, got, id)
			}
		}
	}
}

// Each subset of pages is free: the lowest ones are taken, one by one.
func TestTakeLowest(t *testing.T) {
	const n = 7
	for set := range 1 << n {
		w := fresh(t, n)
		for range n {
			w.take(t, 9)
		}
		for id := range n {
			if set>>id&1 == 1 {
				w.drop(t, id)
			}
		}
		for id := range n {
			if set>>id&1 == 1 {
				got, e := w.take(t, 2)
				if got != id || e != api.OK {
					t.Fatalf("%b: %d, %d, not %d", set, got, e, id)
				}
			}
		}
		_, e := w.take(t, 2)
		is(t, e, api.ErrPool)
	}
}

// Versions that can't be are told ahead of a pool without free pages, and nothing is taken.
func TestTakeVersions(t *testing.T) {
	for _, n := range []int{1, 3, 64} {
		w := fresh(t, n)
		for range n + 1 {
			for _, v := range versions() {
				if v >= 1 && v <= last {
					continue
				}
				if id, e := w.take(t, v); id != 0 || e != api.ErrArg {
					t.Fatal(v, id, e)
				}
			}
			w.take(t, last)
		}
	}
	for _, v := range []int{1, 2, 255, 256, 1 << 16, 1 << 30, last - 1, last} {
		w := fresh(t, 2)
		if id, e := w.take(t, v); id != 0 || e != api.OK || w.Version(0) != v || !slices.Equal(w.Of(v), []int{0}) {
			t.Error(v, id, e)
		}
	}
}

// A page that is taken anew is empty, and has room for all its places.
func TestTakenAnewIsEmpty(t *testing.T) {
	for have := range 5 {
		w := laid(t, []int{1, 1, 1}, []int{have, 2, have})
		for range 3 {
			w.drop(t, 0)
			w.take(t, 8)
			if len(w.Get(0)) != 0 || w.Version(0) != 8 {
				t.Fatal(have, w.Get(0))
			}
			for i := range 4 {
				is(t, w.put(t, 0, entry(i)), api.OK)
			}
			is(t, w.put(t, 0, entry(9)), api.ErrFull)
		}
	}
}

func TestNil(t *testing.T) {
	var p *Pool
	for _, v := range append(versions(), edges(1)...) {
		if id, e := p.Take(v); id != 0 || e != api.ErrNil {
			t.Error(v, id, e)
		}
		for _, list := range [][]int{nil, {}, {v}, {v, v}, {0, v, 1}} {
			if p.Share(list...) != api.ErrNil || p.Drop(list...) != api.ErrNil || len(p.Get(list...)) != 0 {
				t.Error(list)
			}
		}
		if p.Put(v, entry(1)) != api.ErrNil || p.Put(v, step.Entry{}) != api.ErrNil {
			t.Error(v)
		}
		if p.Version(v) != 0 || p.Users(v) != 0 || len(p.Of(v)) != 0 {
			t.Error(v, p.Version(v), p.Users(v), p.Of(v))
		}
	}
	if p.Free() != 0 || p.Len() != 0 {
		t.Error(p.Free(), p.Len())
	}
}

// P22.2: Share, Drop

// lists: all lists of up to so many numbers, from -1 to n.
func lists(n, most int) [][]int {
	all := [][]int{nil}
	for from := 0; most > 0; most-- {
		to := len(all)
		for _, list := range all[from:to] {
			for id := -1; id <= n; id++ {
				all = append(all, append(slices.Clone(list), id))
			}
		}
		from = to
	}
	return all
}

// Of two pages with up to three users each, all lists of up to four.
func TestShareDropAll(t *testing.T) {
	all := lists(2, 4)
	if len(all) != 341 {
		t.Fatal(len(all))
	}
	answers := map[api.Errno]int{}
	for state := range 16 {
		for _, list := range all {
			w := laid(t, []int{state % 4, state / 4}, []int{1, 2})
			answers[w.share(t, list...)]++
			w = laid(t, []int{state % 4, state / 4}, []int{1, 2})
			answers[w.drop(t, list...)]++
		}
	}
	if answers[api.OK] < 300 || answers[api.ErrNone] < 3000 || len(answers) != 2 {
		t.Error(answers)
	}
}

func TestShareDropByHand(t *testing.T) {
	w := laid(t, []int{1, 2, 0, 1}, []int{4, 1, 0, 0})
	for i, c := range []struct {
		share bool
		list  []int
		want  api.Errno
		users [4]int
	}{
		{true, nil, api.OK, [4]int{1, 2, 0, 1}},
		{false, nil, api.OK, [4]int{1, 2, 0, 1}},
		{true, []int{}, api.OK, [4]int{1, 2, 0, 1}},
		{true, []int{2}, api.ErrNone, [4]int{1, 2, 0, 1}},
		{true, []int{0, 1, 2}, api.ErrNone, [4]int{1, 2, 0, 1}},
		{true, []int{2, 1, 0}, api.ErrNone, [4]int{1, 2, 0, 1}},
		{true, []int{0, 4}, api.ErrNone, [4]int{1, 2, 0, 1}},
		{true, []int{-1, 0}, api.ErrNone, [4]int{1, 2, 0, 1}},
		{true, []int{0, 3, 0, 0}, api.OK, [4]int{4, 2, 0, 2}},
		{false, []int{3, 3, 3}, api.ErrNone, [4]int{4, 2, 0, 2}},
		{false, []int{0, 1, 0, 1, 3, 1}, api.ErrNone, [4]int{4, 2, 0, 2}},
		{false, []int{2}, api.ErrNone, [4]int{4, 2, 0, 2}},
		{false, []int{0, 2}, api.ErrNone, [4]int{4, 2, 0, 2}},
		{false, []int{4, 0}, api.ErrNone, [4]int{4, 2, 0, 2}},
		{false, []int{0, -1}, api.ErrNone, [4]int{4, 2, 0, 2}},
		{false, []int{0, 1, 0, 1, 3}, api.OK, [4]int{2, 0, 0, 1}},
		{false, []int{1}, api.ErrNone, [4]int{2, 0, 0, 1}},
		{true, []int{1}, api.ErrNone, [4]int{2, 0, 0, 1}},
		{false, []int{0, 3, 0, 0}, api.ErrNone, [4]int{2, 0, 0, 1}},
		{false, []int{0, 3, 0}, api.OK, [4]int{}},
		{false, []int{0}, api.ErrNone, [4]int{}},
	} {
		call := w.drop
		if c.share {
			call = w.share
		}
		if e := call(t, c.list...); e != c.want {
			t.Errorf("%d: %d, not %d", i, e, c.want)
		}
		for id, n := range c.users {
			if w.Users(id) != n {
				t.Errorf("%d: %d has %d users, not %d", i, id, w.Users(id), n)
			}
		}
	}
}

// Each number that no page has, and a free one's, at each place of a list: nothing is changed.
func TestShareDropOfWhatIsNone(t *testing.T) {
	for _, n := range []int{2, 5, 63, 64} {
		w := fresh(t, n)
		for range n - 1 {
			w.take(t, 3)
		}
		w.share(t, 0)
		for _, id := range append(edges(n), n-1) {
			if w.used(id) {
				continue
			}
			for _, list := range [][]int{{id}, {id, 0}, {0, id}, {0, id, 0}, {id, id}, {n - 2, 0, id}} {
				is(t, w.share(t, list...), api.ErrNone)
				is(t, w.drop(t, list...), api.ErrNone)
			}
		}
	}
}

// Lists of many more than there are pages.
func TestManyUsers(t *testing.T) {
	w := laid(t, []int{1, 1}, []int{1, 3})
	list := []int{}
	for i := range 300000 {
		list = append(list, i*i%2)
	}
	for range 3 {
		is(t, w.share(t, list...), api.OK)
	}
	is(t, w.drop(t, append(list, slices.Repeat(list, 3)...)...), api.ErrNone)
	is(t, w.drop(t, slices.Repeat(list, 2)...), api.OK)
	is(t, w.drop(t, append(list, 1, 1)...), api.ErrNone)
	is(t, w.drop(t, append(list, 1)...), api.OK)
	if w.Users(0) != 1 || w.Users(1) != 0 {
		t.Error(w.Users(0), w.Users(1))
	}
}

// P22.2: Put, Get

func TestPutErrors(t *testing.T) {
	for have := range 5 {
		for users := range 4 {
			w := laid(t, []int{1, users, 1}, []int{1, have, 4})
			want := api.OK
			switch {
			case users == 0:
				want = api.ErrNone
			case users > 1:
				// That it has more than one user is told ahead of that it is full.
				want = api.ErrState
			case have == 4:
				want = api.ErrFull
			}
			is(t, w.put(t, 1, entry(50)), want)
			for _, id := range edges(3) {
				if w.there(id) {
					continue
				}
				is(t, w.put(t, id, entry(51)), api.ErrNone)
			}
			// Once it has one user again what it has goes on.
			if users > 1 {
				is(t, w.drop(t, slices.Repeat([]int{1}, users-1)...), api.OK)
				want = map[bool]api.Errno{true: api.ErrFull, false: api.OK}[have == 4]
				is(t, w.put(t, 1, entry(52)), want)
			}
		}
	}
}

// Entries of all kinds are kept as they are, each at each place.
func TestPutOfAllKinds(t *testing.T) {
	list := entries()
	for i := range list {
		w := fresh(t, 2)
		w.take(t, 1)
		w.take(t, 1)
		for k := range 4 {
			is(t, w.put(t, 1, list[(i+k)%len(list)]), api.OK)
			is(t, w.put(t, 0, list[(i+7*k)%len(list)]), api.OK)
		}
		is(t, w.put(t, 1, list[i]), api.ErrFull)
		for k, e := range w.Get(1) {
			if !step.Same(e, list[(i+k)%len(list)]) {
				t.Errorf("%.100v, not %.100v", e, list[(i+k)%len(list)])
			}
		}
	}
}

func TestGetByHand(t *testing.T) {
	w := laid(t, []int{1, 2, 0, 1, 1}, []int{4, 1, 3, 0, 2})
	for i, c := range []struct{ list, want []int }{
		{nil, nil}, {[]int{}, nil}, {[]int{0}, []int{0, 1, 2, 3}}, {[]int{1}, []int{10}}, {[]int{2}, nil}, {[]int{3}, nil}, {[]int{4}, []int{40, 41}}, {[]int{-1}, nil}, {[]int{5}, nil},
		{[]int{4, 0, 1}, []int{40, 41, 0, 1, 2, 3, 10}}, {[]int{1, 1, 1}, []int{10, 10, 10}}, {[]int{2, 1, 5, 3, 4, -1, 1, 2}, []int{10, 40, 41, 10}}, {[]int{math.MinInt, 1, math.MaxInt, 1, 1 << 32}, []int{10, 10}},
	} {
		want := []string{}
		for _, n := range c.want {
			want = append(want, text(entry(n)))
		}
		if got := texts(w.Get(c.list...)); !slices.Equal(got, want) {
			t.Errorf("%d: %v, not %v", i, got, want)
		}
	}
}

func TestGetOfAllLists(t *testing.T) {
	for have := range 25 {
		w := laid(t, []int{1, 3}, []int{have % 5, have / 5})
		for _, list := range lists(2, 4) {
			w.get(t, list...)
		}
	}
	w := laid(t, slices.Repeat([]int{2}, 64), slices.Repeat([]int{4}, 64))
	r := rand.New(rand.NewPCG(1, 22))
	for range 100 {
		list := r.Perm(70)
		w.get(t, append(list, list...)...)
	}
}

// P22.3

func TestOfByHand(t *testing.T) {
	w := fresh(t, 6)
	for _, v := range []int{5, 6, 5, 7, 5} {
		w.take(t, v)
	}
	for i, c := range []struct {
		version int
		want    []int
	}{
		{5, []int{0, 2, 4}}, {6, []int{1}}, {7, []int{3}}, {8, nil}, {0, nil}, {-5, nil}, {1<<32 + 5, nil}, {math.MinInt, nil}, {math.MaxInt, nil},
	} {
		if got := w.Of(c.version); !slices.Equal(got, c.want) {
			t.Errorf("%d: %v, not %v", i, got, c.want)
		}
	}
	// Pages that are taken later stand by their numbers, not by when they were taken.
	w.drop(t, 0, 3)
	w.take(t, 6)
	w.take(t, 6)
	if got := w.Of(6); !slices.Equal(got, []int{0, 1, 3}) {
		t.Error(got)
	}
	w.share(t, 1, 1)
	w.drop(t, 1, 0)
	if got := w.Of(6); !slices.Equal(got, []int{1, 3}) {
		t.Error(got)
	}
}

// Of pools that are free, or full, no version has pages but the one that they are of.
func TestOfAll(t *testing.T) {
	for _, n := range []int{1, 2, 63, 64} {
		w := fresh(t, n)
		for _, v := range versions() {
			if got := w.Of(v); len(got) != 0 {
				t.Errorf("of %d: %v", v, got)
			}
		}
		for range n {
			w.take(t, last)
		}
		if got := w.Of(last); len(got) != n || got[n-1] != n-1 {
			t.Error(got)
		}
	}
}

// P22.4

// What is put in one page is in no other one, in whatever order, and who shares changes nothing of what a page has.
func TestPagesAreApart(t *testing.T) {
	for _, n := range []int{2, 3, 64} {
		w := fresh(t, n)
		for range n {
			w.take(t, 1)
		}
		for i := range 4 {
			for _, id := range rand.New(rand.NewPCG(uint64(i), uint64(n))).Perm(n) {
				is(t, w.put(t, id, entry(id*10+i)), api.OK)
				is(t, w.share(t, id), api.OK)
				is(t, w.put(t, id, entry(-7)), api.ErrState)
				is(t, w.drop(t, id), api.OK)
			}
		}
		for id := range n {
			list := w.Get(id)
			for i, e := range list {
				if len(list) != 4 || !step.Same(e, entry(id*10+i)) {
					t.Fatal(id, list)
				}
			}
		}
	}
}

// walk: a row of commands that numbers tell; how often each error was answered.
func (w *watch) walk(t testing.TB, r *rand.Rand, steps int) map[api.Errno]int {
	n := len(w.pages)
	answers := map[api.Errno]int{}
	list := func() []int {
		ids := []int{}
		for range r.IntN(4) {
			ids = append(ids, r.IntN(n+1)-r.IntN(40)/39)
		}
		return ids
	}
	for i := range steps {
		switch r.IntN(7) {
		case 0, 1:
			_, e := w.take(t, r.IntN(5)+r.IntN(20)/19*last)
			answers[e]++
		case 2:
			answers[w.share(t, list()...)]++
		case 3:
			answers[w.drop(t, list()...)]++
		case 4, 5:
			answers[w.put(t, r.IntN(n+1), entry(i))]++
		default:
			w.get(t, list()...)
		}
	}
	return answers
}

func TestWalks(t *testing.T) {
	answers := map[api.Errno]int{}
	for _, n := range []int{1, 2, 3, 5, 8, 13, 33, 64} {
		for seed := range 12 {
			r := rand.New(rand.NewPCG(uint64(seed), uint64(n)))
			for e, times := range fresh(t, n).walk(t, r, 300) {
				answers[e] += times
			}
		}
	}
	for _, e := range []api.Errno{api.OK, api.ErrArg, api.ErrNone, api.ErrState, api.ErrFull, api.ErrPool} {
		if answers[e] < 50 {
			t.Errorf("%d: %d times", e, answers[e])
		}
	}
}

// When as many are dropped as were told, all pages are free.
func TestAllIsFreeAgain(t *testing.T) {
	for seed := range 40 {
		r := rand.New(rand.NewPCG(uint64(seed), 23))
		w := fresh(t, 1+r.IntN(64))
		w.walk(t, r, 100)
		uses := []int{}
		for id, page := range w.pages {
			uses = append(uses, slices.Repeat([]int{id}, page.users)...)
		}
		r.Shuffle(len(uses), func(i, j int) { uses[i], uses[j] = uses[j], uses[i] })
		if len(uses) > 0 {
			is(t, w.drop(t, append(slices.Clone(uses), uses[0])...), api.ErrNone)
		}
		is(t, w.drop(t, uses...), api.OK)
		if w.Free() != w.Len() || w.told != 0 {
			t.Fatal(w.Free(), w.Len(), w.told)
		}
	}
}

// Entries that pages give are as good as those that a model left: what comes behind them is the same.
func TestOfAModel(t *testing.T) {
	c := api.Config{Vocab: 7, Dim: 4, Heads: 2, Blocks: 2, Hidden: 5, Context: 14}
	r := rand.New(rand.NewPCG(3, 22))
	weights := make([]byte, conf.Shape{Config: c}.Size())
	for i := range weights {
		weights[i] = byte(r.IntN(256))
	}
	b, e := brain.Of(c, string(weights))
	is(t, e, api.OK)
	w := fresh(t, 9)
	ids := []int{}
	past := []step.Entry{}
	for i := range c.Context {
		if i%4 == 0 {
			w.take(t, 99)
			id, e := w.take(t, 1)
			is(t, e, api.OK)
			ids = append(ids, id)
		}
		token := r.IntN(c.Vocab)
		left, scores, e := step.Step(b, past, token)
		is(t, e, api.OK)
		other, others, e := step.Step(b, w.Get(ids...), token)
		is(t, e, api.OK)
		if !step.Same(left, other) || !slices.Equal(scores, others) {
			t.Fatalf("at %d: %v, not %v", i, other, left)
		}
		past = append(past, left)
		is(t, w.put(t, ids[len(ids)-1], other), api.OK)
	}
	if !slices.Equal(ids, []int{1, 3, 5, 7}) || len(w.Get(ids...)) != 14 {
		t.Error(ids)
	}
}

// Rules

// ruin: each number of an entry is another one, and each row too.
func ruin(e step.Entry) {
	for _, rows := range [][][]int{e.Keys, e.Values} {
		for i, row := range rows {
			row = row[:cap(row)]
			for k := range row {
				row[k] = 7777
			}
			rows[i] = []int{8888}
		}
		rows = rows[:cap(rows)]
		for i := range rows {
			rows[i] = []int{9999}
		}
	}
}

// Rule 3: an entry that is put isn't kept, and one that is got is new memory.
func TestEntriesAreCopies(t *testing.T) {
	w := fresh(t, 2)
	w.take(t, 1)
	for i := range 4 {
		// Keys and values of one memory, with spare room.
		row := append(make([]int, 0, 9), i, i+1)
		rows := append(make([][]int, 0, 5), row, row)
		e := step.Entry{Keys: rows, Values: rows}
		is(t, w.put(t, 0, e), api.OK)
		ruin(e)
		w.holds(t)
	}
	is(t, w.share(t, 0), api.OK)
	for range 2 {
		list := w.Get(0, 0, 1, 0)
		again := w.Get(0)
		for i := range list {
			ruin(list[i])
			for k := i + 1; k < len(list); k++ {
				if text(list[k]) != text(again[k%4]) {
					t.Fatalf("%d ruined by %d: %v", k, i, list[k])
				}
			}
		}
		list = list[:cap(list)]
		for i := range list {
			list[i] = step.Entry{}
		}
		w.holds(t)
	}
	// Within one entry, too: the keys' memory isn't the values'.
	e := w.Get(0)[0]
	e.Keys[0][0], e.Keys[1] = 5555, nil
	if e.Values[0][0] != 0 || len(e.Values[1]) != 2 || e.Keys[0][1] != 1 {
		t.Error(e)
	}
}

// Rule 3: what is handed in is as it was, its spare room too.
func TestArgumentsAreLeft(t *testing.T) {
	w := laid(t, []int{3, 3, 3}, []int{1, 4, 0})
	for n := range 6 {
		room := []int{2, 0, 1, 1, 7, -1, 9, 9}
		kept := slices.Clone(room)
		w.share(t, room[:n]...)
		w.drop(t, room[:n]...)
		w.get(t, room[:n]...)
		if !slices.Equal(room, kept) {
			t.Fatalf("%v, not %v", room, kept)
		}
		clear(room)
		w.holds(t)
	}
	w = fresh(t, 1)
	w.take(t, 1)
	row := append(make([]int, 0, 3), 4, 5)
	e := step.Entry{Keys: append(make([][]int, 0, 3), row), Values: append(make([][]int, 0, 2), row)}
	want := text(e)
	for range 5 {
		w.put(t, 0, e)
		w.Get(0)
		if text(e) != want || row[:3][2] != 0 || e.Keys[:3][1] != nil || e.Keys[:3][2] != nil || e.Values[:2][1] != nil {
			t.Fatal(e)
		}
	}
}

// Rule 3: the row of a version's pages is new memory.
func TestOfIsNew(t *testing.T) {
	w := laid(t, []int{1, 1, 1}, []int{1, 1, 1})
	w.drop(t, 1, 2)
	w.take(t, 1)
	for range 2 {
		list := w.Of(1)
		if !slices.Equal(list, []int{0, 1}) {
			t.Fatal(list)
		}
		list = list[:cap(list)]
		for i := range list {
			list[i] = 50
		}
		w.holds(t)
	}
}

// Rule 4: the same commands come to the same, whatever is asked of other pools between.
func TestTheSameEachTime(t *testing.T) {
	for seed := range 10 {
		a, b := fresh(t, 5), fresh(t, 5)
		for i := range 20 {
			from := uint64(100*seed + i)
			a.walk(t, rand.New(rand.NewPCG(from, 24)), 10)
			fresh(t, 6).walk(t, rand.New(rand.NewPCG(from, 25)), 10)
			b.walk(t, rand.New(rand.NewPCG(from, 24)), 10)
			for id := range 5 {
				if !slices.Equal(texts(a.Get(id)), texts(b.Get(id))) || a.Users(id) != b.Users(id) || a.Version(id) != b.Version(id) {
					t.Fatal(seed, i, id)
				}
			}
		}
	}
}

// A long walk comes to what another program works out of the same chapter.
func TestAnotherProgram(t *testing.T) {
	for _, c := range []struct {
		n    int
		want string
	}{
		{1, "894a5437665ff07cf81d3c0fbc7be1eb5cf6f4f1b694e27edba313dc3db484fa"},
		{2, "82d7e6b873b2cc9d6bb90200962cfac0b3c07d3029f79ff59e1f5244bae116d5"},
		{5, "22307294ecbaa4c35ee64f9280a257dae15c8d4dd9c7ecedb1ca109786884c4e"},
		{8, "43bae671d05a916c375bc44aabe4807bfe9bd20619dac9e03b153070ce3590c7"},
		{20, "d9edff3cb77f384ad5b68c1d610c4bce95d83a03cb4e5c85e38ce2aca543fe8d"},
		{64, "6819d25f4db91295a95126224c5dc535fb4abd7fc968a871f9679f0640e0ea1e"},
	} {
		state := c.n
		next := func(below int) int {
			state = (state*1103515245 + 12345) % (1 << 31)
			return (state >> 16) % below
		}
		list := func() []int {
			ids := make([]int, next(4))
			for i := range ids {
				ids[i] = next(c.n+2) - 1
			}
			return ids
		}
		p := New(c.n)
		log := strings.Builder{}
		for i := range 20000 {
			switch next(8) {
			case 0, 1:
				id, e := p.Take(next(7) - 1)
				fmt.Fprintln(&log, "take", id, int(e))
			case 2:
				fmt.Fprintln(&log, "share", int(p.Share(list()...)))
			case 3, 4:
				fmt.Fprintln(&log, "drop", int(p.Drop(list()...)))
			case 5, 6:
				fmt.Fprintln(&log, "put", int(p.Put(next(c.n+2)-1, step.Entry{Keys: [][]int{{i}, {-i}}, Values: [][]int{{2 * i}}})))
			default:
				fmt.Fprint(&log, "get")
				for _, e := range p.Get(list()...) {
					fmt.Fprint(&log, " ", e.Keys[0][0], " ", e.Keys[1][0], " ", e.Values[0][0])
				}
				fmt.Fprintln(&log)
			}
			id, version := next(c.n+2)-1, next(6)
			fmt.Fprint(&log, p.Free(), " ", p.Users(id), " ", p.Version(id))
			for _, id := range p.Of(version) {
				fmt.Fprint(&log, " ", id)
			}
			fmt.Fprintln(&log)
		}
		sum := sha256.Sum256([]byte(log.String()))
		if got := hex.EncodeToString(sum[:]); got != c.want {
			t.Errorf("%d pages: %s", c.n, got)
		}
	}
}

func FuzzWalk(f *testing.F) {
	f.Add(2, "\x00\x80\x81\x40\xc0\xc0")
	f.Add(1, "\x00\x80\x80\x80\x80\x80\xc0\xc0\x01")
	f.Add(64, "\x00\x01\x02\x03\x43\x42\x83\xc1\xc0\x00")
	f.Add(3, "\x3f\x00\x00\x00\x00\x7f\xbf\xff")
	f.Fuzz(func(t *testing.T, n int, row string) {
		if n < 1 || n > 64 {
			if New(n) != nil {
				t.Error(n)
			}
			return
		}
		w := fresh(t, n)
		for i, b := range []byte(row[:min(len(row), 200)]) {
			// Six bits are a number, the other two what is done with it.
			id := int(b&63) - 1
			switch b >> 6 {
			case 0:
				w.take(t, id)
			case 1:
				w.share(t, id, id/2)
			case 2:
				w.put(t, id, entry(i))
			default:
				w.drop(t, id/3, id)
			}
		}
	})
}

func FuzzLists(f *testing.F) {
	f.Add("\x01\x02\x00", 5, "\x01\x01\x00", 0)
	f.Add("\x03", last, "\x00\x00\x00\x00", 1)
	f.Add("\x01\x41\x82\xff", 1<<31, "\x03\x02\x01\x00\xff", -1)
	f.Add("", 0, "\x40", math.MaxInt)
	f.Fuzz(func(t *testing.T, pages string, version int, row string, last int) {
		users, have := []int{}, []int{}
		for _, b := range []byte(pages[:min(len(pages), 64)]) {
			users, have = append(users, int(b&63)), append(have, int(b>>6))
		}
		if len(users) == 0 {
			users, have = []int{1}, []int{4}
		}
		list := []int{}
		for _, b := range []byte(row[:min(len(row), 300)]) {
			list = append(list, int(b)-1)
		}
		list = append(list, last)
		w := laid(t, users, have)
		w.get(t, list...)
		w.share(t, list...)
		w.drop(t, list...)
		w.take(t, version)
		w.put(t, last, entry(last))
		w.drop(t, list[:len(list)/2]...)
		w.drop(t, list[len(list)/2:]...)
	})
}
