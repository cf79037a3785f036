package prefix

import (
	"crypto/sha256"
	"encoding/hex"
	"fmt"
	"math"
	"math/rand/v2"
	"slices"
	"strings"
	"testing"

	"coadjutor/api"
	"coadjutor/brain"
	"coadjutor/conf"
	"coadjutor/pages"
	"coadjutor/step"
)

// What follows holds an index, and its pool, against beginnings and pages that are told by the words of chapter 23.

const last = 2147483647

// one is a beginning that is there, its page, and when it was added or found last.
type one struct {
	version int
	tokens  []int
	page    int
	when    int
}

// own is a page: whose it is, and how many users and entries it has; a free one has no users.
type own struct {
	version, users, has int
}

// watch is an index, its pool, and all beginnings and pages as they should be.
type watch struct {
	*Index
	pool  *pages.Pool
	pages []own
	there map[string]one
	now   int
}

func name(version int, tokens []int) string {
	return fmt.Sprint(version, tokens)
}

func fresh(t testing.TB, n int) *watch {
	t.Helper()
	p := pages.New(n)
	w := &watch{Index: New(p), pool: p, pages: make([]own, n), there: map[string]one{}}
	if p == nil || w.Index == nil {
		t.Fatalf("no index over a pool of %d", n)
	}
	w.holds(t)
	return w
}

// laid: so many pages, each the version 1's, full, with one user, but for the first ones, where others are told.
func laid(t testing.TB, n int, others ...own) *watch {
	t.Helper()
	w := fresh(t, n)
	for id := range n {
		page := own{1, 1, 4}
		if id < len(others) {
			page = others[id]
		}
		w.lay(t, page)
	}
	for id, page := range w.pages {
		// A page that is to be free was taken first, so that those behind it could be.
		if page.users == 0 {
			w.pool.Drop(id)
		}
	}
	w.holds(t)
	return w
}

// lay: the lowest free page is a version's, with users and entries.
func (w *watch) lay(t testing.TB, page own) {
	t.Helper()
	id, e := w.pool.Take(max(page.version, 1))
	if e != api.OK {
		t.Fatal(e)
	}
	for i := range page.has {
		w.pool.Put(id, step.Entry{Keys: [][]int{{id, i}}, Values: [][]int{{-id}}})
	}
	if page.users > 1 {
		w.pool.Share(slices.Repeat([]int{id}, page.users-1)...)
	}
	if page.users == 0 {
		page = own{}
	}
	w.pages[id] = page
}

// leave: each page has one user less, that isn't the index.
func (w *watch) leave(t testing.TB, list ...int) {
	t.Helper()
	if e := w.pool.Drop(list...); e != api.OK {
		t.Fatalf("drop of %v: %d", list, e)
	}
	for _, id := range list {
		w.less(id)
	}
	w.holds(t)
}

func (w *watch) less(id int) {
	w.pages[id].users--
	if w.pages[id].users == 0 {
		w.pages[id] = own{}
	}
}

// held: how many uses of a page the index has.
func (w *watch) held(id int) int {
	n := 0
	for _, o := range w.there {
		if o.page == id {
			n++
		}
	}
	return n
}

// holds: whether all that can be asked is as the chapter says; to ask changes nothing, so it is asked twice.
func (w *watch) holds(t testing.TB) {
	t.Helper()
	for range 2 {
		w.answers(t)
	}
}

func (w *watch) answers(t testing.TB) {
	t.Helper()
	if w.Len() != len(w.there) {
		t.Fatalf("%d entries, not %d", w.Len(), len(w.there))
	}
	for key, o := range w.there {
		if !w.Has(o.version, o.tokens...) {
			t.Fatalf("%s isn't there", key)
		}
		for _, version := range []int{o.version + 1, -o.version, o.version + 1<<32, 0} {
			w.has(t, version, o.tokens...)
		}
		w.has(t, o.version, o.tokens[:len(o.tokens)-4]...)
		w.has(t, o.version, o.tokens[:len(o.tokens)-1]...)
		w.has(t, o.version, append(slices.Clone(o.tokens), 5)...)
		w.has(t, o.version, append(slices.Clone(o.tokens), 5, 6, 7, 8)...)
	}
	free := 0
	for id, page := range w.pages {
		if w.pool.Version(id) != page.version || w.pool.Users(id) != page.users || len(w.pool.Get(id)) != page.has {
			t.Fatalf("%d: %d, %d users, %d entries; not %v", id, w.pool.Version(id), w.pool.Users(id), len(w.pool.Get(id)), page)
		}
		if page.users == 0 {
			free++
		}
	}
	if w.pool.Free() != free {
		t.Fatalf("%d are free, not %d", w.pool.Free(), free)
	}
}

// has: whether Has answers as the chapter says.
func (w *watch) has(t testing.TB, version int, tokens ...int) {
	t.Helper()
	_, want := w.there[name(version, tokens)]
	if w.Has(version, tokens...) != want {
		t.Fatalf("has of %d, %v: not %v", version, tokens, want)
	}
}

// add: whether Add answers as the chapter says, and all is so behind it; its answer.
func (w *watch) add(t testing.TB, id, version int, tokens ...int) api.Errno {
	t.Helper()
	n := len(tokens)
	_, twice := w.there[name(version, tokens)]
	want := api.OK
	switch {
	case n != 4 && n != 8 && n != 12 && n != 16 && n != 20 && n != 24 && n != 28 && n != 32:
		want = api.ErrArg
	case twice:
		want = api.ErrTwice
	case id < 0 || id >= len(w.pages) || w.pages[id].users == 0 || w.pages[id].version != version || w.pages[id].has != 4:
		want = api.ErrNone
	default:
		w.now++
		w.there[name(version, tokens)] = one{version, slices.Clone(tokens), id, w.now}
		w.pages[id].users++
	}
	if e := w.Add(id, version, tokens...); e != want {
		t.Fatalf("add of %d, %d, %v: %d, not %d", id, version, tokens, e, want)
	}
	w.holds(t)
	return want
}

// find, likewise.
func (w *watch) find(t testing.TB, version int, tokens ...int) []int {
	t.Helper()
	want := []int{}
	for n := 4; n <= len(tokens)-1; n += 4 {
		o, ok := w.there[name(version, tokens[:n])]
		if !ok {
			break
		}
		w.now++
		o.when = w.now
		w.there[name(version, tokens[:n])] = o
		w.pages[o.page].users++
		want = append(want, o.page)
	}
	if list := w.Find(version, tokens...); !slices.Equal(list, want) {
		t.Fatalf("find of %d, %v: %v, not %v", version, tokens, list, want)
	}
	w.holds(t)
	return want
}

// evict, likewise; the page that is free then, -1, if there is none.
func (w *watch) evict(t testing.TB) int {
	t.Helper()
	first, gone := "", one{page: -1}
	for key, o := range w.there {
		if w.pages[o.page].users == 1 && (first == "" || o.when < gone.when) {
			first, gone = key, o
		}
	}
	if first != "" {
		delete(w.there, first)
		w.less(gone.page)
	}
	if w.Evict() != (first != "") {
		t.Fatalf("evict: not %q", first)
	}
	w.holds(t)
	return gone.page
}

// forget, likewise.
func (w *watch) forget(t testing.TB, version int) int {
	t.Helper()
	n := 0
	for key, o := range w.there {
		if o.version == version {
			delete(w.there, key)
			w.less(o.page)
			n++
		}
	}
	if got := w.Forget(version); got != n {
		t.Fatalf("forget of %d: %d, not %d", version, got, n)
	}
	w.holds(t)
	return n
}

// rest: all that isn't the index's is dropped; what it has then is evicted, one by one, and what can't be is forgotten.
func (w *watch) rest(t testing.TB) []int {
	t.Helper()
	for id, page := range w.pages {
		w.leave(t, slices.Repeat([]int{id}, page.users-w.held(id))...)
	}
	order := []int{}
	for id := w.evict(t); id >= 0; id = w.evict(t) {
		order = append(order, id)
	}
	for len(w.there) > 0 {
		for _, o := range w.there {
			w.forget(t, o.version)
			break
		}
	}
	if w.pool.Free() != len(w.pages) {
		t.Fatalf("%d of %d are free", w.pool.Free(), len(w.pages))
	}
	return order
}

// is: whether an error is the one that is asked for.
func is(t testing.TB, e, want api.Errno) {
	t.Helper()
	if e != want {
		t.Fatalf("%d, not %d", e, want)
	}
}

// same: whether a row of pages is the one that is asked for.
func same(t testing.TB, list []int, want ...int) {
	t.Helper()
	if !slices.Equal(list, want) {
		t.Fatalf("%v, not %v", list, want)
	}
}

// row: so many numbers, from one on, each one more.
func row(from, n int) []int {
	list := make([]int, n)
	for i := range list {
		list[i] = from + i
	}
	return list
}

// edges: numbers that no page of a pool of n has.
func edges(n int) []int {
	return []int{math.MinInt, math.MinInt + n, -1 << 32, -1<<32 + 1, -64, -n - 1, -n, -2, -1, n, n + 1, 64 + n, 128, 256, 1 << 16, 1 << 31, 1 << 32, 1<<32 + n - 1, math.MaxInt - 1, math.MaxInt}
}

// P23.1

func TestByHand(t *testing.T) {
	// Add of a page for the tokens 1 2 3 4, Find of 1 2 3 4 5: that page.
	w := laid(t, 3)
	is(t, w.Add(1, 1, 1, 2, 3, 4), api.OK)
	same(t, w.Find(1, 1, 2, 3, 4, 5), 1)
	if w.pool.Users(1) != 3 || w.Len() != 1 || !w.Has(1, 1, 2, 3, 4) || w.Has(1, 1, 2, 3, 5) || w.Has(1, 1, 2, 3, 4, 5) || w.Has(2, 1, 2, 3, 4) {
		t.Error(w.pool.Users(1), w.Len())
	}
	// The last token is always reckoned.
	same(t, w.Find(1, 1, 2, 3, 4))
	is(t, w.Add(0, 1, 1, 2, 3, 4, 5, 6, 7, 8), api.OK)
	same(t, w.Find(1, 1, 2, 3, 4, 5, 6, 7, 8), 1)
	same(t, w.Find(1, 1, 2, 3, 4, 5, 6, 7, 8, 9), 1, 0)
	same(t, w.Find(1, 1, 2, 3, 4, 5, 6, 7, 9, 9), 1)
	is(t, w.Add(2, 1, 1, 2, 3, 4), api.ErrTwice)
	is(t, w.Add(2, 1, 1, 2, 3), api.ErrArg)
	is(t, w.Add(2, 2, 1, 2, 3, 4), api.ErrNone)
	is(t, w.Add(3, 1, 1, 2, 3, 5), api.ErrNone)
	if w.Evict() || w.Len() != 2 || w.pool.Users(0) != 3 || w.pool.Users(1) != 6 || w.pool.Users(2) != 1 {
		t.Error(w.Len(), w.pool.Users(0), w.pool.Users(1), w.pool.Users(2))
	}
	same(t, w.Find(1, 1, 2, 3, 4, 5, 6, 7, 8, 9), 1, 0)
	w.pool.Drop(0, 0, 0, 1, 1, 1, 1, 1, 1)
	// Both are the index's alone; of what was found at once the first page was found first.
	if !w.Evict() || w.Has(1, 1, 2, 3, 4) || w.pool.Users(1) != 0 || w.Len() != 1 {
		t.Error("the page 1 was used longest ago")
	}
	same(t, w.Find(1, 1, 2, 3, 4, 5, 6, 7, 8, 9))
	if n := w.Forget(1); n != 1 || w.Len() != 0 || w.pool.Free() != 2 || w.pool.Users(2) != 1 || w.Evict() || w.Forget(1) != 0 {
		t.Error(n, w.Len(), w.pool.Free())
	}
}

func TestNew(t *testing.T) {
	if New(nil) != nil || New(pages.New(0)) != nil || New(pages.New(65)) != nil {
		t.Error("of nil")
	}
	for _, n := range []int{1, 2, 3, 7, 20, 63, 64} {
		w := fresh(t, n)
		w.evict(t)
		w.find(t, 1, 1, 2, 3, 4, 5)
		w.forget(t, 1)
		w = laid(t, n)
		for id := range n {
			is(t, w.add(t, id, 1, id, id, id, id), api.OK)
		}
		same(t, w.rest(t), row(0, n)...)
	}
}

// Two indexes over one pool, and two pools, know nothing of each other.
func TestNewIsAnother(t *testing.T) {
	w := laid(t, 2)
	other := New(w.pool)
	is(t, w.add(t, 0, 1, 1, 2, 3, 4), api.OK)
	if other.Len() != 0 || other.Has(1, 1, 2, 3, 4) || len(other.Find(1, 1, 2, 3, 4, 5)) != 0 || other.Forget(1) != 0 {
		t.Error(other.Len())
	}
	is(t, other.Add(0, 1, 1, 2, 3, 4), api.OK)
	w.pages[0].users++
	w.holds(t)
	w.leave(t, 0)
	// Each has a use of the page, so neither can give it back alone.
	if other.Evict() || w.evict(t) >= 0 {
		t.Error("evicted")
	}
	if other.Forget(1) != 1 {
		t.Error(other.Len())
	}
	w.less(0)
	w.holds(t)
	if w.evict(t) != 0 {
		t.Error("not evicted")
	}
	a, b := laid(t, 2), laid(t, 2)
	a.add(t, 0, 1, 1, 2, 3, 4)
	b.holds(t)
	b.find(t, 1, 1, 2, 3, 4, 5)
	b.add(t, 1, 1, 1, 2, 3, 4)
	a.holds(t)
	same(t, a.find(t, 1, 1, 2, 3, 4, 5), 0)
	b.holds(t)
}

// As many tokens as a beginning has: 4, 8, .. 32; that is told ahead of all else.
func TestAddCounts(t *testing.T) {
	for n := range 100 {
		w := laid(t, 2)
		want := api.ErrArg
		if n >= 4 && n <= 32 && n%4 == 0 {
			want = api.OK
		}
		is(t, w.add(t, 0, 1, row(1, n)...), want)
		if want == api.ErrArg {
			for _, id := range append(edges(2), 1) {
				for _, version := range []int{math.MinInt, -1, 0, 1, 2, last, math.MaxInt} {
					is(t, w.add(t, id, version, row(1, n)...), api.ErrArg)
				}
			}
			same(t, w.rest(t))
			continue
		}
		is(t, w.add(t, 1, 1, row(1, n)...), api.ErrTwice)
		same(t, w.find(t, 1, row(1, n+1)...), map[bool][]int{true: {0}}[n == 4]...)
		same(t, w.rest(t), 0)
	}
	w := laid(t, 1)
	for _, n := range []int{128, 256, 260, 1 << 16, 1<<16 + 4, 1 << 20} {
		is(t, w.add(t, 0, 1, make([]int, n)...), api.ErrArg)
	}
	is(t, w.add(t, 0, 1, make([]int, 32)...), api.OK)
	is(t, w.add(t, 0, 1, make([]int, 36)...), api.ErrArg)
}

// A page can be added if it is the version's, and full, whoever uses it.
func TestAddPages(t *testing.T) {
	for have := range 5 {
		for users := range 4 {
			for version := 1; version <= 3; version++ {
				w := laid(t, 3, own{2, 1, 4}, own{version, users, have}, own{2, 1, 0})
				want := api.ErrNone
				if have == 4 && users > 0 && version == 2 {
					want = api.OK
				}
				is(t, w.add(t, 1, 2, 1, 2, 3, 4), want)
				for _, other := range []int{math.MinInt, -version, -1, 0, version + 1, version + 1<<32, last, math.MaxInt} {
					is(t, w.add(t, 1, other, 5, 6, 7, 8), api.ErrNone)
				}
				is(t, w.add(t, 2, 2, 9, 9, 9, 9), api.ErrNone)
				// Where it is there already that is told, whatever the page is.
				is(t, w.add(t, 0, 2, 1, 2, 3, 4), map[bool]api.Errno{true: api.ErrTwice}[want == api.OK])
				for _, id := range append(edges(3), 0, 1, 2) {
					is(t, w.add(t, id, 2, 1, 2, 3, 4), api.ErrTwice)
				}
				w.rest(t)
			}
		}
	}
	for _, n := range []int{1, 5, 63, 64} {
		w := laid(t, n)
		for _, id := range edges(n) {
			if id >= 0 && id < n {
				continue
			}
			for _, version := range []int{-1, 0, 1, 2} {
				is(t, w.add(t, id, version, 1, 2, 3, 4), api.ErrNone)
			}
		}
		is(t, w.add(t, n-1, 1, 1, 2, 3, 4), api.OK)
	}
}

// Versions at the ends of what they can be.
func TestAddVersions(t *testing.T) {
	list := []int{1, 2, 255, 256, 1 << 16, 1 << 30, last - 1, last}
	w := fresh(t, len(list))
	for _, version := range list {
		w.lay(t, own{version, 1, 4})
	}
	for id, version := range list {
		is(t, w.add(t, id, version, 1, 2, 3, 4), api.OK)
	}
	for id, version := range list {
		same(t, w.find(t, version, 1, 2, 3, 4, 0), id)
	}
	for _, version := range []int{math.MinInt, -1 << 32, -last, -1, 0, 3, 254, 1 << 31, 1<<32 + 1, 1<<32 + last, math.MaxInt} {
		same(t, w.find(t, version, 1, 2, 3, 4, 0))
		if w.forget(t, version) != 0 {
			t.Error(version)
		}
	}
	for i := len(list) - 1; i >= 0; i-- {
		if w.forget(t, list[i]) != 1 {
			t.Error(list[i])
		}
	}
}

// Beginnings are others if one token of them is another one, whatever numbers these are.
func TestBeginningsAreApart(t *testing.T) {
	for _, n := range []int{4, 8, 28, 32} {
		w := laid(t, 64)
		base := row(1, n)
		is(t, w.add(t, 63, 1, base...), api.OK)
		for i := range n {
			other := slices.Clone(base)
			for k, token := range []int{0, -other[i], other[i] + 256, other[i] + 1<<16, other[i] + 1<<32, math.MinInt, math.MaxInt} {
				other[i] = token
				w.has(t, 1, other...)
				if k == i%7 {
					is(t, w.add(t, i, 1, other...), api.OK)
				}
			}
		}
		// The same numbers in another order.
		other := slices.Clone(base)
		slices.Reverse(other)
		is(t, w.add(t, 40, 1, other...), api.OK)
		if w.Len() != n+2 {
			t.Error(n, w.Len())
		}
		is(t, w.add(t, 41, 1, base...), api.ErrTwice)
	}
	w := laid(t, 9)
	ends := []int{math.MinInt, -1, 0, math.MaxInt}
	for i, first := range ends {
		is(t, w.add(t, i, 1, first, 0, 0, 0), api.OK)
		is(t, w.add(t, 4+i, 1, 0, 0, 1, first), api.OK)
	}
	for i, first := range ends {
		same(t, w.find(t, 1, first, 0, 0, 0, first), i)
		same(t, w.find(t, 1, 0, 0, 1, first, 0), 4+i)
	}
	// Numbers whose digits, one behind the other, are the same.
	is(t, w.add(t, 8, 1, 1, 23, 4, 5), api.OK)
	w.has(t, 1, 12, 3, 4, 5)
	w.has(t, 11, 23, 4, 5)
	same(t, w.find(t, 1, 12, 3, 4, 5, 6))
}

// An Add that answers an error isn't a use: the order is as it was.
func TestAddsThatFailAreNoUses(t *testing.T) {
	w := laid(t, 4)
	for id := range 3 {
		is(t, w.add(t, id, 1, id, id, id, id), api.OK)
	}
	is(t, w.add(t, 0, 1, 0, 0, 0, 0), api.ErrTwice)
	is(t, w.add(t, 3, 1, 0, 0, 0, 0), api.ErrTwice)
	is(t, w.add(t, 0, 1, 0, 0, 0), api.ErrArg)
	is(t, w.add(t, 9, 1, 0, 0, 0, 9), api.ErrNone)
	same(t, w.find(t, 1, 0, 0, 0, 0))
	same(t, w.find(t, 2, 0, 0, 0, 0, 0))
	same(t, w.rest(t), 0, 1, 2)
}

func TestNil(t *testing.T) {
	var x *Index
	for n := range 40 {
		for _, v := range append(edges(1), 0, 1) {
			if x.Add(v, 1, row(1, n)...) != api.ErrNil || x.Add(0, v, row(1, n)...) != api.ErrNil {
				t.Error("add", v, n)
			}
			if len(x.Find(v, row(1, n)...)) != 0 || x.Has(v, row(1, n)...) || x.Forget(v) != 0 {
				t.Error(v, n)
			}
		}
	}
	if x.Evict() || x.Len() != 0 {
		t.Error("of nil")
	}
}

// P23.2

// stem: a watch with so many beginnings there of one row of tokens, each of four more, page by page from the last one.
func stem(t testing.TB, n int) *watch {
	t.Helper()
	w := laid(t, 9)
	for k := range n {
		is(t, w.add(t, 8-k, 1, row(1, 4*k+4)...), api.OK)
	}
	return w
}

// Of each length, as many pages as fours are there ahead of the last token.
func TestFindLengths(t *testing.T) {
	for have := range 9 {
		for n := range 50 {
			w := stem(t, have)
			want := []int{}
			for k := range have {
				if 4*k+4 < n {
					want = append(want, 8-k)
				}
			}
			same(t, w.find(t, 1, row(1, n)...), want...)
			for id, page := range w.pages {
				if users := 1 + w.held(id) + strings.Count(fmt.Sprint(want), fmt.Sprint(id)); page.users != users {
					t.Fatal(id, page, users)
				}
			}
			same(t, w.find(t, 2, row(1, n)...))
			same(t, w.find(t, 0, row(1, n)...))
		}
	}
	w := stem(t, 8)
	same(t, w.find(t, 1, row(1, 1<<20)...), 8, 7, 6, 5, 4, 3, 2, 1)
	same(t, w.find(t, 1, make([]int, 1<<20)...))
}

// Each subset of the beginnings of one row is there: what is behind a gap isn't found.
func TestFindGaps(t *testing.T) {
	for set := range 256 {
		w := laid(t, 8)
		for k := range 8 {
			if set>>k&1 == 1 {
				is(t, w.add(t, k, 1, row(1, 4*k+4)...), api.OK)
			}
		}
		first := 0
		for set>>first&1 == 1 {
			first++
		}
		same(t, w.find(t, 1, row(1, 40)...), row(0, first)...)
		same(t, w.find(t, 1, row(1, 9)...), row(0, min(first, 2))...)
		for k := range 8 {
			w.has(t, 1, row(1, 4*k+4)...)
			if users := map[bool]int{true: 1}[k < first] + map[bool]int{true: 1}[k < min(first, 2)]; w.pages[k].users != 1+set>>k&1+users {
				t.Fatalf("%b: %d", set, k)
			}
		}
		// What was behind the gap wasn't found, so it was used longer ago.
		order := []int{}
		for k := first; k < 8; k++ {
			if set>>k&1 == 1 {
				order = append(order, k)
			}
		}
		found := row(0, first)
		if first > 2 {
			found = append(row(2, first-2), 0, 1)
		}
		same(t, w.rest(t), append(order, found...)...)
	}
}

// A row that is another one from a place on has the pages up to there alone.
func TestFindOthers(t *testing.T) {
	for at := range 33 {
		w := stem(t, 8)
		tokens := row(1, 33)
		tokens[at] = 77
		want := []int{}
		for k := range at / 4 {
			want = append(want, 8-k)
		}
		same(t, w.find(t, 1, tokens...), want...)
	}
	// Two rows that part behind the first four.
	w := laid(t, 6)
	for id, tokens := range [][]int{{1, 1, 1, 1}, {1, 1, 1, 1, 2, 2, 2, 2}, {1, 1, 1, 1, 3, 3, 3, 3}, {2, 2, 2, 2}, {1, 1, 1, 1, 3, 3, 3, 3, 4, 4, 4, 4}, {2, 2, 2, 2, 3, 3, 3, 3}} {
		is(t, w.add(t, id, 1, tokens...), api.OK)
	}
	same(t, w.find(t, 1, 1, 1, 1, 1, 2, 2, 2, 2, 4, 4, 4, 4, 0), 0, 1)
	same(t, w.find(t, 1, 1, 1, 1, 1, 3, 3, 3, 3, 4, 4, 4, 4, 0), 0, 2, 4)
	same(t, w.find(t, 1, 2, 2, 2, 2, 3, 3, 3, 3, 4, 4, 4, 4, 0), 3, 5)
	same(t, w.find(t, 1, 3, 3, 3, 3, 4, 4, 4, 4, 0))
	same(t, w.rest(t), 1, 0, 2, 4, 3, 5)
}

// The same tokens of several versions: each has its own pages.
func TestFindVersions(t *testing.T) {
	w := laid(t, 8, own{1, 1, 4}, own{2, 1, 4}, own{3, 1, 4}, own{1, 1, 4}, own{2, 1, 4})
	for i, c := range []struct{ id, version, n int }{{0, 1, 4}, {1, 2, 4}, {4, 2, 8}, {2, 3, 8}} {
		if e := w.add(t, c.id, c.version, row(1, c.n)...); e != api.OK {
			t.Error(i, e)
		}
	}
	same(t, w.find(t, 1, row(1, 20)...), 0)
	same(t, w.find(t, 2, row(1, 20)...), 1, 4)
	same(t, w.find(t, 3, row(1, 20)...))
	same(t, w.find(t, 4, row(1, 20)...))
	if w.forget(t, 2) != 2 {
		t.Error(w.Len())
	}
	same(t, w.find(t, 1, row(1, 20)...), 0)
	same(t, w.find(t, 2, row(1, 20)...))
	same(t, w.rest(t), 2, 0)
}

// Who is found is used in the order of the pages: the shortest beginning longest ago; in each order of finds and adds.
func TestOrderOfUse(t *testing.T) {
	r := rand.New(rand.NewPCG(1, 23))
	for range 80 {
		w := laid(t, 12)
		ids := r.Perm(12)
		// Four rows of three beginnings each, added in any order.
		for _, k := range r.Perm(12) {
			tokens := row(100*(k/3), 4*(k%3)+4)
			is(t, w.add(t, ids[k], 1, tokens...), api.OK)
		}
		order := map[int]int{}
		for i := range 6 {
			for k, id := range w.find(t, 1, row(100*r.IntN(4), 5+r.IntN(9))...) {
				order[id] = 10*i + k
			}
		}
		// Those that were found at all go last, and as they were found.
		got := w.rest(t)
		found := got[len(got)-len(order):]
		if len(got) != 12 || !slices.IsSortedFunc(found, func(a, b int) int { return order[a] - order[b] }) {
			t.Fatal(got, order)
		}
	}
}

// A page of several beginnings is used once by each of them, and found once with each.
func TestOnePageOfMany(t *testing.T) {
	w := laid(t, 2)
	is(t, w.add(t, 0, 1, row(1, 4)...), api.OK)
	is(t, w.add(t, 0, 1, row(1, 8)...), api.OK)
	is(t, w.add(t, 1, 1, row(1, 12)...), api.OK)
	is(t, w.add(t, 0, 1, row(5, 4)...), api.OK)
	same(t, w.find(t, 1, row(1, 13)...), 0, 0, 1)
	if w.pool.Users(0) != 6 || w.pool.Users(1) != 3 {
		t.Error(w.pool.Users(0), w.pool.Users(1))
	}
	w.leave(t, 0, 0, 0, 1, 1)
	// The page 0 has three users, though all are the index.
	if w.evict(t) != 1 || w.evict(t) != -1 || w.forget(t, 1) != 3 || w.pool.Free() != 2 {
		t.Error(w.Len(), w.pool.Free())
	}
	w = laid(t, 1)
	for i := range 1000 {
		is(t, w.Add(0, 1, 1, 2, 3, i), api.OK)
	}
	if w.Len() != 1000 || w.pool.Users(0) != 1001 || w.Evict() {
		t.Error(w.Len(), w.pool.Users(0))
	}
	for i := range 1000 {
		same(t, w.Find(1, 1, 2, 3, 999-i, 7), 0)
	}
	if w.Forget(1) != 1000 || w.pool.Users(0) != 1001 || w.Len() != 0 {
		t.Error(w.Len(), w.pool.Users(0))
	}
}

// P23.3

// In each order of five finds, and for each set of pages that somebody uses, those that nobody else uses go, in that order.
func TestEvictOrders(t *testing.T) {
	const n = 5
	orders := [][]int{nil}
	for range n {
		next := [][]int{}
		for _, order := range orders {
			for id := range n {
				if !slices.Contains(order, id) {
					next = append(next, append(slices.Clone(order), id))
				}
			}
		}
		orders = next
	}
	if len(orders) != 120 {
		t.Fatal(len(orders))
	}
	for i, order := range orders {
		for set := i % 3; set < 1<<n; set += 3 {
			w := laid(t, n)
			for id := range n {
				w.Add(id, 1, id, id, id, id)
			}
			for _, id := range order {
				same(t, w.Find(1, id, id, id, id, id), id)
			}
			want := []int{}
			for _, id := range order {
				w.pool.Drop(id)
				if set>>id&1 == 0 {
					w.pool.Drop(id)
					want = append(want, id)
				}
			}
			for k, id := range want {
				if !w.Evict() || w.pool.Users(id) != 0 || w.Has(1, id, id, id, id) || w.Len() != n-k-1 {
					t.Fatal(order, set, id)
				}
			}
			if w.Evict() || w.pool.Free() != len(want) || w.Len() != n-len(want) {
				t.Fatal(order, set, w.Len())
			}
		}
	}
}

// What is evicted is found no more, and what is behind it neither, till it is there anew.
func TestEvictedIsGone(t *testing.T) {
	for k := range 8 {
		w := stem(t, 8)
		for id, page := range w.pages {
			if id == 8-k {
				w.leave(t, slices.Repeat([]int{id}, page.users-1)...)
			}
		}
		if w.evict(t) != 8-k || w.evict(t) != -1 {
			t.Fatal(k)
		}
		want := []int{}
		for i := range k {
			want = append(want, 8-i)
		}
		same(t, w.find(t, 1, row(1, 33)...), want...)
		// It is there again, with another page, that was used last.
		is(t, w.add(t, 0, 1, row(1, 4*k+4)...), api.OK)
		list := w.find(t, 1, row(1, 33)...)
		if len(list) != 8 || list[k] != 0 {
			t.Fatal(k, list)
		}
	}
}

// A page that was evicted can be another version's, and another beginning's.
func TestEvictedIsFree(t *testing.T) {
	w := laid(t, 2)
	is(t, w.add(t, 0, 1, 1, 2, 3, 4), api.OK)
	w.leave(t, 0)
	if w.evict(t) != 0 {
		t.Fatal("not evicted")
	}
	is(t, w.add(t, 0, 1, 1, 2, 3, 4), api.ErrNone)
	w.lay(t, own{2, 1, 3})
	is(t, w.add(t, 0, 2, 1, 2, 3, 4), api.ErrNone)
	w.pool.Put(0, step.Entry{})
	w.pages[0].has++
	is(t, w.add(t, 0, 1, 1, 2, 3, 4), api.ErrNone)
	is(t, w.add(t, 0, 2, 1, 2, 3, 4), api.OK)
	same(t, w.find(t, 1, 1, 2, 3, 4, 5))
	same(t, w.find(t, 2, 1, 2, 3, 4, 5), 0)
	is(t, w.add(t, 1, 1, 1, 2, 3, 4), api.OK)
	same(t, w.rest(t), 0, 1)
}

func TestForget(t *testing.T) {
	for versions := 1; versions <= 5; versions++ {
		for gone := 0; gone <= versions+1; gone++ {
			w := fresh(t, 20)
			for i := range 20 {
				w.lay(t, own{1 + i%versions, 1 + i%2, 4})
			}
			count := 0
			for i := range 20 {
				is(t, w.add(t, i, 1+i%versions, i, 2, 3, 4), api.OK)
				if 1+i%versions == gone {
					count++
				}
			}
			// Pages that nobody else uses, and such as somebody does, are given back alike.
			for i := 0; i < 20; i += 4 {
				w.leave(t, i)
			}
			if n := w.forget(t, gone); n != count {
				t.Fatal(versions, gone, n)
			}
			if w.forget(t, gone) != 0 || w.Len() != 20-count {
				t.Fatal(versions, gone, w.Len())
			}
			order := []int{}
			for i := range 20 {
				if 1+i%versions != gone {
					order = append(order, i)
				}
				same(t, w.find(t, gone, i, 2, 3, 4, 5))
			}
			same(t, w.rest(t), order...)
		}
	}
}

// What is forgotten can be added again, and is used last then.
func TestForgetAndAgain(t *testing.T) {
	w := laid(t, 6, own{1, 1, 4}, own{1, 1, 4}, own{2, 1, 4}, own{2, 1, 4}, own{2, 1, 4}, own{1, 1, 4})
	for id, version := range []int{1, 1, 2, 2, 2, 1} {
		is(t, w.add(t, id, version, id, 0, 0, 0), api.OK)
	}
	if w.forget(t, 1) != 3 {
		t.Error(w.Len())
	}
	is(t, w.add(t, 5, 1, 0, 0, 0, 0), api.OK)
	is(t, w.add(t, 0, 1, 1, 0, 0, 0), api.OK)
	same(t, w.find(t, 2, 3, 0, 0, 0, 9), 3)
	same(t, w.rest(t), 2, 4, 5, 0, 3)
}

// To ask whether a beginning is there is no use of it.
func TestHasIsNoUse(t *testing.T) {
	w := laid(t, 3)
	for id := range 3 {
		is(t, w.add(t, id, 1, id, id, id, id), api.OK)
	}
	for id := 2; id >= 0; id-- {
		w.has(t, 1, id, id, id, id)
	}
	same(t, w.rest(t), 0, 1, 2)
	for n := range 40 {
		for _, version := range []int{math.MinInt, -1, 0, 1, math.MaxInt} {
			w.has(t, version, row(1, n)...)
			w.has(t, version, make([]int, n)...)
		}
	}
}

// P23.4

// deeds: what can be done with three pages of one row and of another one, in whatever order.
func deeds(t testing.TB) []func(w *watch) {
	tokens := row(1, 9)
	return []func(w *watch){
		func(w *watch) { w.add(t, 0, 1, tokens[:4]...) },
		func(w *watch) { w.add(t, 1, 1, tokens[:8]...) },
		func(w *watch) { w.add(t, 2, 2, tokens[:4]...) },
		func(w *watch) { w.add(t, 1, 1, 4, 3, 2, 1) },
		func(w *watch) { w.find(t, 1, tokens...) },
		func(w *watch) { w.find(t, 2, tokens[:5]...) },
		func(w *watch) { w.evict(t) },
		func(w *watch) { w.forget(t, 1) },
		func(w *watch) { w.drop(t, 0) },
		func(w *watch) { w.drop(t, 1) },
	}
}

// drop: one use of a page less, if there is one that isn't the index's.
func (w *watch) drop(t testing.TB, id int) {
	t.Helper()
	if w.pages[id].users > w.held(id) {
		w.leave(t, id)
	}
}

// All rows of four deeds: whatever came, all is free at the end.
func TestAllDeeds(t *testing.T) {
	list := deeds(t)
	n := len(list)
	for row := range n * n * n * n {
		w := laid(t, 3, own{1, 1, 4}, own{1, 1, 4}, own{2, 1, 4})
		for left := row; left > 0; left /= n {
			list[left%n](w)
		}
		w.rest(t)
	}
}

// walk: a row of commands that numbers tell; how often each error was answered, and how often pages were found and evicted.
func (w *watch) walk(t testing.TB, r *rand.Rand, steps int) map[string]int {
	n := len(w.pages)
	seen := map[string]int{}
	tokens := func() []int {
		// Rows that begin alike, of two tokens.
		list := make([]int, r.IntN(10)*4+r.IntN(9)/8*r.IntN(4))
		for i := range list {
			list[i] = 7 + r.IntN(40)/39
		}
		return list
	}
	for range steps {
		switch r.IntN(10) {
		case 0, 1:
			if w.pool.Free() > 0 {
				w.lay(t, own{1 + r.IntN(3), 1 + r.IntN(3)/2, 4 - r.IntN(6)/5})
			}
		case 2, 3, 4:
			seen[fmt.Sprint("add ", w.add(t, r.IntN(n+1)-r.IntN(30)/29, 1+r.IntN(3)-r.IntN(30)/29*2, tokens()...))]++
		case 5, 6:
			seen[fmt.Sprint("find ", min(2, len(w.find(t, 1+r.IntN(3), append(tokens(), 7)...))))]++
		case 7:
			seen[fmt.Sprint("evict ", w.evict(t) >= 0)]++
		case 8:
			for range n {
				w.drop(t, r.IntN(n))
			}
		default:
			if r.IntN(6) == 0 {
				seen[fmt.Sprint("forget ", min(2, w.forget(t, r.IntN(4))))]++
			}
		}
	}
	return seen
}

func TestWalks(t *testing.T) {
	seen := map[string]int{}
	for _, n := range []int{1, 2, 3, 5, 8, 13, 33, 64} {
		for seed := range 20 {
			w := fresh(t, n)
			for what, times := range w.walk(t, rand.New(rand.NewPCG(uint64(seed), uint64(n))), 300) {
				seen[what] += times
			}
			w.rest(t)
		}
	}
	for _, what := range []string{"add 0", "add 1", "add 8", "add 9", "find 0", "find 1", "find 2", "evict true", "evict false", "forget 0", "forget 1", "forget 2"} {
		if seen[what] < 30 {
			t.Errorf("%s: %d times", what, seen[what])
		}
	}
}

// Who comes later needn't reckon what is found: what comes behind it is the same.
func TestOfAModel(t *testing.T) {
	c := api.Config{Vocab: 5, Dim: 4, Heads: 2, Blocks: 2, Hidden: 5, Context: 32}
	r := rand.New(rand.NewPCG(3, 23))
	weights := make([]byte, conf.Shape{Config: c}.Size())
	for i := range weights {
		weights[i] = byte(r.IntN(256))
	}
	b, e := brain.Of(c, string(weights))
	is(t, e, api.OK)
	p := pages.New(12)
	x := New(p)
	found := 0
	for range 40 {
		prompt := make([]int, 1+r.IntN(32))
		for i := range prompt {
			prompt[i] = r.IntN(10) / 9
		}
		mine := x.Find(1, prompt...)
		found += len(mine)
		entries, scores, e := step.Run(b, p.Get(mine...), prompt[4*len(mine):]...)
		is(t, e, api.OK)
		_, want, e := step.Run(b, nil, prompt...)
		is(t, e, api.OK)
		if !slices.Equal(scores, want) {
			t.Fatalf("%v, found %v: %v, not %v", prompt, mine, scores, want)
		}
		for len(entries) >= 4 {
			for p.Free() == 0 {
				if !x.Evict() {
					t.Fatal("nothing to evict")
				}
			}
			id, _ := p.Take(1)
			for _, entry := range entries[:4] {
				p.Put(id, entry)
			}
			entries = entries[4:]
			mine = append(mine, id)
			is(t, x.Add(id, 1, prompt[:4*len(mine)]...), api.OK)
		}
		is(t, p.Drop(mine...), api.OK)
		if p.Free() != 12-x.Len() {
			t.Fatal(p.Free(), x.Len())
		}
	}
	if found < 20 || x.Forget(1) == 0 || p.Free() != 12 {
		t.Error(found, p.Free())
	}
}

// Rules

// P1: a pool from which somebody dropped what isn't theirs makes no call panic.
func TestPoolOfOthers(t *testing.T) {
	for seed := range 200 {
		r := rand.New(rand.NewPCG(uint64(seed), 26))
		p := pages.New(3)
		x := New(p)
		for range 60 {
			id := r.IntN(3)
			switch r.IntN(6) {
			case 0:
				id, _ = p.Take(1)
				for range 4 {
					p.Put(id, step.Entry{})
				}
			case 1, 2:
				x.Add(id, 1, row(r.IntN(2), 4+4*r.IntN(2))...)
			case 3:
				x.Find(1, row(r.IntN(2), 9)...)
			case 4:
				p.Drop(id)
			default:
				if r.IntN(3) == 0 {
					x.Forget(1)
				}
				x.Evict()
			}
		}
	}
}

// Rule 3: tokens that are handed in are as they were, their spare room too, and aren't kept.
func TestArgumentsAreLeft(t *testing.T) {
	for _, n := range []int{4, 8, 32} {
		w := laid(t, 3)
		room := row(1, 40)
		kept := slices.Clone(room)
		is(t, w.add(t, 0, 1, room[:n]...), api.OK)
		w.add(t, 0, 1, room[:n]...)
		w.add(t, 1, 1, room[:4]...)
		w.add(t, 1, 1, room[:n-1]...)
		w.find(t, 1, room[:n+1]...)
		w.has(t, 1, room[:n]...)
		if !slices.Equal(room, kept) {
			t.Fatalf("%v, not %v", room, kept)
		}
		for i := range room {
			room[i] = 9
		}
		w.holds(t)
		same(t, w.find(t, 1, room[:n+1]...))
		w.find(t, 1, kept[:n+1]...)
		is(t, w.add(t, 2, 1, room[:n]...), api.OK)
	}
}

// Rule 3: what Find answers is new memory.
func TestFoundIsNew(t *testing.T) {
	w := stem(t, 8)
	lists := [][]int{}
	for range 4 {
		list := w.find(t, 1, row(1, 33)...)
		same(t, list, 8, 7, 6, 5, 4, 3, 2, 1)
		got := w.Find(1, row(1, 33)...)
		w.pool.Drop(got...)
		got = got[:cap(got)]
		for i := range got {
			got[i] = 50
		}
		w.holds(t)
		lists = append(lists, w.find(t, 1, row(1, 33)...))
	}
	for _, list := range lists {
		same(t, list, 8, 7, 6, 5, 4, 3, 2, 1)
	}
}

// Rule 4: the same commands come to the same, whatever is asked of other indexes between.
func TestTheSameEachTime(t *testing.T) {
	for seed := range 20 {
		a, b := fresh(t, 6), fresh(t, 6)
		for i := range 20 {
			from := uint64(100*seed + i)
			a.walk(t, rand.New(rand.NewPCG(from, 24)), 10)
			fresh(t, 7).walk(t, rand.New(rand.NewPCG(from, 25)), 10)
			b.walk(t, rand.New(rand.NewPCG(from, 24)), 10)
			if a.Len() != b.Len() || !slices.Equal(a.pages, b.pages) {
				t.Fatal(seed, i)
			}
		}
		same(t, a.rest(t), b.rest(t)...)
	}
}

// A long walk comes to what another program works out of the same chapter.
func TestAnotherProgram(t *testing.T) {
	for _, c := range []struct {
		n    int
		want string
	}{
		{1, "c4a39a5c54c2dd96ac05a1eb795d6db9e7a042d567ae386b8a3e0da4775136eb"},
		{2, "fe4ebf45491ee8650a5f2b6c2471c0e6740072a804fc746ae688e93ae59e8d46"},
		{5, "99a7bb2fa3d3edc5d240cb49515431c56b7c34f7b50319254878a64e134a2868"},
		{9, "e93f35cc167496bdb769ea40c5babfed132f1b44529b95b1fdb4308734f17a9a"},
		{24, "4cf16709b5f924fc8b2a67bf72973b00ee0f00a226a64ba259911fab5c5cfead"},
		{64, "a96ba2d1bc1cfba9347bb25b6c921638c9027af6372139374843269827394d4c"},
	} {
		if got := story(c.n); got != c.want {
			t.Errorf("%d pages: %s", c.n, got)
		}
	}
}

// story: the sum of what a long walk over so many pages answers.
func story(n int) string {
	state := n
	next := func(below int) int {
		state = (state*1103515245 + 12345) % (1 << 31)
		return (state >> 16) % below
	}
	tokens := func() []int {
		list := make([]int, 4*next(10)+next(8)/7)
		for i := range list {
			list[i] = next(40) / 39
		}
		return list
	}
	p := pages.New(n)
	x := New(p)
	held := []int{}
	log := strings.Builder{}
	for range 20000 {
		switch next(9) {
		case 0, 1:
			version, has := 1+next(2), 4-next(6)/5
			id, e := p.Take(version)
			if e == api.OK {
				held = append(held, id)
				for range has {
					p.Put(id, step.Entry{})
				}
			}
			fmt.Fprintln(&log, "take", id, int(e))
		case 2, 3:
			id, version := next(n+2)-1, 1+next(2)
			fmt.Fprintln(&log, "add", int(x.Add(id, version, tokens()...)))
		case 4, 5:
			version := 1 + next(2)
			list := x.Find(version, tokens()...)
			held = append(held, list...)
			fmt.Fprint(&log, "find")
			for _, id := range list {
				fmt.Fprint(&log, " ", id)
			}
			fmt.Fprintln(&log)
		case 6:
			for range len(held) * next(3) / 6 {
				at := next(len(held))
				p.Drop(held[at])
				held = slices.Delete(held, at, at+1)
			}
			fmt.Fprintln(&log, "drop", len(held))
		case 7:
			fmt.Fprintln(&log, "evict", x.Evict())
		default:
			fmt.Fprintln(&log, "forget", x.Forget(next(60)))
		}
		id, version := next(n+2)-1, 1+next(2)
		fmt.Fprintln(&log, x.Len(), p.Free(), p.Users(id), x.Has(version, tokens()...))
	}
	sum := sha256.Sum256([]byte(log.String()))
	return hex.EncodeToString(sum[:])
}

func FuzzWalk(f *testing.F) {
	f.Add(3, "\x00\x01\x02\x40\x50\x44\x80\x90\xc1\xc0\xc3")
	f.Add(1, "\x00\x40\x41\x80\xc2\xc2\xc0\xc0")
	f.Add(64, "\x00\x00\x00\x00\x48\x59\x6a\x7b\x88\x99\xc1\xc5\xc9\xc0\xc0\xc0")
	f.Fuzz(func(t *testing.T, n int, deeds string) {
		if n < 1 || n > 64 {
			if New(pages.New(n)) != nil {
				t.Error(n)
			}
			return
		}
		w := fresh(t, n)
		for _, b := range []byte(deeds[:min(len(deeds), 200)]) {
			// Six bits are numbers, the other two what is done with them.
			k := int(b & 63)
			tokens := make([]int, 4*(k%4)+5)
			tokens[k/4%5] = k / 20
			switch b >> 6 {
			case 0:
				if w.pool.Free() > 0 {
					w.lay(t, own{1 + k%2, 1, 4 - k/60})
				}
			case 1:
				w.add(t, (k-1)%n, 1+k%2, tokens[:len(tokens)-1]...)
			case 2:
				w.find(t, 1+k%2, tokens...)
			default:
				switch k % 4 {
				case 0:
					w.evict(t)
				case 1:
					w.drop(t, k/4%n)
				case 2:
					w.forget(t, k/4)
				default:
					for id := range n {
						w.drop(t, id)
					}
				}
			}
		}
		w.rest(t)
	})
}

func FuzzBeginnings(f *testing.F) {
	f.Add(1, "abcd", "abcdefgh", "abcde")
	f.Add(0, "", "abc", "abcdefghi")
	f.Add(last, "abcdefghijkl", "abcdefgh", "abcdefghijklmnopqrstuvwxyzABCDEFGH")
	f.Add(math.MaxInt, "aaaa", "aaaaaaaa", "aaaaaaaaaaaa")
	f.Fuzz(func(t *testing.T, version int, a, b, c string) {
		w := laid(t, 3)
		texts := [][]int{}
		for _, s := range []string{a, b, c} {
			list := []int{}
			for _, x := range []byte(s) {
				list = append(list, int(x)-97)
			}
			texts = append(texts, list)
		}
		for id, list := range texts {
			w.add(t, id, 1, list...)
			w.add(t, id, 1, list[:len(list)/4*4]...)
			w.add(t, id, version, list...)
			w.add(t, version, 1, list[:min(4, len(list))]...)
		}
		for _, list := range texts {
			w.find(t, 1, list...)
			w.find(t, version, append(list, 0)...)
			w.has(t, version, list...)
		}
		w.drop(t, 1)
		w.evict(t)
		w.forget(t, version)
		w.rest(t)
	})
}
