package store_test

import (
	"bytes"
	"fmt"
	"maps"
	"slices"
	"testing"

	"coppice/api"
	"coppice/cache"
	"coppice/check"
	"coppice/disk"
	"coppice/look"
	"coppice/pager"
	"coppice/pool"
	"coppice/store"
	"coppice/tree"
)

// noise tells numbers from 0 on, below the one it is given; the same ones for the same seed.
func noise(seed uint64) func(n int) int {
	return func(n int) int {
		seed = seed*6364136223846793005 + 1442695040888963407
		return int((seed >> 33) % uint64(n))
	}
}

// fill is a value of n bytes.
func fill(n, seed int) string {
	b := make([]byte, n)
	for i := range b {
		b[i] = byte(i*7 + i>>8 + seed)
	}
	return string(b)
}

// some is a string by noise as a key.
func some(next func(int) int) string {
	return string([]byte{byte('a' + next(5)), byte(next(30))})
}

// image is a disk that holds a file.
func image(t *testing.T, cap int, file []byte) *disk.Disk {
	t.Helper()
	d, err := disk.Image(cap, file)
	if err != api.OK {
		t.Fatalf("Image: %d", err)
	}
	return d
}

// blank is a disk that was just formatted.
func blank(t *testing.T, cap int) *disk.Disk {
	t.Helper()
	d := disk.New(cap)
	if err := store.Format(d); err != api.OK {
		t.Fatalf("Format: %d", err)
	}
	return d
}

// opened is a store over a disk.
func opened(t *testing.T, d *disk.Disk, frames int) *store.Store {
	t.Helper()
	s, at, err := store.Open(d, frames)
	if s == nil || at != 0 || err != api.OK {
		t.Fatalf("Open: %d at %d", err, at)
	}
	return s
}

// plain is a map: what a store or a view is to tell.
type plain map[string]string

// within are the pairs of a map from lo on, ahead of hi, the first limit of them.
func (m plain) within(lo, hi string, limit int) []api.Pair {
	var l []api.Pair
	for _, key := range slices.Sorted(maps.Keys(m)) {
		if key >= lo && (key < hi || hi == "") && len(l) < limit {
			l = append(l, api.Pair{Key: []byte(key), Value: []byte(m[key])})
		}
	}
	return l
}

// rank is how many keys of a map stand ahead of key.
func (m plain) rank(key string) int {
	n := 0
	for k := range m {
		if k < key {
			n++
		}
	}
	return n
}

// mapOf is the map that a file says.
func mapOf(t *testing.T, file []byte) plain {
	t.Helper()
	f, at, err := check.Open(file)
	if err != api.OK {
		t.Fatalf("the file is refused: %d at %d", err, at)
	}
	m := plain{}
	for _, n := range f.Tree().Nodes() {
		for _, p := range n.Pairs {
			m[string(p.Key)] = string(p.Value)
		}
	}
	return m
}

// samePairs tells whether two lists have the same pairs.
func samePairs(a, b []api.Pair) bool {
	return slices.EqualFunc(a, b, func(x, y api.Pair) bool {
		return bytes.Equal(x.Key, y.Key) && bytes.Equal(x.Value, y.Value)
	})
}

// tellPairs is the keys of pairs, and how long their values are.
func tellPairs(l []api.Pair) string {
	told := ""
	for i, p := range l {
		if i == 20 {
			return told + fmt.Sprintf("and %d more", len(l)-i)
		}
		told += fmt.Sprintf("%.20q %d, ", p.Key, len(p.Value))
	}
	return told
}

// all is more than any map here has.
const all = 1<<31 - 1

// says asks that a store tells just a map.
func says(t *testing.T, what string, s *store.Store, m plain) {
	t.Helper()
	l, err := s.Scan(nil, nil, all)
	if want := m.within("", "", all); err != api.OK || !samePairs(l, want) {
		t.Fatalf("%s: %d, %s, not %s", what, err, tellPairs(l), tellPairs(want))
	}
}

// twin is what a store does by the words of its chapter, over a disk of its own that holds the same.
type twin struct {
	d     *disk.Disk
	base  *pager.Base
	work  *tree.Tree
	pool  *pool.Pool
	cache *cache.Cache
}

// newTwin is the twin of a store that is opened over such a disk.
func newTwin(t *testing.T, d *disk.Disk, frames int) *twin {
	t.Helper()
	base, at, err := pager.Load(d)
	if err != api.OK {
		t.Fatalf("Load: %d at %d", err, at)
	}
	return &twin{d, base, base.Tree(), pool.New(base.Head().Count, d.Cap(), base.Free()), cache.New(d, frames)}
}

// commit is Commit. The pages that are written are those that a pool gives out: what is usable from the least on, then what lies behind the count.
func (w *twin) commit() api.Errno {
	need, usable, count := w.base.Need(w.work, w.pool), w.pool.Usable(), w.pool.Count()
	now, err := w.base.Commit(w.d, w.work, w.pool)
	if err != api.OK {
		return err
	}
	for i := range need {
		if i < len(usable) {
			w.cache.Drop(usable[i])
		} else {
			w.cache.Drop(count + i - len(usable))
		}
	}
	w.base, w.work = now, now.Tree()
	return api.OK
}

// state is State.
func (w *twin) state() api.State {
	h := w.base.Head()
	return api.State{Version: h.Version, Count: h.Count, Free: h.Free, Keys: w.work.Len(), Height: w.work.Height(), Changed: w.base.Need(w.work, w.pool) > 0}
}

// seen is an open view, and what it is to tell.
type seen struct {
	v       *store.View
	look    *look.Look // the twin's
	says    plain
	version int
	height  int
	pages   map[int][]byte // of its version
}

// bench is a store, asked call by call against a map and a twin.
type bench struct {
	t          *testing.T
	d          *disk.Disk
	s          *store.Store
	twin       *twin
	work, last plain // what the store has now, and what it had at its last Commit, or when it was opened
	views      []*seen
	full, grew int // how many Commits found no room; how many made the file longer
}

// newBench opens a store over a disk that holds a file.
func newBench(t *testing.T, cap, frames int, file []byte) *bench {
	t.Helper()
	d := image(t, cap, file)
	b := &bench{t: t, d: d, s: opened(t, d, frames), twin: newTwin(t, image(t, cap, file), frames)}
	b.last = mapOf(t, file)
	b.work = maps.Clone(b.last)
	b.alike("Open")
	return b
}

// alike asks that the store stands as its twin does, and has done just as much at its disk.
func (b *bench) alike(what string) {
	b.t.Helper()
	w := b.twin
	if got, want := b.s.State(), w.state(); got != want {
		b.t.Fatalf("%s: the state %+v, not %+v", what, got, want)
	}
	if got, want := b.s.Need(), w.base.Need(w.work, w.pool); got != want {
		b.t.Fatalf("%s: need %d, not %d", what, got, want)
	}
	if got, want := b.s.Room(), w.pool.Room(); got != want {
		b.t.Fatalf("%s: room %d, not %d", what, got, want)
	}
	if b.d.Reads() != w.d.Reads() || b.d.Done() != w.d.Done() || len(b.d.Pending()) != 0 {
		b.t.Fatalf("%s: %d Reads, %d Writes and Syncs, not %d and %d; %d pend", what, b.d.Reads(), b.d.Done(), w.d.Reads(), w.d.Done(), len(b.d.Pending()))
	}
}

// put lays a pair in.
func (b *bench) put(key, value string) {
	b.t.Helper()
	want := api.OK
	if len(key) < 1 || len(key) > api.MaxKey || len(value) > api.MaxValue {
		want = api.ErrSize
	} else {
		b.work[key] = value
		b.twin.work, _ = b.twin.work.With([]byte(key), []byte(value))
	}
	if err := b.s.Put([]byte(key), []byte(value)); err != want {
		b.t.Fatalf("Put(%.20q, %d bytes): %d, not %d", key, len(value), err, want)
	}
	b.alike("Put")
}

// delete takes a key out.
func (b *bench) delete(key string) {
	b.t.Helper()
	_, had := b.work[key]
	want := api.OK
	if len(key) < 1 || len(key) > api.MaxKey {
		want = api.ErrSize
	}
	delete(b.work, key)
	b.twin.work, _ = b.twin.work.Without([]byte(key))
	if got, err := b.s.Delete([]byte(key)); got != had || err != want {
		b.t.Fatalf("Delete(%.20q): %v, %d, not %v, %d", key, got, err, had, want)
	}
	b.alike("Delete")
}

// get asks for a key.
func (b *bench) get(key string) {
	b.t.Helper()
	want, is := b.work[key]
	wantErr := api.OK
	if len(key) < 1 || len(key) > api.MaxKey {
		wantErr = api.ErrSize
	}
	got, has, err := b.s.Get([]byte(key))
	if string(got) != want || has != is || err != wantErr {
		b.t.Fatalf("Get(%.20q): %d bytes, %v, %d, not %d bytes, %v, %d", key, len(got), has, err, len(want), is, wantErr)
	}
	b.alike("Get")
}

// scan asks for a range.
func (b *bench) scan(lo, hi string, limit int) {
	b.t.Helper()
	want, wantErr := b.work.within(lo, hi, limit), api.OK
	if limit < 0 {
		wantErr = api.ErrLimit
	}
	got, err := b.s.Scan([]byte(lo), []byte(hi), limit)
	if !samePairs(got, want) || err != wantErr {
		b.t.Fatalf("Scan(%.20q, %.20q, %d): %d, %s, not %d, %s", lo, hi, limit, err, tellPairs(got), wantErr, tellPairs(want))
	}
	b.alike("Scan")
}

// rollback takes the working tree back.
func (b *bench) rollback() {
	b.t.Helper()
	b.work = maps.Clone(b.last)
	b.twin.work = b.twin.base.Tree()
	if err := b.s.Rollback(); err != api.OK {
		b.t.Fatalf("Rollback: %d", err)
	}
	b.alike("Rollback")
	says(b.t, "Rollback", b.s, b.last)
}

// commit commits, and asks for all that is promised of it while the power doesn't fail.
func (b *bench) commit() {
	b.t.Helper()
	need, room, before := b.s.Need(), b.s.Room(), b.s.State()
	was, done, usable := b.d.Durable(), b.d.Done(), b.twin.pool.Usable()
	want := b.twin.commit()
	err := b.s.Commit()
	if err != want || (err == api.ErrFull) != (need > room && need > 0 && before.Version < api.MaxVersion) {
		b.t.Fatalf("Commit, need %d, room %d: %d, not %d", need, room, err, want)
	}
	b.alike("Commit")
	now := b.d.Durable()
	if !bytes.Equal(now, b.twin.d.Durable()) {
		b.t.Fatal("Commit: the file is another one than by the pager")
	}
	says(b.t, "Commit", b.s, b.work)
	if err != api.OK || need == 0 {
		if !bytes.Equal(now, was) || b.d.Done() != done || b.s.State() != before {
			b.t.Fatalf("Commit: %d, and something has changed", err)
		}
		if err == api.ErrFull {
			b.full++
		}
		if err != api.OK {
			return
		}
	}
	b.last = maps.Clone(b.work)
	b.settled(before, need, done, usable)
}

// settled asks what a Commit that answered OK has left.
func (b *bench) settled(before api.State, need, done int, usable []int) {
	b.t.Helper()
	f, at, err := check.Open(b.d.Durable())
	if err != api.OK {
		b.t.Fatalf("the file is refused: %d at %d", err, at)
	}
	if !maps.Equal(mapOf(b.t, b.d.Durable()), b.last) {
		b.t.Fatal("the file says another map")
	}
	st := b.s.State()
	if need > 0 && (st.Version != before.Version+1 || b.d.Done() != done+need+4) || st.Changed || b.s.Need() != 0 {
		b.t.Fatalf("Commit: %+v, %d Writes and Syncs, need %d", st, b.d.Done()-done, b.s.Need())
	}
	if h := f.Head(); h.Version != st.Version || h.Count != st.Count || h.Free != st.Free || h.Keys != st.Keys || h.Height != st.Height {
		b.t.Fatalf("the head %+v, the state %+v", h, st)
	}
	if st.Count > before.Count {
		b.grew++
		for _, no := range usable {
			if slices.Contains(f.Free(), no) {
				b.t.Fatalf("the file has grown, and %d is still free", no)
			}
		}
	}
	b.kept()
}

// view opens a view.
func (b *bench) view() *seen {
	b.t.Helper()
	v, err := b.s.View()
	if v == nil || err != api.OK {
		b.t.Fatalf("View: %d", err)
	}
	h := b.twin.base.Head()
	b.twin.pool.Pin(h.Version)
	x := &seen{v: v, look: look.New(b.twin.cache, h.Root, h.Height), says: b.last, version: h.Version, height: h.Height, pages: map[int][]byte{}}
	file := b.d.Durable()
	for _, no := range b.twin.base.Tree().Numbers() {
		x.pages[no] = file[no*api.PageSize : (no+1)*api.PageSize]
	}
	b.views = append(b.views, x)
	b.alike("View")
	return x
}

// close closes the view at i.
func (b *bench) close(i int) {
	b.t.Helper()
	x := b.views[i]
	b.views = slices.Delete(b.views, i, i+1)
	b.twin.pool.Unpin(x.version)
	if !x.v.Close() {
		b.t.Fatal("Close: false")
	}
	b.alike("Close")
	if x.v.Close() || x.v.Version() != 0 {
		b.t.Fatal("a closed view is open")
	}
	b.alike("Close again")
}

// kept asks that no page of an open view has been written on.
func (b *bench) kept() {
	b.t.Helper()
	file := b.d.Durable()
	for _, x := range b.views {
		for no, was := range x.pages {
			if !bytes.Equal(file[no*api.PageSize:(no+1)*api.PageSize], was) {
				b.t.Fatalf("the page %d of version %d was written on", no, x.version)
			}
		}
	}
}

// read asks a view for a key.
func (b *bench) read(x *seen, key string) {
	b.t.Helper()
	want, is := x.says[key]
	wantErr := api.OK
	if len(key) < 1 || len(key) > api.MaxKey {
		wantErr = api.ErrSize
	}
	reads := b.d.Reads()
	x.look.Get([]byte(key))
	got, has, err := x.v.Get([]byte(key))
	if string(got) != want || has != is || err != wantErr {
		b.t.Fatalf("a view of version %d: Get(%.20q): %d bytes, %v, %d, not %d bytes, %v, %d", x.version, key, len(got), has, err, len(want), is, wantErr)
	}
	if n := b.d.Reads() - reads; n > x.height+65 {
		b.t.Fatalf("a Get read %d pages, the height is %d", n, x.height)
	}
	b.alike("a view's Get")
}

// span asks a view for a range.
func (b *bench) span(x *seen, lo, hi string, limit int) {
	b.t.Helper()
	want, wantErr := x.says.within(lo, hi, limit), api.OK
	if limit < 0 {
		wantErr = api.ErrLimit
	}
	x.look.Scan([]byte(lo), []byte(hi), limit)
	got, err := x.v.Scan([]byte(lo), []byte(hi), limit)
	if !samePairs(got, want) || err != wantErr {
		b.t.Fatalf("a view of version %d: Scan(%.20q, %.20q, %d): %d, %s, not %d, %s", x.version, lo, hi, limit, err, tellPairs(got), wantErr, tellPairs(want))
	}
	b.alike("a view's Scan")
}

// rank asks a view for a key's rank.
func (b *bench) rank(x *seen, key string) {
	b.t.Helper()
	x.look.Rank([]byte(key))
	if got, err := x.v.Rank([]byte(key)); got != x.says.rank(key) || err != api.OK {
		b.t.Fatalf("a view of version %d: Rank(%.20q): %d, %d, not %d", x.version, key, got, err, x.says.rank(key))
	}
	b.alike("a view's Rank")
}

// nth asks a view for the pair at i.
func (b *bench) nth(x *seen, i int) {
	b.t.Helper()
	var want api.Pair
	wantErr := api.ErrIndex
	if l := x.says.within("", "", all); i >= 0 && i < len(l) {
		want, wantErr = l[i], api.OK
	}
	x.look.Nth(i)
	got, err := x.v.Nth(i)
	if !samePairs([]api.Pair{got}, []api.Pair{want}) || err != wantErr {
		b.t.Fatalf("a view of version %d: Nth(%d): %s %d, not %s %d", x.version, i, tellPairs([]api.Pair{got}), err, tellPairs([]api.Pair{want}), wantErr)
	}
	b.alike("a view's Nth")
}

// tells asks that a view tells its version, by all its calls.
func (b *bench) tells(x *seen) {
	b.t.Helper()
	if x.v.Version() != x.version {
		b.t.Fatalf("the version %d, not %d", x.v.Version(), x.version)
	}
	b.span(x, "", "", all)
	for i, p := range x.says.within("", "", all) {
		b.read(x, string(p.Key))
		b.rank(x, string(p.Key))
		b.nth(x, i)
	}
	b.nth(x, len(x.says))
	b.rank(x, "\xff\xff")
}
