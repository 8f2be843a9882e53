package look_test

import (
	"bytes"
	"fmt"
	"hash/crc32"
	"slices"
	"strings"
	"testing"

	"coppice/api"
	"coppice/cache"
	"coppice/disk"
	"coppice/look"
	"coppice/page"
)

// noise tells numbers from 0 on, below the one it is given; the same ones for the same seed.
func noise(seed uint64) func(n int) int {
	return func(n int) int {
		seed = seed*6364136223846793005 + 1442695040888963407
		return int((seed >> 33) % uint64(n))
	}
}

// tellValue is a value as a short text, unlike those of other values.
func tellValue(v []byte) string {
	if len(v) < 20 {
		return fmt.Sprintf("%q", v)
	}
	return fmt.Sprintf("%d bytes, %08x", len(v), crc32.ChecksumIEEE(v))
}

func tellPair(p api.Pair) string { return fmt.Sprintf("%q = %s", p.Key, tellValue(p.Value)) }

func tellPairs(l []api.Pair) string {
	var b strings.Builder
	for _, p := range l {
		b.WriteString(tellPair(p) + "; ")
	}
	return b.String()
}

// told is what a Read of a page tells.
type told struct {
	page api.Page
	err  api.Errno
}

// shelf is a file's pages in a list; each number that is asked for is written down.
type shelf struct {
	pages []told
	asked []int
}

// plain is a look by the chapter's words, in which errors are handed up from call to call.
type plain struct {
	*shelf
	root, height int
}

// trail is a way: its pages from the root on, and which kid of each branch it takes.
type trail struct {
	pages []api.Page
	kids  []int
}

func (tr trail) leaf() []api.Item { return tr.pages[len(tr.pages)-1].Items }

// read is cache.Read.
func (s *shelf) read(no int) (api.Page, api.Errno) {
	s.asked = append(s.asked, no)
	if no < 0 || no >= len(s.pages) {
		return api.Page{}, api.ErrNoPage
	}
	return s.pages[no].page, s.pages[no].err
}

// readAt reads a page of a level.
func (m *plain) readAt(no, level int) (api.Page, api.Errno) {
	p, err := m.read(no)
	switch {
	case err != api.OK:
		return api.Page{}, err
	case level == 0 && p.Kind != api.Leaf:
		return api.Page{}, api.ErrLevel
	case level > 0 && (p.Kind != api.Branch || p.Level != level):
		return api.Page{}, api.ErrLevel
	}
	return p, api.OK
}

// follow goes on from a trail to a page of a level, and from there to a leaf.
func (m *plain) follow(tr trail, no, level int, choose func(p api.Page) int) (trail, api.Errno) {
	p, err := m.readAt(no, level)
	if err != api.OK {
		return trail{}, err
	}
	tr = trail{append(slices.Clone(tr.pages), p), slices.Clone(tr.kids)}
	if level == 0 {
		return tr, api.OK
	}
	kid := choose(p)
	tr.kids = append(tr.kids, kid)
	return m.follow(tr, p.Kids[kid].No, level-1, choose)
}

// toKey chooses the kid behind as many separators as do not stand behind a key.
func toKey(key string) func(p api.Page) int {
	return func(p api.Page) int {
		n := 0
		for _, s := range p.Seps {
			if string(s) <= key {
				n++
			}
		}
		return n
	}
}

func firstKid(api.Page) int { return 0 }

func lastKid(p api.Page) int { return len(p.Kids) - 1 }

func (m *plain) way(choose func(p api.Page) int) (trail, api.Errno) {
	return m.follow(trail{}, m.root, m.height-1, choose)
}

// nextLeaf is the trail to the next leaf; false: there is none.
func (m *plain) nextLeaf(tr trail) (trail, bool, api.Errno) {
	for i := len(tr.kids) - 1; i >= 0; i-- {
		kid := tr.kids[i] + 1
		if kid == len(tr.pages[i].Kids) {
			continue
		}
		above := trail{tr.pages[:i+1], append(slices.Clone(tr.kids[:i]), kid)}
		next, err := m.follow(above, tr.pages[i].Kids[kid].No, m.height-2-i, firstKid)
		if err == api.OK && string(next.leaf()[0].Key) <= string(tr.leaf()[len(tr.leaf())-1].Key) {
			err = api.ErrLost
		}
		return next, true, err
	}
	return trail{}, false, api.OK
}

// leafAhead is the trail to the leaf ahead; false: there is none.
func (m *plain) leafAhead(tr trail) (trail, bool, api.Errno) {
	for i := len(tr.kids) - 1; i >= 0; i-- {
		kid := tr.kids[i] - 1
		if kid < 0 {
			continue
		}
		above := trail{tr.pages[:i+1], append(slices.Clone(tr.kids[:i]), kid)}
		next, err := m.follow(above, tr.pages[i].Kids[kid].No, m.height-2-i, lastKid)
		if err == api.OK && string(next.leaf()[len(next.leaf())-1].Key) >= string(tr.leaf()[0].Key) {
			err = api.ErrLost
		}
		return next, true, err
	}
	return trail{}, false, api.OK
}

// value is the value of an item.
func (m *plain) value(it api.Item) ([]byte, api.Errno) {
	if it.Size <= 512 {
		return it.Value, api.OK
	}
	var value []byte
	no := it.First
	for left := it.Size; left > 0; left -= 4085 {
		p, err := m.read(no)
		switch {
		case err != api.OK:
			return nil, err
		case p.Kind != api.Chain:
			return nil, api.ErrLost
		case left > 4085 && (len(p.Data) != 4085 || p.Next == 0):
			return nil, api.ErrLost
		case left <= 4085 && (len(p.Data) != left || p.Next != 0):
			return nil, api.ErrLost
		}
		value, no = append(value, p.Data...), p.Next
	}
	return value, api.OK
}

func (m *plain) get(key string) ([]byte, bool, api.Errno) {
	if len(key) < 1 || len(key) > 255 {
		return nil, false, api.ErrSize
	}
	if m.height == 0 {
		return nil, false, api.OK
	}
	tr, err := m.way(toKey(key))
	if err != api.OK {
		return nil, false, err
	}
	for _, it := range tr.leaf() {
		if string(it.Key) == key {
			v, err := m.value(it)
			return v, err == api.OK, err
		}
	}
	return nil, false, api.OK
}

func (m *plain) scan(lo, hi string, limit int) ([]api.Pair, api.Errno) {
	if limit <= 0 || hi != "" && hi <= lo || m.height == 0 {
		return nil, api.OK
	}
	var taken []api.Pair
	tr, err := m.way(toKey(lo))
	for more := true; more; {
		if err != api.OK {
			return nil, err
		}
		for _, it := range tr.leaf() {
			if string(it.Key) < lo {
				continue
			}
			if hi != "" && string(it.Key) >= hi {
				return taken, api.OK
			}
			v, err := m.value(it)
			if err != api.OK {
				return nil, err
			}
			taken = append(taken, api.Pair{Key: it.Key, Value: v})
			if len(taken) == limit {
				return taken, api.OK
			}
		}
		tr, more, err = m.nextLeaf(tr)
	}
	return taken, api.OK
}

func (m *plain) rank(key string) (int, api.Errno) {
	if m.height == 0 {
		return 0, api.OK
	}
	tr, err := m.way(toKey(key))
	if err != api.OK {
		return 0, err
	}
	n := 0
	for i, kid := range tr.kids {
		for _, k := range tr.pages[i].Kids[:kid] {
			n += k.Keys
		}
	}
	for _, it := range tr.leaf() {
		if string(it.Key) < key {
			n++
		}
	}
	return n, api.OK
}

// nth is Nth from a page of a level on; tooFar is the error if that page has no such item.
func (m *plain) nth(no, level, i int, tooFar api.Errno) (api.Pair, api.Errno) {
	p, err := m.readAt(no, level)
	if err != api.OK {
		return api.Pair{}, err
	}
	if level == 0 {
		if i < 0 || i >= len(p.Items) {
			return api.Pair{}, tooFar
		}
		v, err := m.value(p.Items[i])
		if err != api.OK {
			return api.Pair{}, err
		}
		return api.Pair{Key: p.Items[i].Key, Value: v}, api.OK
	}
	ahead := 0
	for _, k := range p.Kids {
		if i >= 0 && i < ahead+k.Keys {
			return m.nth(k.No, level-1, i-ahead, api.ErrLost)
		}
		ahead += k.Keys
	}
	return api.Pair{}, tooFar
}

// finger is a cursor.
type finger struct {
	m     *plain
	tr    trail
	at    int
	where string // ahead, at, behind
}

func (m *plain) seek(key string) (*finger, api.Errno) {
	f := &finger{m: m, where: "behind"}
	if m.height == 0 {
		return f, api.OK
	}
	tr, err := m.way(toKey(key))
	if err != api.OK {
		return nil, err
	}
	for i, it := range tr.leaf() {
		if string(it.Key) >= key {
			return &finger{m, tr, i, "at"}, api.OK
		}
	}
	next, is, err := m.nextLeaf(tr)
	if err != api.OK {
		return nil, err
	}
	if is {
		return &finger{m, next, 0, "at"}, api.OK
	}
	return f, api.OK
}

func (f *finger) pair() (api.Pair, bool, api.Errno) {
	if f.where != "at" {
		return api.Pair{}, false, api.OK
	}
	it := f.tr.leaf()[f.at]
	v, err := f.m.value(it)
	if err != api.OK {
		return api.Pair{}, false, err
	}
	return api.Pair{Key: it.Key, Value: v}, true, api.OK
}

func (f *finger) next() (bool, api.Errno) {
	var tr trail
	is, err := true, api.OK
	switch {
	case f.where == "behind":
		return false, api.OK
	case f.where == "at" && f.at+1 < len(f.tr.leaf()):
		f.at++
		return true, api.OK
	case f.where == "at":
		tr, is, err = f.m.nextLeaf(f.tr)
	case f.m.height == 0:
		is = false
	default:
		tr, err = f.m.way(firstKid)
	}
	switch {
	case err != api.OK:
		return false, err
	case is:
		f.tr, f.at, f.where = tr, 0, "at"
	default:
		f.where = "behind"
	}
	return is, api.OK
}

func (f *finger) prev() (bool, api.Errno) {
	var tr trail
	is, err := true, api.OK
	switch {
	case f.where == "ahead":
		return false, api.OK
	case f.where == "at" && f.at > 0:
		f.at--
		return true, api.OK
	case f.where == "at":
		tr, is, err = f.m.leafAhead(f.tr)
	case f.m.height == 0:
		is = false
	default:
		tr, err = f.m.way(lastKid)
	}
	switch {
	case err != api.OK:
		return false, err
	case is:
		f.tr, f.at, f.where = tr, len(tr.leaf())-1, "at"
	default:
		f.where = "ahead"
	}
	return is, api.OK
}

// imageOf is the image of pages; one that may not be is a page of zeros.
func imageOf(pages []api.Page) []byte {
	var image []byte
	for _, p := range pages {
		b, err := page.Encode(p)
		if err != api.OK {
			b = make([]byte, api.PageSize)
		}
		image = append(image, b...)
	}
	return image
}

// diskOf is a disk with these pages.
func diskOf(t *testing.T, image []byte) *disk.Disk {
	t.Helper()
	d, err := disk.Image(len(image)/api.PageSize+4, image)
	if err != api.OK {
		t.Fatalf("Image of %d bytes: %d", len(image), err)
	}
	return d
}

// toldOf is what the pages of an image tell.
func toldOf(image []byte) []told {
	var l []told
	for b := range slices.Chunk(image, api.PageSize) {
		p, err := page.Decode(b)
		l = append(l, told{p, err})
	}
	return l
}

// bench is a look through a cache over a disk, and beside it the plain one that should answer the same, and read the same pages.
type bench struct {
	t      *testing.T
	d      *disk.Disk
	c      *cache.Cache
	l      *look.Look
	m      *plain
	frames int
	calls  []string

	held                []int // by the plain one: the page that was asked for last first
	hits, misses, reads int
}

// newBench is a bench of the tree of that root and height, with nothing in its cache.
func newBench(t *testing.T, image []byte, frames, root, height int) *bench {
	t.Helper()
	d := diskOf(t, image)
	b := &bench{t: t, d: d, c: cache.New(d, frames), m: &plain{shelf: &shelf{pages: toldOf(image)}}, frames: frames}
	b.turnTo(root, height)
	return b
}

// turnTo takes another look through the same cache.
func (b *bench) turnTo(root, height int) {
	b.t.Helper()
	b.l = look.New(b.c, root, height)
	if b.l == nil {
		b.t.Fatalf("New(%d, %d): nil", root, height)
	}
	b.m = &plain{b.m.shelf, root, height}
	b.calls = append(b.calls, fmt.Sprintf("New(%d, %d) with %d frames", root, height, b.frames))
}

// through is what the plain one does at a cache for one page.
func (b *bench) through(no int) {
	if i := slices.Index(b.held, no); i >= 0 {
		b.hits++
		b.held = slices.Insert(slices.Delete(b.held, i, i+1), 0, no)
		return
	}
	b.misses++
	is := no >= 0 && no < len(b.m.pages)
	if is {
		b.reads++
	}
	if is && b.m.pages[no].err == api.OK {
		b.held = slices.Insert(b.held, 0, no)
		b.held = b.held[:min(len(b.held), b.frames)]
	}
}

// same asks that a call has answered and read as the plain one, at most so many pages.
func (b *bench) same(call, got, want string, most int) {
	b.t.Helper()
	b.calls = append(b.calls, call)
	asked := b.m.asked
	b.m.asked = nil
	for _, no := range asked {
		b.through(no)
	}
	hits, misses := b.c.Counts()
	held := b.c.Held()
	switch {
	case got != want:
		b.fail("%s; not %s", got, want)
	case hits != b.hits || misses != b.misses || !slices.Equal(held, b.held):
		b.fail("the pages %v should have been read: hits %d, misses %d, held %v; not %d, %d, %v", asked, b.hits, b.misses, b.held, hits, misses, held)
	case b.d.Reads() != b.reads || b.d.Done() != 0 || !b.d.Power() || len(b.d.Pending()) != 0:
		b.fail("the disk: %d Reads, not %d; %d Writes and Syncs", b.d.Reads(), b.reads, b.d.Done())
	case len(asked) > most:
		b.fail("%d pages are read, at most %d should be", len(asked), most)
	}
}

// fail ends the test and tells what was done.
func (b *bench) fail(format string, a ...any) {
	b.t.Helper()
	b.t.Fatalf("behind %s: %s", strings.Join(b.calls[max(0, len(b.calls)-20):], ", "), fmt.Sprintf(format, a...))
}

// longest is how many pages a value's chain has at most.
const longest = 65

func (b *bench) get(key string) ([]byte, bool, api.Errno) {
	b.t.Helper()
	v, is, err := b.l.Get([]byte(key))
	want, wantIs, wantErr := b.m.get(key)
	b.same(fmt.Sprintf("Get(%.40q)", key), fmt.Sprint(tellValue(v), is, err), fmt.Sprint(tellValue(want), wantIs, wantErr), b.m.height+longest)
	return v, is, err
}

func (b *bench) scan(lo, hi string, limit int) ([]api.Pair, api.Errno) {
	b.t.Helper()
	l, err := b.l.Scan([]byte(lo), []byte(hi), limit)
	want, wantErr := b.m.scan(lo, hi, limit)
	b.same(fmt.Sprintf("Scan(%.40q, %.40q, %d)", lo, hi, limit), fmt.Sprint(tellPairs(l), err), fmt.Sprint(tellPairs(want), wantErr), len(b.m.asked))
	return l, err
}

func (b *bench) rank(key string) (int, api.Errno) {
	b.t.Helper()
	n, err := b.l.Rank([]byte(key))
	want, wantErr := b.m.rank(key)
	b.same(fmt.Sprintf("Rank(%.40q)", key), fmt.Sprint(n, err), fmt.Sprint(want, wantErr), b.m.height)
	return n, err
}

func (b *bench) nth(i int) (api.Pair, api.Errno) {
	b.t.Helper()
	p, err := b.l.Nth(i)
	want, wantErr := api.Pair{}, api.ErrIndex
	if b.m.height > 0 {
		want, wantErr = b.m.nth(b.m.root, b.m.height-1, i, api.ErrIndex)
	}
	b.same(fmt.Sprintf("Nth(%d)", i), fmt.Sprint(tellPair(p), err), fmt.Sprint(tellPair(want), wantErr), b.m.height+longest)
	return p, err
}

// cursor is a cursor, and the plain one beside it.
type cursor struct {
	*bench
	c *look.Cursor
	f *finger
}

func (b *bench) seek(key string) (*cursor, api.Errno) {
	b.t.Helper()
	c, err := b.l.Seek([]byte(key))
	f, want := b.m.seek(key)
	b.same(fmt.Sprintf("Seek(%.40q)", key), fmt.Sprint(c != nil, err), fmt.Sprint(f != nil, want), max(0, 2*b.m.height-1))
	if c == nil {
		return nil, err
	}
	return &cursor{b, c, f}, err
}

func (c *cursor) pair() (api.Pair, bool, api.Errno) {
	c.t.Helper()
	p, is, err := c.c.Pair()
	want, wantIs, wantErr := c.f.pair()
	c.same("Pair()", fmt.Sprint(tellPair(p), is, err), fmt.Sprint(tellPair(want), wantIs, wantErr), longest)
	return p, is, err
}

// room is how many pages a move may read.
func (c *cursor) room() int {
	if c.f.where == "at" {
		return c.f.m.height - 1
	}
	return c.f.m.height
}

func (c *cursor) next() (bool, api.Errno) {
	c.t.Helper()
	most := c.room()
	is, err := c.c.Next()
	want, wantErr := c.f.next()
	c.same("Next()", fmt.Sprint(is, err), fmt.Sprint(want, wantErr), most)
	return is, err
}

func (c *cursor) prev() (bool, api.Errno) {
	c.t.Helper()
	most := c.room()
	is, err := c.c.Prev()
	want, wantErr := c.f.prev()
	c.same("Prev()", fmt.Sprint(is, err), fmt.Sprint(want, wantErr), most)
	return is, err
}

// samePair tells whether two pairs are the same.
func samePair(a, b api.Pair) bool {
	return bytes.Equal(a.Key, b.Key) && bytes.Equal(a.Value, b.Value)
}
