package cache_test

import (
	"bytes"
	"fmt"
	"hash/crc32"
	"math"
	"slices"
	"strings"
	"testing"

	"coppice/api"
	"coppice/cache"
	"coppice/disk"
	"coppice/page"
)

// noise tells numbers from 0 on, below the one it is given; the same ones for the same seed.
func noise(seed uint64) func(n int) int {
	return func(n int) int {
		seed = seed*6364136223846793005 + 1442695040888963407
		return int((seed >> 33) % uint64(n))
	}
}

// sealed is a body with its sum behind it, zeros between the bytes that are given and the sum.
func sealed(b ...byte) []byte {
	body := append(slices.Clone(b), make([]byte, api.BodySize-len(b))...)
	sum := crc32.ChecksumIEEE(body)
	return append(body, byte(sum), byte(sum>>8), byte(sum>>16), byte(sum>>24))
}

// encoded is a page that may be, as bytes.
func encoded(t *testing.T, p api.Page) []byte {
	t.Helper()
	b, err := page.Encode(p)
	if err != api.OK {
		t.Fatalf("Encode(%s): %d", tell(p), err)
	}
	return b
}

// leafOf is a leaf with one item, unlike those of other texts.
func leafOf(text string) api.Page {
	return api.Page{Kind: api.Leaf, Items: []api.Item{{Key: []byte(text), Value: []byte("of " + text), Size: 3 + len(text)}}}
}

// filled is a disk with n leaves, and the leaves.
func filled(t *testing.T, n int) (*disk.Disk, []api.Page) {
	t.Helper()
	var l []api.Page
	var image []byte
	for i := range n {
		l = append(l, leafOf(fmt.Sprint("leaf ", i)))
		image = append(image, encoded(t, l[i])...)
	}
	return diskOf(t, image), l
}

// diskOf is a disk with these pages, and room for a few more.
func diskOf(t *testing.T, image []byte) *disk.Disk {
	t.Helper()
	d, err := disk.Image(len(image)/api.PageSize+4, image)
	if err != api.OK {
		t.Fatalf("Image of %d bytes: %d", len(image), err)
	}
	return d
}

// numbers are n numbers from a first one on.
func numbers(first, n int) []int {
	l := make([]int, n)
	for i := range l {
		l[i] = first + i
	}
	return l
}

// grain are n bytes, hardly any two neighbours alike.
func grain(n int) []byte {
	b := make([]byte, n)
	for i := range b {
		b[i] = byte(i*7 + i>>8 + 1)
	}
	return b
}

// allKinds are pages of all five kinds, with empty lists, full ones, and items with a value, without one, and with a chain.
func allKinds() []api.Page {
	crowded := api.Page{Kind: api.Leaf}
	for i := range 584 {
		crowded.Items = append(crowded.Items, api.Item{Key: fmt.Appendf(nil, "%03d", i)})
	}
	return []api.Page{
		leafOf("k"),
		{Kind: api.Leaf, Items: []api.Item{
			{Key: []byte("ab")},
			{Key: []byte("abc"), Value: []byte("yz"), Size: 2},
			{Key: []byte("abd"), Size: 600, First: 9},
			{Key: []byte("b"), Value: grain(512), Size: 512},
		}},
		crowded,
		{Kind: api.Branch, Level: 1, Kids: []api.Kid{{No: 2, Keys: 1}}},
		{Kind: api.Branch, Level: 3, Seps: [][]byte{[]byte("ma"), []byte("mb")}, Kids: []api.Kid{{No: 2, Keys: 1}, {No: 3, Keys: 4}, {No: 9, Keys: 300}}},
		{Kind: api.Chain, Data: []byte("abc")},
		{Kind: api.Chain, Next: 7, Data: grain(api.ChainData)},
		{Kind: api.Frees},
		{Kind: api.Frees, List: []int{2, 5, 300}},
		{Kind: api.Frees, Next: 8, List: numbers(9, api.FreesPer)},
		{Kind: api.Meta, Head: api.Head{Version: 258, Count: 300, Root: 7, Height: 2, Keys: 1000, First: 299, Free: 3}},
		{Kind: api.Meta, Head: api.Head{Version: 1, Count: 2}},
	}
}

// spoilt are pages that don't decode, each with its error.
func spoilt(t *testing.T) ([][]byte, []api.Errno) {
	t.Helper()
	turned := encoded(t, leafOf("k"))
	turned[5] ^= 1
	pages := [][]byte{make([]byte, api.PageSize), turned, sealed(0), sealed(6), sealed(1), sealed(2), sealed(3), sealed(4, 1), sealed(5)}
	return pages, []api.Errno{api.ErrSum, api.ErrSum, api.ErrPageKind, api.ErrPageKind, api.ErrLeaf, api.ErrBranch, api.ErrChain, api.ErrFrees, api.ErrMeta}
}

// mixed is the image of a file of all kinds of pages, some of which don't decode.
func mixed(t *testing.T) []byte {
	t.Helper()
	var image []byte
	for _, p := range allKinds() {
		image = append(image, encoded(t, p)...)
	}
	bad, _ := spoilt(t)
	for i, b := range bad {
		at := (2*i + 1) % (len(image) / api.PageSize) * api.PageSize
		image = slices.Insert(image, at, b...)
	}
	return image
}

// same tells whether two pages are the same in all their fields, nil and the empty list being one.
func same(a, b api.Page) bool {
	return a.Kind == b.Kind && a.Level == b.Level && a.Next == b.Next && a.Head == b.Head &&
		slices.EqualFunc(a.Items, b.Items, sameItem) && slices.EqualFunc(a.Seps, b.Seps, bytes.Equal) &&
		slices.Equal(a.Kids, b.Kids) && bytes.Equal(a.Data, b.Data) && slices.Equal(a.List, b.List)
}

func sameItem(a, b api.Item) bool {
	return bytes.Equal(a.Key, b.Key) && bytes.Equal(a.Value, b.Value) && a.Size == b.Size && a.First == b.First
}

// tell is a page in few words.
func tell(p api.Page) string {
	text := fmt.Sprintf("%+v", p)
	if len(text) > 200 {
		text = text[:200] + " .."
	}
	return text
}

// oddNumbers are numbers that no page has.
func oddNumbers() []int {
	return []int{math.MinInt, math.MinInt + 1, -1 << 32, -4096, -2, -1, 1 << 19, 1 << 31, 1 << 32, 1<<32 + 1, math.MaxInt - 1, math.MaxInt}
}

// plain is a cache as a row of numbers, the one that was asked for last first, and of each the page that it holds.
type plain struct {
	frames       int
	row          []int
	kept         []api.Page
	hits, misses int
	reads        int // Reads of the disk that answered OK
}

// take takes a page out of the row; false: it is not there.
func (m *plain) take(no int) (api.Page, bool) {
	i := slices.Index(m.row, no)
	if i < 0 {
		return api.Page{}, false
	}
	p := m.kept[i]
	m.row, m.kept = slices.Delete(m.row, i, i+1), slices.Delete(m.kept, i, i+1)
	return p, true
}

// lay lays a page at the beginning of the row, and cuts the row off behind the frames.
func (m *plain) lay(no int, p api.Page) {
	m.row, m.kept = slices.Insert(m.row, 0, no), slices.Insert(m.kept, 0, p)
	n := min(m.frames, len(m.row))
	m.row, m.kept = m.row[:n], m.kept[:n]
}

// read is Read over a disk; told is what a Read of that disk would answer now.
func (m *plain) read(no int, told []byte, err api.Errno) (api.Page, api.Errno) {
	if p, is := m.take(no); is {
		m.hits++
		m.lay(no, p)
		return p, api.OK
	}
	m.misses++
	if err != api.OK {
		return api.Page{}, err
	}
	m.reads++
	p, err := page.Decode(told)
	if err != api.OK {
		return api.Page{}, err
	}
	m.lay(no, p)
	return p, api.OK
}

// bench is a cache over a disk, and beside it the plain one that should answer the same. The disk has a twin, which the plain one is told of, so that the disk's own Reads are the cache's alone.
type bench struct {
	t       *testing.T
	d, twin *disk.Disk
	c       *cache.Cache
	m       *plain
	calls   []string
}

// newBench is a bench of a cache over a disk with these pages.
func newBench(t *testing.T, image []byte, frames int) *bench {
	t.Helper()
	d := diskOf(t, image)
	c := cache.New(d, frames)
	if c == nil {
		t.Fatalf("New with %d frames: nil", frames)
	}
	return &bench{t: t, d: d, twin: diskOf(t, image), c: c, m: &plain{frames: frames}, calls: []string{fmt.Sprintf("New(%d frames)", frames)}}
}

// anew takes a new cache over the same disk.
func (b *bench) anew() {
	frames := b.m.frames
	b.c, b.m = cache.New(b.d, frames), &plain{frames: frames, reads: b.d.Reads()}
	b.calls = b.calls[:1]
}

// fail ends the test and tells what was done.
func (b *bench) fail(format string, a ...any) {
	b.t.Helper()
	b.t.Fatalf("behind %s: %s", strings.Join(b.calls[max(0, len(b.calls)-40):], ", "), fmt.Sprintf(format, a...))
}

// read asks for a page, and that both tell the same.
func (b *bench) read(no int) (api.Page, api.Errno) {
	b.t.Helper()
	told, diskErr := b.twin.Read(no)
	want, wantErr := b.m.read(no, told, diskErr)
	got, err := b.c.Read(no)
	b.calls = append(b.calls, fmt.Sprintf("Read(%d) = %d", no, err))
	if err != wantErr || !same(got, want) {
		b.fail("%s, %d; not %s, %d", tell(got), err, tell(want), wantErr)
	}
	return got, err
}

// drop drops a page.
func (b *bench) drop(no int) {
	b.calls = append(b.calls, fmt.Sprintf("Drop(%d)", no))
	b.m.take(no)
	b.c.Drop(no)
}

// look asks what is held and counted, that both tell the same, and that the disk has been read as often as it should, and nothing else been done at it.
func (b *bench) look() {
	b.t.Helper()
	hits, misses := b.c.Counts()
	if held := b.c.Held(); !slices.Equal(held, b.m.row) {
		b.fail("held %v, not %v", held, b.m.row)
	}
	if hits != b.m.hits || misses != b.m.misses {
		b.fail("hits %d, misses %d; not %d, %d", hits, misses, b.m.hits, b.m.misses)
	}
	if b.d.Reads() != b.m.reads {
		b.fail("%d Reads of the disk, not %d", b.d.Reads(), b.m.reads)
	}
	if b.d.Done() != b.twin.Done() || b.d.Pages() != b.twin.Pages() || b.d.Power() != b.twin.Power() {
		b.fail("something else was done at the disk")
	}
}

// do does the same with both disks.
func (b *bench) do(name string, f func(d *disk.Disk)) {
	b.calls = append(b.calls, name)
	f(b.d)
	f(b.twin)
}
