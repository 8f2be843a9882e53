package explore_test

import (
	"bytes"
	"fmt"
	"testing"

	"coppice/api"
	"coppice/page"
)

// atVersion is a file of no pair that has come to a version.
func atVersion(t *testing.T, version int) []byte {
	t.Helper()
	head, err := page.Encode(api.Page{Kind: api.Meta, Head: api.Head{Version: version, Count: 2}})
	if err != api.OK {
		t.Fatalf("Encode: the error %d", err)
	}
	blank := make([]byte, 4096)
	if version%2 == 1 {
		return append(blank, head...)
	}
	return append(head, blank...)
}

// TestP25_3Tears: at most 4 of them, each 1 to 4095.
func TestP25_3Tears(t *testing.T) {
	b := formatted(t)
	l := []api.Change{put("a", nil)}
	for _, tears := range [][]int{
		{0}, {-1}, {4096}, {4097}, {-9223372036854775808}, {9223372036854775807},
		{1, 2, 3, 0}, {1, 4096, 2}, {0, 1}, {1, 2, 3, 4, 5}, {7, 7, 7, 7, 7}, {0, 0, 0, 0, 0}, make([]int, 100000),
	} {
		fails(t, fmt.Sprint(tears[:min(len(tears), 9)]), b, 10, l, tears, 250)
		fails(t, "no change", b, 10, nil, tears, 250)
	}
	for _, tears := range [][]int{{}, {1}, {4095}, {4095, 1}, {1, 1, 1, 1}} {
		if got := asked(b, 10, l, tears); got.err != api.OK || got.all == 0 {
			t.Errorf("torn at %v: %v", tears, got)
		}
	}
}

// TestP25_3Image: where there is no such disk.
func TestP25_3Image(t *testing.T) {
	b := formatted(t)
	for _, room := range []int{1, 0, -1, -9223372036854775808, 524288, 9223372036854775807} {
		fails(t, fmt.Sprint("room ", room), b, room, nil, nil, 120)
	}
	fails(t, "more pages than room", append(bytes.Clone(b), make([]byte, 4096)...), 2, nil, nil, 120)
	fails(t, "no whole pages", b[:8191], 10, nil, nil, 120)
	fails(t, "a byte more", append(bytes.Clone(b), 0), 10, nil, nil, 120)
	is(t, "as many pages as room", b, 2, nil, nil, answer{})
}

// TestP25_3Open: where the file is refused, and why.
func TestP25_3Open(t *testing.T) {
	b := grown(t, []api.Change{put("a", []byte("x"))}, []api.Change{put("a", []byte("y"))})
	l := []api.Change{put("a", nil)}
	fails(t, "no page", nil, 10, l, nil, 150)
	fails(t, "one page", b[:4096], 10, l, nil, 150)
	fails(t, "no head", make([]byte, 3*4096), 10, l, nil, 151)
	for no := range len(b) / 4096 {
		for at := 0; at < 4096; at += 501 {
			rotten := bytes.Clone(b)
			rotten[no*4096+at] ^= 4
			_, _, err := begin(rotten, 10)
			if got := asked(rotten, 10, l, nil); got.err != err || err != api.OK && got != (answer{err: err}) {
				t.Errorf("the byte %d of page %d: %v, though Open tells %d", at, no, got, err)
			}
		}
	}
}

// TestP25_3Change: where a change can't be done.
func TestP25_3Change(t *testing.T) {
	b := grown(t, []api.Change{put("a", []byte("x"))})
	long := string(fill(256, 1))
	for i, c := range []api.Change{
		put("", nil), put("", []byte("x")), put(long, nil), put("b", fill(262145, 1)),
		gone(""), gone(long), {Value: []byte("x"), Gone: true},
	} {
		what := fmt.Sprint("change ", i)
		fails(t, what, b, 200, []api.Change{c}, nil, 41)
		fails(t, what+", the last", b, 200, []api.Change{put("b", nil), gone("a"), c}, []int{9}, 41)
		fails(t, what+", the first", b, 200, []api.Change{c, put("b", nil), gone("a")}, nil, 41)
	}
	edge := []api.Change{put(long[:255], nil), gone(long[:255]), put("b", fill(262144, 1)), gone("b"), put("c", nil), gone("c")}
	if got := asked(b, 200, edge, nil); got.err != api.OK {
		t.Errorf("the longest key and the longest value: %v", got)
	}
}

// TestP25_3Commit: where the Commit is refused, though the power is on.
func TestP25_3Commit(t *testing.T) {
	b := formatted(t)
	fails(t, "no room", b, 2, []api.Change{put("a", nil)}, nil, 170)
	fails(t, "no room for a chain", b, 4, []api.Change{put("a", fill(5000, 1))}, []int{1}, 170)
	last := atVersion(t, 1<<62)
	fails(t, "the last version", last, 10, []api.Change{put("a", nil)}, nil, 181)
	is(t, "the last version, nothing new", last, 10, []api.Change{gone("a")}, nil, answer{})
	is(t, "the last but one", atVersion(t, 1<<62-1), 10, []api.Change{put("a", nil)}, nil, answer{all: 14, old: 12, fresh: 2})
}

// TestP25_3Ways: at most 4096 of them at each Write and Sync.
func TestP25_3Ways(t *testing.T) {
	t.Parallel()
	b := formatted(t)
	// A chain of n pages and its leaf: n + 2 writes pend at the first Sync.
	chain := func(n int) []api.Change { return []api.Change{put("a", fill(4085*n, n))} }
	for _, x := range []struct {
		pages, tears int
		want         answer
	}{
		{10, 0, answer{all: 8190 + 4096 + 4, old: 12288, fresh: 2}},
		{11, 0, answer{err: 251}},
		{5, 1, answer{all: 3279 + 2187 + 6, old: 5470, fresh: 2}},
		{6, 1, answer{err: 251}},
		{4, 2, answer{all: 5460 + 4096 + 8, old: 9562, fresh: 2}},
		{5, 2, answer{err: 251}},
		{3, 3, answer{all: 3905 + 3125 + 10, old: 7038, fresh: 2}},
		{4, 3, answer{err: 251}},
		{2, 4, answer{all: 1554 + 1296 + 12, old: 2860, fresh: 2}},
		{3, 4, answer{err: 251}},
		{64, 0, answer{err: 251}},
		{64, 4, answer{err: 251}},
	} {
		t.Run(fmt.Sprint(x.pages, " pages, ", x.tears, " tears"), func(t *testing.T) {
			t.Parallel()
			is(t, "a chain", b, 100, chain(x.pages), []int{1, 10, 100, 1000}[:x.tears], x.want)
		})
	}
	var many []api.Change
	for i := range 3000 {
		many = append(many, put(fmt.Sprint(i), fill(500, i)))
	}
	fails(t, "hundreds of writes", b, 2000, many, nil, 251)
}

// TestP25_3Order: of several errors the first one is told.
func TestP25_3Order(t *testing.T) {
	b := formatted(t)
	wrong := []api.Change{put("a", fill(200000, 1)), put("", nil)} // the second one can't be done, and there is no room for the first
	wide := wrong[:1]                                              // no room for it; were there some, too many ways
	tears, fine := []int{1, 2, 3, 0}, []int{1, 2, 3}
	fails(t, "tears, room, file, change", b[:100], 1, wrong, tears, 250)
	fails(t, "tears, room", b, 1, nil, tears, 250)
	fails(t, "tears, file", b[:4096], 10, wrong, tears, 250)
	fails(t, "tears, change", b, 10, wrong, tears, 250)
	fails(t, "tears, commit", b, 10, wide, tears, 250)
	fails(t, "tears, ways", b, 100, wide, tears, 250)
	fails(t, "room, file, change", b[:4096], 1, wrong, fine, 120)
	fails(t, "room, change", b, 1, wrong, fine, 120)
	fails(t, "file, change", b[:4096], 10, wrong, fine, 150)
	fails(t, "no head, change", make([]byte, 8192), 10, wrong, fine, 151)
	fails(t, "file, commit", b[:4096], 2, wide, fine, 150)
	fails(t, "change, commit, ways", b, 10, wrong, fine, 41)
	fails(t, "commit, ways", b, 10, wide, fine, 170)
	fails(t, "version, ways", atVersion(t, 1<<62), 100, wide, fine, 181)
	fails(t, "ways", b, 100, wide, fine, 251)
}
