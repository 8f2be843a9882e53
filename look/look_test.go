package look_test

import (
	"fmt"
	"math"
	"slices"
	"strings"
	"testing"

	"coppice/api"
	"coppice/cache"
	"coppice/disk"
	"coppice/look"
	"coppice/page"
)

// short is an item whose value stands in it.
func short(key, value string) api.Item {
	return api.Item{Key: []byte(key), Value: []byte(value), Size: len(value)}
}

// chained is an item whose value has a chain.
func chained(key string, size, first int) api.Item {
	return api.Item{Key: []byte(key), Size: size, First: first}
}

// leafOf is a leaf.
func leafOf(items ...api.Item) api.Page { return api.Page{Kind: api.Leaf, Items: items} }

// lettersOf is a leaf of keys of one letter each, which are their own values.
func lettersOf(keys string) api.Page {
	p := leafOf()
	for _, k := range strings.Split(keys, "") {
		p.Items = append(p.Items, short(k, k))
	}
	return p
}

// branchOf is a branch whose kids have one key each, by what it says.
func branchOf(level int, seps string, kids ...int) api.Page {
	p := api.Page{Kind: api.Branch, Level: level}
	for _, s := range seps {
		p.Seps = append(p.Seps, []byte(string(s)))
	}
	for _, no := range kids {
		p.Kids = append(p.Kids, api.Kid{No: no, Keys: 1})
	}
	return p
}

// counted is a branch with what it says of its kids' keys.
func counted(p api.Page, keys ...int) api.Page {
	p.Kids = slices.Clone(p.Kids)
	for i, n := range keys {
		p.Kids[i].Keys = n
	}
	return p
}

// dataOf is a page of data.
func dataOf(next, size int) api.Page {
	return api.Page{Kind: api.Chain, Next: next, Data: grain(size, next)}
}

// file is the image of two pages of zeros, and these pages from 2 on; one without a kind is of zeros too.
func file(pages ...api.Page) []byte {
	for i, p := range pages {
		if _, err := page.Encode(p); err != api.OK && p.Kind != 0 {
			panic(fmt.Sprintf("the page %d of a test may not be: %d", 2+i, err))
		}
	}
	return imageOf(append(make([]api.Page, 2), pages...))
}

// examplePages are the pages 2 to 5 of the chapter's examples.
func examplePages() []api.Page {
	return []api.Page{
		leafOf(short("a", "1"), short("c", "3")),
		leafOf(short("e", "5"), chained("g", 600, 5)),
		counted(branchOf(1, "e", 2, 3), 2, 2),
		dataOf(0, 600),
	}
}

// fresh is a look at the tree of an image, through a cache with room for all of it that holds nothing yet; read tells the pages that were read, in their order, and drops them.
func fresh(t *testing.T, image []byte, root, height int) (l *look.Look, read func() []int) {
	t.Helper()
	c := cache.New(diskOf(t, image), api.MaxFrames)
	l = look.New(c, root, height)
	if l == nil {
		t.Fatalf("New(%d, %d): nil", root, height)
	}
	hits := 0
	return l, func() []int {
		t.Helper()
		held := c.Held()
		for _, no := range held {
			c.Drop(no)
		}
		if now, _ := c.Counts(); now != hits {
			t.Errorf("%d pages are read twice", now-hits)
			hits = now
		}
		slices.Reverse(held)
		return held
	}
}

// TestExamples: the chapter's table: the answers, and the pages read.
func TestExamples(t *testing.T) {
	l, read := fresh(t, file(examplePages()...), 4, 2)
	value := tellValue(grain(600, 0))
	want := func(call, got, answer string, pages ...int) {
		t.Helper()
		if l := read(); got != answer || !slices.Equal(l, pages) {
			t.Errorf("%s: %s, pages %v; not %s, pages %v", call, got, l, answer, pages)
		}
	}
	get := func(key, answer string, pages ...int) {
		t.Helper()
		v, is, err := l.Get([]byte(key))
		want("Get "+key, fmt.Sprintf("%s %v %d", tellValue(v), is, err), answer, pages...)
	}
	scan := func(lo, hi string, limit int, answer string, pages ...int) {
		t.Helper()
		p, err := l.Scan([]byte(lo), []byte(hi), limit)
		want("Scan "+lo+" "+hi, fmt.Sprintf("%s%d", tellPairs(p), err), answer, pages...)
	}
	rank := func(key, answer string, pages ...int) {
		t.Helper()
		n, err := l.Rank([]byte(key))
		want("Rank "+key, fmt.Sprintf("%d %d", n, err), answer, pages...)
	}
	nth := func(i int, answer string, pages ...int) {
		t.Helper()
		p, err := l.Nth(i)
		want(fmt.Sprint("Nth ", i), fmt.Sprintf("%s %d", tellPair(p), err), answer, pages...)
	}
	get("c", `"3" true 0`, 4, 2)
	get("d", `"" false 0`, 4, 2)
	get("", `"" false 41`)
	get("g", value+" true 0", 4, 3, 5)
	scan("b", "f", 9, `"c" = "3"; "e" = "5"; 0`, 4, 2, 3)
	scan("", "", 1, `"a" = "1"; 0`, 4, 2)
	scan("x", "", 9, "0", 4, 3)
	scan("c", "c", 9, "0")
	rank("d", "2 0", 4, 2)
	rank("e", "2 0", 4, 3)
	rank("z", "4 0", 4, 3)
	nth(1, `"c" = "3" 0`, 4, 2)
	nth(2, `"e" = "5" 0`, 4, 3)
	nth(4, `"" = "" 110`, 4)
}

// TestExamplesCursor: the table's line of a cursor.
func TestExamplesCursor(t *testing.T) {
	l, read := fresh(t, file(examplePages()...), 4, 2)
	c, err := l.Seek([]byte("d"))
	if pages := read(); c == nil || err != api.OK || !slices.Equal(pages, []int{4, 2, 3}) {
		t.Fatalf("Seek: %v, %d, pages %v", c != nil, err, pages)
	}
	pair := func(key, value string) {
		t.Helper()
		p, is, err := c.Pair()
		if pages := read(); !samePair(p, api.Pair{Key: []byte(key), Value: []byte(value)}) || !is || err != api.OK || len(pages) != 0 {
			t.Errorf("Pair: %s, %v, %d, pages %v", tellPair(p), is, err, pages)
		}
	}
	move := func(name string, f func() (bool, api.Errno), want bool, pages ...int) {
		t.Helper()
		is, err := f()
		if l := read(); is != want || err != api.OK || !slices.Equal(l, pages) {
			t.Errorf("%s: %v, %d, pages %v; not %v, pages %v", name, is, err, l, want, pages)
		}
	}
	pair("e", "5")
	move("Prev", c.Prev, true, 2)
	pair("c", "3")
	move("Prev", c.Prev, true)
	move("Prev", c.Prev, false)
	move("Next", c.Next, true, 4, 2)
	pair("a", "1")
}

// TestExamplesFaults: what stands behind the table.
func TestExamplesFaults(t *testing.T) {
	pages := examplePages()
	get := func(root, height int, key string, want api.Errno, answer string) {
		t.Helper()
		l, _ := fresh(t, file(pages...), root, height)
		if v, is, err := l.Get([]byte(key)); err != want || string(v) != answer || is != (want == api.OK) {
			t.Errorf("New(%d, %d), Get(%q): %q, %v, %d", root, height, key, v, is, err)
		}
	}
	get(4, 3, "c", api.ErrLevel, "")
	get(2, 1, "c", api.OK, "3")
	get(5, 1, "c", api.ErrLevel, "")
	pages[3] = dataOf(0, 599)
	get(4, 2, "g", api.ErrLost, "")
	pages[1] = lettersOf("c")
	l, _ := fresh(t, file(pages...), 4, 2)
	if p, err := l.Scan(nil, nil, 9); err != api.ErrLost || p != nil {
		t.Errorf("Scan: %s, %d", tellPairs(p), err)
	}
}

// TestP14_1New: which roots and heights there are; nothing is read.
func TestP14_1New(t *testing.T) {
	d := diskOf(t, file(examplePages()...))
	c := cache.New(d, 1)
	for _, q := range []struct {
		root, height int
		is           bool
	}{
		{0, 0, true}, {4, 1, true}, {4, 2, true}, {4, 15, true}, {4, 16, true}, {4, 17, false}, {4, 18, false},
		{4, 0, false}, {-4, 0, false}, {math.MaxInt, 0, false}, {math.MinInt, 0, false}, {1, 0, false},
		{0, 1, false}, {0, 16, false}, {0, 17, false}, {0, -1, false}, {0, math.MinInt, false},
		{4, -1, false}, {4, math.MinInt, false}, {4, math.MaxInt, false}, {4, 1<<32 + 1, false},
		{1, 1, true}, {-1, 1, true}, {math.MinInt, 16, true}, {math.MaxInt, 1, true}, {99, 3, true},
	} {
		if l := look.New(c, q.root, q.height); (l != nil) != q.is {
			t.Errorf("New(%d, %d): %v", q.root, q.height, l != nil)
		}
	}
	if hits, misses := c.Counts(); hits+misses != 0 || d.Reads() != 0 || d.Done() != 0 {
		t.Errorf("New has read %d pages", hits+misses)
	}
}

// TestP14_1NoSuchRoot: a root that is no page, one that doesn't decode, and one that is of another kind or level, are errors of the questions.
func TestP14_1NoSuchRoot(t *testing.T) {
	pages := append(examplePages(), api.Page{Kind: api.Frees}, api.Page{Kind: api.Meta, Head: api.Head{Version: 1, Count: 2}}, branchOf(api.MaxLevel, "", 2))
	image := file(pages...)
	for _, q := range []struct {
		root, height int
		want         api.Errno
	}{
		{math.MinInt, 1, api.ErrNoPage}, {-1, 2, api.ErrNoPage}, {9, 1, api.ErrNoPage}, {math.MaxInt, 16, api.ErrNoPage},
		{1, 1, api.ErrSum}, {1, 2, api.ErrSum},
		{2, 2, api.ErrLevel}, {4, 1, api.ErrLevel}, {4, 3, api.ErrLevel}, {4, 16, api.ErrLevel},
		{5, 1, api.ErrLevel}, {5, 2, api.ErrLevel}, {6, 1, api.ErrLevel}, {6, 2, api.ErrLevel}, {7, 1, api.ErrLevel}, {7, 2, api.ErrLevel},
		{8, 16, api.ErrLevel}, {8, 15, api.ErrLevel},
	} {
		b := newBench(t, image, 3, q.root, q.height)
		_, is, err1 := b.get("c")
		l, err2 := b.scan("", "", 9)
		n, err3 := b.rank("c")
		p, err4 := b.nth(0)
		c, err5 := b.seek("c")
		if is || l != nil || n != 0 || p.Key != nil || p.Value != nil || c != nil {
			t.Errorf("New(%d, %d): something is told beside an error", q.root, q.height)
		}
		for i, err := range []api.Errno{err1, err2, err3, err4, err5} {
			if err != q.want {
				t.Errorf("New(%d, %d), question %d: %d, not %d", q.root, q.height, i, err, q.want)
			}
		}
	}
}

// TestHeight0: the empty tree; no page is ever read.
func TestHeight0(t *testing.T) {
	for _, image := range [][]byte{nil, file(examplePages()...)} {
		b := newBench(t, image, 1, 0, 0)
		if v, is, err := b.get("a"); v != nil || is || err != api.OK {
			t.Errorf("Get: %q, %v, %d", v, is, err)
		}
		for _, key := range []string{"", strings.Repeat("k", 256)} {
			if v, is, err := b.get(key); v != nil || is || err != api.ErrSize {
				t.Errorf("Get of %d bytes: %q, %v, %d", len(key), v, is, err)
			}
		}
		if l, err := b.scan("", "", 9); l != nil || err != api.OK {
			t.Errorf("Scan: %s, %d", tellPairs(l), err)
		}
		if n, err := b.rank("z"); n != 0 || err != api.OK {
			t.Errorf("Rank: %d, %d", n, err)
		}
		for _, i := range []int{0, -1, 1, math.MinInt, math.MaxInt} {
			if p, err := b.nth(i); p.Key != nil || p.Value != nil || err != api.ErrIndex {
				t.Errorf("Nth(%d): %s, %d", i, tellPair(p), err)
			}
		}
		c, err := b.seek("a")
		if c == nil || err != api.OK {
			t.Fatalf("Seek: %d", err)
		}
		for i, move := range []func() (bool, api.Errno){c.next, c.prev, c.prev, c.next, c.next, c.prev} {
			if is, err := move(); is || err != api.OK {
				t.Errorf("move %d: %v, %d", i, is, err)
			}
			if p, is, err := c.pair(); p.Key != nil || p.Value != nil || is || err != api.OK {
				t.Errorf("Pair behind move %d: %s, %v, %d", i, tellPair(p), is, err)
			}
		}
		if hits, misses := b.c.Counts(); hits+misses != 0 {
			t.Errorf("%d pages are read", hits+misses)
		}
	}
}

// TestP14_2Size: the length of a key is judged ahead of all else.
func TestP14_2Size(t *testing.T) {
	long := strings.Repeat("k", 255)
	image := file(leafOf(short("k", "1"), short(long, "2")), branchOf(1, "", 2))
	b := newBench(t, image, 1, 2, 1)
	for key, want := range map[string]api.Errno{"": api.ErrSize, "k": api.OK, long: api.OK, long + "k": api.ErrSize, strings.Repeat("k", 70000): api.ErrSize} {
		if _, is, err := b.get(key); err != want || is != (want == api.OK) {
			t.Errorf("Get of %d bytes: %v, %d", len(key), is, err)
		}
	}
	if _, _, err := b.l.Get(nil); err != api.ErrSize {
		t.Errorf("Get(nil): %d", err)
	}
	b.turnTo(99, 1) // no such page: it is not read
	if _, _, err := b.get(""); err != api.ErrSize {
		t.Errorf("Get: %d", err)
	}
}

// TestP14_2Way: at a separator the way goes behind it, right ahead of it to the kid at its left; a key that stands in another leaf than the separators say is not found.
func TestP14_2Way(t *testing.T) {
	image := file(lettersOf("ax"), lettersOf("dm"), lettersOf("bmy"), branchOf(1, "dm", 2, 3, 4))
	b := newBench(t, image, 4, 5, 2)
	for key, want := range map[string]bool{"a": true, "x": false, "d": true, "cz": false, "m": true, "b": false, "y": true, "z": false, "c": false, "l": false} {
		if v, is, err := b.get(key); is != want || err != api.OK || want && string(v) != key {
			t.Errorf("Get(%q): %q, %v, %d", key, v, is, err)
		}
	}
}

// TestP14_2Values: values that stand in their item, and chains, up to the longest one.
func TestP14_2Values(t *testing.T) {
	t.Parallel()
	w := &wood{pages: make([]api.Page, 2), height: 1}
	p := leafOf()
	for i, size := range []int{0, 1, 511, 512, 513, 4084, 4085, 4086, 8170, 8171, 262143, 262144} {
		p.Items = append(p.Items, w.item(fmt.Sprintf("%02d", i), grain(size, i)))
	}
	w.root = w.lay(p)
	b := newBench(t, w.image(), 1, w.root, 1)
	for i, q := range w.pairs {
		before := b.d.Reads()
		if v, is, err := b.get(string(q.Key)); !samePair(api.Pair{Key: q.Key, Value: v}, q) || !is || err != api.OK {
			t.Errorf("Get of %d bytes: %d bytes, %v, %d", len(q.Value), len(v), is, err)
		}
		if n := b.d.Reads() - before; n > 66 {
			t.Errorf("Get of %d bytes reads %d pages", len(q.Value), n)
		}
		if got, err := b.nth(i); !samePair(got, q) || err != api.OK {
			t.Errorf("Nth(%d): %s, %d", i, tellPair(got), err)
		}
	}
	if l, err := b.scan("", "", 99); !slices.EqualFunc(l, w.pairs, samePair) || err != api.OK {
		t.Errorf("Scan: %d pairs, %d", len(l), err)
	}
}

// TestChains: all that may be wrong with a chain; every question that tells values answers ErrLost, or the page's error.
func TestChains(t *testing.T) {
	full := func(next int) api.Page { return dataOf(next, api.ChainData) }
	for name, q := range map[string]struct {
		size  int
		want  api.Errno
		pages []api.Page // from 3 on
	}{
		"one page":                   {600, api.OK, []api.Page{dataOf(0, 600)}},
		"a byte too few":             {601, api.ErrLost, []api.Page{dataOf(0, 600)}},
		"a byte too many":            {599, api.ErrLost, []api.Page{dataOf(0, 600)}},
		"a full page":                {4085, api.OK, []api.Page{full(0)}},
		"a next too many":            {4085, api.ErrLost, []api.Page{full(4), dataOf(0, 1)}},
		"a next that is itself":      {4085, api.ErrLost, []api.Page{full(3)}},
		"no next":                    {4086, api.ErrLost, []api.Page{full(0), dataOf(0, 1)}},
		"not full, and no next":      {4086, api.ErrLost, []api.Page{dataOf(0, 1), dataOf(0, 1)}},
		"two pages":                  {4086, api.OK, []api.Page{full(4), dataOf(0, 1)}},
		"two pages, the last first":  {4087, api.OK, []api.Page{full(5), {}, dataOf(0, 2)}},
		"the second a byte too few":  {4087, api.ErrLost, []api.Page{full(4), dataOf(0, 1)}},
		"the second a byte too many": {4086, api.ErrLost, []api.Page{full(4), dataOf(0, 2)}},
		"two full pages":             {8170, api.OK, []api.Page{full(4), full(0)}},
		"the same page twice":        {8170, api.ErrLost, []api.Page{full(3)}},
		"a third page":               {8170, api.ErrLost, []api.Page{full(4), full(5), dataOf(0, 1)}},
		"a round":                    {262144, api.ErrLost, []api.Page{full(4), full(3)}},
		"a leaf":                     {513, api.ErrLost, []api.Page{lettersOf("a")}},
		"its own leaf":               {8170, api.ErrLost, []api.Page{full(2)}},
		"a branch":                   {513, api.ErrLost, []api.Page{branchOf(1, "", 2)}},
		"frees":                      {513, api.ErrLost, []api.Page{{Kind: api.Frees}}},
		"frees with a next":          {4086, api.ErrLost, []api.Page{{Kind: api.Frees, Next: 4, List: numbers(5, api.FreesPer)}, dataOf(0, 1)}},
		"a head":                     {513, api.ErrLost, []api.Page{{Kind: api.Meta, Head: api.Head{Version: 1, Count: 2}}}},
		"zeros":                      {513, api.ErrSum, []api.Page{{}}},
		"zeros behind a full page":   {4086, api.ErrSum, []api.Page{full(4), {}}},
		"no page":                    {513, api.ErrNoPage, nil},
		"no page behind a full page": {4086, api.ErrNoPage, []api.Page{full(4)}},
		"no next ahead of no page":   {8171, api.ErrLost, []api.Page{full(4), full(0)}},
	} {
		t.Run(name, func(t *testing.T) {
			image := file(append([]api.Page{leafOf(short("a", "1"), chained("k", q.size, 3))}, q.pages...)...)
			b := newBench(t, image, 2, 2, 1)
			_, is, err1 := b.get("k")
			l, err2 := b.scan("", "", 9)
			p, err3 := b.nth(1)
			c, _ := b.seek("k")
			_, at, err4 := c.pair()
			for i, err := range []api.Errno{err1, err2, err3, err4} {
				if err != q.want {
					t.Errorf("question %d: %d, not %d", i, err, q.want)
				}
			}
			if ok := q.want == api.OK; is != ok || at != ok || (l != nil) != ok || (p.Key != nil) != ok {
				t.Error("something is told beside an error")
			}
			if n, err := b.rank("l"); n != 2 || err != api.OK {
				t.Errorf("Rank reads no chain: %d, %d", n, err)
			}
			if l, err := b.scan("", "k", 9); len(l) != 1 || err != api.OK {
				t.Errorf("Scan up to it: %s, %d", tellPairs(l), err)
			}
			if l, err := b.scan("", "", 1); len(l) != 1 || err != api.OK {
				t.Errorf("Scan of one pair: %s, %d", tellPairs(l), err)
			}
		})
	}
}

// numbers are n numbers from a first one on.
func numbers(first, n int) []int {
	l := make([]int, n)
	for i := range l {
		l[i] = first + i
	}
	return l
}

// nine is a tree of height 3 with the letters a to i, in leaves of 1 to 3.
func nine() []byte {
	return file(
		lettersOf("ab"), lettersOf("c"), lettersOf("def"), lettersOf("g"), lettersOf("hi"), // 2 to 6
		counted(branchOf(1, "c", 2, 3), 2, 1), counted(branchOf(1, "", 4), 3), counted(branchOf(1, "h", 5, 6), 1, 2), // 7 to 9
		counted(branchOf(2, "dg", 7, 8, 9), 3, 3, 3), // 10
	)
}

// TestP14_3All: every span of the letters, and every limit.
func TestP14_3All(t *testing.T) {
	t.Parallel()
	b := newBench(t, nine(), 3, 10, 3)
	ends := []string{"", "a", "aa", "b", "bb", "c", "cc", "d", "dd", "e", "f", "ff", "g", "gg", "h", "i", "ii", "z", strings.Repeat("c", 300)}
	for _, lo := range ends {
		for _, hi := range ends {
			for _, limit := range []int{math.MinInt, -1, 0, 1, 2, 3, 4, 8, 9, 10, math.MaxInt} {
				var want []api.Pair
				for _, k := range strings.Split("abcdefghi", "") {
					if k >= lo && (hi == "" || k < hi) && len(want) < limit {
						want = append(want, api.Pair{Key: []byte(k), Value: []byte(k)})
					}
				}
				if l, err := b.scan(lo, hi, limit); !slices.EqualFunc(l, want, samePair) || err != api.OK {
					t.Fatalf("Scan(%q, %q, %d): %s, %d", lo, hi, limit, tellPairs(l), err)
				}
			}
		}
	}
}

// TestP14_3NothingRead: where nothing can be told no page is read, whatever the root is.
func TestP14_3NothingRead(t *testing.T) {
	b := newBench(t, nine(), 3, 99, 3)
	for _, q := range []struct {
		lo, hi string
		limit  int
	}{{"", "", 0}, {"", "", -1}, {"a", "", math.MinInt}, {"c", "c", 9}, {"c", "b", 9}, {"cc", "c", 9}, {"c", "\x00", 9}} {
		if l, err := b.scan(q.lo, q.hi, q.limit); l != nil || err != api.OK {
			t.Errorf("Scan(%q, %q, %d): %s, %d", q.lo, q.hi, q.limit, tellPairs(l), err)
		}
	}
	for _, q := range []struct{ lo, hi string }{{"c", "ca"}, {"c", "c\x00"}, {"", "\x00"}, {"c", ""}} {
		if _, err := b.scan(q.lo, q.hi, 1); err != api.ErrNoPage {
			t.Errorf("Scan(%q, %q, 1): %d", q.lo, q.hi, err)
		}
	}
}

// TestP14_3Ends: pages behind the end of a Scan are not read, so nothing that is wrong with them is told; what is wrong ahead of it is.
func TestP14_3Ends(t *testing.T) {
	pages := []api.Page{lettersOf("ab"), lettersOf("cd"), {}, leafOf(short("g", "g"), chained("h", 600, 4), short("i", "i")), branchOf(1, "ceg", 2, 3, 4, 5)}
	b := newBench(t, file(pages...), 2, 6, 2)
	for _, q := range []struct {
		lo, hi string
		limit  int
		keys   string
		err    api.Errno
	}{
		{"", "", 4, "abcd", api.OK}, {"", "", 5, "", api.ErrSum}, {"", "d", 5, "abc", api.OK}, {"", "dd", 5, "", api.ErrSum},
		{"", "d", 4, "abc", api.OK}, {"a", "cc", 9, "abc", api.OK}, {"dd", "e", 9, "", api.ErrSum}, {"e", "f", 9, "", api.ErrSum},
		{"g", "h", 9, "g", api.OK}, {"g", "", 1, "g", api.OK}, {"g", "", 2, "", api.ErrSum}, {"h", "hh", 1, "", api.ErrSum},
		{"i", "", 9, "i", api.OK}, {"hh", "", 9, "i", api.OK}, {"z", "", 9, "", api.OK},
	} {
		l, err := b.scan(q.lo, q.hi, q.limit)
		keys := ""
		for _, p := range l {
			keys += string(p.Key)
		}
		if keys != q.keys || err != q.err {
			t.Errorf("Scan(%q, %q, %d): %q, %d", q.lo, q.hi, q.limit, keys, err)
		}
	}
}

// TestP14_3Lost: leaves whose keys don't rise from one to the next.
func TestP14_3Lost(t *testing.T) {
	for _, q := range []struct {
		first, second string
		lost          bool
	}{{"ab", "c", false}, {"ab", "b", true}, {"ab", "bc", true}, {"ac", "bd", true}, {"ac", "b", true}, {"b", "a", true}} {
		b := newBench(t, file(lettersOf(q.first), lettersOf(q.second), branchOf(1, "m", 2, 3)), 2, 4, 2)
		if _, err := b.scan("", "", 9); (err == api.ErrLost) != q.lost {
			t.Errorf("Scan of %s and %s: %d", q.first, q.second, err)
		}
		if l, err := b.scan("", "", len(q.first)); len(l) != len(q.first) || err != api.OK {
			t.Errorf("Scan of %s alone: %d", q.first, err)
		}
		if _, err := b.seek("k"); (err == api.ErrLost) != q.lost {
			t.Errorf("Seek beyond %s, to %s: %d", q.first, q.second, err)
		}
		c, _ := b.seek("a")
		for range len(q.first) - 1 {
			c.next()
		}
		if is, err := c.next(); (err == api.ErrLost) != q.lost || is == q.lost {
			t.Errorf("Next from %s to %s: %v, %d", q.first, q.second, is, err)
		}
		c, _ = b.seek("m")
		for range len(q.second) {
			c.prev()
		}
		if is, err := c.prev(); (err == api.ErrLost) != q.lost || is == q.lost {
			t.Errorf("Prev from %s to %s: %v, %d", q.second, q.first, is, err)
		}
	}
}

// TestP14_4Rank: what the branches say is summed up, right or wrong, to the greatest numbers that there may be.
func TestP14_4Rank(t *testing.T) {
	const most = 1<<32 - 1
	image := file(
		lettersOf("bd"), lettersOf("fh"), lettersOf("jl"), // 2 to 4
		counted(branchOf(1, "ej", 2, 3, 4), 7, most, most), // 5
		counted(branchOf(2, "bz", 5, 5, 5), most, most, 1), // 6
	)
	b := newBench(t, image, 2, 5, 2)
	for key, want := range map[string]int{"": 0, "a": 0, "b": 0, "c": 1, "d": 1, "dz": 2, "e": 7, "f": 7, "g": 8, "i": 9, "j": 7 + most, "k": 8 + most, "z": 9 + most, strings.Repeat("z", 999): 9 + most} {
		if n, err := b.rank(key); n != want || err != api.OK {
			t.Errorf("Rank(%q): %d, %d; not %d", key, n, err, want)
		}
	}
	b.turnTo(6, 3)
	for key, want := range map[string]int{"a": 0, "b": most, "k": most + 8 + most, "z": 2*most + 9 + most} {
		if n, err := b.rank(key); n != want || err != api.OK {
			t.Errorf("Rank(%q): %d, %d; not %d", key, n, err, want)
		}
	}
}

// TestP14_5Nth: every number of a tree that says the truth.
func TestP14_5Nth(t *testing.T) {
	b := newBench(t, nine(), 2, 10, 3)
	for i, k := range strings.Split("abcdefghi", "") {
		if p, err := b.nth(i); string(p.Key) != k || string(p.Value) != k || err != api.OK {
			t.Errorf("Nth(%d): %s, %d", i, tellPair(p), err)
		}
	}
	for _, i := range []int{math.MinInt, -1 << 32, -2, -1, 9, 10, 1 << 32, math.MaxInt} {
		before := b.misses + b.hits
		if p, err := b.nth(i); p.Key != nil || p.Value != nil || err != api.ErrIndex || b.misses+b.hits != before+1 {
			t.Errorf("Nth(%d): %s, %d, %d pages read", i, tellPair(p), err, b.misses+b.hits-before)
		}
	}
	b.turnTo(4, 1) // a leaf of three
	for i, want := range map[int]api.Errno{-1: api.ErrIndex, 0: api.OK, 2: api.OK, 3: api.ErrIndex, math.MaxInt: api.ErrIndex, math.MinInt: api.ErrIndex} {
		if _, err := b.nth(i); err != want {
			t.Errorf("Nth(%d) of a leaf: %d", i, err)
		}
	}
}

// TestP14_5Lost: branches that say more than there is, or less.
func TestP14_5Lost(t *testing.T) {
	image := file(
		lettersOf("ab"), lettersOf("cd"), lettersOf("ef"), lettersOf("gh"), // 2 to 5
		counted(branchOf(1, "c", 2, 3), 3, 1), counted(branchOf(1, "g", 4, 5), 1, 2), // 6, 7
		counted(branchOf(2, "e", 6, 7), 6, 1<<32-1), // 8
	)
	b := newBench(t, image, 2, 8, 3)
	for i, want := range []string{"a", "b", "", "c", "", "", "e", "g", "h", "", ""} { // of 6 the first says 3 and has 2; 4 and 5 are beyond what the first branch says
		p, err := b.nth(i)
		if string(p.Key) != want || (err == api.ErrLost) != (want == "") {
			t.Errorf("Nth(%d): %s, %d", i, tellPair(p), err)
		}
	}
	for i, want := range map[int]api.Errno{1<<32 + 4: api.ErrLost, 1<<32 + 5: api.ErrIndex, -1: api.ErrIndex} {
		if _, err := b.nth(i); err != want {
			t.Errorf("Nth(%d): %d", i, err)
		}
	}
}

// TestErrorsOnTheWay: a page that can't be read, or is none of its level, anywhere on the way.
func TestErrorsOnTheWay(t *testing.T) {
	good := []api.Page{lettersOf("ab"), lettersOf("cd"), branchOf(1, "c", 2, 3), branchOf(2, "m", 4, 4)} // 2 to 5
	for _, q := range []struct {
		no   int
		page api.Page
		want api.Errno
	}{
		{2, api.Page{}, api.ErrSum}, {4, api.Page{}, api.ErrSum}, {5, api.Page{}, api.ErrSum},
		{2, branchOf(1, "", 3), api.ErrLevel}, {2, dataOf(0, 1), api.ErrLevel}, {2, api.Page{Kind: api.Frees}, api.ErrLevel},
		{4, branchOf(2, "c", 2, 3), api.ErrLevel}, {4, branchOf(3, "c", 2, 3), api.ErrLevel}, {4, lettersOf("ab"), api.ErrLevel}, {4, dataOf(0, 1), api.ErrLevel},
		{5, branchOf(1, "m", 4, 4), api.ErrLevel}, {5, branchOf(3, "m", 4, 4), api.ErrLevel}, {5, branchOf(2, "m", 5, 5), api.ErrLevel},
		{5, branchOf(2, "m", 77, 4), api.ErrNoPage}, {4, branchOf(1, "c", 77, 3), api.ErrNoPage},
	} {
		pages := slices.Clone(good)
		pages[q.no-2] = q.page
		b := newBench(t, file(pages...), 9, 5, 3)
		_, _, err1 := b.get("a")
		_, err2 := b.scan("a", "b", 1)
		_, err3 := b.rank("")
		_, err4 := b.nth(0)
		_, err5 := b.seek("a")
		for i, err := range []api.Errno{err1, err2, err3, err4, err5} {
			if err != q.want {
				t.Errorf("page %d of kind %d, question %d: %d, not %d", q.no, q.page.Kind, i, err, q.want)
			}
		}
	}
}

// TestPower: with the power off what is not held can't be read.
func TestPower(t *testing.T) {
	d := diskOf(t, nine())
	c := cache.New(d, 9)
	l := look.New(c, 10, 3)
	if _, is, err := l.Get([]byte("c")); !is || err != api.OK {
		t.Fatalf("Get: %v, %d", is, err)
	}
	d.Arm(1)
	d.Sync()
	if v, is, err := l.Get([]byte("c")); string(v) != "c" || !is || err != api.OK {
		t.Errorf("Get of what is held: %q, %v, %d", v, is, err)
	}
	if v, is, err := l.Get([]byte("a")); v != nil || is || err != api.ErrPower {
		t.Errorf("Get: %q, %v, %d", v, is, err)
	}
	if p, err := l.Scan([]byte("c"), nil, 1); len(p) != 1 || err != api.OK {
		t.Errorf("Scan of what is held: %s, %d", tellPairs(p), err)
	}
	if p, err := l.Scan([]byte("c"), nil, 2); p != nil || err != api.ErrPower {
		t.Errorf("Scan: %s, %d", tellPairs(p), err)
	}
	if n, err := l.Rank([]byte("d")); n != 0 || err != api.ErrPower {
		t.Errorf("Rank: %d, %d", n, err)
	}
	if p, err := l.Nth(8); p.Key != nil || err != api.ErrPower {
		t.Errorf("Nth: %s, %d", tellPair(p), err)
	}
	if x, err := l.Seek([]byte("cc")); x != nil || err != api.ErrPower {
		t.Errorf("Seek: %v, %d", x != nil, err)
	}
}

// TestEmptyDisk: a disk of no page.
func TestEmptyDisk(t *testing.T) {
	l := look.New(cache.New(disk.New(2), 1), 2, 1)
	if _, _, err := l.Get([]byte("a")); err != api.ErrNoPage {
		t.Errorf("Get: %d", err)
	}
	if _, err := l.Nth(-1); err != api.ErrNoPage {
		t.Errorf("Nth: the root is read first: %d", err)
	}
}
