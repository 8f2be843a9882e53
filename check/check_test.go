package check_test

import (
	"bytes"
	"fmt"
	"slices"
	"strings"
	"testing"

	"coppice/api"
	"coppice/branch"
	"coppice/crc"
	"coppice/leaf"
)

func TestExamples(t *testing.T) {
	for _, n := range []int{0, 4095, 4096} {
		answers(t, fmt.Sprint(n, " bytes"), make([]byte, n), 0, api.ErrFile)
	}
	answers(t, "two pages of zeros", make([]byte, 8192), 0, api.ErrNoHead)
	formatted := newScene().file(t)
	f := answers(t, "a new file", formatted, 0, api.OK)
	if says := saying(f); says != tellFile(api.Head{Version: 1, Count: 2}, nil, nil, nil) {
		t.Errorf("a new file says %s", says)
	}
	answers(t, "five pages behind it", slices.Concat(formatted, bytes.Repeat([]byte{0xa5}, 5*4096)), 0, api.OK)
	answers(t, "cut to one page", formatted[:4096], 0, api.ErrFile)
	f = one().is(t, "one pair", 0, api.OK)
	want := []api.Node{{No: 2, Pairs: []api.Pair{{Key: []byte("a"), Value: []byte("x")}}, Chains: [][]int{nil}}}
	if says := saying(f); says != tellFile(api.Head{Version: 2, Count: 3, Root: 2, Height: 1, Keys: 1}, want, nil, nil) {
		t.Errorf("one pair: says %s", says)
	}
	s := one()
	s.head().Keys = 2
	s.is(t, "with Keys 2", 0, api.ErrKeys)
	s = one()
	s.head().Height = 2
	s.is(t, "with Height 2", 2, api.ErrDepth)
	s = one()
	s.lay(api.Page{})
	s.is(t, "with Count 4 of 4", 3, api.ErrLoose)
	s = one()
	s.head().Count = 4
	s.is(t, "with Count 4 of 3", 0, api.ErrCount)
	s = one()
	s.pages[0], s.pages[1] = s.pages[1], s.pages[0]
	s.is(t, "in slot 1", 0, api.ErrNoHead)
}

// TestP15_1File: a file is of pages, of two at least.
func TestP15_1File(t *testing.T) {
	file := pair("m", fat("abc"), fat("mno")).file(t)
	for n := range len(file) {
		if n%4096 > 2 && n%4096 < 4094 && n%97 > 0 {
			continue
		}
		want := verdict{0, api.ErrFile}
		if n >= 8192 && n%4096 == 0 {
			want = verdict{1, api.ErrCount}
		}
		if got, _ := asked(t, file[:n:n]); got != want {
			t.Fatalf("%d bytes: %d at %d", n, got.err, got.at)
		}
	}
	answers(t, "whole", file, 0, api.OK)
	answers(t, "a byte more", append(slices.Clone(file), 0), 0, api.ErrFile)
	answers(t, "nil", nil, 0, api.ErrFile)
}

// TestP15_1Head: a slot counts that has a head, and one of a version that is even in slot 0, odd in slot 1.
func TestP15_1Head(t *testing.T) {
	s := newScene()
	for what, p := range map[string]api.Page{
		"zeros": {}, "a leaf": leafOf(fat("a")...), "a branch": {Kind: api.Branch, Level: 1, Kids: []api.Kid{{No: 2, Keys: 1}}}, "data": dataOf(0, 600), "frees": freesOf(0, 2),
	} {
		for _, slots := range [][]api.Page{{{}, p}, {p, {}}, {p, p}} {
			s.pages = slots
			s.is(t, what, 0, api.ErrNoHead)
		}
	}
	s = newScene()
	s.broken = []int{1}
	s.is(t, "a head that is broken", 0, api.ErrNoHead)
	versions := []int{1, 2, 3, 4, 5, 1000, 1001, 1 << 32, 1<<32 + 1, api.MaxVersion - 1, api.MaxVersion}
	for _, v := range versions {
		for _, w := range versions {
			s := newScene()
			s.pages[0] = api.Page{Kind: api.Meta, Head: api.Head{Version: v, Count: 2}}
			s.pages[1] = api.Page{Kind: api.Meta, Head: api.Head{Version: w, Count: 2}}
			what := fmt.Sprintf("versions %d and %d", v, w)
			switch {
			case v%2 != 0 && w%2 != 1:
				s.is(t, what, 0, api.ErrNoHead)
				continue
			case v%2 == 0 && w%2 == 1 && v == w:
				t.Fatal("two heads of one version count")
			}
			want := max((1-v%2)*v, w%2*w)
			if f := s.is(t, what, 0, api.OK); f == nil || f.Head().Version != want {
				t.Errorf("%s: not %d", what, want)
			}
			// Which slot is meant is told by the page of a fault.
			s.pages[0].Head.Count, s.pages[1].Head.Count = 3, 3
			s.is(t, what, want%2, api.ErrCount)
		}
	}
}

// TestP15_1Count: all pages must be there that count, and no more.
func TestP15_1Count(t *testing.T) {
	for _, n := range []int{3, 4, 100, api.MaxPages} {
		s := newScene()
		s.head().Count = n
		s.is(t, "too few pages", 1, api.ErrCount)
		s.inSlot0(6)
		s.is(t, "too few pages, slot 0", 0, api.ErrCount)
	}
}

// TestP15_1Root: the page of the root is met as any other, with no bounds.
func TestP15_1Root(t *testing.T) {
	s := one()
	s.broken = []int{2}
	s.is(t, "a root that is broken", 2, api.ErrSum)
	s = one()
	file := s.file(t)
	copy(file[2*4096:], sealed(9))
	answers(t, "a root of no kind", file, 2, api.ErrPageKind)
	copy(file[2*4096:], sealed(api.Leaf))
	answers(t, "a root that is no leaf", file, 2, api.ErrLeaf)
	copy(file[2*4096:], sealed(api.Branch))
	answers(t, "a root that is no branch", file, 2, api.ErrBranch)
	copy(file[2*4096:], sealed(api.Chain))
	answers(t, "a root that is no data", file, 2, api.ErrChain)
	copy(file[2*4096:], sealed(api.Meta))
	answers(t, "a root that is no head", file, 2, api.ErrMeta)
	for _, key := range []string{"\x00", "\xff", strings.Repeat("\xff", 255)} {
		s := newScene()
		s.root(s.leaf(short(key, 0))).is(t, "any key", 0, api.OK)
	}
}

// sealed is a page that begins with a kind and has nothing else; of kinds that must have something it may not be.
func sealed(kind byte) []byte {
	body := make([]byte, api.BodySize)
	body[0] = kind
	b, _ := crc.Seal(body)
	return b
}

// TestP15_1Depth: a page of another kind, or of another level.
func TestP15_1Depth(t *testing.T) {
	for _, p := range []api.Page{
		{Kind: api.Branch, Level: 1, Kids: []api.Kid{{No: 2, Keys: 1}}}, dataOf(0, 5), freesOf(0), freesOf(0, 7), {Kind: api.Meta, Head: api.Head{Version: 3, Count: 2}},
	} {
		s := one()
		s.pages[2] = p
		s.is(t, "no leaf", 2, api.ErrDepth)
		s = pair("m", fat("abc"), fat("mno"))
		s.pages[3] = p
		s.is(t, "no leaf below a root", 3, api.ErrDepth)
	}
	for _, p := range []api.Page{leafOf(fat("abc")...), dataOf(0, 5), freesOf(0, 7), {Kind: api.Meta, Head: api.Head{Version: 3, Count: 2}}} {
		s := pair("m", fat("abc"), fat("mno"))
		s.pages[4] = p
		s.is(t, "no branch", 4, api.ErrDepth)
		s = deep()
		s.pages[16] = p
		s.is(t, "no branch below a root", 16, api.ErrDepth)
	}
	for height := range api.MaxLevel + 2 {
		if height == 0 || height == 3 {
			continue
		}
		s := deep()
		s.head().Height = height
		s.is(t, fmt.Sprint("height ", height), 17, api.ErrDepth)
	}
	for level := 1; level <= api.MaxLevel; level++ {
		for no, right := range map[int]int{9: 1, 16: 1, 17: 2} {
			if level != right {
				s := deep()
				s.pages[no].Level = level
				s.is(t, fmt.Sprint("level ", level), no, api.ErrDepth)
			}
		}
	}
}

// TestP15_1LeafBounds: the keys of a leaf stand not ahead of the separator at its left, and ahead of the one at its right.
func TestP15_1LeafBounds(t *testing.T) {
	a, b := fat("abc"), fat("mno")
	for sep, want := range map[string]verdict{
		"a": {2, api.ErrBounds}, "b": {2, api.ErrBounds}, "c": {2, api.ErrBounds}, "c\x00": {}, "d": {}, "l\xff": {}, "m": {}, "m\x00": {3, api.ErrBounds}, "n": {3, api.ErrBounds}, "p": {3, api.ErrBounds}, "\x00": {2, api.ErrBounds},
	} {
		pair(sep, a, b).is(t, fmt.Sprintf("%q", sep), want.at, want.err)
	}
	// Only the last key is beyond its bounds, or only the first one.
	pair("m", fat("abm"), fat("mno")).is(t, "the last key", 2, api.ErrBounds)
	pair("m", fat("abc"), fat("lno")).is(t, "the first key", 3, api.ErrBounds)
	pair("m", fat("abc"), fat("abc")).is(t, "all keys", 3, api.ErrBounds)
	pair("m", fat("xyz"), fat("mno")).is(t, "all keys of the first leaf", 2, api.ErrBounds)
}

// TestP15_1BoundsAbove: where a branch has no separator beside a kid, its own bounds are the kid's.
func TestP15_1BoundsAbove(t *testing.T) {
	sep := long('n', 250)
	deep().is(t, "two boughs", 0, api.OK)
	s := deep()
	s.pages[8].Items[2] = short(sep, 500)
	s.is(t, "the last leaf of the first bough", 8, api.ErrBounds)
	s = deep()
	s.pages[8].Items[2] = short("n", 500)
	s.is(t, "ahead of the separator", 0, api.OK)
	s = deep()
	s.pages[10].Items[0] = short(sep[:249], 500)
	s.is(t, "the first leaf of the second bough", 10, api.ErrBounds)
	s = deep()
	s.pages[2].Items[0] = short("\x00", 500)
	s.is(t, "the first leaf of all", 0, api.OK)
	s = deep()
	s.pages[15].Items[2] = short(strings.Repeat("\xff", 255), 500)
	s.is(t, "the last leaf of all", 0, api.OK)
}

// TestP15_1BranchBounds: the separators of a branch stand behind its lower bound and ahead of its upper bound.
func TestP15_1BranchBounds(t *testing.T) {
	sep := long('n', 250)
	for _, first := range []string{sep, sep[:249], "a", "m", "\x00"} {
		s := deep()
		s.pages[16].Seps[0] = []byte(first)
		s.is(t, fmt.Sprintf("%.5q as its first separator", first), 16, api.ErrBounds)
	}
	for _, last := range []string{sep, sep + "\x00", "o", "\xff"} {
		s := deep()
		s.pages[9].Seps[5] = []byte(last)
		s.is(t, fmt.Sprintf("%.5q as its last separator", last), 9, api.ErrBounds)
	}
	s := deep()
	s.pages[16].Seps[0] = []byte(sep + "\x00")
	s.is(t, "a first separator too low for its leaf", 10, api.ErrBounds)
	s = deep()
	s.pages[9].Seps[5] = []byte(sep[:249])
	s.is(t, "a last separator too high for its leaf", 8, api.ErrBounds)
	s = deep()
	for i := range s.pages[16].Seps {
		s.pages[16].Seps[i] = []byte(longs("bcdefg", 250)[i])
	}
	s.is(t, "all separators", 16, api.ErrBounds)
	s = deep()
	for i := range s.pages[9].Seps {
		s.pages[9].Seps[i] = []byte(longs("opqrst", 250)[i])
	}
	s.is(t, "all separators of the first bough", 9, api.ErrBounds)
}

// TestP15_1OneSeparator: a branch of one separator, which is its first and its last one.
func TestP15_1OneSeparator(t *testing.T) {
	n, u := long('n', 250), long('u', 250)
	for sep, err := range map[string]api.Errno{
		"m": api.ErrBounds, n[:249]: api.ErrBounds, n: api.ErrBounds, n + "b": api.OK, "t": api.OK, u: api.ErrBounds, u + "b": api.ErrBounds, "v": api.ErrBounds,
	} {
		s := newScene()
		a := s.bough("A", longs("bcdefghijkl", 250))
		b := s.branch(1, []string{sep}, s.leaf(short(n, 512), short(n+"a", 512), short(n+"aa", 512)), s.leaf(short("t", 512), short("ta", 512), short("tb", 512)))
		c := s.bough(u, longs("vwxyz{|}~\x7f\x80", 250))
		at := 0
		if err != api.OK {
			at = b.No
		}
		s.root(s.branch(2, []string{n, u}, a, b, c)).is(t, fmt.Sprintf("%.5q, %d bytes", sep, len(sep)), at, err)
	}
}

// TestP15_1OneKid: a branch that is not the root may have one kid, whose bounds are its own; the root may not.
func TestP15_1OneKid(t *testing.T) {
	n, u := long('n', 250), long('u', 250)
	build := func(first, last string) *scene {
		s := newScene()
		a := s.bough("A", longs("bcdefghijkl", 250)) // leaves 2 to 13, the bough 14
		b := s.branch(1, nil, s.leaf(short(first, 500), short(last, 500)))
		c := s.bough(u, longs("vwxyz{|}~\x7f\x80", 250))
		return s.root(s.branch(2, []string{n, u}, a, b, c))
	}
	build(n, n+"x").is(t, "one kid", 0, api.OK)
	build(n, "t").is(t, "up to the bound above", 0, api.OK)
	build(n[:249], n+"x").is(t, "ahead of the lower bound above", 15, api.ErrBounds)
	build(n, u).is(t, "behind the upper bound above", 15, api.ErrBounds)
	s := newScene()
	s.root(s.branch(1, nil, s.leaf(fat("abc")...))).is(t, "a root of one leaf", 3, api.ErrThin)
	s = newScene()
	s.root(s.branch(2, nil, s.branch(1, []string{"m"}, s.leaf(fat("abc")...), s.leaf(fat("mno")...))))
	s.is(t, "a root of one branch", 5, api.ErrThin)
	s.pages[4].Kids[1].Keys++
	s.is(t, "what lies below comes first", 4, api.ErrKeys)
}

// TestP15_1Named: each way in which a page is named: outside of what counts, a second time, or broken.
func TestP15_1Named(t *testing.T) {
	base := func() *scene {
		s := deep() // 2 to 17
		s.pages[12].Items[1] = chained(string(s.pages[12].Items[1].Key), 9000, 18)
		s.lay(dataOf(19, 4085))
		s.lay(dataOf(20, 4085))
		s.lay(dataOf(0, 830))
		s.lay(freesOf(0, 22, 23))
		s.lay(api.Page{})
		s.lay(api.Page{})
		return s.frees(21, 2)
	}
	base().is(t, "whole", 0, api.OK)
	for _, way := range []struct {
		what string
		from int // the page that names it
		no   int // the page that is named
		name func(s *scene, no int)
	}{
		{"a branch", 17, 16, func(s *scene, no int) { s.pages[17].Kids[1].No = no }},
		{"a leaf", 16, 13, func(s *scene, no int) { s.pages[16].Kids[3].No = no }},
		{"a chain's first page", 12, 18, func(s *scene, no int) { s.pages[12].Items[1].First = no }},
		{"a chain's second page", 18, 19, func(s *scene, no int) { s.pages[18].Next = no }},
		{"a chain's last page", 19, 20, func(s *scene, no int) { s.pages[19].Next = no }},
		{"the page of frees", 1, 21, func(s *scene, no int) { s.head().First = no }},
	} {
		for _, no := range []int{24, 25, 1000, api.MaxPages - 1} {
			s := base()
			if s.slot == way.from {
				continue // a head may not be that says so
			}
			way.name(s, no)
			s.is(t, fmt.Sprintf("%s is %d", way.what, no), way.from, api.ErrOutside)
		}
		for _, no := range []int{2, 9, 17, 8} { // all of them have been met by then
			s := base()
			way.name(s, no)
			s.is(t, fmt.Sprintf("%s is %d", way.what, no), way.from, api.ErrTwice)
		}
		s := base()
		s.broken = []int{way.no}
		s.is(t, way.what+" is broken", way.no, api.ErrSum)
		s = base()
		s.pages[way.no] = api.Page{}
		s.is(t, way.what+" is zeros", way.no, api.ErrSum)
	}
}

// TestP15_1Itself: a page that names itself, or one above it.
func TestP15_1Itself(t *testing.T) {
	s := newScene()
	s.root(s.branch(1, []string{"m"}, api.Kid{No: 2, Keys: 1}, api.Kid{No: 2, Keys: 1})).is(t, "a root that is its kid", 2, api.ErrTwice)
	s = newScene()
	s.root(s.leaf(chained("a", 600, 2))).is(t, "a leaf that is its chain", 2, api.ErrTwice)
	s = newScene()
	s.root(s.leaf(chained("a", 9000, 3)))
	s.lay(dataOf(3, 4085))
	s.is(t, "data behind itself", 3, api.ErrTwice)
	s.pages[3].Next = 2
	s.is(t, "data ahead of its leaf", 3, api.ErrTwice)
	s = newScene()
	s.root(s.leaf(chained("a", 600, 3), chained("b", 600, 3)))
	s.lay(dataOf(0, 600))
	s.is(t, "one chain of two values", 2, api.ErrTwice)
	s = deep()
	s.pages[9].Kids[3].No = 17
	s.is(t, "the root below a branch", 9, api.ErrTwice)
	s = deep()
	s.pages[16].Kids[0].No = 8
	s.is(t, "a leaf below two branches", 16, api.ErrTwice)
}

// TestP15_1Chain: each page of a chain has as many bytes as belong there, and a next just if more must come.
func TestP15_1Chain(t *testing.T) {
	build := func(size int, data ...int) *scene {
		s := newScene()
		s.root(s.leaf(short("A", 10), chained("k", size, 3), short("z", 512)))
		for i, n := range data {
			next := 0
			if i+1 < len(data) {
				next = len(s.pages) + 1
			}
			s.lay(dataOf(next, n))
		}
		return s
	}
	for size, data := range map[int][]int{
		513: {513}, 4084: {4084}, 4085: {4085}, 4086: {4085, 1}, 8170: {4085, 4085}, 8171: {4085, 4085, 1}, 262144: append(slices.Repeat([]int{4085}, 64), 704),
	} {
		s := build(size, data...)
		f := s.is(t, fmt.Sprint(size), 0, api.OK)
		var want []byte
		for _, p := range s.pages[3:] {
			want = append(want, p.Data...)
		}
		if v, is := f.Tree().Get([]byte("k")); !is || !bytes.Equal(v, want) {
			t.Errorf("%d bytes: %d bytes, %v", size, len(v), is)
		}
		last := len(s.pages) - 1
		if data[len(data)-1] > 1 {
			short := s.copied()
			short.pages[last].Data = short.pages[last].Data[1:]
			short.is(t, fmt.Sprint(size, ", a byte too few"), last, api.ErrLost)
		}
		if data[len(data)-1] < 4085 {
			long := s.copied()
			long.pages[last].Data = append(long.pages[last].Data, 1)
			long.is(t, fmt.Sprint(size, ", a byte too many"), last, api.ErrLost)
		}
	}
	build(4085, 4085, 1).is(t, "a next where none must come", 3, api.ErrLost)
	build(600, 4085, 600).is(t, "too much, and a next", 3, api.ErrLost)
	build(4086, 4085).is(t, "no next where one must come", 3, api.ErrLost)
	build(8171, 4085, 4085).is(t, "no next at the second page", 4, api.ErrLost)
	build(8170, 4085, 4085, 1).is(t, "a next at the second page", 4, api.ErrLost)
	build(5000, 915).is(t, "the rest alone", 3, api.ErrLost)
	build(4086, 4085, 4085).is(t, "more than is left", 4, api.ErrLost)
	for _, p := range []api.Page{leafOf(fat("a")...), {Kind: api.Branch, Level: 1, Kids: []api.Kid{{No: 2, Keys: 1}}}, freesOf(0), freesOf(4, upTo(2, 1023)...), {Kind: api.Meta, Head: api.Head{Version: 9, Count: 2}}} {
		for no := 3; no < 6; no++ {
			s := build(9000, 4085, 4085, 830)
			s.pages[no] = p
			s.is(t, "no page of data", no, api.ErrLost)
		}
	}
	file := build(9000, 4085, 4085, 830).file(t)
	copy(file[4*4096:], sealed(api.Chain))
	answers(t, "data that may not be", file, 4, api.ErrChain)
}

// TestP15_1Items: the chains of a leaf are met item by item.
func TestP15_1Items(t *testing.T) {
	s := newScene()
	s.root(s.leaf(chained("a", 600, 4), short("b", 3), chained("c", 600, 3)))
	s.lay(dataOf(0, 600))
	s.lay(dataOf(0, 600))
	s.is(t, "two chains", 0, api.OK)
	s.broken = []int{3, 4}
	s.is(t, "the first item's comes first", 4, api.ErrSum)
	s.pages[2].Items[2].First = 9
	s.is(t, "ahead of a second one outside", 4, api.ErrSum)
	s.broken = nil
	s.is(t, "the second one outside", 2, api.ErrOutside)
}

// TestP15_1Keys: each branch says how many keys lie below each kid, and the head how many there are.
func TestP15_1Keys(t *testing.T) {
	for _, by := range []int{-1, 1, 100} {
		for no, kids := range map[int]int{9: 7, 16: 6, 17: 2} {
			for i := range kids {
				s := deep()
				s.pages[no].Kids[i].Keys += by
				s.is(t, fmt.Sprintf("kid %d of %d: %d", i, no, by), no, api.ErrKeys)
			}
		}
		s := deep()
		s.head().Keys += by
		s.is(t, "the head", 1, api.ErrKeys)
	}
	s := deep()
	s.pages[9].Kids[0].Keys++
	s.pages[9].Kids[1].Keys--
	s.is(t, "the sum is right", 9, api.ErrKeys)
	s = deep()
	s.pages[17].Kids[0].Keys = 1<<32 - 1
	s.is(t, "very many", 17, api.ErrKeys)
	s = deep()
	s.head().Keys = 1<<32 - 1
	s.is(t, "very many in the head", 1, api.ErrKeys)
}

// TestP15_1KeysBehindEachKid: a wrong number is told ahead of what is amiss at the next kid, behind what is amiss at its own.
func TestP15_1KeysBehindEachKid(t *testing.T) {
	s := pair("m", fat("abc"), fat("mno"))
	s.broken = []int{3}
	s.pages[4].Kids[0].Keys = 9
	s.is(t, "ahead of the next kid", 4, api.ErrKeys)
	s.broken = []int{2}
	s.is(t, "behind its own kid", 2, api.ErrSum)
}

// TestP15_1ThinLeaves: two neighbours can be joined up to just JoinMax bytes.
func TestP15_1ThinLeaves(t *testing.T) {
	for size, err := range map[int]api.Errno{459: api.ErrThin, 460: api.ErrThin, 461: api.OK} {
		a, b := fat("abc"), append(fat("mn"), short("o", size))
		if whole := leaf.Size(append(slices.Clone(a), b...)); (whole <= 3000) != (err != api.OK) {
			t.Fatalf("%d bytes", whole)
		}
		at := 0
		if err != api.OK {
			at = 4
		}
		pair("m", a, b).is(t, fmt.Sprint(size), at, err)
	}
	// Which two neighbours of several it is.
	build := func(sizes ...int) *scene {
		s := newScene()
		var kids []api.Kid
		var seps []string
		for i, n := range sizes {
			letters := "abcdefg"[:n]
			var items []api.Item
			for _, l := range letters {
				items = append(items, short(string(rune('a'+i))+string(l), 500))
			}
			kids = append(kids, s.leaf(items...))
			if i > 0 {
				seps = append(seps, string(rune('a'+i)))
			}
		}
		return s.root(s.branch(1, seps, kids...))
	}
	build(3, 3, 3, 3).is(t, "none", 0, api.OK)
	build(3, 3, 1, 7).is(t, "the second and the third one", 6, api.ErrThin)
	build(1, 3, 7, 1).is(t, "the first two", 6, api.ErrThin)
	build(7, 3, 3, 1).is(t, "the last two", 6, api.ErrThin)
	build(1, 7, 1, 7, 1).is(t, "small ones, but no neighbours", 0, api.OK)
	// A long value counts by its place in the leaf, not by its bytes.
	s := pair("m", append(fat("ab"), chained("c", 100000, 5)), fat("mno"))
	for left := 100000; left > 0; left -= 4085 {
		next := len(s.pages) + 1
		if left <= 4085 {
			next = 0
		}
		s.lay(dataOf(next, min(left, 4085)))
	}
	s.is(t, "a chain", 4, api.ErrThin)
}

// TestP15_1ThinBranches: the same of branches, with the separator between them as it stands.
func TestP15_1ThinBranches(t *testing.T) {
	for n, err := range map[int]api.Errno{60: api.ErrThin, 61: api.ErrThin, 62: api.OK} {
		a, b := longs("bcdef", 250), longs("opqrst", 250)
		middle := long('n', n+33)
		s := newScene()
		s.root(s.branch(2, []string{middle}, s.bough("A", a), s.bough(middle, b)))
		all := slices.Concat(a, []string{middle}, b)
		var l [][]byte
		for _, sep := range all {
			l = append(l, []byte(sep))
		}
		if whole := branch.Size(l); whole != 3000+n-61 {
			t.Fatalf("%d: %d bytes", n, whole)
		}
		at := 0
		if err != api.OK {
			at = s.head().Root
		}
		s.is(t, fmt.Sprint(n), at, err)
	}
	s := newScene()
	a, b, c := s.bough("A", longs("bcd", 250)), s.bough("n", longs("op", 250)), s.bough("r", longs("stuvwxyz{", 250))
	s.root(s.branch(2, []string{"n", "r"}, a, b, c)).is(t, "the first two", s.head().Root, api.ErrThin)
	s = newScene()
	a, b, c = s.bough("A", longs("bcdefghijk", 250)), s.bough("n", longs("op", 250)), s.bough("r", longs("st", 250))
	s.root(s.branch(2, []string{"n", "r"}, a, b, c)).is(t, "the last two", s.head().Root, api.ErrThin)
	// Below a root that is not thin a branch may be.
	s = deep()
	s.pages[3].Items = s.pages[3].Items[:1]
	s.pages[4].Items = s.pages[4].Items[:1]
	s.pages[9].Kids[1].Keys, s.pages[9].Kids[2].Keys = 1, 1
	s.pages[17].Kids[0].Keys -= 4
	s.head().Keys -= 4
	s.is(t, "two leaves below a branch", 9, api.ErrThin)
}

// TestP15_1ThinLast: whether a branch is thin is asked behind all its kids.
func TestP15_1ThinLast(t *testing.T) {
	s := pair("m", fat("ab"), fat("mno"))
	s.is(t, "thin", 4, api.ErrThin)
	s.broken = []int{3}
	s.is(t, "a kid that is broken", 3, api.ErrSum)
	s.broken = nil
	s.pages[4].Kids[1].Keys++
	s.is(t, "the keys of a kid", 4, api.ErrKeys)
	s.pages[4].Kids[1].Keys--
	s.head().Keys++
	s.is(t, "thin ahead of all keys", 4, api.ErrThin)
}
