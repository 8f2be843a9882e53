package check_test

import (
	"bytes"
	"fmt"
	"slices"
	"testing"

	"coppice/api"
	"coppice/check"
	"coppice/tree"
)

// holdsTogether asks of an accepted file that its tree is sound, and that each of its numbers is used just once.
func holdsTogether(t *testing.T, what string, f *check.File) {
	t.Helper()
	x, err := tree.Build(f.Tree().Nodes())
	if err != api.OK || tellNodes(x.Nodes()) != tellNodes(f.Tree().Nodes()) {
		t.Fatalf("%s: the tree is not sound: %d", what, err)
	}
	h := f.Head()
	all := slices.Concat(f.Tree().Numbers(), f.Lists(), f.Free())
	slices.Sort(all)
	if !slices.Equal(all, upTo(2, h.Count)) {
		t.Fatalf("%s: of %d pages these are used: %v", what, h.Count, all)
	}
	if f.Tree().Len() != h.Keys || f.Tree().Height() != h.Height || len(f.Free()) != h.Free || f.Tree().Fresh() != 0 || !slices.IsSorted(f.Free()) {
		t.Fatalf("%s: %d keys, height %d, %d free; the head says %+v", what, f.Tree().Len(), f.Tree().Height(), len(f.Free()), h)
	}
}

// dust are n bytes by noise.
func dust(next func(int) int, n int) []byte {
	b := make([]byte, n)
	for i := range b {
		b[i] = byte(next(256))
	}
	return b
}

// others are pages that say nothing newer in the slot beside a head, which is of the version 12 in slot 0 or 11 in slot 1.
func others(t *testing.T, slot int, next func(int) int) [][]byte {
	t.Helper()
	pages := []api.Page{leafOf(fat("a")...), dataOf(0, 9), freesOf(0, 2)}
	older := [][]int{{1, 11}, {2, 10}}[slot]
	uncounted := [][]int{{2, 14, 100, api.MaxVersion}, {1, 13, 101, api.MaxVersion - 1}}[slot]
	for _, version := range slices.Concat(older, uncounted) {
		pages = append(pages, headOf(version), api.Page{Kind: api.Meta, Head: api.Head{Version: version, Count: 400, Root: 7, Height: 3, Keys: 9}})
	}
	l := [][]byte{make([]byte, api.PageSize), dust(next, api.PageSize)}
	for _, p := range pages {
		l = append(l, (&scene{pages: []api.Page{p}}).file(t))
	}
	newer := &scene{pages: []api.Page{headOf(13 - slot)}, broken: []int{0}}
	return append(l, newer.file(t))
}

// headOf is the page of a head of the empty map.
func headOf(version int) api.Page {
	return api.Page{Kind: api.Meta, Head: api.Head{Version: version, Count: 2}}
}

// scenes are files of all kinds, accepted and refused, each in both slots.
func scenes(t *testing.T) []*scene {
	t.Helper()
	l := []*scene{newScene(), one(), deep(), freed(6, freesOf(0, 3, 4, 5))}
	for _, f := range flaws() {
		if f.err != api.ErrNoHead && f.what != "a page is missing" {
			l = append(l, sceneWith(f))
		}
	}
	for i, k := range kinds()[:6] {
		next := noise(uint64(i))
		s, _ := laid(t, k.grow(next), next, 4*i)
		l = append(l, s)
	}
	var both []*scene
	for _, s := range l {
		h := *s.head()
		for slot, version := range []int{12, 11} {
			c := s.copied()
			c.pages[0], c.pages[1], c.slot = api.Page{}, api.Page{}, slot
			h.Version = version
			c.pages[slot] = api.Page{Kind: api.Meta, Head: h}
			both = append(both, c)
		}
	}
	return both
}

// tellAnswer is all that is answered to a file.
func tellAnswer(t *testing.T, file []byte) string {
	t.Helper()
	v, f := asked(t, file)
	if f == nil {
		return fmt.Sprint(v)
	}
	return saying(f)
}

// TestP15_5Alone: the other slot, as long as it holds no newer head that counts, and the pages from Count on change nothing; nor do the free pages.
func TestP15_5Alone(t *testing.T) {
	t.Parallel()
	next := noise(4)
	for _, s := range scenes(t) {
		file := s.file(t)
		want := tellAnswer(t, file)
		same := func(what string, file []byte) {
			t.Helper()
			if got := tellAnswer(t, file); got != want {
				t.Fatalf("%s: %.1000s\nnot %.1000s", what, got, want)
			}
		}
		for i, other := range others(t, s.slot, next) {
			b := bytes.Clone(file)
			copy(b[(1-s.slot)*api.PageSize:], other)
			same(fmt.Sprint("the other slot ", i), b)
		}
		count := s.head().Count * api.PageSize
		same("nothing behind", file[:count:count])
		for _, n := range []int{1, 2, 9} {
			same("dust behind", slices.Concat(file[:count], dust(next, n*api.PageSize)))
			same("the file again behind", slices.Concat(file[:count], file))
		}
		b := bytes.Clone(file)
		if f, _, _ := check.Open(file); f != nil {
			for _, no := range f.Free() {
				copy(b[no*api.PageSize:], dust(next, api.PageSize))
			}
			same("dust in the free pages", b)
			for _, no := range f.Free() {
				copy(b[no*api.PageSize:], file[s.slot*api.PageSize:][:api.PageSize])
			}
			same("heads in the free pages", b)
		}
	}
}

// TestP15_5Newer: a newer head that counts in the other slot is the file's.
func TestP15_5Newer(t *testing.T) {
	t.Parallel()
	for _, s := range scenes(t) {
		for _, version := range [][]int{{13, 101, api.MaxVersion - 1}, {12, 100, api.MaxVersion}}[s.slot] {
			c := s.copied()
			c.pages[1-s.slot] = headOf(version)
			f := c.is(t, fmt.Sprint("version ", version), 0, api.OK)
			if f == nil || f.Head() != headOf(version).Head || f.Tree().Len() != 0 {
				t.Fatal("the newer head is not the file's")
			}
		}
	}
}

// TestP15_6Byte: one byte is turned in a page that was met, or in the head: the file is refused at that page, or is the other slot's.
func TestP15_6Byte(t *testing.T) {
	s := newScene()
	s.root(s.leaf(short("a", 3), chained("k", 600, 3)))
	s.lay(dataOf(0, 600))
	s.lay(freesOf(0, 5))
	s.lay(api.Page{})
	s.frees(4, 1)
	for what, other := range map[string]api.Page{"no other head": {}, "an older one": headOf(2)} {
		s.pages[0] = other
		s.head().Version = 3
		for no := 1; no < 5; no++ {
			file := s.file(t)
			t.Run(fmt.Sprint(what, no), func(t *testing.T) {
				t.Parallel()
				answers(t, what, file, 0, api.OK)
				want := verdict{no, api.ErrSum}
				switch {
				case no == 1 && other.Kind == 0:
					want = verdict{0, api.ErrNoHead}
				case no == 1:
					want = verdict{}
				}
				turnEach(t, file, no, want, other.Head)
			})
		}
	}
}

// turnEach turns each byte of a page, one at a time: the file is refused so, or has another head.
func turnEach(t *testing.T, file []byte, no int, want verdict, other api.Head) {
	t.Helper()
	next := noise(uint64(no))
	for i := range api.PageSize {
		was := file[no*api.PageSize+i]
		file[no*api.PageSize+i] ^= byte(1 + next(255))
		if at, err := check.Check(file); (verdict{at, err}) != want {
			t.Fatalf("byte %d of page %d: %d at %d, not %d at %d", i, no, err, at, want.err, want.at)
		}
		if i%16 == 0 {
			v, f := asked(t, file)
			if v != want || f != nil && f.Head() != other {
				t.Fatalf("byte %d of page %d: Open answers %d at %d, not %d at %d", i, no, v.err, v.at, want.err, want.at)
			}
		}
		file[no*api.PageSize+i] = was
	}
}

// TestP15_6Everywhere: the same in files with branches, at some bytes of each page.
func TestP15_6Everywhere(t *testing.T) {
	t.Parallel()
	next := noise(7)
	for _, s := range scenes(t) {
		file := s.file(t)
		f, _, err := check.Open(file)
		if err != api.OK {
			continue
		}
		met := slices.Concat([]int{s.slot}, f.Tree().Numbers(), f.Lists())
		for _, no := range met {
			for _, i := range []int{next(30), next(api.PageSize)} {
				file[no*api.PageSize+i] ^= byte(1 + next(255))
				if at, err := check.Check(file); err == api.OK || no != s.slot && (at != no || err != api.ErrSum) {
					t.Fatalf("byte %d of page %d: %d at %d", i, no, err, at)
				}
				copy(file[no*api.PageSize:], (&scene{pages: s.pages[no : no+1]}).file(t))
			}
		}
	}
}

// TestP15_7Versions: the same head in both slots counts in just one of them, which is told by the page of a fault.
func TestP15_7Versions(t *testing.T) {
	for _, v := range []int{1, 2, 3, 4, 99, 100, 1<<32 - 1, 1 << 32, api.MaxVersion - 1, api.MaxVersion} {
		p := headOf(v)
		s := &scene{pages: []api.Page{p, p}}
		if f := s.is(t, "both slots", 0, api.OK); f.Head().Version != v {
			t.Errorf("version %d, not %d", f.Head().Version, v)
		}
		s.pages[1-v%2] = api.Page{}
		s.is(t, "the slot that counts", 0, api.OK)
		s.pages[0], s.pages[1] = s.pages[1], s.pages[0]
		s.is(t, "the other slot", 0, api.ErrNoHead)
		p.Head.Keys, p.Head.Root, p.Head.Height, p.Head.Count = 1, 2, 1, 3
		s.pages = []api.Page{p, p}
		s.is(t, "a fault", v%2, api.ErrCount)
	}
}
