package check_test

import (
	"fmt"
	"slices"
	"testing"

	"coppice/api"
)

// freed is a file of a list of frees alone, of so many pages: the first one stands at 2, and lists what follows.
func freed(count int, lists ...api.Page) *scene {
	s := newScene()
	free := 0
	for _, p := range lists {
		s.lay(p)
		free += len(p.List)
	}
	for len(s.pages) < count {
		s.lay(api.Page{})
	}
	return s.frees(2, free)
}

// TestP15_1Frees: a list of one page.
func TestP15_1Frees(t *testing.T) {
	freed(4, freesOf(0, 3)).is(t, "one is free", 0, api.OK)
	freed(6, freesOf(0, 3, 4, 5)).is(t, "three are free", 0, api.OK)
	freed(6, freesOf(0, 3, 4, 6)).is(t, "one outside", 2, api.ErrOutside)
	freed(6, freesOf(0, 3, 4, api.MaxPages-1)).is(t, "one far outside", 2, api.ErrOutside)
	freed(6, freesOf(0, 3, 4, 5, 6)).is(t, "one more outside", 2, api.ErrOutside)
	freed(6, freesOf(0, 2, 3, 4, 5)).is(t, "itself", 2, api.ErrTwice)
	freed(6, freesOf(0, 2, 6)).is(t, "itself ahead of one outside", 2, api.ErrTwice)
	freed(6, freesOf(0, 3, 5)).is(t, "one loose", 4, api.ErrLoose)
	freed(6, freesOf(0, 4)).is(t, "two loose", 3, api.ErrLoose)
	freed(1023, freesOf(0, upTo(3, 1023)...)).is(t, "1020 are free", 0, api.OK)
	freed(1024, freesOf(0, upTo(3, 1024)...)).is(t, "1021 are free", 0, api.OK)
	for _, p := range []api.Page{leafOf(fat("a")...), {Kind: api.Branch, Level: 1, Kids: []api.Kid{{No: 3, Keys: 1}}}, dataOf(0, 6), {Kind: api.Meta, Head: api.Head{Version: 9, Count: 2}}} {
		s := freed(4, freesOf(0, 3))
		s.pages[2] = p
		s.is(t, "no page of frees", 2, api.ErrFrees)
	}
	file := freed(4, freesOf(0, 3)).file(t)
	copy(file[2*4096:], sealed(api.Frees))
	answers(t, "an empty list", file, 1, api.ErrCount)
	s := newScene()
	s.root(s.leaf(fat("abc")...))
	s.lay(freesOf(0, 2))
	s.frees(3, 1).is(t, "the root is listed", 3, api.ErrTwice)
	s.frees(2, 1).is(t, "the root is the list", 1, api.ErrTwice)
}

// TestP15_1ManyFrees: a list of two and three pages.
func TestP15_1ManyFrees(t *testing.T) {
	full := func(next, from int) api.Page { return freesOf(next, upTo(from, from+1021)...) }
	freed(1030, full(3, 4), freesOf(0, upTo(1025, 1030)...)).is(t, "two pages", 0, api.OK)
	freed(1025, full(3, 4), freesOf(0)).is(t, "an empty one behind", 0, api.OK)
	freed(2050, full(3, 5), full(4, 1026), freesOf(0, 2047, 2048, 2049)).is(t, "three pages", 0, api.OK)
	// Numbers rise over all pages.
	freed(1030, full(3, 9), freesOf(0, 4, 5, 6, 7, 8)).is(t, "lower ones behind", 3, api.ErrList)
	freed(1030, full(3, 5), freesOf(0, 4, 1026)).is(t, "one lower one behind", 3, api.ErrList)
	freed(1030, full(3, 4), freesOf(0, 1024, 1025)).is(t, "the last one again", 3, api.ErrList)
	freed(1030, full(3, 4), freesOf(0, 7)).is(t, "another one again", 3, api.ErrList)
	freed(1030, full(3, 4), freesOf(0, 3)).is(t, "itself, which is lower", 3, api.ErrList)
	freed(1030, full(3, 4), freesOf(0, 2, 1030)).is(t, "the page ahead, which is lower", 3, api.ErrList)
	freed(2050, full(3, 1026), full(4, 5), freesOf(0, 2047)).is(t, "the second page lower", 3, api.ErrList)
	freed(2050, full(3, 5), full(4, 1026), freesOf(0, 2046)).is(t, "the third page lower", 4, api.ErrList)
	// The pages of a list.
	freed(1030, full(3, 4), freesOf(0, 1025, 1030)).is(t, "outside at the second page", 3, api.ErrOutside)
	freed(1030, full(2, 4)).is(t, "a ring", 2, api.ErrTwice)
	freed(2050, full(3, 5), full(2, 1026)).is(t, "a ring of two", 3, api.ErrTwice)
	freed(1030, full(4, 4), freesOf(0)).is(t, "the next one is free", 2, api.ErrTwice)
	freed(1030, full(1030, 4), freesOf(0)).is(t, "the next one is outside", 2, api.ErrOutside)
	freed(1030, full(1029, 4), freesOf(0)).is(t, "the next one is nothing", 1029, api.ErrSum)
	freed(1030, full(3, 3), freesOf(0)).is(t, "the next one is listed ahead", 2, api.ErrTwice)
	freed(1030, full(3, 4), dataOf(0, 3)).is(t, "the next one is no page of frees", 3, api.ErrFrees)
	s := freed(1030, full(1029, 4), api.Page{})
	s.pages[1029] = freesOf(0, 1029)
	s.is(t, "the second page lists itself", 1029, api.ErrTwice)
	s.pages[1029] = freesOf(0, 1025, 1026, 1027, 1028)
	s.frees(2, 1025).is(t, "one is loose", 3, api.ErrLoose)
	// What a page lists is judged ahead of its next one.
	freed(1030, full(1030, 2), freesOf(0)).is(t, "itself, and the next one outside", 2, api.ErrTwice)
	// A page of a list that is listed behind it.
	freed(1030, full(3, 4), freesOf(0, 1025, 1026, 1027, 1028, 1029)).is(t, "whole", 0, api.OK)
	x := freed(1030, full(1026, 4), api.Page{})
	x.pages[1026] = freesOf(0, 1025, 1026, 1027)
	x.is(t, "listed by itself", 1026, api.ErrTwice)
}

// TestP15_1Free: as many are listed as the head says.
func TestP15_1Free(t *testing.T) {
	for free := 1; free <= 4; free++ {
		s := freed(6, freesOf(0, 3, 4, 5)).frees(2, free)
		if free == 3 {
			s.is(t, "three", 0, api.OK)
			continue
		}
		s.is(t, fmt.Sprint(free), 1, api.ErrCount)
	}
	s := freed(6, freesOf(0, 3, 5))
	s.head().Free = 3
	s.is(t, "ahead of a loose page", 1, api.ErrCount)
}

// TestP15_1Loose: the least page of which nobody speaks.
func TestP15_1Loose(t *testing.T) {
	s := newScene()
	s.root(s.leaf(fat("abc")...))
	s.lay(leafOf(fat("d")...))
	s.lay(dataOf(0, 5))
	s.lay(freesOf(0, 4))
	s.is(t, "three", 3, api.ErrLoose)
	s.frees(5, 1).is(t, "one", 3, api.ErrLoose)
	s.pages[5].List = []int{3}
	s.is(t, "another one", 4, api.ErrLoose)
	s.pages[5].List = []int{3, 4}
	s.frees(5, 2).is(t, "none", 0, api.OK)
	s.head().Count = 9
	s.pages = append(s.pages, api.Page{}, api.Page{}, api.Page{})
	s.is(t, "behind all", 6, api.ErrLoose)
	s = newScene()
	s.lay(api.Page{})
	s.is(t, "beside an empty tree", 2, api.ErrLoose)
	s = newScene()
	s.pages = append(s.pages, api.Page{})
	s.is(t, "a page that does not count", 0, api.OK)
}

// flaw is something amiss: how a scene gets it, and how it is judged then.
type flaw struct {
	what string
	verdict
	lay func(s *scene)
}

// whole is a file with two chains and a list: leaves 2, 3, 4 below the root 10, chains 5 6 and 7, the list 8 of 9 and 11.
func whole() *scene {
	s := newScene()
	kids := []api.Kid{s.leaf(append(fat("abc"), chained("d", 5000, 5))...), s.leaf(fat("mno")...), s.leaf(append(fat("xyz"), chained("zz", 600, 7))...)}
	s.lay(dataOf(6, 4085))
	s.lay(dataOf(0, 915))
	s.lay(dataOf(0, 600))
	s.lay(freesOf(0, 9, 11))
	s.lay(api.Page{})
	s.root(s.branch(1, []string{"m", "x"}, kids...))
	s.lay(api.Page{})
	return s.frees(8, 2)
}

// flaws are in the order of the chapter. Each can be laid beside all behind it.
func flaws() []flaw {
	turn := func(no int) func(s *scene) { return func(s *scene) { s.broken = append(s.broken, no) } }
	put := func(no int, p api.Page) func(s *scene) { return func(s *scene) { s.pages[no] = p } }
	return []flaw{
		{"no head", verdict{0, api.ErrNoHead}, turn(1)},
		{"a page is missing", verdict{1, api.ErrCount}, func(s *scene) { s.head().Count = 13 }},
		{"the root is broken", verdict{10, api.ErrSum}, turn(10)},
		{"the height", verdict{10, api.ErrDepth}, func(s *scene) { s.head().Height = 3 }},
		{"a kid outside", verdict{10, api.ErrOutside}, func(s *scene) { s.pages[10].Kids[0].No = 12 }},
		{"a leaf is broken", verdict{2, api.ErrSum}, turn(2)},
		{"no leaf", verdict{2, api.ErrDepth}, put(2, dataOf(0, 5))},
		{"a key behind its bounds", verdict{2, api.ErrBounds}, func(s *scene) { s.pages[2].Items = append(s.pages[2].Items, short("n", 5)) }},
		{"a chain outside", verdict{2, api.ErrOutside}, func(s *scene) { s.pages[2].Items[3].First = 99 }},
		{"data are broken", verdict{5, api.ErrSum}, turn(5)},
		{"no data", verdict{5, api.ErrLost}, put(5, leafOf(fat("a")...))},
		{"a ring", verdict{5, api.ErrTwice}, func(s *scene) { s.pages[5].Next = 5 }},
		{"too few data", verdict{6, api.ErrLost}, func(s *scene) { s.pages[6].Data = s.pages[6].Data[1:] }},
		{"the first kid's keys", verdict{10, api.ErrKeys}, func(s *scene) { s.pages[10].Kids[0].Keys++ }},
		{"a kid twice", verdict{10, api.ErrTwice}, func(s *scene) { s.pages[10].Kids[1].No = 2 }},
		{"a key ahead of its bounds", verdict{3, api.ErrBounds}, func(s *scene) { s.pages[3].Items[0] = short("l", 500) }},
		{"the second kid's keys", verdict{10, api.ErrKeys}, func(s *scene) { s.pages[10].Kids[1].Keys++ }},
		{"the last chain", verdict{7, api.ErrLost}, func(s *scene) { s.pages[4].Items[3].Size++ }},
		{"the last kid's keys", verdict{10, api.ErrKeys}, func(s *scene) { s.pages[10].Kids[2].Keys-- }},
		{"thin", verdict{10, api.ErrThin}, func(s *scene) {
			s.pages[3].Items = s.pages[3].Items[:1]
			s.pages[10].Kids[1].Keys, s.head().Keys = 1, s.head().Keys-2
		}},
		{"the keys", verdict{1, api.ErrKeys}, func(s *scene) { s.head().Keys++ }},
		{"the list is a leaf", verdict{1, api.ErrTwice}, func(s *scene) { s.head().First = 2 }},
		{"the list is broken", verdict{8, api.ErrSum}, turn(8)},
		{"no list", verdict{8, api.ErrFrees}, put(8, dataOf(0, 5))},
		{"a leaf is listed", verdict{8, api.ErrTwice}, func(s *scene) { s.pages[8].List = append([]int{3}, s.pages[8].List...) }},
		{"one is listed outside", verdict{8, api.ErrOutside}, func(s *scene) { s.pages[8].List = append(s.pages[8].List, 12) }},
		{"the frees", verdict{1, api.ErrCount}, func(s *scene) { s.head().Free++ }},
		{"a loose page", verdict{9, api.ErrLoose}, func(s *scene) {
			s.pages[8].List = slices.DeleteFunc(s.pages[8].List, func(no int) bool { return no == 9 })
			s.head().Free--
		}},
	}
}

// TestP15_1Order: of all flaws that a file has the first one is told; one by one, two by two, and many at once by noise.
func TestP15_1Order(t *testing.T) {
	t.Parallel()
	whole().is(t, "whole", 0, api.OK)
	l := flaws()
	try := func(with ...int) {
		t.Helper()
		s := whole()
		what := ""
		for _, i := range slices.Backward(slices.Sorted(slices.Values(with))) {
			l[i].lay(s)
			what = l[i].what + ", " + what
		}
		first := l[slices.Min(with)]
		s.is(t, what, first.at, first.err)
		answers(t, what+"and a byte", append(s.file(t), 0), 0, api.ErrFile)
	}
	for i := range l {
		try(i)
		for k := range i {
			try(k, i)
		}
	}
	next := noise(1)
	for range 500 {
		with := []int{next(len(l))}
		for i := with[0] + 1; i < len(l); i++ {
			if next(2) == 0 {
				with = append(with, i)
			}
		}
		try(with...)
	}
}
