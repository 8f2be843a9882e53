package check_test

import (
	"bytes"
	"fmt"
	"slices"
	"testing"

	"coppice/api"
	"coppice/page"
)

// spoil changes a scene in one place by noise, so that it is hardly accepted any more.
func (s *scene) spoil(next func(int) int) {
	if len(s.pages) == 2 || next(6) == 0 {
		s.spoilHead(next)
		return
	}
	anyPage := func() int { return 2 + next(len(s.pages)-2) }
	no := anyPage()
	p := &s.pages[no]
	anyNo := func() int { return 2 + next(len(s.pages)) }
	switch next(14) {
	case 0:
		*p = api.Page{}
	case 1:
		*p = []api.Page{freesOf(0, 2, 3), headOf(4), dataOf(0, 600), leafOf(fat("k")...)}[next(4)]
	case 2:
		*p = copied(s.pages[anyPage()])
	case 3:
		other := anyPage()
		*p, s.pages[other] = s.pages[other], *p
	case 4:
		s.broken = append(s.broken, no)
	default:
		spoilWithin(p, next, anyNo)
	}
}

// spoilHead changes something in the head, or how many pages there are.
func (s *scene) spoilHead(next func(int) int) {
	h := s.head()
	by := []int{-1, 1, 2, 1000}[next(4)]
	switch next(9) {
	case 0:
		h.Root = next(len(s.pages) + 1)
	case 1:
		h.Height += by
	case 2:
		h.Keys += by
	case 3:
		h.First = next(len(s.pages) + 1)
	case 4:
		h.Free += by
	case 5:
		h.Count += by
	case 6:
		s.lay(api.Page{})
	case 7:
		s.pages[1-s.slot] = headOf(h.Version + 1)
	case 8:
		s.broken = append(s.broken, s.slot)
	}
}

// spoilWithin changes something in a page, its kind not.
func spoilWithin(p *api.Page, next func(int) int, anyNo func() int) {
	switch p.Kind {
	case api.Leaf:
		spoilLeaf(p, next, anyNo)
	case api.Branch:
		spoilBranch(p, next, anyNo)
	case api.Chain:
		switch next(4) {
		case 0:
			p.Next = 0
		case 1:
			p.Next, p.Data = anyNo(), grain(api.ChainData, 1)
		case 2:
			p.Data = p.Data[:max(1, len(p.Data)-1)]
		case 3:
			p.Data = append(p.Data, 1)
		}
	case api.Frees:
		i := next(len(p.List) + 1)
		switch next(5) {
		case 0:
			p.Next = anyNo()
		case 1:
			p.List = slices.Insert(p.List, i, anyNo())
			slices.Sort(p.List)
		case 2:
			p.List = append(p.List[:i:i], p.List[min(len(p.List), i+1):]...)
		case 3:
			p.Next = 0
		case 4:
			p.List = p.List[:i]
		}
	}
}

func spoilLeaf(p *api.Page, next func(int) int, anyNo func() int) {
	i := next(len(p.Items))
	switch it := &p.Items[i]; next(6) {
	case 0:
		if len(p.Items) > 1 {
			p.Items = slices.Delete(p.Items, i, i+1)
		}
	case 1:
		it.Key[next(len(it.Key))] += byte(1 + next(255))
	case 2:
		it.Key = append(it.Key, 'z')
	case 3:
		*it = api.Item{Key: it.Key, Size: max(it.Size, api.MaxInline+1), First: anyNo()}
	case 4:
		if it.Size > api.MaxInline {
			it.Size = min(it.Size+[]int{-1, 1, api.ChainData, 300000}[next(4)], api.MaxValue)
		}
	case 5:
		p.Items = p.Items[:(len(p.Items)+1)/2]
	}
}

func spoilBranch(p *api.Page, next func(int) int, anyNo func() int) {
	i := next(len(p.Kids))
	switch next(7) {
	case 0:
		p.Level = 1 + next(api.MaxLevel)
	case 1:
		p.Kids[i].No = anyNo()
	case 2:
		p.Kids[i].Keys = []int{1, p.Kids[i].Keys + 1, 1<<32 - 1}[next(3)]
	case 3:
		k := next(len(p.Kids))
		p.Kids[i], p.Kids[k] = p.Kids[k], p.Kids[i]
	case 4:
		if i > 0 {
			p.Seps[i-1][next(len(p.Seps[i-1]))] += byte(1 + next(255))
		}
	case 5:
		if i > 0 {
			p.Kids, p.Seps = slices.Delete(p.Kids, i, i+1), slices.Delete(p.Seps, i-1, i)
		}
	case 6:
		p.Kids, p.Seps = p.Kids[:1], nil
	}
}

// mend makes the counts of a scene right again, from its pages on: so other faults come to light.
func (s *scene) mend() {
	var count func(no, level int) int
	count = func(no, level int) int {
		if no < 2 || no >= len(s.pages) || s.pages[no].Level != level {
			return 1
		}
		n := len(s.pages[no].Items)
		for i, k := range s.pages[no].Kids {
			s.pages[no].Kids[i].Keys = max(1, count(k.No, level-1))
			n += s.pages[no].Kids[i].Keys
		}
		return n
	}
	if h := s.head(); h.Root > 0 {
		h.Keys = max(1, count(h.Root, h.Height-1))
	}
}

// image is a scene's bytes; a page that may not be is zeros.
func (s *scene) image(next func(int) int) []byte {
	var b []byte
	for _, p := range s.pages {
		q, err := page.Encode(p)
		if err != api.OK {
			q = make([]byte, api.PageSize)
		}
		b = append(b, q...)
	}
	for _, no := range s.broken {
		b[no*api.PageSize+next(api.PageSize)] ^= byte(1 + next(255))
	}
	return b
}

// TestP15_1Spoilt: files of sound trees that are spoilt in a few places by noise are judged as the plain judge does, and say what it says.
func TestP15_1Spoilt(t *testing.T) {
	all := kinds()[:6]
	for i, k := range all {
		t.Run(k.name, func(t *testing.T) {
			t.Parallel()
			next := noise(uint64(100 + i))
			seen := map[api.Errno]int{}
			for round := range 12 {
				x := k.grow(next)
				if round%3 == 2 {
					x = thinned(x, next)
				}
				s, _ := laid(t, x, next, []int{0, 2, 3, 9, 20}[next(5)])
				if next(2) == 0 {
					s.inSlot0(2 * (1 + next(100)))
				}
				for range 1000 / (10 + len(s.pages)) {
					c := s.copied()
					for range 1 + next(3) {
						c.spoil(next)
					}
					if next(2) == 0 {
						c.mend()
					}
					v, _ := asPlain(t, fmt.Sprint("round ", round), c.image(next))
					seen[v.err]++
				}
			}
			if len(seen) < 8 {
				t.Errorf("only these errors come: %v", seen)
			}
		})
	}
}

// TestP15_1Small: every file of three pages out of a few, with each of a few heads.
func TestP15_1Small(t *testing.T) {
	t.Parallel()
	choices := []api.Page{
		{}, leafOf(fat("abc")...), leafOf(fat("mno")...), leafOf(fat("ab")...), leafOf(short("n", 5), chained("p", 600, 3)),
		dataOf(0, 600), freesOf(0, 2), freesOf(0, 3), freesOf(0, 4), freesOf(0, 2, 3),
		kidsOf(1, "", 2, 3), kidsOf(1, "m", 2, 3, 3, 3), kidsOf(1, "m", 3, 3, 2, 3), kidsOf(1, "m", 2, 3, 4, 2),
	}
	heads := []api.Head{
		{}, {First: 2, Free: 1}, {First: 4, Free: 2}, {Root: 2, Height: 1, Keys: 3}, {Root: 2, Height: 1, Keys: 3, First: 3, Free: 1},
		{Root: 2, Height: 1, Keys: 2, First: 4, Free: 1}, {Root: 3, Height: 1, Keys: 3, First: 4, Free: 1}, {Root: 4, Height: 2, Keys: 6}, {Root: 3, Height: 2, Keys: 5},
	}
	pages := make([][]byte, len(choices))
	for i, p := range choices {
		pages[i] = (&scene{pages: []api.Page{p}}).file(t)
	}
	accepted := make([]int, len(heads))
	t.Run("heads", func(t *testing.T) {
		for i, h := range heads {
			h.Version, h.Count = 1+i%2, 5
			s := &scene{pages: []api.Page{{}, {}}}
			s.pages[h.Version%2] = api.Page{Kind: api.Meta, Head: h}
			slots := s.file(t)
			t.Run(fmt.Sprint(i), func(t *testing.T) {
				t.Parallel()
				for k := range len(pages) * len(pages) * len(pages) {
					three := [][]byte{pages[k%len(pages)], pages[k/len(pages)%len(pages)], pages[k/len(pages)/len(pages)]}
					v, _ := asPlain(t, fmt.Sprintf("%+v, pages %d", h, k), slices.Concat(slots, bytes.Join(three, nil)))
					if v.err == api.OK {
						accepted[i]++
					}
				}
			})
		}
	})
	some := 0
	for _, n := range accepted {
		some += n
	}
	if some == 0 {
		t.Error("none is accepted")
	}
}

// kidsOf is a branch of kids, each given by its number and how many keys lie below it, with a letter between each two as a separator.
func kidsOf(level int, seps string, kids ...int) api.Page {
	p := api.Page{Kind: api.Branch, Level: level}
	for i := 0; i < len(kids); i += 2 {
		p.Kids = append(p.Kids, api.Kid{No: kids[i], Keys: kids[i+1]})
	}
	for i := range seps {
		p.Seps = append(p.Seps, []byte{seps[i]})
	}
	return p
}

// TestP15_1AnyBytes: bytes of which hardly any page is one.
func TestP15_1AnyBytes(t *testing.T) {
	t.Parallel()
	next := noise(9)
	for range 60 {
		b := dust(next, next(9)*api.PageSize+next(3)*next(2))
		asPlain(t, "dust", b)
		if len(b) < 3*api.PageSize || len(b)%api.PageSize != 0 {
			continue
		}
		s := &scene{pages: []api.Page{{}, {Kind: api.Meta, Head: api.Head{Version: 5, Count: len(b) / api.PageSize, Root: 2, Height: 1 + next(16), Keys: 3}}}}
		copy(b, s.file(t))
		if v, _ := asPlain(t, "a head ahead of dust", b); v != (verdict{2, api.ErrSum}) {
			t.Fatalf("%d at %d", v.err, v.at)
		}
	}
}

// TestP15_1Highest: a tree of each height that may be: of one leaf, with branches of one kid above it, so that it is thin just at its root.
func TestP15_1Highest(t *testing.T) {
	for height := 1; height <= api.MaxLevel+1; height++ {
		s := newScene()
		k := s.leaf(fat("abc")...)
		for level := 1; level < height; level++ {
			k = s.branch(level, nil, k)
		}
		s.root(k)
		if height == 1 {
			s.is(t, "a leaf", 0, api.OK)
			continue
		}
		s.is(t, fmt.Sprint("height ", height), k.No, api.ErrThin)
		s.broken = []int{2}
		s.is(t, fmt.Sprint("height ", height, ", its leaf broken"), 2, api.ErrSum)
	}
}
