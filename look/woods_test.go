package look_test

import (
	"bytes"
	"fmt"
	"slices"
	"strings"

	"coppice/api"
	"coppice/chain"
	"coppice/keys"
)

// wood is a tree laid out by hand: its pages by their numbers (0 and 1 are no pages of a tree), its root and height, and its pairs.
type wood struct {
	pages        []api.Page
	root, height int
	pairs        []api.Pair
}

// image is a wood as the bytes of a file.
func (w *wood) image() []byte { return imageOf(w.pages) }

// lay lays a page behind all others, and tells its number.
func (w *wood) lay(p api.Page) int {
	w.pages = append(w.pages, p)
	return len(w.pages) - 1
}

// item is a pair as an item; a long value's chain is laid, the last page of it first.
func (w *wood) item(key string, value []byte) api.Item {
	w.pairs = append(w.pairs, api.Pair{Key: []byte(key), Value: value})
	it := api.Item{Key: []byte(key), Size: len(value)}
	if len(value) <= api.MaxInline {
		it.Value = value
		return it
	}
	for _, piece := range slices.Backward(chain.Pieces(value)) {
		it.First = w.lay(api.Page{Kind: api.Chain, Next: it.First, Data: piece})
	}
	return it
}

// grain are n bytes that hang on a seed, hardly any two neighbours alike.
func grain(n, seed int) []byte {
	b := make([]byte, n)
	for i := range b {
		b[i] = byte(i*7 + i>>8 + seed)
	}
	return b
}

// sapling grows a wood whose leaves have few items and whose branches have few kids, one at least, so that it is high with few pages. It is no sound tree: its neighbours could be joined.
type sapling struct {
	wood
	next  func(int) int
	count int
	most  []int // of each level, how many kids at most
	sizes []int // how many bytes a value may have
}

// key is the next key: between each two there is room for others.
func (s *sapling) key() string {
	s.count += 2 + s.next(3)
	return fmt.Sprintf("%05d", s.count) + strings.Repeat("\x00", s.next(2)) + strings.Repeat("k", s.next(3))
}

// grow lays a page of a level with all that lies below it: its number, how many keys it has, its first and its last one.
func (s *sapling) grow(level, least int) (no, count int, first, last string) {
	if level == 0 {
		return s.leaf()
	}
	p := api.Page{Kind: api.Branch, Level: level}
	kids := max(least, 1+s.next(s.most[level-1]))
	for i := range kids {
		kid, n, from, to := s.grow(level-1, 1)
		if i == 0 {
			first = from
		} else {
			p.Seps = append(p.Seps, s.between(last, from))
		}
		p.Kids = append(p.Kids, api.Kid{No: kid, Keys: n})
		count, last = count+n, to
	}
	return s.lay(p), count, first, last
}

func (s *sapling) leaf() (no, count int, first, last string) {
	p := api.Page{Kind: api.Leaf}
	for range 1 + s.next(3) {
		k := s.key()
		p.Items = append(p.Items, s.item(k, grain(s.sizes[s.next(len(s.sizes))], s.count)))
	}
	n := len(p.Items)
	return s.lay(p), n, string(p.Items[0].Key), string(p.Items[n-1].Key)
}

// between is a separator of two keys.
func (s *sapling) between(a, b string) []byte {
	if s.next(2) == 0 {
		return []byte(b)
	}
	sep, _ := keys.Separator([]byte(a), []byte(b))
	return sep
}

// planted is a wood of a height by noise: below its root, which has two kids at least, a branch of each level has one to most kids.
func planted(next func(int) int, height int, sizes []int, most ...int) *wood {
	s := &sapling{wood: wood{pages: make([]api.Page, 2), height: height}, next: next, most: most, sizes: sizes}
	if height > 0 {
		s.root, _, _, _ = s.grow(height-1, 2)
	}
	s.shuffle(next)
	return &s.wood
}

// shuffle gives the pages other numbers.
func (w *wood) shuffle(next func(int) int) {
	to := make([]int, len(w.pages))
	for i := range to {
		to[i] = i
		if i > 1 {
			k := 2 + next(i-1)
			to[i], to[k] = to[k], to[i]
		}
	}
	pages := make([]api.Page, len(w.pages))
	for i, p := range w.pages {
		for k := range p.Kids {
			p.Kids[k].No = to[p.Kids[k].No]
		}
		for k := range p.Items {
			p.Items[k].First = to[p.Items[k].First]
		}
		p.Next = to[p.Next]
		pages[to[i]] = p
	}
	w.pages, w.root = pages, to[w.root]
}

// few are sizes of values, hardly any of which have a chain.
func few() []int { return []int{0, 1, 5, 5, 5, 5, 40, 512, 513, 600} }

// long are sizes of values, many of which have a chain, of up to three pages.
func long() []int { return []int{0, 3, 512, 513, 4085, 4086, 8170, 8171, 9000} }

// thicket is a small wood by noise, of any height up to 5, or as high as one may be.
func thicket(next func(int) int) *wood {
	sizes := few()
	if next(3) == 0 {
		sizes = long()
	}
	switch height := next(8); height {
	case 6:
		return planted(next, api.MaxLevel+1, sizes, 2, 1, 1, 1, 2, 1, 1, 1, 1, 1, 2, 1, 1, 1, 1)
	case 7:
		return planted(next, 2, sizes, 8)
	default:
		return planted(next, height, sizes, 3, 3, 2, 2)
	}
}

// spoil changes a wood in one place by noise, so that it is hardly a tree any more.
func (w *wood) spoil(next func(int) int) {
	if len(w.pages) == 2 {
		return
	}
	p := &w.pages[2+next(len(w.pages)-2)]
	anyNo := func() int { return 2 + next(len(w.pages)) }
	switch next(12) {
	case 0:
		*p = api.Page{}
	case 1:
		*p = []api.Page{{Kind: api.Frees, List: []int{2, 3}}, {Kind: api.Meta, Head: api.Head{Version: 4, Count: 5}}, {Kind: api.Chain, Data: grain(600, 1)}}[next(3)]
	case 2:
		*p = copied(w.pages[2+next(len(w.pages)-2)])
	default:
		w.spoilWithin(p, next, anyNo)
	}
}

// spoilWithin changes something in a page, its kind not.
func (w *wood) spoilWithin(p *api.Page, next func(int) int, anyNo func() int) {
	switch p.Kind {
	case api.Leaf:
		i := next(len(p.Items))
		switch it := &p.Items[i]; next(5) {
		case 0:
			if len(p.Items) > 1 {
				p.Items = slices.Delete(p.Items, i, i+1)
			}
		case 1:
			it.Key = fmt.Appendf(nil, "%05d", next(3*len(w.pages)))
		case 2:
			it.Key = append(it.Key, 'z')
		case 3:
			*it = api.Item{Key: it.Key, Size: max(it.Size, api.MaxInline+1), First: anyNo()}
		case 4:
			if it.Size > api.MaxInline {
				it.Size = min(it.Size+[]int{-1, 1, api.ChainData, 300000}[next(4)], api.MaxValue)
			}
		}
	case api.Branch:
		i := next(len(p.Kids))
		switch next(6) {
		case 0:
			p.Level = 1 + next(api.MaxLevel)
		case 1:
			p.Kids[i].No = anyNo()
		case 2:
			p.Kids[i].Keys = []int{1, 2, 3, p.Kids[i].Keys + 1, 1<<32 - 1}[next(5)]
		case 3:
			p.Kids[i].No = p.Kids[next(len(p.Kids))].No
		case 4:
			if i > 0 {
				p.Seps[i-1] = fmt.Appendf(nil, "%05d", next(3*len(w.pages)))
			}
		case 5:
			if i > 0 {
				p.Kids, p.Seps = slices.Delete(p.Kids, i, i+1), slices.Delete(p.Seps, i-1, i)
			}
		}
	case api.Chain:
		switch next(4) {
		case 0:
			p.Next = 0
		case 1:
			p.Next, p.Data = anyNo(), grain(api.ChainData, 1)
		case 2:
			p.Data = p.Data[:len(p.Data)/2+1]
		case 3:
			p.Data = append(bytes.Clone(p.Data), 1)
		}
	}
}

// copied is a page that shares no list with p.
func copied(p api.Page) api.Page {
	p.Items = slices.Clone(p.Items)
	for i := range p.Items {
		p.Items[i].Key = bytes.Clone(p.Items[i].Key)
	}
	p.Seps, p.Kids = slices.Clone(p.Seps), slices.Clone(p.Kids)
	return p
}

// asking are byte strings to ask a wood by: its keys and separators, what stands right beside them, and strings that no key may be.
func (w *wood) asking() []string {
	l := []string{"", "\x00", "0", "00001", "\xff", strings.Repeat("\xff", 255), strings.Repeat("\xff", 256), strings.Repeat("0", 1000)}
	add := func(key string) {
		last := len(key) - 1
		l = append(l, key, key+"\x00", key[:last], key[:last]+string([]byte{key[last] - 1, 'z'}))
	}
	for _, p := range w.pages {
		for _, it := range p.Items {
			add(string(it.Key))
		}
		for _, s := range p.Seps {
			add(string(s))
		}
	}
	slices.Sort(l)
	return slices.Compact(l)
}
