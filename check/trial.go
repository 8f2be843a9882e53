package check

import (
	"coppice/api"
	"coppice/meta"
	"coppice/page"
)

// fault is an error, and the page at which it is found; the zero fault is none.
type fault struct {
	at  int
	err api.Errno
}

// found tells whether there is a fault.
func (f fault) found() bool { return f.err != api.OK }

// trial is a file that is being judged, and what has been found in it.
type trial struct {
	file        []byte
	tell        func(api.Node) int // takes the nodes of the tree, post-order, and tells where each one stands
	slot        int                // the page of the head
	head        api.Head
	used        map[int]struct{} // the numbers that were met or listed
	keys        int              // of the whole tree
	free, lists []int
}

// newTrial begins to judge a file.
func newTrial(file []byte, tell func(api.Node) int) *trial {
	return &trial{file: file, tell: tell, used: map[int]struct{}{}}
}

// judge goes through the steps of the chapter, in its order, up to the first fault.
func (t *trial) judge() fault {
	for _, step := range []func() fault{
		t.measure, t.findHead, t.countPages, t.walkTree, t.countKeys, t.walkFrees, t.countFrees, t.findLoose,
	} {
		if bad := step(); bad.found() {
			return bad
		}
	}
	return fault{}
}

// pages is how many pages the file has.
func (t *trial) pages() int { return len(t.file) / api.PageSize }

// read decodes a page.
func (t *trial) read(no int) (api.Page, api.Errno) {
	return page.Decode(t.file[no*api.PageSize : (no+1)*api.PageSize])
}

// measure asks whether the file is one of pages, and of not too few or too many.
func (t *trial) measure() fault {
	if len(t.file)%api.PageSize != 0 || t.pages() < 2 || t.pages() > api.MaxPages {
		return fault{0, api.ErrFile}
	}
	return fault{}
}

// findHead finds the file's head.
func (t *trial) findHead() fault {
	var heads [2]api.Head
	var says [2]bool
	for slot := range heads {
		p, err := t.read(slot)
		heads[slot], says[slot] = p.Head, err == api.OK && p.Kind == api.Meta
	}
	slot := meta.Newer(heads[0], heads[1], says[0], says[1])
	if slot < 0 {
		return fault{0, api.ErrNoHead}
	}
	t.slot, t.head = slot, heads[slot]
	return fault{}
}

// countPages asks whether all pages are there of which the head speaks.
func (t *trial) countPages() fault {
	if t.head.Count > t.pages() {
		return fault{t.slot, api.ErrCount}
	}
	return fault{}
}

// countKeys asks whether the tree has as many keys as the head says.
func (t *trial) countKeys() fault {
	if t.head.Keys != t.keys {
		return fault{t.slot, api.ErrKeys}
	}
	return fault{}
}

// walkFrees goes through the list of the pages of frees.
func (t *trial) walkFrees() fault {
	return t.follow(t.slot, t.head.First, func(no int, p api.Page) api.Errno {
		if p.Kind != api.Frees {
			return api.ErrFrees
		}
		t.lists = append(t.lists, no)
		for _, free := range p.List {
			if err := t.list(free); err != api.OK {
				return err
			}
		}
		return api.OK
	})
}

// countFrees asks whether as many numbers are listed as the head says.
func (t *trial) countFrees() fault {
	if t.head.Free != len(t.free) {
		return fault{t.slot, api.ErrCount}
	}
	return fault{}
}

// findLoose asks whether each page that counts was met or listed.
func (t *trial) findLoose() fault {
	for no := 2; no < t.head.Count; no++ {
		if !t.isUsed(no) {
			return fault{no, api.ErrLoose}
		}
	}
	return fault{}
}

// isOutside tells whether no page that counts has a number, the slots apart.
func (t *trial) isOutside(no int) bool { return no < 2 || no >= t.head.Count }

// isUsed tells whether a number was met or listed.
func (t *trial) isUsed(no int) bool {
	_, used := t.used[no]
	return used
}

// list takes a number as a free one.
func (t *trial) list(no int) api.Errno {
	n := len(t.free)
	switch {
	case t.isOutside(no):
		return api.ErrOutside
	case n > 0 && no <= t.free[n-1]:
		return api.ErrList
	case t.isUsed(no):
		return api.ErrTwice
	}
	t.used[no] = struct{}{}
	t.free = append(t.free, no)
	return api.OK
}

// meet reads a page that another one names.
func (t *trial) meet(from, no int) (api.Page, fault) {
	switch {
	case t.isOutside(no):
		return api.Page{}, fault{from, api.ErrOutside}
	case t.isUsed(no):
		return api.Page{}, fault{from, api.ErrTwice}
	}
	t.used[no] = struct{}{}
	p, err := t.read(no)
	if err != api.OK {
		return api.Page{}, fault{no, err}
	}
	return p, fault{}
}

// follow meets pages of which each names the next one, up to the last one; each is judged ahead of the next one.
func (t *trial) follow(from, no int, judge func(no int, p api.Page) api.Errno) fault {
	for no != 0 {
		p, bad := t.meet(from, no)
		if bad.found() {
			return bad
		}
		if err := judge(no, p); err != api.OK {
			return fault{no, err}
		}
		from, no = no, p.Next
	}
	return fault{}
}
