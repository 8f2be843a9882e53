package check_test

import (
	"slices"
	"syscall"
	"testing"

	"coppice/api"
	"coppice/check"
)

// TestP15_1Great: a file of as many pages as may be, and of one more. Few of its pages are touched, so it is mapped: a list made by make would be cleared.
func TestP15_1Great(t *testing.T) {
	t.Parallel()
	b, problem := syscall.Mmap(-1, 0, (api.MaxPages+1)*api.PageSize, syscall.PROT_READ|syscall.PROT_WRITE, syscall.MAP_ANON|syscall.MAP_PRIVATE)
	if problem != nil {
		t.Skipf("no room for a file of all pages: %v", problem)
	}
	defer syscall.Munmap(b)
	lay := func(no int, p api.Page) {
		s := scene{pages: []api.Page{p}}
		copy(b[no*api.PageSize:], s.file(t))
	}
	h := api.Head{Version: 1, Count: 2}
	is := func(what string, pages, at int, err api.Errno) *check.File {
		t.Helper()
		lay(1, api.Page{Kind: api.Meta, Head: h})
		i, e := check.Check(b[:pages*api.PageSize])
		f, k, g := check.Open(b[:pages*api.PageSize])
		if i != at || e != err || k != at || g != err {
			t.Errorf("%s: Check %d at %d, Open %d at %d, not %d at %d", what, e, i, g, k, err, at)
		}
		return f
	}
	is("nothing counts", api.MaxPages, 0, api.OK)
	is("one too many", api.MaxPages+1, 0, api.ErrFile)
	h.Count = api.MaxPages
	is("all count", api.MaxPages, 2, api.ErrLoose)
	is("one is missing", api.MaxPages-1, 1, api.ErrCount)
	lists := 513
	free := upTo(2+lists, api.MaxPages)
	h.First, h.Free = 2, len(free)
	for i := range lists {
		next := 2 + i + 1
		if i == lists-1 {
			next = 0
		}
		lay(2+i, freesOf(next, free[i*api.FreesPer:min(len(free), (i+1)*api.FreesPer)]...))
	}
	f := is("all are free", api.MaxPages, 0, api.OK)
	if !slices.Equal(f.Free(), free) || !slices.Equal(f.Lists(), upTo(2, 2+lists)) {
		t.Errorf("%d are free, %d lists", len(f.Free()), len(f.Lists()))
	}
	last := 2 + lists - 1
	lay(last, freesOf(0, free[(lists-1)*api.FreesPer:len(free)-1]...))
	is("one is not listed", api.MaxPages, 1, api.ErrCount)
	h.Free--
	is("one is loose", api.MaxPages, api.MaxPages-1, api.ErrLoose)
	h.Root, h.Height, h.Keys = api.MaxPages-1, 1, 3
	is("the last page is no leaf", api.MaxPages, api.MaxPages-1, api.ErrSum)
	lay(api.MaxPages-1, leafOf(fat("abc")...))
	f = is("the last page is a leaf", api.MaxPages, 0, api.OK)
	if nos := f.Tree().Numbers(); !slices.Equal(nos, []int{api.MaxPages - 1}) {
		t.Errorf("the tree's numbers: %v", nos)
	}
}
