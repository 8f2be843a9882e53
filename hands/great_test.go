package hands_test

import (
	"slices"
	"syscall"
	"testing"

	"coppice/api"
	"coppice/hands"
)

// TestGreat: a file of as many pages as may be, and of one more. It is mapped, so that its pages of zeros take no room.
func TestGreat(t *testing.T) {
	t.Parallel()
	b, problem := syscall.Mmap(-1, 0, (api.MaxPages+1)*api.PageSize, syscall.PROT_READ|syscall.PROT_WRITE, syscall.MAP_ANON|syscall.MAP_PRIVATE)
	if problem != nil {
		t.Skipf("no room for a file of all pages: %v", problem)
	}
	defer syscall.Munmap(b)
	copy(b, file(t, api.Page{}, metaOf(api.Head{Version: 1, Count: api.MaxPages})))
	is := func(what string, pages, limit int, want verdict) {
		t.Helper()
		if at, err := hands.Check(b[:pages*api.PageSize], 8, limit); (verdict{at, err}) != want {
			t.Errorf("%s: %d at %d, not %d at %d", what, err, at, want.err, want.at)
		}
	}
	is("all pages", api.MaxPages, api.MaxPages, verdict{2, api.ErrLoose})
	is("all pages, one too few allowed", api.MaxPages, api.MaxPages-1, verdict{0, api.ErrMore})
	is("a page is missing", api.MaxPages-1, api.MaxPages-1, verdict{1, api.ErrCount})
	is("a page too many", api.MaxPages+1, 0, verdict{0, api.ErrFile})
	is("a page too many", api.MaxPages+1, api.MaxPages+1, verdict{0, api.ErrFile})
	if l, err := hands.Kinds(b, 8); err != api.ErrFile || len(l) != 0 {
		t.Errorf("a page too many: %d kinds, %d", len(l), err)
	}
	copy(b[(api.MaxPages-1)*api.PageSize:], file(t, leafOf("z")))
	want := make([]int, api.MaxPages)
	want[1], want[api.MaxPages-1] = api.Meta, api.Leaf
	if l, err := hands.Kinds(b[:api.MaxPages*api.PageSize], 16); err != api.OK || !slices.Equal(l, want) {
		t.Errorf("all pages: %d kinds, %d", len(l), err)
	}
}
