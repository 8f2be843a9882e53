package store

import (
	"slices"

	"coppice/api"
	"coppice/cache"
	"coppice/disk"
	"coppice/pager"
	"coppice/pool"
	"coppice/tree"
)

// parts is all that a store has, till it ends.
type parts struct {
	disk  *disk.Disk
	base  *pager.Base
	work  *tree.Tree // the working tree
	pool  *pool.Pool
	cache *cache.Cache
}

// commit makes the working tree the next version.
func (p *parts) commit() api.Errno {
	now, err := p.base.Commit(p.disk, p.work, p.pool)
	if err != api.OK {
		return err
	}
	if now != p.base {
		// The cache may hold what stood there while an older version had these numbers.
		for _, no := range written(p.work, now) {
			p.cache.Drop(no)
		}
	}
	p.base, p.work = now, now.Tree()
	return api.OK
}

// written are the pages that were written to make a tree this base, but for its slot, in the order of the writes.
func written(t *tree.Tree, now *pager.Base) []int {
	var nos []int
	had := t.Numbers()
	for _, no := range now.Tree().Numbers() {
		if _, is := slices.BinarySearch(had, no); !is {
			nos = append(nos, no)
		}
	}
	return append(nos, now.Lists()...)
}

// need tells how many pages a commit would take.
func (p *parts) need() int { return p.base.Need(p.work, p.pool) }

// room tells how many pages it could take.
func (p *parts) room() int { return p.pool.Room() }

// state tells how the store stands.
func (p *parts) state() api.State {
	h := p.base.Head()
	return api.State{
		Version: h.Version,
		Count:   h.Count,
		Free:    h.Free,
		Keys:    p.work.Len(),
		Height:  p.work.Height(),
		Changed: p.need() > 0,
	}
}
