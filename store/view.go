package store

import (
	"coppice/api"
	"coppice/look"
)

// View is a version that is kept readable.
type View struct {
	store   *Store
	version int        // 0: the view is closed
	look    *look.Look // through the store's cache; nil: the view is closed
}

// face does what a call is that asks the view's tree.
func (v *View) face(ask func(l *look.Look) api.Errno) api.Errno {
	return v.store.face(func(*parts) api.Errno {
		if v.look == nil {
			return api.ErrClosed
		}
		return ask(v.look)
	})
}

// Version tells the view's version; 0: it is closed.
func (v *View) Version() int {
	return asked(v.store, func(*parts) int { return v.version })
}

// Get tells a key's value.
func (v *View) Get(key []byte) (value []byte, has bool, err api.Errno) {
	err = v.face(func(l *look.Look) (err api.Errno) {
		value, has, err = l.Get(key)
		return err
	})
	return value, has, err
}

// Scan tells pairs from lo up to hi, at most limit.
func (v *View) Scan(lo, hi []byte, limit int) (pairs []api.Pair, err api.Errno) {
	err = v.face(func(l *look.Look) (err api.Errno) {
		if limit < 0 {
			return api.ErrLimit
		}
		pairs, err = l.Scan(lo, hi, limit)
		return err
	})
	return pairs, err
}

// Rank tells how many keys stand ahead of key.
func (v *View) Rank(key []byte) (rank int, err api.Errno) {
	err = v.face(func(l *look.Look) (err api.Errno) {
		rank, err = l.Rank(key)
		return err
	})
	return rank, err
}

// Nth tells the pair that has i ahead of it.
func (v *View) Nth(i int) (pair api.Pair, err api.Errno) {
	err = v.face(func(l *look.Look) (err api.Errno) {
		pair, err = l.Nth(i)
		return err
	})
	return pair, err
}

// Close closes the view: its version is pinned once less.
func (v *View) Close() bool {
	return asked(v.store, func(p *parts) bool {
		if v.look == nil {
			return false
		}
		p.pool.Unpin(v.version)
		v.version, v.look = 0, nil
		return true
	})
}
