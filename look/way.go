package look

import (
	"slices"

	"coppice/api"
	"coppice/keys"
)

// Which way one goes.
const (
	onward = 1
	back   = -1
)

// way is a way from the root to a leaf.
type way struct {
	forks []fork     // its branches, from the root on
	items []api.Item // its leaf's
}

// fork is a branch on a way, and which of its kids the way takes.
type fork struct {
	level, taken int
	kids         []api.Kid
}

// choice says which kid of a branch a way takes.
type choice func(p api.Page) int

// toward takes the way to a key.
func toward(key []byte) choice {
	return func(p api.Page) int {
		i, has := slices.BinarySearchFunc(p.Seps, key, keys.Compare)
		if has {
			i++
		}
		return i
	}
}

// entering takes the kid to which one comes first who goes that way.
func entering(by int) choice {
	return func(p api.Page) int { return entry(len(p.Kids), by) }
}

// entry is the place, of n, to which one comes first who goes that way.
func entry(n, by int) int {
	if by == onward {
		return 0
	}
	return n - 1
}

// to is the way to a key.
func (l *Look) to(key []byte) way { return l.down(nil, l.root, l.height-1, toward(key)) }

// edge is the first way, for one who goes onward, or the last one.
func (l *Look) edge(by int) way { return l.down(nil, l.root, l.height-1, entering(by)) }

// down is the way over forks to a page of a level, and from there on to a leaf.
func (l *Look) down(forks []fork, no, level int, choose choice) way {
	for ; level > 0; level-- {
		p := l.read(no, level)
		f := fork{level: level, taken: choose(p), kids: p.Kids}
		forks = append(forks, f)
		no = f.kids[f.taken].No
	}
	return way{forks: forks, items: l.read(no, 0).Items}
}

// beside is the way to the next leaf behind a way, or to the leaf ahead; false: there is none. The way itself stays as it was: the leaf may not be to be had.
func (l *Look) beside(w way, by int) (way, bool) {
	last := len(w.forks) - 1
	for last >= 0 && w.forks[last].taken == entry(len(w.forks[last].kids), -by) {
		last--
	}
	if last < 0 {
		return way{}, false
	}
	forks := slices.Clone(w.forks[:last+1])
	f := &forks[last]
	f.taken += by
	next := l.down(forks, f.kids[f.taken].No, f.level-1, entering(by))
	if keys.Compare(next.first(by), w.first(-by)) != by {
		giveUp(api.ErrLost)
	}
	return next, true
}

// first is the key of the leaf to which one comes first who goes that way.
func (w way) first(by int) []byte { return w.items[entry(len(w.items), by)].Key }

// find tells how many items of the leaf stand ahead of a key, which is where it stands if the leaf has it.
func (w way) find(key []byte) (int, bool) {
	return slices.BinarySearchFunc(w.items, key, func(it api.Item, key []byte) int { return keys.Compare(it.Key, key) })
}
