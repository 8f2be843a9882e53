package explore

import (
	"bytes"
	"math"
	"slices"

	"coppice/api"
	"coppice/disk"
	"coppice/store"
)

// mostWays is how many crashes are looked at for one Write or Sync.
const mostWays = 4096

// trial is what each crash begins with: a file on a new disk with so much room, and changes of its map.
type trial struct {
	file    []byte
	room    int
	changes []api.Change
}

// begin makes the disk, and opens a store over it.
func (t trial) begin() (*disk.Disk, *store.Store, api.Errno) {
	d, err := disk.Image(t.room, t.file)
	if err != api.OK {
		return nil, nil, err
	}
	s, err := open(d)
	return d, s, err
}

// change does the changes, up to the first that can't be done.
func (t trial) change(s *store.Store) api.Errno {
	for _, c := range t.changes {
		if err := do(s, c); err != api.OK {
			return err
		}
	}
	return api.OK
}

// maps tells the map that the file says, and the one behind the changes; or why the trial can't be gone through while the power is on.
func (t trial) maps() (old, fresh []api.Pair, err api.Errno) {
	_, s, err := t.begin()
	if err != api.OK {
		return nil, nil, err
	}
	old = mapIn(s)
	if err := t.change(s); err != api.OK {
		return nil, nil, err
	}
	fresh = mapIn(s)
	if err := s.Commit(); err != api.OK {
		return nil, nil, err
	}
	return old, fresh, api.OK
}

// fail goes through a trial whose power fails at the k-th Write or Sync of the Commit: the disk, its power off; nil, if the Commit has fewer of them. It is for a trial that maps has gone through: nothing but the power stops it.
func (t trial) fail(k int) *disk.Disk {
	d, s, _ := t.begin()
	t.change(s)
	d.Arm(k)
	if s.Commit() == api.OK {
		return nil
	}
	return d
}

// ways tells of each Write and Sync of the Commit how many crashes there are, if each write that pends has one of so many fates.
func (t trial) ways(fates int) ([]int, api.Errno) {
	var ways []int
	for k := 1; ; k++ {
		d := t.fail(k)
		if d == nil {
			return ways, api.OK
		}
		n := 1
		for range d.Pending() {
			n *= fates
			if n > mostWays {
				return nil, api.ErrWays
			}
		}
		ways = append(ways, n)
	}
}

// open opens a store over a disk.
func open(d *disk.Disk) (*store.Store, api.Errno) {
	s, _, err := store.Open(d, 1)
	return s, err
}

// do does one change.
func do(s *store.Store, c api.Change) api.Errno {
	if c.Gone {
		_, err := s.Delete(c.Key)
		return err
	}
	return s.Put(c.Key, c.Value)
}

// mapIn is all that a store has. It hasn't ended, so that it answers no error.
func mapIn(s *store.Store) []api.Pair {
	pairs, _ := s.Scan(nil, nil, math.MaxInt32)
	return pairs
}

// mapOn is the map that a disk's file says, and whether it says one.
func mapOn(d *disk.Disk) ([]api.Pair, bool) {
	s, err := open(d)
	if err != api.OK {
		return nil, false
	}
	return mapIn(s), true
}

// same tells whether two maps are the same.
func same(a, b []api.Pair) bool {
	return slices.EqualFunc(a, b, func(x, y api.Pair) bool {
		return bytes.Equal(x.Key, y.Key) && bytes.Equal(x.Value, y.Value)
	})
}
