package explore

import (
	"iter"

	"coppice/api"
	"coppice/disk"
)

// Of an accepted file no crash leaves another map (P25.5): which crash is which, and what is told of the first that leaves another, can't be seen at the face. These let the tests ask further in.

// HandedOut hands out the disk behind each crash, as Crashes goes through them.
func HandedOut(b []byte, room int, l []api.Change, tears []int) iter.Seq[*disk.Disk] {
	t := trial{file: b, room: room, changes: l}
	ways, _ := t.ways(2 + len(tears))
	return t.crashes(ways, fatesOf(tears))
}

// Tally looks at disks as Crashes does.
func Tally(crashes iter.Seq[*disk.Disk], old, fresh []api.Pair) (int, int, int, []byte) {
	return tally(crashes, old, fresh)
}
