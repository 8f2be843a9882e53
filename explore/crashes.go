package explore

import (
	"iter"

	"coppice/api"
	"coppice/disk"
)

// fatesOf are the fates that a write may have, each at the digit that stands for it.
func fatesOf(tears []int) []api.Fate {
	fates := []api.Fate{{Kind: api.Lost}, {Kind: api.Kept}}
	for _, at := range tears {
		fates = append(fates, api.Fate{Kind: api.Torn, At: at})
	}
	return fates
}

// crashes hands out the disk behind each crash: those of the first Write or Sync first, of which there are ways[0].
func (t trial) crashes(ways []int, fates []api.Fate) iter.Seq[*disk.Disk] {
	return func(yield func(*disk.Disk) bool) {
		for i, n := range ways {
			f := failureOf(t.fail(i + 1))
			for s := range n {
				if !yield(f.crash(t.room, deal(s, len(f.pending), fates))) {
					return
				}
			}
		}
	}
}

// failure is a disk as it is when its power has failed.
type failure struct {
	lasting []byte
	pending []api.Write
}

// failureOf is how a disk is now.
func failureOf(d *disk.Disk) failure {
	return failure{lasting: d.Durable(), pending: d.Pending()}
}

// crash is a new disk, behind a Crash with these fates. The trial that led here is not gone through again: all of it that a Crash leaves anything of is what lasted and what pended.
func (f failure) crash(room int, l []api.Fate) *disk.Disk {
	d, _ := disk.Image(room, f.lasting)
	for _, w := range f.pending {
		d.Write(w.No, w.Data)
	}
	d.Crash(l)
	return d
}

// deal deals the s-th way out to m writes: the digits of s, the lowest one first, say which fate each has.
func deal(s, m int, fates []api.Fate) []api.Fate {
	l := make([]api.Fate, m)
	for i := range l {
		l[i] = fates[s%len(fates)]
		s /= len(fates)
	}
	return l
}
