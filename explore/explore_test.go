package explore_test

import (
	"bytes"
	"fmt"
	"slices"
	"testing"

	"coppice/api"
	"coppice/bulk"
	"coppice/disk"
	"coppice/explore"
	"coppice/store"
)

// TestP25_2Examples: the chapter's.
func TestP25_2Examples(t *testing.T) {
	b := formatted(t)
	x := []byte("x")
	is(t, "no change", b, 10, nil, nil, answer{})
	is(t, "a put", b, 10, []api.Change{put("a", x)}, nil, answer{all: 14, old: 12, fresh: 2})
	is(t, "a put, torn", b, 10, []api.Change{put("a", x)}, []int{100}, answer{all: 27, old: 25, fresh: 2})
	is(t, "nothing is new", b, 10, []api.Change{put("a", x), gone("a")}, nil, answer{})
	fails(t, "no key", b, 10, []api.Change{put("", x)}, nil, 41)
	fails(t, "torn at 0", b, 10, nil, []int{0}, 250)
	fails(t, "no such room", b, 1, nil, nil, 120)
	fails(t, "one page", b[:4096], 10, nil, nil, 150)
}

// TestP25_1Ways: so many crashes at each Write and Sync, by what pends: one, two, two, one, one of one page; with each tear one way more.
func TestP25_1Ways(t *testing.T) {
	b := formatted(t)
	for n, want := range []int{14, 27, 44, 65, 90} {
		tears := []int{1, 4095, 7, 7}[:n] // a place that is named twice is torn at twice
		is(t, fmt.Sprint(tears), b, 10, []api.Change{put("a", nil)}, tears, answer{all: want, old: want - 2, fresh: 2})
		isPlain(t, fmt.Sprint(tears), b, 10, []api.Change{put("a", nil)}, tears)
	}
	two := []api.Change{put("a", fill(4086, 1))} // two pages of a chain, a leaf: four pend at the first Sync
	is(t, "a chain", b, 10, two, nil, answer{all: 2 + 4 + 8 + 16 + 16 + 2 + 2, old: 48, fresh: 2})
	is(t, "a chain, torn", b, 10, two, []int{9}, answer{all: 3 + 9 + 27 + 81 + 81 + 3 + 3, old: 205, fresh: 2})
}

// TestP25_1Changes: what is done with each change, in their order.
func TestP25_1Changes(t *testing.T) {
	b := grown(t, []api.Change{put("a", []byte("x")), put("b", fill(600, 2))})
	long := fill(262145, 3) // no value has so many bytes
	none := answer{}
	leaf := answer{all: 26, old: 24, fresh: 2}  // a leaf and a page of frees
	alone := answer{all: 26, old: 26, fresh: 0} // the same, but the map stays
	for _, x := range []struct {
		what string
		l    []api.Change
		want answer
	}{
		{"another value", []api.Change{put("a", []byte("y"))}, leaf},
		{"a key more", []api.Change{put("c", nil)}, leaf},
		{"a key fewer", []api.Change{gone("a")}, leaf},
		{"a key that is not there", []api.Change{gone("c")}, none},
		{"gone, whatever its value is", []api.Change{{Key: []byte("a"), Value: long, Gone: true}}, leaf},
		{"gone that is not there, whatever its value is", []api.Change{{Key: []byte("c"), Value: long, Gone: true}}, none},
		{"put, then gone", []api.Change{put("a", []byte("y")), gone("a")}, leaf},
		{"gone, then put as it was", []api.Change{gone("a"), put("a", []byte("x"))}, alone},
		{"gone, then put", []api.Change{gone("a"), put("a", []byte("y"))}, leaf},
		{"two values, the last one holds", []api.Change{put("a", []byte("y")), put("a", []byte("z"))}, leaf},
		{"to nothing", []api.Change{gone("b"), gone("a")}, answer{all: 14, old: 12, fresh: 2}},
	} {
		is(t, x.what, b, 20, x.l, nil, x.want)
		isPlain(t, x.what, b, 20, x.l, []int{4091})
	}
}

// TestP25_1SameMap: where the new map is the old one, each crash leaves the old one, though the Commit writes.
func TestP25_1SameMap(t *testing.T) {
	b := grown(t, []api.Change{put("a", []byte("x"))})
	is(t, "written anew", b, 20, []api.Change{gone("a"), put("a", []byte("x"))}, []int{1}, answer{all: 3 + 9 + 27 + 27 + 3 + 3, old: 72})
}

// TestP25_1Files: any file that is accepted: empty ones, great ones, with free pages, with pages that don't count.
func TestP25_1Files(t *testing.T) {
	var many, fewer []api.Change
	for i := range 24 {
		many = append(many, put(fmt.Sprintf("key %03d", i), fill(400, i)))
		fewer = append(fewer, gone(fmt.Sprintf("key %03d", i)))
	}
	great := grown(t, many)
	freed := grown(t, many, fewer[:18])
	junk := append(bytes.Clone(freed), fill(3*4096, 5)...)
	for _, x := range []struct {
		what string
		b    []byte
	}{
		{"great", great},
		{"with free pages", freed},
		{"with pages behind those that count", junk},
		{"emptied", grown(t, many, fewer)},
	} {
		for _, l := range [][]api.Change{{put("key 021", nil)}, {gone("key 022")}, {put("a", fill(600, 6))}} {
			for _, tears := range [][]int{nil, {2000}} {
				if got, err := isPlain(t, x.what, x.b, 100, l, tears); err != api.OK {
					t.Errorf("%s: the error %d", x.what, err)
				} else if len(got) == 0 && x.what != "emptied" {
					t.Errorf("%s: no crash", x.what)
				}
			}
		}
	}
}

// TestP25_1LastKey: all of a map is looked at, however many keys it has.
func TestP25_1LastKey(t *testing.T) {
	t.Parallel()
	var l []api.Pair
	for i := range 33000 {
		l = append(l, api.Pair{Key: fmt.Appendf(nil, "%05d", i)})
	}
	d := disk.New(500)
	if err := bulk.Load(d, l); err != api.OK {
		t.Fatalf("Load: the error %d", err)
	}
	is(t, "the last key's value", d.Durable(), 500, []api.Change{put("32999", []byte("x"))}, nil, answer{all: 50, old: 48, fresh: 2}) // a leaf, a branch and a page of frees
}

// TestP25_1Room: the disk has just the room that it is given.
func TestP25_1Room(t *testing.T) {
	b := formatted(t)
	l := []api.Change{put("a", fill(4086, 1))}
	fails(t, "no room", b, 2, l, nil, 170)
	fails(t, "a page too few", b, 4, l, nil, 170)
	isPlain(t, "just enough", b, 5, l, nil)
	is(t, "just enough", b, 5, l, nil, answer{all: 50, old: 48, fresh: 2})
	is(t, "as much as there may be", b, 524287, l, nil, answer{all: 50, old: 48, fresh: 2})
	is(t, "no room, no need", b, 2, nil, nil, answer{})
}

// lastByteNought finds a file whose next version, with a as n says, has a head whose page ends in 0; and n.
func lastByteNought(t *testing.T) ([]byte, int) {
	t.Helper()
	d, s, err := begin(formatted(t), 20)
	for n := range 3000 {
		was := d.Durable()
		if err == api.OK {
			err = s.Put([]byte("a"), fmt.Append(nil, n))
		}
		if err == api.OK {
			err = s.Commit()
		}
		if err != api.OK {
			t.Fatalf("version %d: the error %d", n+2, err)
		}
		if slot := n % 2; d.Durable()[slot*4096+4095] == 0 {
			return was, n
		}
	}
	t.Fatal("no head ends in 0")
	return nil, 0
}

// TestP25_1TornWhole: a write of which all but a last byte arrives that is 0 anyway is whole: the new map is there.
func TestP25_1TornWhole(t *testing.T) {
	b, n := lastByteNought(t)
	l := []api.Change{put("a", fmt.Append(nil, n))}
	is(t, "torn ahead of its last byte", b, 20, l, []int{4095}, answer{all: 3 + 9 + 27 + 27 + 3 + 3, old: 68, fresh: 4})
	is(t, "torn ahead of the last two", b, 20, l, []int{4094}, answer{all: 72, old: 70, fresh: 2})
	isPlain(t, "torn at both", b, 20, l, []int{4094, 4095})
}

// TestP25_1Noise: files by noise, some of them left by a crash, and changes of them, are gone through as the chapter says.
func TestP25_1Noise(t *testing.T) {
	for seed := range 5 {
		t.Run(fmt.Sprint("seed ", seed), func(t *testing.T) {
			t.Parallel()
			crashes, refused := byNoise(t, noise(uint64(seed)))
			if crashes < 200 || refused > 9 {
				t.Errorf("%d crashes, %d errors: the noise is too loud", crashes, refused)
			}
		})
	}
}

// byNoise asks of some files, and tells how many crashes there were, and how many calls answered an error.
func byNoise(t *testing.T, next func(int) int) (crashes, refused int) {
	t.Helper()
	for i := range 12 {
		b := file(t, next)
		l := changes(next, 1+next(3))
		var tears []int
		for range next(3) {
			tears = append(tears, 1+next(4095))
		}
		room := len(b)/4096 + next(12)
		if heavy(b, room, l, tears) {
			continue
		}
		got, err := isPlain(t, fmt.Sprint("file ", i), b, room, l, tears)
		crashes += len(got)
		if err != api.OK {
			refused++
		}
	}
	return crashes, refused
}

// heavy tells whether a call has so many crashes at once that many such calls take too long.
func heavy(b []byte, room int, l []api.Change, tears []int) bool {
	_, s, err := begin(b, room)
	if err != api.OK || change(s, l) != api.OK || s.Need() > s.Room() {
		return false // an error, at once
	}
	return s.Need() > 8 || powerOf(2+len(tears), s.Need()+1) > 300
}

// changes are n changes by noise, of few keys.
func changes(next func(int) int, n int) []api.Change {
	var l []api.Change
	for range n {
		key := fmt.Sprintf("key %02d", next(30))
		if next(3) == 0 {
			l = append(l, gone(key))
		} else {
			l = append(l, put(key, fill([]int{0, 30, 500, 513, 4086}[next(5)], next(200))))
		}
	}
	return l
}

// file is a file by noise: commits, and at its end maybe a crash.
func file(t *testing.T, next func(int) int) []byte {
	t.Helper()
	d, s, err := begin(formatted(t), 200)
	for range next(5) {
		if err == api.OK {
			err = change(s, changes(next, 1+next(12)))
		}
		if err == api.OK {
			err = s.Commit()
		}
	}
	if err != api.OK {
		t.Fatalf("a file by noise: the error %d", err)
	}
	if next(2) == 0 {
		change(s, changes(next, 3))
		d.Arm(1 + next(8))
		s.Commit()
		var fates []api.Fate
		for range d.Pending() {
			fates = append(fates, api.Fate{Kind: next(3), At: next(4096)})
		}
		d.Crash(fates)
	}
	return d.Durable()
}

// TestP25_1Left: the crashes can be left in the midst.
func TestP25_1Left(t *testing.T) {
	b := formatted(t)
	l := []api.Change{put("a", nil)}
	want, _ := plain(b, 10, l, nil)
	for n := range len(want) {
		var got [][]byte
		for d := range explore.HandedOut(b, 10, l, nil) {
			got = append(got, d.Durable())
			if len(got) > n {
				break
			}
		}
		if len(got) != n+1 || !bytes.Equal(got[n], want[n].durable) {
			t.Errorf("left behind %d crashes: %d were handed out", n+1, len(got))
		}
	}
}

// disks hands out a disk for each of these files.
func disks(t *testing.T, files [][]byte) func(yield func(*disk.Disk) bool) {
	t.Helper()
	return func(yield func(*disk.Disk) bool) {
		for _, b := range files {
			d, err := disk.Image(100, b)
			if err != api.OK {
				t.Fatalf("Image: the error %d", err)
			}
			if !yield(d) {
				return
			}
		}
	}
}

// TestP25_2Another: which map each crash leaves, and what is told of the first one that leaves another.
func TestP25_2Another(t *testing.T) {
	empty := formatted(t)
	ax := grown(t, []api.Change{put("a", []byte("x"))})
	ay := grown(t, []api.Change{put("a", []byte("y"))})
	bx := grown(t, []api.Change{put("b", []byte("x"))})
	both := grown(t, []api.Change{put("a", []byte("x")), put("b", []byte("x"))})
	twice := grown(t, []api.Change{put("a", []byte("y"))}, []api.Change{put("a", []byte("x"))})
	zeros := make([]byte, 3*4096)
	rotten := bytes.Clone(ax)
	rotten[2*4096+9] ^= 1
	x := []api.Pair{{Key: []byte("a"), Value: []byte("x")}}
	xx := append(slices.Clone(x), api.Pair{Key: []byte("b"), Value: []byte("x")})
	for i, c := range []struct {
		files           [][]byte
		old, fresh      []api.Pair
		all, olds, news int
		odd             []byte
	}{
		{nil, nil, x, 0, 0, 0, nil},
		{[][]byte{empty, ax, ax, empty, empty}, nil, x, 5, 3, 2, nil},
		{[][]byte{ax, twice}, x, xx, 2, 2, 0, nil},
		{[][]byte{ax, twice, both}, nil, x, 3, 0, 2, both},
		{[][]byte{ax, empty}, x, x, 2, 1, 0, empty},
		{[][]byte{empty, empty}, nil, nil, 2, 2, 0, nil},
		{[][]byte{empty, rotten, ax, zeros}, nil, x, 4, 1, 1, rotten},
		{[][]byte{empty, zeros, ax, rotten}, nil, x, 4, 1, 1, zeros},
		{[][]byte{zeros, rotten, empty}, nil, x, 3, 1, 0, zeros},
		{[][]byte{zeros, zeros}, x, nil, 2, 0, 0, zeros},
		{[][]byte{ay, bx, both}, nil, x, 3, 0, 0, ay},
		{[][]byte{bx, ay, both}, x, nil, 3, 0, 0, bx},
		{[][]byte{both, ax}, xx, x, 2, 1, 1, nil},
		{[][]byte{ax, both, ay}, xx, nil, 3, 1, 0, ax},
	} {
		all, olds, news, odd := explore.Tally(disks(t, c.files), c.old, c.fresh)
		if all != c.all || olds != c.olds || news != c.news || !bytes.Equal(odd, c.odd) {
			t.Errorf("row %d: %d, %d, %d, %d bytes, not %d, %d, %d, %d bytes", i, all, olds, news, len(odd), c.all, c.olds, c.news, len(c.odd))
		}
	}
}

// TestP25_2Looked: what was opened has written nothing: the file that is told is the one that the crash left.
func TestP25_2Looked(t *testing.T) {
	b := grown(t, []api.Change{put("a", []byte("x"))})
	for d := range explore.HandedOut(b, 20, []api.Change{put("a", []byte("y"))}, []int{50}) {
		was, done := d.Durable(), d.Done()
		if _, _, _, odd := explore.Tally(func(yield func(*disk.Disk) bool) { yield(d) }, nil, nil); !bytes.Equal(odd, was) || d.Done() != done {
			t.Fatal("a disk that was looked at is another one, or is told as another one")
		}
		if _, _, err := store.Open(d, 1); err != api.OK {
			t.Fatalf("Open: the error %d", err)
		}
	}
}
