package disk_test

import (
	"bytes"
	"slices"
	"testing"

	"coppice/api"
	"coppice/disk"
)

// roomy is a list with spare room behind it, and the whole of it.
func roomy(b []byte) (list, whole []byte) {
	whole = append(slices.Clone(b), full(0xee)[:64]...)
	return whole[:len(b)], whole
}

// spoil writes over a list, and over its spare room.
func spoil(b []byte) {
	b = b[:cap(b)]
	for i := range b {
		b[i] ^= 0xff
	}
}

// TestP12_10WriteIsNotKept: what was written is not changed, its spare room neither, and whatever becomes of it later, the disk doesn't show it.
func TestP12_10WriteIsNotKept(t *testing.T) {
	b := newBench(t, 3)
	for i := range 3 {
		data, whole := roomy(grain(i))
		b.write(i, data)
		if !bytes.Equal(whole, slices.Concat(grain(i), full(0xee)[:64])) {
			t.Error("Write has changed what it was given")
		}
		spoil(whole)
		b.look()
	}
	data := grain(7)
	b.write(0, data)
	b.write(1, data) // two writes of one list
	b.sync()
	spoil(data)
	b.look()
	b.rot(0, 3, 3)
	if data[3] != grain(7)[3]^0xff {
		t.Error("Rot has changed what was written")
	}
	b.look()
}

// TestP12_10RefusedIsNotChanged: a Write that answers an error leaves its list alone.
func TestP12_10RefusedIsNotChanged(t *testing.T) {
	d := disk.New(2)
	for _, n := range []int{0, 7, 4095, 4096, 4097} {
		for _, i := range []int{-1, 0, 1, 2, 9} {
			data, whole := roomy(bytes.Repeat([]byte{5}, n))
			d.Write(i, data)
			if !bytes.Equal(whole, slices.Concat(bytes.Repeat([]byte{5}, n), full(0xee)[:64])) {
				t.Errorf("Write(%d, %d bytes) has changed what it was given", i, n)
			}
		}
	}
}

// TestP12_10ImageIsNotKept: the same of what Image is given.
func TestP12_10ImageIsNotKept(t *testing.T) {
	data, whole := roomy(slices.Concat(grain(1), grain(2)))
	b := imageBench(t, 4, data)
	b.rot(1, 7, 7)
	b.write(2, grain(3))
	b.write(0, grain(4))
	b.crash(api.Fate{Kind: api.Kept}, api.Fate{Kind: api.Torn, At: 9})
	if !bytes.Equal(whole, slices.Concat(grain(1), grain(2), full(0xee)[:64])) {
		t.Error("what Image was given has changed")
	}
	spoil(whole)
	b.look()
}

// TestP12_10FatesAreNotChanged: Crash leaves its list alone, spare room too, be it longer or shorter than what pends.
func TestP12_10FatesAreNotChanged(t *testing.T) {
	for n := range 6 {
		whole := []api.Fate{{Kind: api.Torn, At: 9000}, {Kind: 7, At: -7}, {Kind: api.Kept, At: 3}, {Kind: api.Torn, At: -5}, {Kind: -1, At: 5}, {Kind: api.Torn, At: 6}}
		old := slices.Clone(whole)
		d := disk.New(4)
		for i := range 4 {
			d.Write(i, grain(i))
		}
		d.Crash(whole[:n])
		if !slices.Equal(whole, old) {
			t.Errorf("Crash has changed its list of %d", n)
		}
	}
}

// held is a bench with pages that last, that pend, and that do both.
func held(t *testing.T) *bench {
	t.Helper()
	b := imageBench(t, 5, slices.Concat(grain(1), grain(2), grain(3)))
	b.write(1, grain(4))
	b.write(3, grain(5))
	b.write(1, grain(6))
	return b
}

// TestP12_10Answers: whatever is written into an answer, or appended to it, the disk doesn't show it.
func TestP12_10Answers(t *testing.T) {
	b := held(t)
	for range 3 {
		for i := range 4 {
			p, _ := b.d.Read(i)
			b.p.reads++
			spoil(p)
			spoil(append(p, 1, 2, 3))
			b.look()
		}
		spoil(b.d.Durable())
		spoil(append(b.d.Durable(), 1, 2, 3))
		b.look()
		l := b.d.Pending()
		for k := range l {
			spoil(l[k].Data)
			spoil(append(l[k].Data, 1, 2, 3))
			l[k] = api.Write{No: 77}
		}
		l = append(l, api.Write{No: 78})
		l[:cap(l)][cap(l)-1] = api.Write{No: 79}
		b.look()
	}
	b.sync()
	b.look()
}

// TestP12_10AnswersApart: no two answers, and no two lists of one answer, show what was written into another one.
func TestP12_10AnswersApart(t *testing.T) {
	b := held(t)
	var lists, wanted [][]byte
	keep := func(l []byte) { lists, wanted = append(lists, l), append(wanted, slices.Clone(l)) }
	for range 2 {
		for i := range 4 {
			p, _ := b.d.Read(i)
			keep(p)
		}
		for _, w := range b.d.Pending() {
			keep(w.Data)
		}
		keep(b.d.Durable())
	}
	for i, l := range lists {
		spoil(l)
		for k, other := range lists {
			if k > i && !bytes.Equal(other, wanted[k]) {
				t.Fatalf("the answer %d shows what was written into the answer %d", k, i)
			}
		}
	}
}

// TestP12_10AnswersStay: what was told stays as it was, whatever is done with the disk later.
func TestP12_10AnswersStay(t *testing.T) {
	b := held(t)
	var lists, wanted [][]byte
	keep := func(l []byte) { lists, wanted = append(lists, l), append(wanted, slices.Clone(l)) }
	for i := range 4 {
		p, _ := b.d.Read(i)
		b.p.reads++
		keep(p)
	}
	l := b.d.Pending()
	for _, w := range l {
		keep(w.Data)
	}
	keep(b.d.Durable())
	b.rot(1, 5, 5)
	b.write(1, grain(9))
	b.sync()
	b.write(0, grain(10))
	b.crash(api.Fate{Kind: api.Torn, At: 99})
	b.rot(0, 6, 6)
	b.look()
	for i, l := range lists {
		if !bytes.Equal(l, wanted[i]) {
			t.Errorf("the answer %d has changed", i)
		}
	}
	if len(l) != 3 || l[0].No != 1 || l[1].No != 3 || l[2].No != 1 {
		t.Error("the list of what pended has changed")
	}
}

// TestP12_10Disks: two disks never see one another, if one was made of what the other told, too.
func TestP12_10Disks(t *testing.T) {
	image := slices.Concat(grain(1), grain(2))
	a, b := imageBench(t, 3, image), imageBench(t, 3, image)
	c := imageBench(t, 3, a.d.Durable())
	a.write(0, grain(3))
	b.rot(0, 1, 1)
	c.write(2, grain(4))
	a.sync()
	c.arm(1)
	c.sync()
	for _, x := range []*bench{a, b, c} {
		x.look()
	}
}
