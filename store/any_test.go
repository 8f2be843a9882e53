package store_test

import (
	"bytes"
	"testing"

	"coppice/api"
	"coppice/check"
	"coppice/crc"
	"coppice/disk"
	"coppice/store"
)

// judged asks that Open accepts just what Check accepts, and that a store that was opened, its views and a Commit of it say just the file's map.
func judged(t *testing.T, file []byte) bool {
	t.Helper()
	d, err := disk.Image(400, file)
	if err != api.OK { // no whole pages: no disk has them
		return false
	}
	at, want := check.Check(file)
	s, i, got := store.Open(d, 2)
	if got != want || i != at || (s == nil) != (want != api.OK) || d.Done() != 0 {
		t.Fatalf("Open: %d at %d, Check: %d at %d", got, i, want, at)
	}
	if s == nil {
		return false
	}
	m := mapOf(t, file)
	says(t, "Open", s, m)
	v, _ := s.View()
	if l, err := v.Scan(nil, nil, all); err != api.OK || !samePairs(l, m.within("", "", all)) {
		t.Fatalf("a view: %d", err)
	}
	for i, p := range m.within("", "", all) {
		value, has, err := v.Get(p.Key)
		n, e := v.Rank(p.Key)
		q, f := v.Nth(i)
		if err != api.OK || e != api.OK || f != api.OK || !has || n != i || !bytes.Equal(value, p.Value) || !samePairs([]api.Pair{p}, []api.Pair{q}) {
			t.Fatalf("a view: Get %d, Rank %d, Nth %d", err, e, f)
		}
	}
	m["n"] = "new"
	s.Put([]byte("n"), []byte("new"))
	if err := s.Commit(); err != api.OK && s.Need() <= s.Room() && s.State().Version < api.MaxVersion {
		t.Fatalf("Commit: %d", err)
	} else if err == api.OK {
		says(t, "opened again", opened(t, image(t, 400, d.Durable()), 1), m)
	}
	return true
}

// resealed is a file with other bytes in the body of a page, whose sum is right again.
func resealed(t *testing.T, file []byte, no int, change func(body []byte)) []byte {
	t.Helper()
	file = bytes.Clone(file)
	page := file[no*api.PageSize : (no+1)*api.PageSize]
	change(page[:api.BodySize])
	sealed, err := crc.Seal(page[:api.BodySize])
	if err != api.OK {
		t.Fatalf("Seal: %d", err)
	}
	copy(page, sealed)
	return file
}

// TestP19_11Any: bytes by noise, cut files, bytes that have turned with the sum right again.
func TestP19_11Any(t *testing.T) {
	t.Parallel()
	next := noise(1911)
	accepted := map[bool]int{}
	small := newBench(t, 40, 1, blank(t, 40).Durable())
	small.put("a", fill(600, 1))
	small.put("b", "x")
	small.commit()
	small.put("b", "y")
	small.commit()
	great := rich(t)
	for _, file := range [][]byte{nil, great[:5], great[:api.PageSize], great[:2*api.PageSize], great, append(bytes.Clone(great), great...), make([]byte, 3*api.PageSize)} {
		accepted[judged(t, file)]++
	}
	for range 20 {
		dust := make([]byte, (2+next(3))*api.PageSize)
		for i := range dust {
			dust[i] = byte(next(256))
		}
		accepted[judged(t, dust)]++
	}
	for range 1500 {
		file := small.d.Durable()
		for range 1 + next(2) {
			file = resealed(t, file, next(len(file)/api.PageSize), func(body []byte) {
				for range 1 + next(2) {
					body[next([]int{60, api.BodySize}[next(2)])] = byte(next([]int{9, 256}[next(2)]))
				}
			})
		}
		accepted[judged(t, file)]++
	}
	for range 60 {
		file := resealed(t, great, next(len(great)/api.PageSize), func(body []byte) { body[next(api.BodySize)]++ })
		accepted[judged(t, file)]++
	}
	if accepted[true] < 20 || accepted[false] < 20 {
		t.Errorf("%v are accepted or not", accepted)
	}
}

// TestP19_11Rest: what lies behind the count, or in the other slot, is not looked at.
func TestP19_11Rest(t *testing.T) {
	file := rich(t)
	f, _, _ := check.Open(file)
	other := 1 - f.Head().Version%2
	copy(file[other*api.PageSize:], bytes.Repeat([]byte{0x77}, api.PageSize))
	file = append(file, bytes.Repeat([]byte{0x99}, 3*api.PageSize)...)
	if !judged(t, file) {
		t.Error("it is refused")
	}
	b := newBench(t, 300, 2, file)
	if b.s.State().Count != f.Head().Count || b.s.Room() != 300-f.Head().Count+f.Head().Free {
		t.Errorf("%+v, room %d", b.s.State(), b.s.Room())
	}
	for i := range 6 {
		b.put("a", fill(i*5000, i))
		b.commit()
	}
}
