package store_test

import (
	"bytes"
	"maps"
	"slices"
	"testing"

	"coppice/api"
)

// roomy is a string as bytes with spare room behind them, and whether all of it is as it was.
func roomy(s string) (b []byte, same func() bool) {
	whole := append([]byte(s), 0x55, 0x55, 0x55)
	were := bytes.Clone(whole)
	return whole[:len(s)], func() bool { return bytes.Equal(whole, were) }
}

// spoil writes over bytes, and over their spare room.
func spoil(b []byte) {
	_ = append(b, 1, 2, 3)
	b = b[:cap(b)]
	for i := range b {
		b[i] += 101
	}
}

// spoilPairs writes over all lists of pairs, and over their spare room.
func spoilPairs(l []api.Pair) {
	for _, p := range l {
		spoil(p.Key)
		spoil(p.Value)
	}
	_ = append(l, api.Pair{Key: []byte("spare")})
	l = l[:cap(l)]
	for i := range l {
		l[i] = api.Pair{Key: []byte("spoilt")}
	}
}

// TestP19_8HandedIn: what is handed in is as it was, its spare room too, and is not kept: whatever is written over it later the store doesn't show.
func TestP19_8HandedIn(t *testing.T) {
	file := rich(t)
	d := image(t, 300, file)
	s := opened(t, d, 4)
	m := mapOf(t, file)
	next := noise(198)
	for i := range 120 {
		v, _ := s.View()
		k := some(next)
		key, sameKey := roomy(k)
		x := fill([]int{0, 5, 512, 513, 5000}[next(5)], i)
		value, sameValue := roomy(x)
		hi, sameHi := roomy(k + "\xff")
		s.Put(key, value)
		m[k] = x
		s.Get(key)
		s.Scan(key, hi, 5)
		v.Get(key)
		v.Rank(key)
		v.Scan(key, hi, 5)
		if i%5 == 0 {
			s.Delete(key)
			delete(m, k)
		}
		if !sameKey() || !sameValue() || !sameHi() {
			t.Fatal("what was handed in has changed")
		}
		spoil(key)
		spoil(value)
		spoil(hi)
		says(t, "spoilt", s, m)
		if i%7 == 0 {
			s.Commit()
		}
		v.Close()
	}
	s.Commit()
	says(t, "opened again", opened(t, image(t, 300, d.Durable()), 1), m)
}

// TestP19_8Answers: what is written over an answer, or behind it, no later one shows, of the store or of a view, nor the file.
func TestP19_8Answers(t *testing.T) {
	file := rich(t)
	m := mapOf(t, file)
	d := image(t, 300, file)
	s := opened(t, d, api.MaxFrames)
	v, _ := s.View()
	keys := slices.Sorted(maps.Keys(m))
	for range 2 {
		for i, key := range keys {
			a, _, _ := s.Get([]byte(key))
			b, _, _ := v.Get([]byte(key))
			p, _ := v.Nth(i)
			if string(a) != m[key] || string(b) != m[key] || string(p.Key) != key || string(p.Value) != m[key] {
				t.Fatalf("%q: an answer shows what was written into another one", key)
			}
			spoil(a)
			if string(b) != m[key] {
				t.Fatalf("%q: the view's answer shows what was written into the store's", key)
			}
			spoil(b)
			spoilPairs([]api.Pair{p})
		}
		for _, scan := range []func(lo, hi []byte, limit int) ([]api.Pair, api.Errno){s.Scan, v.Scan, s.Scan, v.Scan} {
			l, err := scan(nil, nil, all)
			if err != api.OK || !samePairs(l, m.within("", "", all)) {
				t.Fatalf("Scan: %d, or it shows what was written into another answer", err)
			}
			spoilPairs(l)
		}
	}
	s.Put([]byte("n"), []byte("new"))
	m["n"] = "new"
	s.Commit()
	says(t, "opened again", opened(t, image(t, 300, d.Durable()), 1), m)
}

// TestP19_8Apart: no two lists of one answer share memory, and an answer stays as it was whatever is done later.
func TestP19_8Apart(t *testing.T) {
	file := rich(t)
	m := mapOf(t, file)
	s := opened(t, image(t, 300, file), 3)
	v, _ := s.View()
	for _, scan := range []func(lo, hi []byte, limit int) ([]api.Pair, api.Errno){s.Scan, v.Scan} {
		l, _ := scan(nil, nil, all)
		stays, _ := scan(nil, nil, all)
		want := m.within("", "", all)
		for i := range l {
			spoil(l[i].Key)
			l[i].Key, want[i].Key = nil, nil
			if !samePairs(l, want) {
				t.Fatalf("what is written into the key %d is seen elsewhere", i)
			}
			spoil(l[i].Value)
			l[i].Value, want[i].Value = nil, nil
			if !samePairs(l, want) {
				t.Fatalf("what is written into the value %d is seen elsewhere", i)
			}
		}
		for key := range m {
			s.Put([]byte(key), []byte("other"))
		}
		s.Commit()
		s.Rollback()
		if !samePairs(stays, m.within("", "", all)) {
			t.Error("what was told has changed")
		}
		for key, value := range m {
			s.Put([]byte(key), []byte(value))
		}
		s.Commit()
	}
}

// TestP0_4Apart: two stores over two disks never see one another.
func TestP0_4Apart(t *testing.T) {
	t.Parallel()
	file := rich(t)
	a, b := newBench(t, 300, 2, file), newBench(t, 300, 2, file)
	x, y := a.view(), b.view()
	for i := range 8 {
		a.put("a", fill(i*300, i))
		a.commit()
		b.delete(slices.Sorted(maps.Keys(b.work))[i])
		if i%3 == 0 {
			b.commit()
		}
		a.tells(x)
		b.tells(y)
	}
	a.close(0)
	b.tells(y)
	d := image(t, 300, file)
	s := opened(t, d, 1)
	s.Put([]byte("a"), []byte("b"))
	d.Arm(1)
	if err := s.Commit(); err != api.ErrPower {
		t.Errorf("Commit: %d", err)
	}
	b.commit()
	b.tells(b.view())
}
