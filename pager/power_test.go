package pager_test

import (
	"fmt"
	"testing"

	"coppice/api"
	"coppice/disk"
	"coppice/pager"
	"coppice/tree"
)

// crash is one failing of the power: at the k-th Write or Sync, with fates for what pends.
type crash struct {
	k     int
	fates func(pending []api.Write) []api.Fate
}

// survives lets the power fail in a Commit, and asks that the file says the old version or the new one: the new one, if Commit answered OK.
func survives(t *testing.T, what string, w *world, x *tree.Tree, c crash) (old bool) {
	t.Helper()
	now := w.again(t)
	before := tellBase(now.b)
	now.d.Arm(c.k)
	b, err := now.b.Commit(now.d, x, now.p)
	if err != api.OK && (err != api.ErrPower || b != nil) {
		t.Fatalf("%s: Commit: %d", what, err)
	}
	fates := c.fates(now.d.Pending())
	now.d.Crash(fates)
	f, at, e := pager.Load(now.d)
	if e != api.OK {
		t.Fatalf("%s, the power fails at %d, fates %v: refused with %d at %d", what, c.k, fates, e, at)
	}
	if tellBase(f) == before {
		if err == api.OK {
			t.Fatalf("%s: Commit answered OK, and the old version comes up", what)
		}
		return true
	}
	after := w.again(t)
	after.commit(t, x)
	if tellBase(f) != tellBase(after.b) {
		t.Fatalf("%s, the power fails at %d, fates %v: %.300s", what, c.k, fates, tellBase(f))
	}
	if tellFile(t, now.d.Durable()) != tellBase(f) {
		t.Fatalf("%s: what lasts is something else", what)
	}
	return false
}

// pairs are all pairs of a tree, in order.
func pairs(x *tree.Tree) string {
	told := ""
	for _, n := range x.Nodes() {
		for _, pair := range n.Pairs {
			told += fmt.Sprintf("%q %q ", pair.Key, pair.Value)
		}
	}
	return told
}

// all gives each write that pends one fate.
func all(fate api.Fate) func([]api.Write) []api.Fate {
	return func(pending []api.Write) []api.Fate {
		var l []api.Fate
		for range pending {
			l = append(l, fate)
		}
		return l
	}
}

// mixed gives each write that pends a fate by noise.
func mixed(next func(int) int) func([]api.Write) []api.Fate {
	return func(pending []api.Write) []api.Fate {
		var l []api.Fate
		for range next(len(pending) + 1) {
			l = append(l, api.Fate{Kind: next(3), At: next(api.PageSize + 1)})
		}
		return l
	}
}

// small is a world with some pages, some of them free, and a tree for it that needs few pages.
func small(t *testing.T) (*world, *tree.Tree) {
	t.Helper()
	w := formatted(t, 20)
	w.commit(t, with(t, with(t, w.b.Tree(), "a", []byte("x")), "b", fill(600, 1)))
	w.commit(t, with(t, w.b.Tree(), "a", []byte("y")))
	return w, with(t, w.b.Tree(), "c", fill(700, 2))
}

// TestP18_7Each: the power fails at each Write and Sync of a small Commit, each write that pends is lost, kept or torn: all ways.
func TestP18_7Each(t *testing.T) {
	t.Parallel()
	w, x := small(t)
	need := w.b.Need(x, w.p)
	choices := []api.Fate{{Kind: api.Lost}, {Kind: api.Kept}, {Kind: api.Torn, At: 40}}
	olds, news := 0, 0
	for k := 1; k <= need+5; k++ {
		most := 1
		for range need + 1 {
			most *= len(choices)
		}
		for way := range most {
			pends := 0
			old := survives(t, fmt.Sprint("way ", way), w, x, crash{k, func(pending []api.Write) []api.Fate {
				pends = len(pending)
				var l []api.Fate
				for i, n := 0, way; i < pends; i, n = i+1, n/len(choices) {
					l = append(l, choices[n%len(choices)])
				}
				return l
			}})
			if old {
				olds++
			} else {
				news++
			}
			ways := 1
			for range pends {
				ways *= len(choices)
			}
			if way+1 >= ways {
				break
			}
		}
	}
	if olds == 0 || news == 0 {
		t.Errorf("%d times the old version, %d times the new one", olds, news)
	}
}

// TestP18_7Torn: the head is torn at each byte.
func TestP18_7Torn(t *testing.T) {
	t.Parallel()
	w, x := small(t)
	need := w.b.Need(x, w.p)
	news := 0
	for at := -1; at <= api.PageSize+1; at++ {
		if at%16 > 1 && at > 50 && at < 4080 {
			continue
		}
		for _, k := range []int{need + 3, need + 4} {
			if !survives(t, fmt.Sprint("torn at ", at), w, x, crash{k, all(api.Fate{Kind: api.Torn, At: at})}) {
				news++
			}
		}
	}
	if news == 0 {
		t.Error("the new version never comes up")
	}
}

// TestP18_7Zeros: the zeros that are laid over an old head are torn at some bytes, where that head would be read by a torn one.
func TestP18_7Zeros(t *testing.T) {
	t.Parallel()
	w, x := small(t)
	need := w.b.Need(x, w.p)
	for at := 0; at <= api.PageSize; at += 64 {
		for _, k := range []int{need + 1, need + 2} {
			if !survives(t, fmt.Sprint("torn at ", at), w, x, crash{k, all(api.Fate{Kind: api.Torn, At: at})}) {
				t.Errorf("torn at %d: the new version comes up ahead of its head", at)
			}
		}
	}
}

// TestP18_7Any: greater commits one behind the other, each with some crashes by noise; it goes on with what came up.
func TestP18_7Any(t *testing.T) {
	for i, sizes := range [][]int{{0, 3, 40}, {400, 512}, {0, 513, 4086, 9000}} {
		t.Run(fmt.Sprint(sizes), func(t *testing.T) {
			t.Parallel()
			next := noise(uint64(1870 + i))
			w := formatted(t, 400)
			for round := range 8 {
				x := changed(w.b.Tree(), next, 1+next(20), sizes)
				need := w.b.Need(x, w.p)
				if need == 0 || need > w.p.Room() {
					continue
				}
				for _, fates := range []func([]api.Write) []api.Fate{all(api.Fate{}), all(api.Fate{Kind: api.Kept}), mixed(next), mixed(next), mixed(next)} {
					for _, k := range []int{1 + next(need+4), need + 2, need + 3, need + 4, need + 5} {
						survives(t, fmt.Sprint("round ", round), w, x, crash{k, fates})
					}
				}
				w.commit(t, x)
				w = w.again(t)
			}
		})
	}
}

// TestP18_7Row: crashes one behind the other on one disk: what a crash leaves is no hindrance to the next Commit.
func TestP18_7Row(t *testing.T) {
	t.Parallel()
	next := noise(7)
	d := disk.New(200)
	pager.Format(d)
	came := 0
	for round := range 60 {
		w := loaded(t, d)
		x := changed(w.b.Tree(), next, 1+next(10), []int{3, 400, 600})
		before := tellBase(w.b)
		need := w.b.Need(x, w.p)
		d.Arm(1 + next(need+5))
		b, err := w.b.Commit(d, x, w.p)
		if err != api.OK && err != api.ErrPower {
			t.Fatalf("round %d: %d", round, err)
		}
		d.Crash(mixed(next)(d.Pending()))
		now := loaded(t, d).b
		switch {
		case err == api.OK && tellBase(now) != tellBase(b):
			t.Fatalf("round %d: Commit answered OK, and something else comes up", round)
		case err != api.OK && tellBase(now) != before:
			came++
			if now.Head().Version != w.b.Head().Version+1 || pairs(now.Tree()) != pairs(x) {
				t.Fatalf("round %d: %s", round, tellBase(now))
			}
		}
	}
	if came == 0 {
		t.Error("no Commit at which the power failed came up")
	}
}
