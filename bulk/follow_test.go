package bulk_test

import (
	"bytes"
	"fmt"
	"slices"
	"testing"

	"coppice/api"
	"coppice/bulk"
	"coppice/check"
	"coppice/disk"
	"coppice/dump"
	"coppice/tree"
	"coppice/walk"
)

// someLists are lists of pairs of all woods, of all lengths, and some ladders.
func someLists(seed uint64, each int) map[string][]api.Pair {
	next := noise(seed)
	all := map[string][]api.Pair{"none": nil, "nine letters": letters(9, 500)}
	for _, w := range woods() {
		for i := range each {
			all[fmt.Sprint(w.name, " ", i)] = w.some(next, 1+next(w.pairs/2))
		}
	}
	for i := range each {
		var lens []int
		for range next(330) {
			lens = append(lens, 3+next(253))
		}
		all[fmt.Sprint("ladder ", i)] = ladder(2, lens...)
	}
	return all
}

// judge asks DOC.md's words for a sound tree of nodes: lo and hi are the separators around the node at a place, or nothing.
func judge(t *testing.T, what string, l []api.Node, at int, lo, hi string) {
	t.Helper()
	n := l[at]
	if n.Level == 0 {
		if len(n.Pairs) == 0 || plainLeafSize(n.Pairs) > 4092 || string(n.Pairs[0].Key) < lo || hi != "" && string(n.Pairs[len(n.Pairs)-1].Key) >= hi {
			t.Errorf("%s: the leaf at %d is not sound", what, at)
		}
		return
	}
	seps := sepsOf(n)
	if len(n.Kids) == 0 || at == len(l)-1 && len(n.Kids) < 2 || len(seps) != len(n.Kids)-1 || plainBranchSize(seps) > 4092 || !slices.IsSorted(seps) {
		t.Errorf("%s: the branch at %d is not sound", what, at)
		return
	}
	around := slices.Concat([]string{lo}, seps, []string{hi})
	for i, kid := range n.Kids {
		if l[kid].Level != n.Level-1 {
			t.Errorf("%s: the branch at %d has a kid of level %d", what, at, l[kid].Level)
			return
		}
		if i > 0 && together(l[n.Kids[i-1]], seps[i-1], l[kid]) <= 3000 {
			t.Errorf("%s: the branch at %d has kids that can be joined", what, at)
		}
		judge(t, what, l, kid, around[i], around[i+1])
	}
}

// sepsOf are the separators of a branch as strings.
func sepsOf(n api.Node) []string {
	var seps []string
	for _, s := range n.Seps {
		seps = append(seps, string(s))
	}
	return seps
}

// together is the size of two neighbours in one.
func together(a api.Node, sep string, b api.Node) int {
	if a.Level == 0 {
		return plainLeafSize(slices.Concat(a.Pairs, b.Pairs))
	}
	return plainBranchSize(slices.Concat(sepsOf(a), []string{sep}, sepsOf(b)))
}

// TestP21_6Sound: sound, with just these pairs.
func TestP21_6Sound(t *testing.T) {
	t.Parallel()
	for what, l := range someLists(216, 4) {
		u, err := bulk.Build(l)
		if err != api.OK {
			t.Fatalf("%s: %d", what, err)
		}
		nodes := u.Nodes()
		if len(nodes) > 0 {
			judge(t, what, nodes, len(nodes)-1, "", "")
		}
		if _, err := tree.Build(nodes); err != api.OK {
			t.Errorf("%s: no sound tree has these nodes: %d", what, err)
		}
		if !samePairs(walk.Take(u, nil, nil, len(l)+1), l) || u.Len() != len(l) {
			t.Errorf("%s: other pairs", what)
		}
		for i := range min(len(l), 20) {
			p := l[i*len(l)/20%len(l)]
			if value, is := u.Get(p.Key); !is || !bytes.Equal(value, p.Value) {
				t.Errorf("%s: %.20q is found: %v", what, p.Key, is)
			}
		}
	}
}

// sizeWith is the size of a node with the first pair, or the first kid, of the next one.
func (n *plainNode) sizeWith(next *plainNode) int {
	if len(n.kids) > 0 {
		return plainBranchSize(append(slices.Clip(n.seps), sepOf(n, next)))
	}
	return plainLeafSize(append(slices.Clip(n.pairs), next.pairs[0]))
}

// TestP21_6Full: of each level every node but the last one would not fit with what comes next.
func TestP21_6Full(t *testing.T) {
	t.Parallel()
	full := 0
	for what, l := range someLists(2160, 4) {
		u, _ := bulk.Build(l)
		rows := map[int][]*plainNode{}
		nodes := u.Nodes()
		made := make([]*plainNode, len(nodes))
		for i, n := range nodes {
			made[i] = &plainNode{pairs: n.Pairs, seps: sepsOf(n)}
			for _, kid := range n.Kids {
				made[i].kids = append(made[i].kids, made[kid])
			}
			rows[n.Level] = append(rows[n.Level], made[i])
		}
		for level, row := range rows {
			for i, n := range row[1:] {
				if row[i].sizeWith(n) <= 4092 {
					t.Errorf("%s: the node %d of level %d has room for what comes next", what, i, level)
				}
				full++
			}
		}
	}
	if full < 500 {
		t.Errorf("only %d nodes are full", full)
	}
}

// leavesOf tells how many leaves a tree has.
func leavesOf(u *tree.Tree) int {
	n := 0
	for _, x := range u.Nodes() {
		if x.Level == 0 {
			n++
		}
	}
	return n
}

// leastLeaves goes through all ways to cut pairs into leaves that fit: least[i] is how many the first i pairs need.
func leastLeaves(l []api.Pair) int {
	least := []int{0}
	for i := 1; i <= len(l); i++ {
		best := i
		for k := i - 1; k >= 0 && plainLeafSize(l[k:i]) <= 4092; k-- {
			best = min(best, least[k]+1)
		}
		least = append(least, best)
	}
	return least[len(l)]
}

// TestP21_7Least: of all ways to lay the pairs into leaves none needs fewer.
func TestP21_7Least(t *testing.T) {
	t.Parallel()
	next := noise(217)
	for _, w := range woods() {
		for range 8 {
			l := w.some(next, next(min(w.pairs, 300)))
			u, _ := bulk.Build(l)
			if got, want := leavesOf(u), leastLeaves(l); got != want {
				t.Errorf("%s: %d leaves, not %d", w.name, got, want)
			}
		}
	}
}

// looseNodes are the nodes of a sound tree of the same pairs that is laid as loosely as is easily done: leaves and branches of not much more than half of JoinMax, whole keys as separators.
func looseNodes(l []api.Pair) []api.Node {
	var row []*plainNode
	for _, p := range l {
		if len(row) > 0 {
			last := row[len(row)-1]
			if more := append(slices.Clip(last.pairs), p); plainLeafSize(more) <= 1900 {
				last.pairs = more
				continue
			}
		}
		row = append(row, &plainNode{pairs: []api.Pair{p}})
	}
	for i := 0; i+1 < len(row); {
		if both := slices.Concat(row[i].pairs, row[i+1].pairs); plainLeafSize(both) <= 3000 {
			row[i].pairs = both
			row = slices.Delete(row, i+1, i+2)
			continue
		}
		i++
	}
	for len(row) > 1 {
		row = looseAbove(row)
	}
	var nodes []api.Node
	for _, root := range row {
		nodes = root.tell(nodes)
	}
	return nodes
}

// looseAbove is the level above a row.
func looseAbove(row []*plainNode) []*plainNode {
	var above []*plainNode
	for i, kid := range row {
		first, _ := kid.ends()
		if i > 0 {
			last := above[len(above)-1]
			seps := append(slices.Clip(last.seps), first)
			left := []string{}
			for _, k := range row[i+1:] {
				s, _ := k.ends()
				left = append(left, s)
			}
			// What is left is laid in as a whole if it could be joined.
			if size := plainBranchSize(seps); size <= 1900 || size <= 4092 && plainBranchSize(slices.Concat(seps, left)) <= 3000 {
				last.seps, last.kids = seps, append(last.kids, kid)
				continue
			}
		}
		above = append(above, &plainNode{kids: []*plainNode{kid}})
	}
	return above
}

// otherTrees are sound trees of the same pairs that came about by other ways.
func otherTrees(t *testing.T, what string, l []api.Pair, next func(int) int) []*tree.Tree {
	t.Helper()
	loose, err := tree.Build(looseNodes(l))
	if err != api.OK {
		t.Fatalf("%s: the loose tree is not sound: %d", what, err)
	}
	rising, falling, mixed := tree.Empty(), tree.Empty(), tree.Empty()
	for i := range l {
		rising, _ = rising.With(l[i].Key, l[i].Value)
		back := l[len(l)-1-i]
		falling, _ = falling.With(back.Key, back.Value)
		mixed, _ = mixed.With([]byte(fmt.Sprint(next(1<<30))), fill(300, i))
	}
	order := slices.Clone(l)
	for i := range order {
		k := next(i + 1)
		order[i], order[k] = order[k], order[i]
	}
	for _, p := range order {
		mixed, _ = mixed.With(p.Key, p.Value)
	}
	for key := range walk.Range(mixed, nil, nil) {
		if _, is := slices.BinarySearchFunc(l, key, func(p api.Pair, k []byte) int { return bytes.Compare(p.Key, k) }); !is {
			mixed, _ = mixed.Without(key)
		}
	}
	return []*tree.Tree{loose, rising, falling, mixed}
}

// fileFrom is the file of a tree.
func fileFrom(t *testing.T, u *tree.Tree) []byte {
	t.Helper()
	if u.Len() == 0 {
		return emptyFile(t)
	}
	return fileOf(t, u.Nodes())
}

// TestP21_7Others: trees of the same pairs that came about in other ways have as many leaves, or more; and P21.9: their files' Count bounds what Load needs.
func TestP21_7Others(t *testing.T) {
	t.Parallel()
	next := noise(2170)
	more := 0
	for what, l := range someLists(2171, 2) {
		least := 0
		if u, _ := bulk.Build(l); u != nil {
			least = leavesOf(u)
		}
		pages := len(plainFile(t, l)) / 4096
		for i, other := range otherTrees(t, what, l, next) {
			if !samePairs(walk.Take(other, nil, nil, len(l)+1), l) {
				t.Fatalf("%s: tree %d has other pairs", what, i)
			}
			n := leavesOf(other)
			if n < least {
				t.Errorf("%s: tree %d has %d leaves, Build's has %d", what, i, n, least)
			}
			if n > least {
				more++
			}
			file := fileFrom(t, other)
			if pages > 2*len(file)/4096+4 {
				t.Errorf("%s: Load needs %d pages, a file of %d says the same", what, pages, len(file)/4096)
			}
			compactIs(t, what, file, l)
		}
	}
	if more < 20 {
		t.Errorf("only %d trees have more leaves", more)
	}
}

// TestP21_8OneFile: the file hangs on the pairs alone, is accepted, and says just them.
func TestP21_8OneFile(t *testing.T) {
	t.Parallel()
	for what, l := range someLists(218, 2) {
		u, _ := bulk.Build(l)
		need := 2 + u.Fresh()
		var file []byte
		for _, cap := range []int{need, need + 1, 2*need + 7, 9000, 524287} {
			d := newDisk(t, cap)
			if err := bulk.Load(d, l); err != api.OK {
				t.Fatalf("%s, cap %d: %d", what, cap, err)
			}
			if file == nil {
				file = d.Durable()
			}
			holds(t, what, d, file)
			d.Crash(nil) // all lasts
			holds(t, what, d, file)
		}
		f, at, err := check.Open(file)
		if err != api.OK {
			t.Fatalf("%s: refused with %d at %d", what, err, at)
		}
		h := f.Head()
		if h.Count != need || len(file) != need*4096 || h.Keys != len(l) || len(f.Free())+len(f.Lists())+h.First+h.Free > 0 {
			t.Errorf("%s: %+v in %d bytes, %d pages are needed", what, h, len(file), need)
		}
		if !samePairs(walk.Take(f.Tree(), nil, nil, len(l)+1), l) {
			t.Errorf("%s: other pairs", what)
		}
		if text, _, err := dump.File(file); err != api.OK || text != textOf(t, l) {
			t.Errorf("%s: another text: %d", what, err)
		}
		compactIs(t, what+", compact again", file, l)
	}
}

// TestP21_8Unlike: unlike pairs have unlike files.
func TestP21_8Unlike(t *testing.T) {
	next := noise(2180)
	files := map[string][]api.Pair{}
	for range 400 {
		m := map[string][]byte{}
		for range next(5) {
			m[anyOf(next, 1+next(2), "ab")] = fill([]int{0, 1, 600}[next(3)], next(2))
		}
		l := pairsOf(m)
		d := disk.New(40)
		if err := bulk.Load(d, l); err != api.OK {
			t.Fatalf("Load: %d", err)
		}
		file := string(d.Durable())
		if other, is := files[file]; is && !samePairs(other, l) {
			t.Error("unlike pairs have one file")
		}
		files[file] = l
	}
	if len(files) < 50 || len(files) == 400 {
		t.Errorf("%d files", len(files))
	}
}

// TestP21_9Lives: files of stores, with much that is free and with little.
func TestP21_9Lives(t *testing.T) {
	t.Parallel()
	next := noise(219)
	for _, w := range woods() {
		l := newLife(t)
		for range 3 {
			l.live(w, next)
			f, _, err := check.Open(l.commit())
			if err != api.OK {
				t.Fatalf("%s: %d", w.name, err)
			}
			most := 2*f.Head().Count + 4
			d := newDisk(t, most)
			if at, err := bulk.Compact(l.d.Durable(), d); err != api.OK || d.Pages() > most {
				t.Errorf("%s: %d at %d: of a file of %d pages %d are not enough", w.name, err, at, f.Head().Count, most)
			}
		}
	}
}
