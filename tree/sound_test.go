package tree_test

import (
	"fmt"

	"coppice/api"
)

// judge goes through a list of nodes from its root on, and asks the words of the document of each.
type judge struct {
	l    []api.Node
	next int            // how many nodes have been told, post-order
	last string         // the last key that was met
	used map[int]string // numbers, and of what
	why  string         // the first fault
}

// unsound tells why no sound tree has just these nodes; "", if one has.
func unsound(l []api.Node) string {
	if len(l) == 0 {
		return ""
	}
	j := &judge{l: l, used: map[int]string{}}
	root := len(l) - 1
	if l[root].Level != 0 && len(l[root].Kids) < 2 {
		return "the root has not two kids"
	}
	j.node(root, l[root].Level, "", "")
	if j.why == "" && j.next != len(l) {
		j.fault(root, "does not reach all")
	}
	return j.why
}

// fault keeps the first one.
func (j *judge) fault(at int, what string) {
	if j.why == "" {
		j.why = fmt.Sprintf("the node at %d %s", at, what)
	}
}

// node asks all of the node at a place and of what lies below it: lo and hi are the separators around it, or nothing.
func (j *judge) node(at, level int, lo, hi string) {
	if j.why != "" {
		return
	}
	if at < j.next || at >= len(j.l) {
		j.fault(at, "is out of place")
		return
	}
	n := j.l[at]
	switch {
	case n.Level != level:
		j.fault(at, "has another level")
	case level < 0 || level > 15:
		j.fault(at, "has a level that may not be")
	case level == 0:
		j.leaf(at, lo, hi)
	default:
		j.branch(at, lo, hi)
	}
	if j.why == "" && at != j.next {
		j.fault(at, "is not where post-order has it")
	}
	j.next++
	if n.No != 0 {
		j.number(at, n.No, "a node")
	}
}

// number asks whether a number may be.
func (j *judge) number(at, no int, of string) {
	if no < 2 || no > 524286 {
		j.fault(at, fmt.Sprintf("has the number %d", no))
	}
	if other := j.used[no]; other != "" {
		j.fault(at, fmt.Sprintf("has the number %d of %s", no, other))
	}
	j.used[no] = of
}

// leaf asks what is asked of leaves.
func (j *judge) leaf(at int, lo, hi string) {
	n := j.l[at]
	if len(n.Seps) > 0 || len(n.Kids) > 0 || len(n.Pairs) == 0 {
		j.fault(at, "is a leaf with too much or without a pair")
		return
	}
	if len(n.Chains) != 0 && len(n.Chains) != len(n.Pairs) {
		j.fault(at, "has not a chain a pair")
		return
	}
	var pairs []plainPair
	for i, p := range n.Pairs {
		key, value := string(p.Key), string(p.Value)
		if key == "" || len(key) > 255 || len(value) > 262144 {
			j.fault(at, "has a pair that may not be")
		}
		if key <= j.last || key < lo || hi != "" && key >= hi {
			j.fault(at, "has a key out of order")
		}
		j.last = key
		pairs = append(pairs, plainPair{key: key, value: value})
		var numbers []int
		if len(n.Chains) > 0 {
			numbers = n.Chains[i]
		}
		pages := plainPages(value)
		if len(numbers) != 0 && len(numbers) != pages || n.No != 0 && len(numbers) != pages {
			j.fault(at, "has a chain of another length, or a new one")
		}
		for _, no := range numbers {
			j.number(at, no, "a chain")
		}
	}
	if j.why == "" && plainLeafSize(pairs) > 4092 {
		j.fault(at, "does not fit")
	}
}

// branch asks what is asked of branches.
func (j *judge) branch(at int, lo, hi string) {
	n := j.l[at]
	if len(n.Pairs) > 0 || len(n.Chains) > 0 || len(n.Kids) == 0 || len(n.Seps) != len(n.Kids)-1 {
		j.fault(at, "is a branch with too much or too few")
		return
	}
	var seps []string
	for i, s := range n.Seps {
		if len(s) == 0 || len(s) > 255 || i > 0 && string(s) <= seps[i-1] {
			j.fault(at, "has a separator that may not be")
		}
		seps = append(seps, string(s))
	}
	if plainBranchSize(seps) > 4092 {
		j.fault(at, "does not fit")
	}
	for i, kid := range n.Kids {
		low, high := lo, hi
		if i > 0 {
			low = seps[i-1]
		}
		if i < len(seps) {
			high = seps[i]
		}
		j.node(kid, n.Level-1, low, high)
		if j.why != "" {
			return
		}
		if n.No != 0 && j.l[kid].No == 0 {
			j.fault(at, "has a number and a new kid")
		}
		if i > 0 && canJoin(plainOf(j.l[n.Kids[i-1]]), seps[i-1], plainOf(j.l[kid])) {
			j.fault(at, "has kids that can be joined")
		}
	}
}

// plainOf is a node without what lies below it, so that it can be weighed.
func plainOf(n api.Node) *plainNode {
	p := &plainNode{}
	for _, x := range n.Pairs {
		p.pairs = append(p.pairs, plainPair{key: string(x.Key), value: string(x.Value)})
	}
	for _, s := range n.Seps {
		p.seps = append(p.seps, string(s))
	}
	for range n.Kids {
		p.kids = append(p.kids, &plainNode{})
	}
	return p
}
