package tree

import "coppice/api"

// minNo is the first number that a page of a tree may have: those ahead of it are the slots of heads.
const minNo = 2

// numbers are numbers of pages, each of them once.
type numbers map[int]struct{}

// add lays numbers in; 0, which stands for none, is left out.
func (n numbers) add(nos ...int) {
	for _, no := range nos {
		if no != 0 {
			n[no] = struct{}{}
		}
	}
}

// take lays a number in that is not there yet; false, if it is, or if no page of a tree may have it.
func (n numbers) take(no int) bool {
	if _, has := n[no]; has || no < minNo || no >= api.MaxPages {
		return false
	}
	n.add(no)
	return true
}
