package look

import "coppice/api"

// Cursor goes over the items of a tree, both ways.
type Cursor struct {
	look *Look
	way      // to the leaf of its item
	at   int // which item of that leaf
	end  int // onward: it stands behind the last item; back: ahead of the first one; 0: at an item. At an end it has no way.
}

// Pair tells the pair at which it stands, if it stands at one.
func (c *Cursor) Pair() (pair api.Pair, is bool, err api.Errno) {
	if c.end != 0 {
		return api.Pair{}, false, api.OK
	}
	defer func() { err = reason(recover()) }()
	return c.look.pair(c.items[c.at]), true, api.OK
}

// Next goes on by one: does it stand at an item now?
func (c *Cursor) Next() (is bool, err api.Errno) {
	defer func() { err = reason(recover()) }()
	return c.move(onward), api.OK
}

// Prev goes back by one: does it stand at an item now?
func (c *Cursor) Prev() (is bool, err api.Errno) {
	defer func() { err = reason(recover()) }()
	return c.move(back), api.OK
}

// seek is the cursor that Seek makes.
func (l *Look) seek(key []byte) *Cursor {
	c := &Cursor{look: l, way: l.to(key)}
	c.at, _ = c.find(key)
	if c.at == len(c.items) {
		c.turn(onward)
	}
	return c
}

// move goes by one item. Where a page can't be had nothing has changed yet.
func (c *Cursor) move(by int) bool {
	switch {
	case c.end == by:
	case c.end != 0 && c.look.height == 0:
		c.leave(by)
	case c.end != 0:
		c.enter(c.look.edge(by), by)
	case c.at == entry(len(c.items), -by):
		c.turn(by)
	default:
		c.at += by
	}
	return c.end == 0
}

// turn goes to the leaf beside its own, or, where there is none, to the end.
func (c *Cursor) turn(by int) {
	w, is := c.look.beside(c.way, by)
	if !is {
		c.leave(by)
		return
	}
	c.enter(w, by)
}

// enter goes to the item of a way's leaf to which one comes first who goes that way.
func (c *Cursor) enter(w way, by int) {
	c.way, c.at, c.end = w, entry(len(w.items), by), 0
}

// leave goes to the end, and keeps no way: from there on it is read anew.
func (c *Cursor) leave(by int) {
	c.way, c.at, c.end = way{}, 0, by
}
