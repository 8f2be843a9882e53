package wire_test

import (
	"bytes"
	"testing"

	"coppice/api"
	"coppice/wire"
)

// number is something that can be laid down and read back; width 0: in its least form.
type number struct {
	width int
	x     uint64
}

func (n number) lay(b []byte) []byte {
	switch n.width {
	case 1:
		return wire.Put(b, uint8(n.x))
	case 2:
		return wire.Put(b, uint16(n.x))
	case 4:
		return wire.Put(b, uint32(n.x))
	case 8:
		return wire.Put(b, n.x)
	}
	return wire.PutV(b, n.x)
}

func (n number) read(r *wire.Reader) uint64 {
	switch n.width {
	case 1:
		return uint64(wire.Get[uint8](r))
	case 2:
		return uint64(wire.Get[uint16](r))
	case 4:
		return uint64(wire.Get[uint32](r))
	case 8:
		return wire.Get[uint64](r)
	}
	return r.V()
}

// manyNumbers takes the edges through all widths in turn, cut to what the width holds.
func manyNumbers() []number {
	var out []number
	for i, x := range edges() {
		width := []int{0, 1, 2, 0, 4, 8}[i%6]
		if width > 0 && width < 8 {
			x %= 1 << (8 * width)
		}
		out = append(out, number{width, x})
	}
	return out
}

func TestP1_8ThereAndBack(t *testing.T) {
	all := manyNumbers()
	for _, x := range edges() {
		all = append(all, number{0, x})
	}
	var b []byte
	for _, n := range all {
		b = n.lay(b)
	}
	r := wire.NewReader(b)
	for i, n := range all {
		if got := n.read(r); got != n.x {
			t.Fatalf("number %d, of width %d: got %d, want %d", i, n.width, got, n.x)
		}
	}
	wantState(t, "behind all numbers", r, api.OK, len(b), 0)
}

// TestP1_8CutOff cuts a run of numbers at each byte.
func TestP1_8CutOff(t *testing.T) {
	all := []number{{0, 0}, {8, 1}, {0, 128}, {1, 200}, {0, 1<<64 - 1}, {2, 0xffff}, {4, 0}, {0, 1 << 63}, {0, 16384}, {8, 1<<64 - 1}, {0, 1}}
	var b []byte
	begins := []int{0}
	for _, n := range all {
		b = n.lay(b)
		begins = append(begins, len(b))
	}
	for cut := range len(b) {
		r := wire.NewReader(b[:cut])
		for i, n := range all {
			got := n.read(r)
			if begins[i+1] <= cut {
				wantNumber(t, "a whole number", got, n.x)
				wantState(t, "behind a whole number", r, api.OK, begins[i+1], cut-begins[i+1])
				continue
			}
			wantNumber(t, "a number that is cut off", got, 0)
			wantState(t, "at a number that is cut off", r, api.ErrShort, begins[i], 0)
			break
		}
	}
}

// checkOneForm holds what a V passes over against the form of what it answers.
func checkOneForm(t *testing.T, b []byte) {
	t.Helper()
	r := wire.NewReader(b)
	x := r.V()
	e, place := r.Err()
	if e != api.OK {
		return
	}
	if form := wire.PutV(nil, x); !bytes.Equal(form, b[:place]) || wire.VLen(x) != place {
		t.Errorf("V of % x = %d, behind %d bytes, but its form is % x and VLen %d", b, x, place, form, wire.VLen(x))
	}
}

func TestP1_9OneForm(t *testing.T) {
	for i := range 1 << 16 {
		checkOneForm(t, []byte{byte(i), byte(i >> 8)})
		checkOneForm(t, []byte{0x80, byte(i), byte(i >> 8), 0})
		checkOneForm(t, append(bytes.Repeat([]byte{0xa5}, 7), byte(i), byte(i>>8), 1))
		checkOneForm(t, append(bytes.Repeat([]byte{0x80}, 8), byte(i), byte(i>>8)))
		checkOneForm(t, append(bytes.Repeat([]byte{0xff}, 9), byte(i), byte(i>>8)))
	}
	for _, x := range edges() {
		checkOneForm(t, append(wire.PutV(nil, x), 0xff, 0))
	}
}

func TestP1_9NoFormBeginsAnother(t *testing.T) {
	all := edges()
	for _, x := range all {
		for _, y := range all {
			if x != y && bytes.HasPrefix(wire.PutV(nil, x), wire.PutV(nil, y)) {
				t.Errorf("the form of %d begins with that of %d", x, y)
			}
		}
	}
}
