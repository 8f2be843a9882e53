// Package wire: numbers as bytes, and a reader that says where it failed: see ../shared/doc/01-wire.md.
package wire

import (
	"math/bits"

	"coppice/api"
)

// The least form of a number: a byte a group.
const (
	groupBits = 7
	more      = 1 << groupBits // in each byte but the last one
	maxGroups = 10             // as many as 64 bits take
	tenthMax  = 1              // nine groups leave one bit of 64 to the tenth
)

// Unsigned are the widths of numbers.
type Unsigned interface {
	~uint8 | ~uint16 | ~uint32 | ~uint64
}

// Put lays a number behind b, lowest byte first.
func Put[T Unsigned](b []byte, x T) []byte {
	n := width[T]()
	out := copyWithRoom(b, n)
	for i := range n {
		out = append(out, byte(uint64(x)>>(8*i)))
	}
	return out
}

// PutV lays the least form of a number behind b.
func PutV(b []byte, x uint64) []byte {
	out := copyWithRoom(b, VLen(x))
	for ; x >= more; x >>= groupBits {
		out = append(out, byte(x)|more)
	}
	return append(out, byte(x))
}

// VLen tells how many bytes the least form of a number has.
func VLen(x uint64) int {
	// 0 has no highest bit, but takes a group as 1 does.
	return (bits.Len64(x|1) + groupBits - 1) / groupBits
}

// width tells how many bytes a number of the type T has.
func width[T Unsigned]() int {
	return bits.Len64(uint64(^T(0))) / 8
}

// copyWithRoom copies b, so that what is laid behind it never comes into the spare room of b's owner.
func copyWithRoom(b []byte, room int) []byte {
	return append(make([]byte, 0, len(b)+room), b...)
}

// Reader reads a list of bytes from its beginning on.
type Reader struct {
	own   []byte
	place int
	err   api.Errno // what broke it; OK: it is whole
}

// NewReader makes a reader.
func NewReader(b []byte) *Reader {
	return &Reader{own: copyWithRoom(b, 0)}
}

// Get reads a number, lowest byte first.
func Get[T Unsigned](r *Reader) T {
	var x uint64
	for i, c := range r.Bytes(width[T]()) {
		x |= uint64(c) << (8 * i)
	}
	return T(x)
}

// V reads a number in its least form.
func (r *Reader) V() uint64 {
	x, n, err := readLeast(r.rest())
	if err != api.OK {
		r.breakBy(err)
		return 0
	}
	r.place += n
	return x
}

// Bytes reads n bytes.
func (r *Reader) Bytes(n int) []byte {
	if n < 0 || n > r.Left() {
		r.breakBy(api.ErrShort)
		return nil
	}
	// No copy is needed: the reader never comes back to bytes that it has passed over,
	// and the capacity ends with them, so an append of the caller's does not reach those that are left.
	end := r.place + n
	out := r.own[r.place:end:end]
	r.place = end
	return out
}

// Left tells how many bytes are left; of a broken reader 0.
func (r *Reader) Left() int { return len(r.rest()) }

// Err tells the error that broke the reader and its place; without one OK and the place.
func (r *Reader) Err() (api.Errno, int) { return r.err, r.place }

// rest are the bytes that are left; a broken reader has none.
func (r *Reader) rest() []byte {
	if r.err != api.OK {
		return nil
	}
	return r.own[r.place:]
}

// breakBy breaks a whole reader; one that is broken keeps its first error.
func (r *Reader) breakBy(err api.Errno) {
	if r.err == api.OK {
		r.err = err
	}
}

// readLeast reads the least form that b begins with, and tells how many bytes it has.
func readLeast(b []byte) (uint64, int, api.Errno) {
	var x uint64
	for i, c := range b[:min(len(b), maxGroups)] {
		if c < more {
			return endLeast(x, i, c)
		}
		x |= uint64(c-more) << (groupBits * i)
	}
	if len(b) < maxGroups {
		return 0, 0, api.ErrShort
	}
	return 0, 0, api.ErrWide
}

// endLeast lays the last group, which stands at i, on top of x, which the groups ahead of it made.
func endLeast(x uint64, i int, last byte) (uint64, int, api.Errno) {
	switch {
	case i == maxGroups-1 && last > tenthMax:
		return 0, 0, api.ErrWide
	case i > 0 && last == 0:
		return 0, 0, api.ErrMinimal
	}
	return x | uint64(last)<<(groupBits*i), i + 1, api.OK
}
