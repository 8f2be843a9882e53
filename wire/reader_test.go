package wire_test

import (
	"bytes"
	"math"
	"testing"

	"coppice/api"
	"coppice/wire"
)

// wantState holds a reader against what Err and Left are to tell of it.
func wantState(t *testing.T, what string, r *wire.Reader, err api.Errno, place, left int) {
	t.Helper()
	if e, at := r.Err(); e != err || at != place {
		t.Errorf("%s: Err = (%d, %d), want (%d, %d)", what, e, at, err, place)
	}
	if n := r.Left(); n != left {
		t.Errorf("%s: Left = %d, want %d", what, n, left)
	}
}

func wantNumber[T wire.Unsigned](t *testing.T, what string, got, want T) {
	t.Helper()
	if got != want {
		t.Errorf("%s: got %d, want %d", what, got, want)
	}
}

func TestP1_3NewReaderStandsAtTheBeginning(t *testing.T) {
	wantState(t, "nil", wire.NewReader(nil), api.OK, 0, 0)
	wantState(t, "empty", wire.NewReader([]byte{}), api.OK, 0, 0)
	wantState(t, "three bytes", wire.NewReader([]byte{1, 2, 3}), api.OK, 0, 3)
	wantState(t, "a page", wire.NewReader(make([]byte, api.PageSize)), api.OK, 0, api.PageSize)
	wantState(t, "spare room is not read", wire.NewReader(make([]byte, 2, 9)), api.OK, 0, 2)
}

func TestP1_3ReadersDoNotSeeOneAnother(t *testing.T) {
	b := []byte{1, 2, 3}
	r, s := wire.NewReader(b), wire.NewReader(b)
	r.Bytes(9)
	wantState(t, "the broken one", r, api.ErrShort, 0, 0)
	wantNumber(t, "the other one", wire.Get[uint8](s), 1)
	wantState(t, "the other one", s, api.OK, 1, 2)
}

func TestP1_4Examples(t *testing.T) {
	r := wire.NewReader([]byte{2, 1, 0xb1, 9, 5})
	wantNumber(t, "Get", wire.Get[uint16](r), 258)
	wantNumber(t, "V", r.V(), 1201)
	wantState(t, "behind V", r, api.OK, 4, 1)
	wantNumber(t, "Get of one byte too few", wire.Get[uint16](r), 0)
	wantState(t, "behind the short Get", r, api.ErrShort, 4, 0)

	r = wire.NewReader([]byte{128})
	wantNumber(t, "V of 80", r.V(), 0)
	wantState(t, "V of 80", r, api.ErrShort, 0, 0)

	r = wire.NewReader([]byte{7, 128, 0, 1})
	wantNumber(t, "first V", r.V(), 7)
	wantNumber(t, "V of 80 00", r.V(), 0)
	wantState(t, "V of 80 00", r, api.ErrMinimal, 1, 0)
	wantNumber(t, "V of the broken one", r.V(), 0)
	wantState(t, "V of the broken one", r, api.ErrMinimal, 1, 0)

	r = wire.NewReader([]byte{1, 2, 3})
	wantBytes(t, "Bytes(2)", r.Bytes(2), 1, 2)
	wantBytes(t, "Bytes(0)", r.Bytes(0))
	wantState(t, "behind Bytes(0)", r, api.OK, 2, 1)
	wantBytes(t, "Bytes(-1)", r.Bytes(-1))
	wantState(t, "behind Bytes(-1)", r, api.ErrShort, 2, 0)
}

// checkGet reads a T out of every shorter and longer beginning of b, at the place 1.
func checkGet[T wire.Unsigned](t *testing.T, what string, width int, want T) {
	t.Helper()
	b := []byte{0xee, 0xf1, 0xe2, 0xd3, 0xc4, 0xb5, 0xa6, 0x97, 0x88, 0x79}
	for n := 1; n <= len(b); n++ {
		r := wire.NewReader(b[:n])
		wantBytes(t, what, r.Bytes(1), 0xee)
		got := wire.Get[T](r)
		if n-1 < width {
			wantNumber(t, what+" of too few bytes", got, 0)
			wantState(t, what+" of too few bytes", r, api.ErrShort, 1, 0)
			continue
		}
		wantNumber(t, what, got, want)
		wantState(t, what, r, api.OK, 1+width, n-1-width)
	}
}

func TestP1_4GetEveryWidth(t *testing.T) {
	checkGet[uint8](t, "uint8", 1, 0xf1)
	checkGet[uint16](t, "uint16", 2, 0xe2f1)
	checkGet[uint32](t, "uint32", 4, 0xc4d3e2f1)
	checkGet[uint64](t, "uint64", 8, 0x8897a6b5c4d3e2f1)
	checkGet[own8](t, "own8", 1, 0xf1)
	checkGet[own16](t, "own16", 2, 0xe2f1)
	checkGet[own32](t, "own32", 4, 0xc4d3e2f1)
	checkGet[own64](t, "own64", 8, 0x8897a6b5c4d3e2f1)
}

// plainV is V by the words of the chapter's table: the number, how many bytes it has, the error.
// Where an eleventh byte is the first one below 128, and is 0, the table's order says that the form is too wide.
func plainV(b []byte) (uint64, int, api.Errno) {
	first := 0 // the first one below 128
	for first < len(b) && b[first] >= 128 {
		first++
	}
	switch {
	case first == len(b) && len(b) < 10:
		return 0, 0, api.ErrShort
	case first >= 10, first == 9 && b[9] > 1:
		return 0, 0, api.ErrWide
	case b[first] == 0 && first != 0:
		return 0, 0, api.ErrMinimal
	}
	x := uint64(0)
	for i := first; i >= 0; i-- {
		x = x*128 + uint64(b[i]%128)
	}
	return x, first + 1, api.OK
}

// checkV reads a V of b that stands behind one other byte.
func checkV(t *testing.T, b []byte) api.Errno {
	t.Helper()
	want, n, err := plainV(b)
	r := wire.NewReader(append([]byte{0xee}, b...))
	wire.Get[uint8](r)
	if got := r.V(); got != want {
		t.Errorf("V of % x = %d, want %d", b, got, want)
	}
	place, left := 1+n, len(b)-n
	if err != api.OK {
		place, left = 1, 0
	}
	if e, at := r.Err(); e != err || at != place || r.Left() != left {
		t.Errorf("V of % x: Err = (%d, %d), Left %d, want (%d, %d), %d", b, e, at, r.Left(), err, place, left)
	}
	return err
}

// TestP1_4VOfManyForms: 0 to 12 bytes that go on, each kind of last byte or none, and something behind it.
func TestP1_4VOfManyForms(t *testing.T) {
	seen := map[api.Errno]int{}
	for _, high := range [][]byte{{128}, {129}, {255}, {128, 255}, {255, 128, 129}} {
		for n := range 13 {
			var head []byte
			for i := range n {
				head = append(head, high[i%len(high)])
			}
			seen[checkV(t, head)]++
			for _, last := range []byte{0, 1, 2, 3, 64, 126, 127} {
				one := append(bytes.Clone(head), last)
				seen[checkV(t, one)]++
				seen[checkV(t, append(one, 0, 128, 5))]++
			}
		}
	}
	for _, e := range []api.Errno{api.OK, api.ErrShort, api.ErrMinimal, api.ErrWide} {
		if seen[e] == 0 {
			t.Errorf("no form answered %d", e)
		}
	}
}

func TestP1_4VOfAllShortLists(t *testing.T) {
	some := []byte{0, 1, 2, 127, 128, 129, 255}
	lists := [][]byte{{}}
	for range 4 {
		var longer [][]byte
		for _, b := range lists {
			checkV(t, b)
			for _, c := range some {
				longer = append(longer, append(bytes.Clone(b), c))
			}
		}
		lists = longer
	}
	for _, b := range lists {
		checkV(t, b)
	}
}

// TestP1_4VTenthByte: what stands at the tenth byte when the nine ahead of it go on.
func TestP1_4VTenthByte(t *testing.T) {
	for tenth := range 256 {
		want := api.ErrWide
		switch tenth {
		case 0:
			want = api.ErrMinimal
		case 1:
			want = api.OK
		}
		for _, high := range []byte{128, 255} {
			b := append(bytes.Repeat([]byte{high}, 9), byte(tenth))
			for _, behind := range [][]byte{nil, {0}, {1}, {255, 0}} {
				r := wire.NewReader(append(bytes.Clone(b), behind...))
				r.V()
				if e, _ := r.Err(); e != want {
					t.Errorf("V of % x and % x: error %d, want %d", b, behind, e, want)
				}
			}
		}
	}
	r := wire.NewReader([]byte{128, 128, 128, 128, 128, 128, 128, 128, 128, 1})
	wantNumber(t, "2^63", r.V(), 1<<63)
	r = wire.NewReader(append(bytes.Repeat([]byte{255}, 9), 1))
	wantNumber(t, "2^64 - 1", r.V(), math.MaxUint64)
}

func TestP1_4Bytes(t *testing.T) {
	b := []byte{5, 6, 7, 8}
	for n := range len(b) + 1 {
		r := wire.NewReader(b)
		wantBytes(t, "Bytes", r.Bytes(n), b[:n]...)
		wantState(t, "Bytes", r, api.OK, n, len(b)-n)
		wantBytes(t, "Bytes of the others", r.Bytes(len(b)-n), b[n:]...)
		wantState(t, "Bytes of the others", r, api.OK, len(b), 0)
		wantBytes(t, "Bytes(0) at the end", r.Bytes(0))
		wantState(t, "Bytes(0) at the end", r, api.OK, len(b), 0)
	}
}

func TestP1_4BytesOfWrongLengths(t *testing.T) {
	for _, n := range []int{math.MinInt, math.MinInt + 3, -4, -1, 4, 5, 1 << 40, math.MaxInt - 1, math.MaxInt} {
		r := wire.NewReader([]byte{1, 2, 3, 4})
		r.Bytes(1)
		wantBytes(t, "wrong n", r.Bytes(n))
		wantState(t, "wrong n", r, api.ErrShort, 1, 0)
	}
}

func TestP1_5BrokenReader(t *testing.T) {
	breaks := []struct {
		what string
		b    []byte
		call func(r *wire.Reader)
		err  api.Errno
	}{
		{"Get", []byte{1, 2, 3, 4, 5, 6, 7, 8}, func(r *wire.Reader) { wire.Get[uint64](r) }, api.ErrShort},
		{"Bytes", []byte{1, 2, 3, 4, 5, 6, 7, 8}, func(r *wire.Reader) { r.Bytes(8) }, api.ErrShort},
		{"V, short", []byte{1, 130, 130, 130, 130}, func(r *wire.Reader) { r.V() }, api.ErrShort},
		{"V, not least", []byte{1, 130, 0, 3, 4, 5, 6, 7, 8, 9}, func(r *wire.Reader) { r.V() }, api.ErrMinimal},
		{"V, wide", append([]byte{1}, bytes.Repeat([]byte{130}, 20)...), func(r *wire.Reader) { r.V() }, api.ErrWide},
	}
	for _, c := range breaks {
		r := wire.NewReader(c.b)
		r.Bytes(1)
		c.call(r)
		wantState(t, c.what, r, c.err, 1, 0)
		for range 3 {
			wantNumber(t, c.what+", uint8", wire.Get[uint8](r), 0)
			wantNumber(t, c.what+", uint16", wire.Get[uint16](r), 0)
			wantNumber(t, c.what+", uint32", wire.Get[uint32](r), 0)
			wantNumber(t, c.what+", uint64", wire.Get[uint64](r), 0)
			wantNumber(t, c.what+", V", r.V(), 0)
			for _, n := range []int{-1, 0, 1, 2, len(c.b), math.MaxInt, math.MinInt} {
				wantBytes(t, c.what+", Bytes", r.Bytes(n))
			}
			wantState(t, c.what+" and asked on", r, c.err, 1, 0)
		}
	}
}

func TestP1_6LeftAndErrChangeNothing(t *testing.T) {
	b := []byte{1, 2, 0, 3, 0, 0, 0, 4, 0, 0, 0, 0, 0, 0, 0, 0xb1, 9, 6, 7}
	r := wire.NewReader(b)
	place := 0
	step := func(what string, n int) {
		t.Helper()
		place += n
		for range 2 {
			wantState(t, what, r, api.OK, place, len(b)-place)
		}
	}
	step("new", 0)
	wire.Get[uint8](r)
	step("uint8", 1)
	wire.Get[uint16](r)
	step("uint16", 2)
	wire.Get[uint32](r)
	step("uint32", 4)
	wire.Get[uint64](r)
	step("uint64", 8)
	r.V()
	step("V", 2)
	r.Bytes(2)
	step("Bytes", 2)
	r.Bytes(1)
	wantState(t, "at the end", r, api.ErrShort, len(b), 0)
}
