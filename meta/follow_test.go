package meta_test

import (
	"bytes"
	"testing"

	"coppice/api"
	"coppice/meta"
)

// mustEncode is the body of a head that may be.
func mustEncode(t *testing.T, h api.Head) []byte {
	t.Helper()
	b, err := meta.Encode(h)
	if err != api.OK {
		t.Fatalf("Encode(%v): %d", h, err)
	}
	return b
}

func TestP7_4ThereAndBack(t *testing.T) {
	next := noise(74)
	all := append(likely(), turned()...)
	for range 5000 {
		all = append(all, anyHead(next))
	}
	taken := 0
	for _, h := range all {
		body, err := meta.Encode(h)
		if err != api.OK {
			continue
		}
		taken++
		wantHead(t, body, h)
	}
	if taken < 6000 {
		t.Errorf("only %d heads had a body", taken)
	}
}

func TestP7_4BackAndThere(t *testing.T) {
	next := noise(75)
	taken := 0
	for _, h := range likely() {
		body := mustEncode(t, h)
		for range 300 {
			b := bytes.Clone(body)
			b[4+next(33)] ^= 1 << next(8)
			b[next(len(b))] ^= byte(next(2)) << next(8)
			back, err := meta.Decode(b)
			if err != api.OK {
				continue
			}
			taken++
			wantBody(t, back, b)
		}
	}
	if taken < 1000 {
		t.Errorf("only %d bodies were taken", taken)
	}
}

func TestP7_4UnlikeHeadsHaveUnlikeBodies(t *testing.T) {
	seen := map[string]api.Head{}
	for _, h := range append(likely(), turned()...) {
		body, err := meta.Encode(h)
		if err != api.OK {
			continue
		}
		if other, ok := seen[string(body)]; ok && other != h {
			t.Errorf("one body of %v and of %v", h, other)
		}
		seen[string(body)] = h
	}
}

func TestP7_5ATornHeadIsNone(t *testing.T) {
	for _, h := range append(bases(), likely()...) {
		body := mustEncode(t, h)
		torn := make([]byte, api.BodySize)
		for k := range api.BodySize {
			// Here torn has the first k bytes of the body.
			wantNoHead(t, "a torn head", torn)
			torn[k] = body[k]
		}
		wantHead(t, torn, h)
	}
}
