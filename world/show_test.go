package world_test

import (
	"bytes"
	"math"
	"strings"
	"testing"

	"coppice/api"
	"coppice/world"
)

// full is an event of a kind, with something in every field.
func full(kind int, code api.Errno) api.Event {
	return api.Event{
		Kind: kind, Code: code, A: 5, B: 6, Found: true, Value: []byte{0, 10, 255},
		Pairs: []api.Pair{{Key: []byte("a"), Value: []byte("x")}, {Key: []byte("b")}},
		State: api.State{Version: 1, Count: 2, Free: 3, Keys: 4, Height: 7, Changed: true},
		Text:  "coppice 0\n",
	}
}

// showIs asks for the line of an event.
func showIs(t *testing.T, e api.Event, want string) {
	t.Helper()
	if got := world.Show(e); got != want {
		t.Errorf("Show(%s) is %.300q, not %.300q", told(e), got, want)
	}
}

// TestP24_6Kinds: each kind's words, and no others, whatever else the event holds.
func TestP24_6Kinds(t *testing.T) {
	for kind, want := range map[int]string{
		api.OpFormat:   "format",
		api.OpOpen:     "open page 5",
		api.OpPut:      "put",
		api.OpDelete:   "delete found",
		api.OpGet:      "get found 000aff",
		api.OpScan:     "scan 61=78 62=-",
		api.OpCommit:   "commit",
		api.OpRollback: "rollback",
		api.OpView:     "view 5 version 6",
		api.OpRead:     "read found 000aff",
		api.OpRange:    "range 61=78 62=-",
		api.OpNth:      "nth 61=78 62=-",
		api.OpRank:     "rank 5",
		api.OpClose:    "close found",
		api.OpArm:      "arm",
		api.OpCrash:    "crash pended 5 pages 6",
		api.OpRot:      "rot",
		api.OpCheck:    "check page 5",
		api.OpHands:    "hands page 5",
		api.OpState:    "state version 1 count 2 free 3 keys 4 height 7 changed need 5 room 6",
		api.OpDump:     "dump page 5 bytes 10",
		api.OpCompact:  "compact page 5 pages 6",
		0:              "?", -1: "?", 23: "?", math.MinInt: "?", math.MaxInt: "?",
	} {
		showIs(t, full(kind, api.OK), want)
	}
}

// TestP24_6Errors: with an error only its number and, of five kinds, the page.
func TestP24_6Errors(t *testing.T) {
	for kind, want := range map[int]string{
		api.OpFormat:   "format error 41",
		api.OpOpen:     "open error 41 page 5",
		api.OpPut:      "put error 41",
		api.OpDelete:   "delete error 41",
		api.OpGet:      "get error 41",
		api.OpScan:     "scan error 41",
		api.OpCommit:   "commit error 41",
		api.OpRollback: "rollback error 41",
		api.OpView:     "view error 41",
		api.OpRead:     "read error 41",
		api.OpRange:    "range error 41",
		api.OpNth:      "nth error 41",
		api.OpRank:     "rank error 41",
		api.OpClose:    "close error 41",
		api.OpArm:      "arm error 41",
		api.OpCrash:    "crash error 41",
		api.OpRot:      "rot error 41",
		api.OpCheck:    "check error 41 page 5",
		api.OpHands:    "hands error 41 page 5",
		api.OpState:    "state error 41",
		api.OpDump:     "dump error 41 page 5",
		api.OpCompact:  "compact error 41 page 5",
		0:              "? error 41", -1: "? error 41", 23: "? error 41", math.MinInt: "? error 41", math.MaxInt: "? error 41",
	} {
		showIs(t, full(kind, 41), want)
		showIs(t, full(kind, -3), strings.Replace(want, "41", "-3", 1))
		showIs(t, full(kind, math.MinInt), strings.Replace(want, "41", "-9223372036854775808", 1))
		showIs(t, full(kind, math.MaxInt), strings.Replace(want, "41", "9223372036854775807", 1))
		showIs(t, full(kind, 1), strings.Replace(want, "41", "1", 1))
	}
}

// TestP24_6Edges: nothing found, no byte, no pair, numbers below 0.
func TestP24_6Edges(t *testing.T) {
	for _, x := range []struct {
		e    api.Event
		want string
	}{
		{api.Event{}, "?"},
		{api.Event{Kind: api.OpDelete}, "delete none"},
		{api.Event{Kind: api.OpClose}, "close none"},
		{api.Event{Kind: api.OpGet}, "get none"},
		{api.Event{Kind: api.OpRead}, "read none"},
		{api.Event{Kind: api.OpGet, Value: []byte("x")}, "get none"},
		{api.Event{Kind: api.OpRead, Value: []byte("x")}, "read none"},
		{api.Event{Kind: api.OpGet, Found: true}, "get found -"},
		{api.Event{Kind: api.OpRead, Found: true, Value: []byte{}}, "read found -"},
		{api.Event{Kind: api.OpGet, Found: true, Value: []byte{0}}, "get found 00"},
		{api.Event{Kind: api.OpScan}, "scan"},
		{api.Event{Kind: api.OpRange, Pairs: []api.Pair{}}, "range"},
		{api.Event{Kind: api.OpNth}, "nth"},
		{api.Event{Kind: api.OpScan, Pairs: []api.Pair{{}}}, "scan -=-"},
		{api.Event{Kind: api.OpNth, Pairs: []api.Pair{{Value: []byte{1}}}}, "nth -=01"},
		{api.Event{Kind: api.OpRange, Pairs: make([]api.Pair, 3)}, "range -=- -=- -=-"},
		{api.Event{Kind: api.OpView, A: -1, B: -2}, "view -1 version -2"},
		{api.Event{Kind: api.OpRank}, "rank 0"},
		{api.Event{Kind: api.OpRank, A: math.MinInt}, "rank -9223372036854775808"},
		{api.Event{Kind: api.OpCrash}, "crash pended 0 pages 0"},
		{api.Event{Kind: api.OpCrash, A: -5, B: math.MaxInt}, "crash pended -5 pages 9223372036854775807"},
		{api.Event{Kind: api.OpCompact, A: -5, B: -6}, "compact page -5 pages -6"},
		{api.Event{Kind: api.OpOpen, Code: 22, A: -7}, "open error 22 page -7"},
		{api.Event{Kind: api.OpDump}, "dump page 0 bytes 0"},
		{api.Event{Kind: api.OpDump, Text: "é"}, "dump page 0 bytes 2"},
		{api.Event{Kind: api.OpDump, Text: "\n"}, "dump page 0 bytes 1"},
		{api.Event{Kind: api.OpState}, "state version 0 count 0 free 0 keys 0 height 0 same need 0 room 0"},
		{api.Event{Kind: api.OpState, A: -1, B: -2, State: api.State{Version: -3, Count: -4, Free: -5, Keys: -6, Height: -7}}, "state version -3 count -4 free -5 keys -6 height -7 same need -1 room -2"},
	} {
		showIs(t, x.e, x.want)
	}
	showIs(t, api.Event{Kind: api.OpGet, Found: true, Value: bytes.Repeat([]byte{0xab}, 300000)}, "get found "+strings.Repeat("ab", 300000))
	showIs(t, api.Event{Kind: api.OpScan, Pairs: make([]api.Pair, 100000)}, "scan"+strings.Repeat(" -=-", 100000))
}

// someEvent is an event by noise, such as no step need tell.
func someEvent(next func(int) int) api.Event {
	number := func() int { return []int{0, 1, -1, 10, 4096, math.MinInt, math.MaxInt}[next(7)] }
	e := api.Event{
		Kind: next(26) - 2, A: number(), B: number(), Found: next(2) == 0, Value: fill(next(4), next(256)),
		State: api.State{Version: number(), Count: number(), Free: number(), Keys: number(), Height: number(), Changed: next(2) == 0},
		Text:  string(fill(next(20), next(256))),
	}
	if next(3) == 0 {
		e.Code = api.Errno(number())
	}
	for range next(4) {
		e.Pairs = append(e.Pairs, api.Pair{Key: fill(next(4), next(256)), Value: fill(next(4), next(256))})
	}
	return e
}

// TestP24_6Noise: any events, as the chapter's words say; one line, one blank between words.
func TestP24_6Noise(t *testing.T) {
	next := noise(246)
	for range 30000 {
		e := someEvent(next)
		showIs(t, e, plainShow(e))
		if line := world.Show(e); strings.ContainsAny(line, "\n\r\t") || strings.Contains(line, "  ") || strings.TrimSpace(line) != line {
			t.Errorf("Show(%s) is %q", told(e), line)
		}
	}
}
