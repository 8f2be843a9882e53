package script_test

import (
	"testing"

	"coppice/api"
	"coppice/script"
)

// TestP23_4Kinds: the word of each kind, and that Parse takes it for that kind.
func TestP23_4Kinds(t *testing.T) {
	words := map[int]string{
		api.OpFormat: "format", api.OpOpen: "open", api.OpPut: "put", api.OpDelete: "delete", api.OpGet: "get", api.OpScan: "scan", api.OpCommit: "commit", api.OpRollback: "rollback", api.OpView: "view", api.OpRead: "read", api.OpRange: "range",
		api.OpNth: "nth", api.OpRank: "rank", api.OpClose: "close", api.OpArm: "arm", api.OpCrash: "crash", api.OpRot: "rot", api.OpCheck: "check", api.OpHands: "hands", api.OpState: "state", api.OpDump: "dump", api.OpCompact: "compact",
	}
	if len(words) != 22 {
		t.Fatalf("%d kinds", len(words))
	}
	next := noise(234)
	for kind, word := range words {
		if got := script.Word(kind); got != word {
			t.Errorf("Word(%d) is %q, not %q", kind, got, word)
		}
		line, _ := plainOp(stepOf(kind, next))
		if s, _, err := script.Parse("coppice 9\n" + line); err != api.OK || len(s.Ops) != 1 || s.Ops[0].Kind != kind || line[:len(word)] != word {
			t.Errorf("Parse of %q: %s, %d", line, told(s), err)
		}
	}
}

// TestP23_4None: what is none of the kinds has no word.
func TestP23_4None(t *testing.T) {
	for _, kind := range append([]int{0, 23, -1, 24, -22, 100, 256, 257, 1<<32 + 1}, farNumbers...) {
		if got := script.Word(kind); got != "" {
			t.Errorf("Word(%d) is %q", kind, got)
		}
	}
	for kind := -1000; kind < 1000; kind++ {
		if got := script.Word(kind); (got != "") != (1 <= kind && kind <= 22) {
			t.Errorf("Word(%d) is %q", kind, got)
		}
	}
}
