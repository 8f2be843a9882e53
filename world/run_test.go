package world_test

import (
	"slices"
	"strings"
	"testing"

	"coppice/api"
	"coppice/script"
	"coppice/world"
)

// refused asks whether a text is refused.
func refused(t *testing.T, text string, line int, err api.Errno) {
	t.Helper()
	if l, at, e := world.Run(text); len(l) != 0 || at != line || e != err {
		t.Errorf("Run of %.300q: %d lines, %d at line %d, not %d at line %d", text, len(l), e, at, err, line)
	}
}

// TestP24_7Refused: what script.Parse refuses is refused with its line and error, and no step is told.
func TestP24_7Refused(t *testing.T) {
	for _, x := range []struct {
		text string
		line int
		err  api.Errno
	}{
		{"", 0, api.ErrScript},
		{"# coppice 9\n\n", 0, api.ErrScript},
		{"format\n", 1, api.ErrScript},
		{"\ncoppice\n", 2, api.ErrWords},
		{"coppice x\n", 1, api.ErrNumber},
		{"coppice 9\nformat 1\n", 2, api.ErrWords},
		{"coppice 9\nformat\n\nopen x\n", 4, api.ErrNumber},
		{"coppice 9\nformat\nopen 1\nput 6 6\n", 4, api.ErrHex},
		{"coppice 9\nformat\nopen 1\ncrash l x\n", 4, api.ErrWord},
		{"coppice 9\nformat\nopen 1\nfly\n", 4, api.ErrWord},
		{"coppice 9\n" + strings.Repeat("format\n", 2001), 2002, api.ErrMany},
		{"coppice 9\n" + strings.Repeat("#", 1048576), 0, api.ErrMany},
		{"coppice 1\nfly\n", 2, api.ErrWord}, // ahead of the cap
		{"coppice -1\nput 61\n", 2, api.ErrWords},
	} {
		refused(t, x.text, x.line, x.err)
	}
}

// TestP24_7Caps: a cap that no disk has is ErrPages at 0.
func TestP24_7Caps(t *testing.T) {
	for _, cap := range []string{"0", "1", "-1", "-9", "524288", "2147483647", "-2147483647"} {
		refused(t, "coppice "+cap, 0, api.ErrPages)
		refused(t, "\n\ncoppice "+cap+"\nformat\nopen 1\n", 0, api.ErrPages)
	}
	for _, cap := range []string{"2", "3", "524287"} {
		runIs(t, "coppice "+cap)
		runIs(t, "coppice "+cap+"\n# nothing\n\n")
		runIs(t, "coppice "+cap+"\nformat\nopen 1\n", "format", "open page 0")
	}
}

// TestP24_7Steps: a line for each step, one behind the other, those with an error too; remarks say nothing.
func TestP24_7Steps(t *testing.T) {
	runIs(t, "# two leaves\ncoppice 9\n\nget 61 # too early\nformat\nopen 0\nopen 2\nopen 2\nput 61 -\nput 62 0001\n\tview\ncommit\nview\nrange 1 - - 9\nrange 2 - - 9\nrange 2 61 62 9\nnth 2 1\nnth 2 2\nclose 2\nread 2 61\nrank 3 61\nhands 17 9\nhands 2 2\nhands 2 3\nrot 2 7 1\ncheck\ndump\ncompact 9\nrot 2 7 1\ncompact 1\ncompact 2\ncompact 9\nstate\nopen 1\nstate\nscan 62 - 1",
		"get error 241", "format", "open error 192 page 0", "open page 0", "open error 242 page 0", "put", "put", "view 1 version 1", "commit", "view 2 version 2",
		"range", "range 61=- 62=0001", "range 61=-", "nth 62=0001", "nth error 110", "close found", "read error 190", "rank error 243",
		"hands error 160 page 0", "hands error 161 page 0", "hands page 0", "rot", "check error 22 page 2", "dump error 22 page 2", "compact error 22 page 2",
		"rot", "compact error 120 page 0", "compact error 170 page 0", "compact page 0 pages 3", "state error 241", "open page 0",
		"state version 2 count 3 free 0 keys 2 height 1 same need 0 room 6", "scan 62=0001")
	runIs(t, "coppice 9\n"+strings.Repeat("check\n", 2000), slices.Repeat([]string{"check error 150 page 0"}, 2000)...)
}

// TestP24_7Noise: a script by noise tells what its steps tell, one by one.
func TestP24_7Noise(t *testing.T) {
	for seed := range uint64(60) {
		s, want := someScript(t, seed, 150)
		text, err := script.Print(s)
		if err != api.OK {
			t.Fatalf("Print: %d", err)
		}
		runIs(t, text, want...)
	}
}

// someScript is a script by noise, and what it tells. It has no step that a text can't have.
func someScript(t *testing.T, seed uint64, steps int) (api.Script, []string) {
	t.Helper()
	m := &maker{next: noise(seed)}
	s := api.Script{Cap: m.one(3, 9, 20, 60)}
	w := newWorld(t, s.Cap)
	var lines []string
	for len(s.Ops) < steps {
		op := m.step()
		if len(op.Value) > 9000 {
			continue
		}
		if _, err := script.Print(api.Script{Ops: []api.Op{op}}); err != api.OK {
			continue
		}
		m.last = w.Step(op)
		s.Ops, lines = append(s.Ops, op), append(lines, plainShow(m.last))
	}
	return s, lines
}
