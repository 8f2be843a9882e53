package world_test

import (
	"bytes"
	"math"
	"strings"
	"testing"

	"coppice/api"
	"coppice/bulk"
	"coppice/check"
	"coppice/disk"
	"coppice/dump"
	"coppice/world"
)

// TestExamples: the chapter's.
func TestExamples(t *testing.T) {
	runIs(t, `coppice 9
open 4
format
open 4
put 61 78
get 61
get 62
get -
view
commit
read 1 61
rank 1 62
read 2 61
state
scan - - 9
delete 61
close 1
close 1
arm 1
commit
crash k
check
dump
put 61 78
`,
		"open error 150 page 0",
		"format", "open page 0",
		"put", "get found 78", "get none", "get error 41",
		"view 1 version 1", "commit", "read none", "rank 0", "read error 243",
		"state version 2 count 3 free 0 keys 1 height 1 same need 0 room 6",
		"scan 61=78", "delete found", "close found", "close none",
		"arm", "commit error 123", "crash pended 1 pages 4", "check page 0", "dump page 0 bytes 16",
		"put error 241")
}

// headPages are the two pages of a file that was just formatted, by bulk, which makes one too.
func headPages(t *testing.T) []byte {
	t.Helper()
	d := disk.New(2)
	if err := bulk.Load(d, nil); err != api.OK {
		t.Fatalf("Load: %d", err)
	}
	return d.Durable()
}

// TestP24_4Format: Format makes a file of no pair on the disk, whatever was there; it tells the disk's errors.
func TestP24_4Format(t *testing.T) {
	w := newWorld(t, 9)
	for range 2 {
		stepIs(t, w, api.Op{Kind: api.OpFormat}, api.Event{})
		if b := w.Durable(); !bytes.Equal(b[:min(len(b), 8192)], headPages(t)) {
			t.Error("no file of no pair lasts")
		}
		stepIs(t, w, api.Op{Kind: api.OpDump}, api.Event{Text: "coppice 0\n"})
		does(t, w, api.Op{Kind: api.OpOpen, A: 1}, put("a", 9), api.Op{Kind: api.OpCommit}, api.Op{Kind: api.OpCrash})
	}
	for k := 1; k <= 5; k++ {
		w = newWorld(t, 9)
		does(t, w, api.Op{Kind: api.OpArm, A: k})
		stepIs(t, w, api.Op{Kind: api.OpFormat}, api.Event{Code: api.ErrPower})
		fails(t, w, api.Op{Kind: api.OpState}, api.ErrNoStore)
		pended := []int{0, 1, 2, 2, 1, 1}[k]
		stepIs(t, w, api.Op{Kind: api.OpCrash}, api.Event{A: pended, B: []int{0, 0, 0, 0, 2, 2}[k]})
	}
	w = newWorld(t, 9)
	does(t, w, api.Op{Kind: api.OpArm, A: 6}, api.Op{Kind: api.OpFormat})
	fails(t, w, api.Op{Kind: api.OpFormat}, api.ErrPower)
}

// TestP24_4Open: Open takes A frames, and tells the page of a fault, with the error.
func TestP24_4Open(t *testing.T) {
	for _, frames := range []int{1, 2, 4095, 4096} {
		w := newWorld(t, 9)
		does(t, w, api.Op{Kind: api.OpFormat})
		stepIs(t, w, api.Op{Kind: api.OpOpen, A: frames}, api.Event{})
	}
	for _, frames := range []int{0, -1, 4097, math.MinInt, math.MaxInt} {
		w := newWorld(t, 9)
		fails(t, w, api.Op{Kind: api.OpOpen, A: frames}, api.ErrFrames)
	}
	w := opened(t, 9)
	does(t, w, put("a", 9000), api.Op{Kind: api.OpCommit}, api.Op{Kind: api.OpCrash}, api.Op{Kind: api.OpRot, A: 3, B: 5, C: 1})
	for range 2 {
		stepIs(t, w, api.Op{Kind: api.OpOpen, A: 1}, api.Event{Code: api.ErrSum, A: 3})
		fails(t, w, api.Op{Kind: api.OpGet, Key: []byte("a")}, api.ErrNoStore)
	}
	does(t, w, api.Op{Kind: api.OpRot, A: 3, B: 5, C: 1})
	stepIs(t, w, api.Op{Kind: api.OpOpen, A: 1}, api.Event{})
	stepIs(t, w, api.Op{Kind: api.OpGet, Key: []byte("a")}, api.Event{Found: true, Value: fill(9000, 1)})
}

// TestP24_4Frames: the cache has as many frames as were asked for: what it keeps hides a decay, what it doesn't shows it.
func TestP24_4Frames(t *testing.T) {
	for _, x := range []struct {
		frames int
		want   api.Errno
	}{{1, api.ErrSum}, {2, api.ErrSum}, {3, api.OK}, {4, api.OK}} {
		w := newWorld(t, 30)
		does(t, w, api.Op{Kind: api.OpFormat}, api.Op{Kind: api.OpOpen, A: x.frames})
		for _, key := range strings.Split("abcdefghi", "") {
			does(t, w, put(key, 500))
		}
		// Two leaves under a root: three pages to read.
		does(t, w, api.Op{Kind: api.OpCommit}, api.Op{Kind: api.OpView}, api.Op{Kind: api.OpRead, A: 1, Key: []byte("a")}, api.Op{Kind: api.OpRead, A: 1, Key: []byte("i")})
		for no := 2; no <= 4; no++ {
			does(t, w, api.Op{Kind: api.OpRot, A: no, B: 100, C: 1})
		}
		if e := w.Step(api.Op{Kind: api.OpRead, A: 1, Key: []byte("a")}); e.Code != x.want {
			t.Errorf("%d frames: the error %d, not %d", x.frames, e.Code, x.want)
		}
	}
}

// TestP24_4Store: Put, Delete, Get and Scan are the store's, of their fields.
func TestP24_4Store(t *testing.T) {
	w := opened(t, 99)
	long := bytes.Repeat([]byte("k"), 255)
	get := func(key string) api.Op { return api.Op{Kind: api.OpGet, Key: []byte(key)} }
	gone := func(key string) api.Op { return api.Op{Kind: api.OpDelete, Key: []byte(key)} }
	stepIs(t, w, get("a"), api.Event{})
	stepIs(t, w, api.Op{Kind: api.OpPut, Key: []byte("a"), Value: []byte("x")}, api.Event{})
	stepIs(t, w, get("a"), api.Event{Found: true, Value: []byte("x")})
	stepIs(t, w, api.Op{Kind: api.OpPut, Key: []byte("a")}, api.Event{})
	stepIs(t, w, get("a"), api.Event{Found: true})
	stepIs(t, w, api.Op{Kind: api.OpPut, Key: long, Value: fill(262144, 3)}, api.Event{})
	stepIs(t, w, get(string(long)), api.Event{Found: true, Value: fill(262144, 3)})
	fails(t, w, api.Op{Kind: api.OpPut, Key: long, Value: fill(262145, 3)}, api.ErrSize)
	for _, key := range []string{"", string(long) + "k"} {
		fails(t, w, api.Op{Kind: api.OpPut, Key: []byte(key)}, api.ErrSize)
		fails(t, w, get(key), api.ErrSize)
		fails(t, w, gone(key), api.ErrSize)
	}
	stepIs(t, w, gone(string(long)), api.Event{Found: true})
	stepIs(t, w, gone(string(long)), api.Event{})
	stepIs(t, w, get(string(long)), api.Event{})
	stepIs(t, w, gone("b"), api.Event{})
}

// pairs are pairs of the keys, each with its own letter, doubled, as its value.
func pairs(keys string) []api.Pair {
	var l []api.Pair
	for i := range len(keys) {
		l = append(l, api.Pair{Key: []byte(keys[i : i+1]), Value: []byte(keys[i:i+1] + keys[i:i+1])})
	}
	return l
}

// lettered is a world whose store has pairs of these keys, committed, and a view of them; then what else is put.
func lettered(t *testing.T, keys, more string) *world.World {
	t.Helper()
	w := opened(t, 99)
	for _, p := range pairs(keys) {
		does(t, w, api.Op{Kind: api.OpPut, Key: p.Key, Value: p.Value})
	}
	does(t, w, api.Op{Kind: api.OpCommit}, api.Op{Kind: api.OpView})
	for _, p := range pairs(more) {
		does(t, w, api.Op{Kind: api.OpPut, Key: p.Key, Value: p.Value})
	}
	return w
}

// TestP24_4Scan: Scan goes from Key to Hi, up to A pairs, over what is not committed too; Range, up to B, over the view.
func TestP24_4Scan(t *testing.T) {
	w := lettered(t, "dbf", "ac")
	for _, x := range []struct {
		lo, hi    string
		limit     int
		all, view string
	}{
		{"", "", 9, "abcdf", "bdf"},
		{"", "", 3, "abc", "bdf"},
		{"", "", 2, "ab", "bd"},
		{"", "", 0, "", ""},
		{"b", "", 9, "bcdf", "bdf"},
		{"b\x00", "", 9, "cdf", "df"},
		{"b", "d", 9, "bc", "b"},
		{"b", "d\x00", 9, "bcd", "bd"},
		{"c", "f", math.MaxInt, "cd", "d"},
		{"", "b", 9, "a", ""},
		{"d", "b", 9, "", ""},
		{"z", "", 9, "", ""},
		{"b", "f", 1, "b", "b"},
	} {
		stepIs(t, w, api.Op{Kind: api.OpScan, Key: []byte(x.lo), Hi: []byte(x.hi), A: x.limit}, api.Event{Pairs: pairs(x.all)})
		stepIs(t, w, api.Op{Kind: api.OpRange, A: 1, Key: []byte(x.lo), Hi: []byte(x.hi), B: x.limit}, api.Event{Pairs: pairs(x.view)})
	}
	for _, limit := range []int{-1, math.MinInt} {
		fails(t, w, api.Op{Kind: api.OpScan, A: limit}, api.ErrLimit)
		fails(t, w, api.Op{Kind: api.OpRange, A: 1, B: limit}, api.ErrLimit)
	}
}

// TestP24_4Commit: Commit makes what was put last, Rollback takes it back; for want of room nothing changes.
func TestP24_4Commit(t *testing.T) {
	w := opened(t, 5)
	does(t, w, put("a", 5))
	stepIs(t, w, api.Op{Kind: api.OpRollback}, api.Event{})
	stepIs(t, w, api.Op{Kind: api.OpGet, Key: []byte("a")}, api.Event{})
	does(t, w, put("a", 5))
	stepIs(t, w, api.Op{Kind: api.OpCommit}, api.Event{})
	stepIs(t, w, api.Op{Kind: api.OpDump}, api.Event{Text: "coppice 1\n61 " + plainHex(fill(5, 1)) + "\n"})
	was := w.Durable()
	stepIs(t, w, api.Op{Kind: api.OpCommit}, api.Event{})
	if !bytes.Equal(w.Durable(), was) {
		t.Error("a Commit of nothing has written")
	}
	does(t, w, put("b", 9000))
	fails(t, w, api.Op{Kind: api.OpCommit}, api.ErrFull)
	stepIs(t, w, api.Op{Kind: api.OpGet, Key: []byte("b")}, api.Event{Found: true, Value: fill(9000, 1)})
	stepIs(t, w, api.Op{Kind: api.OpRollback}, api.Event{})
	stepIs(t, w, api.Op{Kind: api.OpGet, Key: []byte("b")}, api.Event{})
	stepIs(t, w, api.Op{Kind: api.OpGet, Key: []byte("a")}, api.Event{Found: true, Value: fill(5, 1)})
}

// TestP24_4View: a view's number and version; what it tells, while the store goes on, till it is closed.
func TestP24_4View(t *testing.T) {
	w := lettered(t, "bd", "ac")
	does(t, w, api.Op{Kind: api.OpDelete, Key: []byte("b")}, api.Op{Kind: api.OpCommit})
	stepIs(t, w, api.Op{Kind: api.OpView}, api.Event{A: 2, B: 3})
	stepIs(t, w, api.Op{Kind: api.OpView}, api.Event{A: 3, B: 3})
	does(t, w, api.Op{Kind: api.OpPut, Key: []byte("d"), Value: []byte("new")}, api.Op{Kind: api.OpCommit})
	for no, keys := range map[int]string{1: "bd", 2: "acd", 3: "acd"} {
		for _, key := range strings.Split("abcde", "") {
			want := api.Event{}
			if strings.Contains(keys, key) {
				want = api.Event{Found: true, Value: []byte(key + key)}
			}
			stepIs(t, w, api.Op{Kind: api.OpRead, A: no, Key: []byte(key)}, want)
			ahead := 0
			for _, k := range strings.Split(keys, "") {
				if k < key {
					ahead++
				}
			}
			stepIs(t, w, api.Op{Kind: api.OpRank, A: no, Key: []byte(key)}, api.Event{A: ahead})
		}
		for i := range len(keys) {
			stepIs(t, w, api.Op{Kind: api.OpNth, A: no, B: i}, api.Event{Pairs: pairs(keys[i : i+1])})
		}
		for _, i := range []int{-1, len(keys), math.MinInt, math.MaxInt} {
			fails(t, w, api.Op{Kind: api.OpNth, A: no, B: i}, api.ErrIndex)
		}
		stepIs(t, w, api.Op{Kind: api.OpRange, A: no, B: 9}, api.Event{Pairs: pairs(keys)})
		fails(t, w, api.Op{Kind: api.OpRead, A: no}, api.ErrSize)
		fails(t, w, api.Op{Kind: api.OpRead, A: no, Key: fill(256, 1)}, api.ErrSize)
	}
	stepIs(t, w, api.Op{Kind: api.OpClose, A: 2}, api.Event{Found: true})
	for _, op := range []api.Op{{Kind: api.OpRead, A: 2, Key: []byte("a")}, {Kind: api.OpRange, A: 2, B: 9}, {Kind: api.OpNth, A: 2}, {Kind: api.OpRank, A: 2, Key: []byte("a")}} {
		fails(t, w, op, api.ErrClosed)
	}
	stepIs(t, w, api.Op{Kind: api.OpClose, A: 2}, api.Event{})
	stepIs(t, w, api.Op{Kind: api.OpRead, A: 3, Key: []byte("a")}, api.Event{Found: true, Value: []byte("aa")})
	stepIs(t, w, api.Op{Kind: api.OpView}, api.Event{A: 4, B: 4})
	stepIs(t, w, api.Op{Kind: api.OpRead, A: 4, Key: []byte("d")}, api.Event{Found: true, Value: []byte("new")})
}

// TestP24_4Close: a view that is closed gives its pages back.
func TestP24_4Close(t *testing.T) {
	w := lettered(t, "a", "")
	for range 3 {
		does(t, w, put("a", 9), api.Op{Kind: api.OpCommit}, put("a", 8), api.Op{Kind: api.OpCommit})
	}
	room := w.Step(api.Op{Kind: api.OpState}).B
	stepIs(t, w, api.Op{Kind: api.OpClose, A: 1}, api.Event{Found: true})
	if now := w.Step(api.Op{Kind: api.OpState}).B; now <= room {
		t.Errorf("room %d ahead of Close, %d behind it", room, now)
	}
}

// TestP24_4State: the store's State, Need as A, Room as B.
func TestP24_4State(t *testing.T) {
	w := opened(t, 9)
	stepIs(t, w, api.Op{Kind: api.OpState}, api.Event{B: 7, State: api.State{Version: 1, Count: 2}})
	does(t, w, put("a", 9))
	stepIs(t, w, api.Op{Kind: api.OpState}, api.Event{A: 1, B: 7, State: api.State{Version: 1, Count: 2, Keys: 1, Height: 1, Changed: true}})
	does(t, w, api.Op{Kind: api.OpCommit}, put("a", 8), put("b", 5000))
	stepIs(t, w, api.Op{Kind: api.OpState}, api.Event{A: 4, B: 6, State: api.State{Version: 2, Count: 3, Keys: 2, Height: 1, Changed: true}})
	does(t, w, api.Op{Kind: api.OpCommit})
	stepIs(t, w, api.Op{Kind: api.OpState}, api.Event{B: 3, State: api.State{Version: 3, Count: 7, Free: 1, Keys: 2, Height: 1}})
}

// TestP24_4Arm: the power fails at the A-th Write or Sync; then the store has ended, and is there still, till a Crash.
func TestP24_4Arm(t *testing.T) {
	for _, k := range []int{-1, math.MinInt} {
		fails(t, newWorld(t, 9), api.Op{Kind: api.OpArm, A: k}, api.ErrArg)
	}
	for k := 1; k <= 5; k++ {
		w := opened(t, 9)
		does(t, w, api.Op{Kind: api.OpArm, A: 1}, api.Op{Kind: api.OpArm, A: k}, put("a", 9), api.Op{Kind: api.OpView})
		stepIs(t, w, api.Op{Kind: api.OpCommit}, api.Event{Code: api.ErrPower})
		fails(t, w, api.Op{Kind: api.OpArm, A: 1}, api.ErrPower)
		fails(t, w, api.Op{Kind: api.OpArm, A: -1}, api.ErrArg)
		ended(t, w)
		stepIs(t, w, api.Op{Kind: api.OpCrash}, api.Event{A: []int{0, 1, 2, 2, 1, 1}[k], B: []int{0, 2, 2, 2, 3, 3}[k]})
		does(t, w, api.Op{Kind: api.OpOpen, A: 1})
		stepIs(t, w, api.Op{Kind: api.OpGet, Key: []byte("a")}, api.Event{})
		does(t, w, put("a", 9), api.Op{Kind: api.OpCommit}) // the disk is not armed any more
	}
	w := opened(t, 9)
	does(t, w, api.Op{Kind: api.OpArm, A: 1}, api.Op{Kind: api.OpArm}, put("a", 9), api.Op{Kind: api.OpCommit}, put("b", 9), api.Op{Kind: api.OpArm, A: 7})
	does(t, w, api.Op{Kind: api.OpCommit})
}

// ended asks whether the store has ended.
func ended(t *testing.T, w *world.World) {
	t.Helper()
	key := []byte("a")
	for _, op := range []api.Op{{Kind: api.OpPut, Key: key}, {Kind: api.OpPut}, {Kind: api.OpDelete, Key: key}, {Kind: api.OpGet, Key: key}, {Kind: api.OpScan, A: -1}, {Kind: api.OpCommit}, {Kind: api.OpRollback}, {Kind: api.OpView}, {Kind: api.OpRead, A: 1, Key: key}, {Kind: api.OpRange, A: 1}, {Kind: api.OpNth, A: 1}, {Kind: api.OpRank, A: 1}} {
		fails(t, w, op, api.ErrEnded)
	}
	stepIs(t, w, api.Op{Kind: api.OpState}, api.Event{})
	stepIs(t, w, api.Op{Kind: api.OpClose, A: 1}, api.Event{})
}

// TestP24_4Crash: each write that pends has its fate; the store goes, and its views; how many pended is told, and how long the file is then.
func TestP24_4Crash(t *testing.T) {
	kept, torn := api.Fate{Kind: api.Kept}, func(at int) api.Fate { return api.Fate{Kind: api.Torn, At: at} }
	for _, x := range []struct {
		arm           int
		fates         []api.Fate
		pended, pages int
		has           bool
	}{
		{2, nil, 2, 2, false},
		{2, []api.Fate{kept}, 2, 3, false},
		{2, []api.Fate{kept, kept}, 2, 3, false},
		{2, []api.Fate{{}, kept}, 2, 2, false},
		{2, []api.Fate{torn(0)}, 2, 3, false},
		{1, []api.Fate{kept, kept, kept}, 1, 3, false},
		{4, []api.Fate{kept}, 1, 3, true},
		{4, []api.Fate{{Kind: 3}}, 1, 3, false},
		{4, []api.Fate{{Kind: -1, At: 4096}}, 1, 3, false},
		{4, []api.Fate{torn(4096)}, 1, 3, true},
		{4, []api.Fate{torn(4095)}, 1, 3, false},
		{4, []api.Fate{torn(math.MaxInt)}, 1, 3, true},
		{4, []api.Fate{torn(math.MinInt)}, 1, 3, false},
		{5, []api.Fate{kept}, 1, 3, true},
		{6, []api.Fate{kept}, 0, 3, true},
	} {
		w := opened(t, 9)
		does(t, w, put("a", 9), api.Op{Kind: api.OpView}, api.Op{Kind: api.OpArm, A: x.arm})
		w.Step(api.Op{Kind: api.OpCommit})
		stepIs(t, w, api.Op{Kind: api.OpCrash, Fates: x.fates}, api.Event{A: x.pended, B: x.pages})
		if n := len(w.Durable()); n != 4096*x.pages {
			t.Errorf("%d bytes last, not %d pages", n, x.pages)
		}
		fails(t, w, api.Op{Kind: api.OpClose, A: 1}, api.ErrNoStore)
		stepIs(t, w, api.Op{Kind: api.OpCrash, Fates: x.fates}, api.Event{B: x.pages})
		does(t, w, api.Op{Kind: api.OpOpen, A: 1})
		fails(t, w, api.Op{Kind: api.OpClose, A: 1}, api.ErrNoView)
		want := api.Event{}
		if x.has {
			want = api.Event{Found: true, Value: fill(9, 1)}
		}
		stepIs(t, w, api.Op{Kind: api.OpGet, Key: []byte("a")}, want)
	}
	w := opened(t, 9)
	does(t, w, put("a", 9))
	stepIs(t, w, api.Op{Kind: api.OpCrash}, api.Event{B: 2})
	fails(t, w, api.Op{Kind: api.OpCommit}, api.ErrNoStore)
}

// TestP24_4Rot: a byte turns, with a store and with none, and the power off too.
func TestP24_4Rot(t *testing.T) {
	for name, w := range stages(t) {
		pages := len(w.Durable()) / 4096
		for _, x := range []struct {
			op  api.Op
			err api.Errno
		}{
			{api.Op{A: -1, B: 9, C: 1}, api.ErrNoPage},
			{api.Op{A: pages, B: 9, C: 1}, api.ErrNoPage},
			{api.Op{A: pages, B: -9, C: 0}, api.ErrNoPage},
			{api.Op{A: math.MaxInt, B: 9, C: 1}, api.ErrNoPage},
		} {
			x.op.Kind = api.OpRot
			fails(t, w, x.op, x.err)
		}
		if pages == 0 {
			continue
		}
		for _, op := range []api.Op{{B: -1, C: 1}, {B: 4096, C: 1}, {C: 256}, {C: -1}, {A: pages - 1, B: math.MaxInt, C: 1}} {
			op.Kind = api.OpRot
			fails(t, w, op, api.ErrArg)
		}
		fails(t, w, api.Op{Kind: api.OpRot, A: 1, B: 1}, api.ErrArg)
		want := w.Durable()
		for _, x := range [][3]int{{0, 0, 1}, {pages - 1, 4095, 255}, {1, 77, 128}} {
			stepIs(t, w, api.Op{Kind: api.OpRot, A: x[0], B: x[1], C: x[2]}, api.Event{})
			want[x[0]*4096+x[1]] ^= byte(x[2])
			if !bytes.Equal(w.Durable(), want) {
				t.Fatalf("%s: not just the one byte has turned", name)
			}
		}
	}
}

// spoilt is a world with a store and without one whose page no is spoilt: nine pairs in two leaves, the pages 2 and 3, under a root, 4.
func spoilt(t *testing.T, no int) *world.World {
	t.Helper()
	w := opened(t, 20)
	for _, key := range strings.Split("abcdefghi", "") {
		does(t, w, put(key, 500))
	}
	does(t, w, api.Op{Kind: api.OpCommit}, api.Op{Kind: api.OpRot, A: no, B: 50, C: 4})
	return w
}

// TestP24_4Judges: Check, Hands, Dump and Compact judge what lasts, and tell the page of a fault, with the error; with a store and with none.
func TestP24_4Judges(t *testing.T) {
	w := newWorld(t, 9)
	judges := []api.Op{{Kind: api.OpCheck}, {Kind: api.OpHands, A: 2, B: 99}, {Kind: api.OpDump}, {Kind: api.OpCompact, A: 20}}
	for _, op := range judges {
		fails(t, w, op, api.ErrFile)
	}
	does(t, w, api.Op{Kind: api.OpArm, A: 4})
	stepIs(t, w, api.Op{Kind: api.OpFormat}, api.Event{Code: api.ErrPower})
	for _, op := range judges {
		fails(t, w, op, api.ErrNoHead) // two pages of zeros last
	}
	for no := 2; no <= 4; no++ {
		w := spoilt(t, no)
		for range 2 {
			for _, op := range judges {
				stepIs(t, w, op, api.Event{Code: api.ErrSum, A: no})
			}
			stepIs(t, w, api.Op{Kind: api.OpGet, Key: []byte("a")}, api.Event{Found: true, Value: fill(500, 1)})
		}
		does(t, w, api.Op{Kind: api.OpCrash})
		for _, op := range append(judges, api.Op{Kind: api.OpOpen, A: 1}) {
			stepIs(t, w, op, api.Event{Code: api.ErrSum, A: no})
		}
	}
}

// TestP24_4Lasts: what pends is judged by none of them.
func TestP24_4Lasts(t *testing.T) {
	w := opened(t, 20)
	does(t, w, put("a", 9), api.Op{Kind: api.OpCommit}, put("b", 9), api.Op{Kind: api.OpArm, A: 6})
	stepIs(t, w, api.Op{Kind: api.OpCommit}, api.Event{Code: api.ErrPower}) // at the last Sync: the head pends
	text := "coppice 1\n61 " + plainHex(fill(9, 1)) + "\n"
	stepIs(t, w, api.Op{Kind: api.OpCheck}, api.Event{})
	stepIs(t, w, api.Op{Kind: api.OpHands, A: 1, B: 3}, api.Event{})
	stepIs(t, w, api.Op{Kind: api.OpDump}, api.Event{Text: text})
	stepIs(t, w, api.Op{Kind: api.OpCrash, Fates: []api.Fate{{Kind: api.Kept}}}, api.Event{A: 1, B: 5})
	stepIs(t, w, api.Op{Kind: api.OpDump}, api.Event{Text: strings.Replace(text, "1", "2", 1) + "62 " + plainHex(fill(9, 1)) + "\n"})
}

// TestP24_4Hands: A hands, up to B pages.
func TestP24_4Hands(t *testing.T) {
	w := spoilt(t, 3)
	for _, hands := range []int{0, -1, 17, math.MinInt, math.MaxInt} {
		fails(t, w, api.Op{Kind: api.OpHands, A: hands, B: 9}, api.ErrHands)
	}
	for _, hands := range []int{1, 2, 15, 16} {
		fails(t, w, api.Op{Kind: api.OpHands, A: hands, B: -1}, api.ErrHands)
		fails(t, w, api.Op{Kind: api.OpHands, A: hands, B: 0}, api.ErrMore)
		fails(t, w, api.Op{Kind: api.OpHands, A: hands, B: 4}, api.ErrMore)
		stepIs(t, w, api.Op{Kind: api.OpHands, A: hands, B: 5}, api.Event{Code: api.ErrSum, A: 3})
		stepIs(t, w, api.Op{Kind: api.OpHands, A: hands, B: math.MaxInt}, api.Event{Code: api.ErrSum, A: 3})
	}
	does(t, w, api.Op{Kind: api.OpRot, A: 3, B: 50, C: 4})
	stepIs(t, w, api.Op{Kind: api.OpHands, A: 16, B: 5}, api.Event{})
}

// TestP24_4Dump: the text of the map that lasts.
func TestP24_4Dump(t *testing.T) {
	w := lettered(t, "cab", "d")
	stepIs(t, w, api.Op{Kind: api.OpDump}, api.Event{Text: "coppice 3\n61 6161\n62 6262\n63 6363\n"})
	does(t, w, api.Op{Kind: api.OpCommit})
	stepIs(t, w, api.Op{Kind: api.OpDump}, api.Event{Text: "coppice 4\n61 6161\n62 6262\n63 6363\n64 6464\n"})
}

// TestP24_4Compact: the file of the same map, made anew, on a new disk of cap A, is the world's.
func TestP24_4Compact(t *testing.T) {
	w := opened(t, 40)
	for i := range 9 {
		does(t, w, put(string(rune('a'+i)), 500), api.Op{Kind: api.OpCommit})
	}
	does(t, w, put("z", 5), api.Op{Kind: api.OpView}, api.Op{Kind: api.OpArm, A: 9})
	text, was := w.Step(api.Op{Kind: api.OpDump}).Text, w.Durable()
	want := disk.New(5)
	if line, err := bulk.Text(want, text); err != api.OK {
		t.Fatalf("Text: %d at %d", err, line)
	}
	for _, cap := range []int{0, 1, -1, 524288, math.MinInt, math.MaxInt} {
		fails(t, w, api.Op{Kind: api.OpCompact, A: cap}, api.ErrPages)
	}
	for _, cap := range []int{2, 3, 4} {
		fails(t, w, api.Op{Kind: api.OpCompact, A: cap}, api.ErrFull)
	}
	stepIs(t, w, api.Op{Kind: api.OpGet, Key: []byte("z")}, api.Event{Found: true, Value: fill(5, 1)}) // the store is there still
	stepIs(t, w, api.Op{Kind: api.OpRead, A: 1, Key: []byte("z")}, api.Event{})
	stepIs(t, w, api.Op{Kind: api.OpCompact, A: 5}, api.Event{B: 5})
	if b := w.Durable(); bytes.Equal(b, was) || !bytes.Equal(b, want.Durable()) {
		t.Error("not the file that hangs on the map alone")
	}
	fails(t, w, api.Op{Kind: api.OpGet, Key: []byte("a")}, api.ErrNoStore)
	fails(t, w, api.Op{Kind: api.OpClose, A: 1}, api.ErrNoStore)
	does(t, w, api.Op{Kind: api.OpOpen, A: 1})
	fails(t, w, api.Op{Kind: api.OpClose, A: 1}, api.ErrNoView)
	stepIs(t, w, api.Op{Kind: api.OpState}, api.Event{State: api.State{Version: 2, Count: 5, Keys: 9, Height: 2}}) // no room: the cap is the new disk's
	stepIs(t, w, api.Op{Kind: api.OpCompact, A: 524287}, api.Event{B: 5})
	does(t, w, api.Op{Kind: api.OpOpen, A: 1})
	stepIs(t, w, api.Op{Kind: api.OpState}, api.Event{B: 524282, State: api.State{Version: 2, Count: 5, Keys: 9, Height: 2}})
}

// TestP24_4CompactPower: what was on the old disk, its failing power too, has no say on the new one.
func TestP24_4CompactPower(t *testing.T) {
	w := stages(t)["ended"]
	stepIs(t, w, api.Op{Kind: api.OpCompact, A: 9}, api.Event{B: 3})
	stepIs(t, w, api.Op{Kind: api.OpCrash, Fates: []api.Fate{{Kind: api.Kept}}}, api.Event{B: 3})
	does(t, w, api.Op{Kind: api.OpOpen, A: 1}, put("z", 9), api.Op{Kind: api.OpCommit}, api.Op{Kind: api.OpArm, A: 1})
	w = opened(t, 9)
	does(t, w, put("a", 9), api.Op{Kind: api.OpArm, A: 1}, api.Op{Kind: api.OpCompact, A: 9}, api.Op{Kind: api.OpOpen, A: 1}, put("a", 9), api.Op{Kind: api.OpCommit})
}

// TestP24_4CompactFirst: a cap that no disk has is told ahead of a fault of the file.
func TestP24_4CompactFirst(t *testing.T) {
	for no := 2; no <= 4; no++ {
		w := spoilt(t, no)
		fails(t, w, api.Op{Kind: api.OpCompact, A: 1}, api.ErrPages)
		stepIs(t, w, api.Op{Kind: api.OpCompact, A: 2}, api.Event{Code: api.ErrSum, A: no})
	}
}

// TestP24_5Durable: what lasts on the disk, and nothing that pends.
func TestP24_5Durable(t *testing.T) {
	w := newWorld(t, 20)
	if len(w.Durable()) != 0 {
		t.Error("something lasts on a new disk")
	}
	does(t, w, api.Op{Kind: api.OpFormat})
	if !bytes.Equal(w.Durable(), headPages(t)) {
		t.Error("no file of no pair lasts")
	}
	does(t, w, api.Op{Kind: api.OpOpen, A: 1}, put("a", 9), api.Op{Kind: api.OpArm, A: 3})
	stepIs(t, w, api.Op{Kind: api.OpCommit}, api.Event{Code: api.ErrPower})
	if !bytes.Equal(w.Durable(), headPages(t)) {
		t.Error("what pends is told as what lasts")
	}
	does(t, w, api.Op{Kind: api.OpCrash, Fates: []api.Fate{{Kind: api.Torn, At: 100}}})
	if b := w.Durable(); len(b) != 3*4096 || !bytes.Equal(b[:8192], headPages(t)) || bytes.Equal(b[8192:8292], make([]byte, 100)) || !bytes.Equal(b[8292:], make([]byte, 4096-100)) {
		t.Error("no torn page lasts")
	}
	does(t, w, api.Op{Kind: api.OpOpen, A: 1}, put("a", 9), api.Op{Kind: api.OpCommit})
	if text, _, err := dump.File(w.Durable()); err != api.OK || text != "coppice 1\n61 "+plainHex(fill(9, 1))+"\n" {
		t.Errorf("%q, %d", text, err)
	}
	if at, err := check.Check(w.Durable()); err != api.OK {
		t.Errorf("the file is refused: %d at %d", err, at)
	}
}
