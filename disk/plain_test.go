package disk_test

import (
	"bytes"
	"fmt"
	"math"
	"strings"
	"testing"

	"coppice/api"
	"coppice/disk"
)

// noise tells numbers from 0 on, below the one it is given; the same ones for the same seed.
func noise(seed uint64) func(n int) int {
	return func(n int) int {
		seed = seed*6364136223846793005 + 1442695040888963407
		return int((seed >> 33) % uint64(n))
	}
}

// full is a page full of one byte.
func full(x byte) []byte { return bytes.Repeat([]byte{x}, api.PageSize) }

// grain is a page of which no two neighbouring bytes are the same, and that is unlike the grains of other numbers at every byte.
func grain(x int) []byte {
	b := make([]byte, api.PageSize)
	for i := range b {
		b[i] = byte(i*7 + x*31 + i>>8)
	}
	return b
}

// zeros is a page of zeros, as a text.
var zeros = strings.Repeat("\x00", api.PageSize)

// put is a write that pends.
type put struct {
	no   int
	data string
}

// plain is a disk that keeps everything as it came, and goes through all of it whenever it is asked.
type plain struct {
	cap   int
	last  []string
	log   []put
	off   bool
	fails uint64 // which of the counted calls, from 1 on, the power fails at; 0: at none
	done  int
	reads int
}

// pages is one more than the greatest number of a page that lasts or pends.
func (p *plain) pages() int {
	n := len(p.last)
	for _, w := range p.log {
		if w.no+1 > n {
			n = w.no + 1
		}
	}
	return n
}

// read is a page as it was written last.
func (p *plain) read(i int) (string, api.Errno) {
	if i < 0 || i >= p.pages() {
		return "", api.ErrNoPage
	}
	if p.off {
		return "", api.ErrPower
	}
	p.reads++
	page := zeros
	if i < len(p.last) {
		page = p.last[i]
	}
	for _, w := range p.log {
		if w.no == i {
			page = w.data
		}
	}
	return page, api.OK
}

// counted counts a call, and tells whether the power stays on.
func (p *plain) counted() api.Errno {
	p.done++
	if p.fails == uint64(p.done) {
		p.off = true
		return api.ErrPower
	}
	return api.OK
}

// write is Write.
func (p *plain) write(i int, b []byte) api.Errno {
	if i < 0 || i > p.pages() {
		return api.ErrNoPage
	}
	if i >= p.cap {
		return api.ErrCap
	}
	if len(b) != api.PageSize {
		return api.ErrWrite
	}
	if p.off {
		return api.ErrPower
	}
	p.log = append(p.log, put{i, string(b)})
	return p.counted()
}

// sync is Sync: a crash that everything outlives.
func (p *plain) sync() api.Errno {
	if p.off || p.counted() != api.OK {
		return api.ErrPower
	}
	fails := p.fails
	var l []api.Fate
	for range p.log {
		l = append(l, api.Fate{Kind: api.Kept})
	}
	p.crash(l)
	p.fails = fails
	return api.OK
}

// arm is Arm.
func (p *plain) arm(k int) api.Errno {
	if k < 0 {
		return api.ErrArg
	}
	if p.off {
		return api.ErrPower
	}
	p.fails = 0
	if k > 0 {
		p.fails = uint64(p.done) + uint64(k)
	}
	return api.OK
}

// crash is Crash.
func (p *plain) crash(l []api.Fate) {
	file := map[int]string{}
	top := len(p.last)
	for i, page := range p.last {
		file[i] = page
	}
	for i, w := range p.log {
		if i >= len(l) || l[i].Kind != api.Kept && l[i].Kind != api.Torn {
			continue
		}
		n := l[i].At
		if l[i].Kind == api.Kept || n > api.PageSize {
			n = api.PageSize
		}
		if n < 0 {
			n = 0
		}
		old, was := file[w.no]
		if !was {
			old = zeros
		}
		file[w.no] = w.data[:n] + old[n:]
		if w.no >= top {
			top = w.no + 1
		}
	}
	p.last = nil
	for i := range top {
		page, is := file[i]
		if !is {
			page = zeros
		}
		p.last = append(p.last, page)
	}
	p.log, p.off, p.fails = nil, false, 0
}

// turned is a page with one byte xored.
func turned(page string, at, x int) string {
	return page[:at] + string([]byte{page[at] ^ byte(x)}) + page[at+1:]
}

// rot is Rot.
func (p *plain) rot(i, at, x int) api.Errno {
	if i < 0 || i >= len(p.last) {
		return api.ErrNoPage
	}
	if at < 0 || at > api.PageSize-1 || x < 1 || x > 255 {
		return api.ErrArg
	}
	p.last[i] = turned(p.last[i], at, x)
	for k, w := range p.log {
		if w.no == i {
			p.log[k].data = turned(w.data, at, x)
		}
	}
	return api.OK
}

// bench is a disk, and beside it the plain one that should answer the same.
type bench struct {
	t     *testing.T
	d     *disk.Disk
	p     *plain
	calls []string
}

// newBench is a bench of New(cap).
func newBench(t *testing.T, cap int) *bench {
	t.Helper()
	d := disk.New(cap)
	if d == nil {
		t.Fatalf("New(%d): nil", cap)
	}
	return &bench{t: t, d: d, p: &plain{cap: cap}, calls: []string{fmt.Sprintf("New(%d)", cap)}}
}

// imageBench is a bench of Image(cap, b).
func imageBench(t *testing.T, cap int, b []byte) *bench {
	t.Helper()
	d, err := disk.Image(cap, b)
	if d == nil || err != api.OK {
		t.Fatalf("Image(%d, %d bytes): %v, %d", cap, len(b), d != nil, err)
	}
	p := &plain{cap: cap}
	for at := 0; at < len(b); at += api.PageSize {
		p.last = append(p.last, string(b[at:at+api.PageSize]))
	}
	return &bench{t: t, d: d, p: p, calls: []string{fmt.Sprintf("Image(%d, %d bytes)", cap, len(b))}}
}

// fail ends the test and tells what was done.
func (b *bench) fail(format string, a ...any) {
	b.t.Helper()
	b.t.Fatalf("behind %s: %s", strings.Join(b.calls[max(0, len(b.calls)-30):], ", "), fmt.Sprintf(format, a...))
}

// call notes a call, and asks that both answered the same.
func (b *bench) call(name string, got, want api.Errno) {
	b.t.Helper()
	b.calls = append(b.calls, fmt.Sprintf("%s = %d", name, got))
	if got != want {
		b.fail("it should be %d", want)
	}
}

func (b *bench) write(i int, data []byte) api.Errno {
	b.t.Helper()
	got := b.d.Write(i, data)
	b.call(fmt.Sprintf("Write(%d, %d bytes)", i, len(data)), got, b.p.write(i, data))
	return got
}

func (b *bench) sync() api.Errno {
	b.t.Helper()
	got := b.d.Sync()
	b.call("Sync()", got, b.p.sync())
	return got
}

func (b *bench) arm(k int) api.Errno {
	b.t.Helper()
	got := b.d.Arm(k)
	b.call(fmt.Sprintf("Arm(%d)", k), got, b.p.arm(k))
	return got
}

func (b *bench) rot(i, at, x int) api.Errno {
	b.t.Helper()
	got := b.d.Rot(i, at, x)
	b.call(fmt.Sprintf("Rot(%d, %d, %d)", i, at, x), got, b.p.rot(i, at, x))
	return got
}

func (b *bench) crash(l ...api.Fate) {
	b.t.Helper()
	b.calls = append(b.calls, fmt.Sprintf("Crash(%v)", l))
	b.d.Crash(l)
	b.p.crash(l)
}

// read asks for a page, and that both tell the same.
func (b *bench) read(i int) {
	b.t.Helper()
	got, err := b.d.Read(i)
	want, wantErr := b.p.read(i)
	if string(got) != want || err != wantErr {
		b.fail("Read(%d): %s, %d; not %s, %d", i, short(string(got)), err, short(want), wantErr)
	}
}

// look asks all that can be asked, and that both tell the same.
func (b *bench) look() {
	b.t.Helper()
	p, d := b.p, b.d
	if d.Cap() != p.cap || d.Pages() != p.pages() || d.Power() == p.off {
		b.fail("cap %d, %d pages, power %v; not %d, %d, %v", d.Cap(), d.Pages(), d.Power(), p.cap, p.pages(), !p.off)
	}
	for i := -1; i <= p.pages(); i++ {
		b.read(i)
	}
	if d.Done() != p.done || d.Reads() != p.reads {
		b.fail("Done %d, Reads %d; not %d, %d", d.Done(), d.Reads(), p.done, p.reads)
	}
	if got, want := string(d.Durable()), strings.Join(p.last, ""); got != want {
		b.fail("Durable: %s, not %s", short(got), short(want))
	}
	l := d.Pending()
	if len(l) != len(p.log) {
		b.fail("%d writes pend, not %d", len(l), len(p.log))
	}
	for i, w := range l {
		if w.No != p.log[i].no || string(w.Data) != p.log[i].data {
			b.fail("the write %d that pends: %d, %s; not %d, %s", i, w.No, short(string(w.Data)), p.log[i].no, short(p.log[i].data))
		}
	}
}

// short is a page, or several of them, in few words.
func short(s string) string {
	if len(s) <= 8 {
		return fmt.Sprintf("%d bytes % x", len(s), s)
	}
	return fmt.Sprintf("%d bytes % x .. % x", len(s), s[:4], s[len(s)-4:])
}

// oddNumbers are numbers that nothing has.
func oddNumbers() []int {
	return []int{math.MinInt, math.MinInt64 + 1, -1 << 32, -4096, -2, -1, 1 << 32, 1<<32 + 1, math.MaxInt - 1, math.MaxInt}
}

// anyFate is a fate, mostly one of the three that the document names.
func anyFate(next func(int) int) api.Fate {
	ats := []int{math.MinInt, -1, 0, 1, 2, 511, 512, 4092, 4095, 4096, 4097, math.MaxInt, next(4097), next(4097)}
	kinds := []int{api.Lost, api.Kept, api.Kept, api.Torn, api.Torn, api.Torn, 3, -1, math.MinInt, math.MaxInt}
	return api.Fate{Kind: kinds[next(len(kinds))], At: ats[next(len(ats))]}
}

// anyFates are fates for about that many writes: none, fewer, as many, more.
func anyFates(next func(int) int, writes int) []api.Fate {
	var l []api.Fate
	for range next(writes + 3) {
		l = append(l, anyFate(next))
	}
	return l
}

// anyData is what is written: mostly a page.
func anyData(next func(int) int) []byte {
	switch next(16) {
	case 0:
		return make([]byte, []int{0, 1, 4092, 4095, 4097, 8192}[next(6)])
	case 1:
		return full(0)
	case 2:
		return full(0xff)
	}
	return grain(next(1000))
}

// step does any one thing with the bench.
func (b *bench) step(next func(int) int) {
	b.t.Helper()
	odd := oddNumbers()
	switch n := next(40); {
	case n < 20:
		b.write(next(b.p.pages()+2), anyData(next))
	case n == 20:
		b.write(odd[next(len(odd))], anyData(next))
	case n < 26:
		b.sync()
	case n < 29:
		b.arm(next(8))
	case n == 29:
		b.arm(odd[next(len(odd))])
	case n < 34:
		b.crash(anyFates(next, len(b.p.log))...)
	case n < 38:
		b.rot(next(b.p.pages()+1), next(api.PageSize), 1+next(255))
	default:
		ats, xs := []int{-1, 0, 4095, 4096, odd[next(len(odd))]}, []int{0, 1, 255, 256, odd[next(len(odd))]}
		b.rot(next(b.p.pages()+3)-1, ats[next(len(ats))], xs[next(len(xs))])
	}
}
