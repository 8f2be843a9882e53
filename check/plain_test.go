package check_test

import (
	"fmt"
	"hash/crc32"
	"slices"
	"strings"
	"testing"

	"coppice/api"
	"coppice/branch"
	"coppice/check"
	"coppice/leaf"
	"coppice/page"
)

// noise tells numbers from 0 on, below the one it is given; the same ones for the same seed.
func noise(seed uint64) func(n int) int {
	return func(n int) int {
		seed = seed*6364136223846793005 + 1442695040888963407
		return int((seed >> 33) % uint64(n))
	}
}

// verdict is what a file is judged: the page and the error of its first fault.
type verdict struct {
	at  int
	err api.Errno
}

// plain is a judge by the chapter's words: what it finds amiss it cries out, and the first cry ends the judging.
type plain struct {
	file   []byte
	slot   int
	head   api.Head
	used   []bool // by number: met, or listed
	nodes  []api.Node
	listed []int
	lists  []int
}

// judged is what the plain judge finds in a file, and what it says.
func judged(file []byte) (v verdict, m *plain) {
	m = &plain{file: file}
	defer func() {
		if x := recover(); x != nil {
			v = x.(verdict)
		}
	}()
	m.first()
	m.used = make([]bool, m.head.Count)
	if keys := m.tree(); keys != m.head.Keys {
		m.cry(m.slot, api.ErrKeys)
	}
	m.frees()
	if len(m.listed) != m.head.Free {
		m.cry(m.slot, api.ErrCount)
	}
	for no, used := range m.used {
		if no >= 2 && !used {
			m.cry(no, api.ErrLoose)
		}
	}
	return verdict{}, m
}

func (m *plain) cry(at int, err api.Errno) { panic(verdict{at, err}) }

// page decodes the page no.
func (m *plain) page(no int) (api.Page, api.Errno) {
	return page.Decode(m.file[no*4096:][:4096])
}

// first are the steps 1 to 3.
func (m *plain) first() {
	if n := len(m.file); n%4096 > 0 || n < 8192 || n > 524287*4096 {
		m.cry(0, api.ErrFile)
	}
	m.slot = -1
	for slot := range 2 {
		p, err := m.page(slot)
		if err == api.OK && p.Kind == api.Meta && p.Head.Version&1 == slot && p.Head.Version > m.head.Version {
			m.slot, m.head = slot, p.Head
		}
	}
	if m.slot < 0 {
		m.cry(0, api.ErrNoHead)
	}
	if m.head.Count*4096 > len(m.file) {
		m.cry(m.slot, api.ErrCount)
	}
}

// meet is what is done with each page: a and b.
func (m *plain) meet(no, from int) api.Page {
	if no < 2 || no > m.head.Count-1 {
		m.cry(from, api.ErrOutside)
	}
	if m.used[no] {
		m.cry(from, api.ErrTwice)
	}
	m.used[no] = true
	p, err := m.page(no)
	if err != api.OK {
		m.cry(no, err)
	}
	return p
}

// tree is step 4: how many keys there are.
func (m *plain) tree() int {
	if m.head.Root == 0 {
		return 0
	}
	p, keys := m.below(m.head.Root, m.slot, m.head.Height-1, "", "")
	if len(p.Kids) == 1 {
		m.cry(m.head.Root, api.ErrThin)
	}
	return keys
}

// below is what stands at a number: the page, and how many keys lie below it. A bound that is empty is none.
func (m *plain) below(no, from, level int, lo, hi string) (api.Page, int) {
	p := m.meet(no, from)
	if level == 0 && p.Kind != api.Leaf || level > 0 && (p.Kind != api.Branch || p.Level != level) {
		m.cry(no, api.ErrDepth)
	}
	if level == 0 {
		return p, m.leaf(p, no, lo, hi)
	}
	return p, m.branch(p, no, lo, hi)
}

func (m *plain) leaf(p api.Page, no int, lo, hi string) int {
	for _, it := range []api.Item{p.Items[0], p.Items[len(p.Items)-1]} {
		if string(it.Key) < lo || hi != "" && string(it.Key) >= hi {
			m.cry(no, api.ErrBounds)
		}
	}
	n := api.Node{No: no}
	for _, it := range p.Items {
		value, chain := it.Value, []int(nil)
		if it.Size > 512 {
			value, chain = m.chain(it.First, no, it.Size)
		}
		n.Pairs, n.Chains = append(n.Pairs, api.Pair{Key: it.Key, Value: value}), append(n.Chains, chain)
	}
	m.nodes = append(m.nodes, n)
	return len(p.Items)
}

// chain meets the pages of a chain of so many bytes.
func (m *plain) chain(no, from, size int) (value []byte, nos []int) {
	p := m.meet(no, from)
	data, more := size, false
	if size > 4085 {
		data, more = 4085, true
	}
	if p.Kind != api.Chain || len(p.Data) != data || more && p.Next == 0 || !more && p.Next != 0 {
		m.cry(no, api.ErrLost)
	}
	if more {
		value, nos = m.chain(p.Next, no, size-data)
	}
	return slices.Concat(p.Data, value), slices.Concat([]int{no}, nos)
}

func (m *plain) branch(p api.Page, no int, lo, hi string) int {
	for i, sep := range p.Seps {
		if (i == 0 || i == len(p.Seps)-1) && (lo != "" && string(sep) <= lo || hi != "" && string(sep) >= hi) {
			m.cry(no, api.ErrBounds)
		}
	}
	n := api.Node{No: no, Level: p.Level, Seps: p.Seps}
	sum := 0
	var kids []api.Page
	for i, k := range p.Kids {
		low, high := lo, hi
		if i > 0 {
			low = string(p.Seps[i-1])
		}
		if i < len(p.Seps) {
			high = string(p.Seps[i])
		}
		kid, keys := m.below(k.No, no, p.Level-1, low, high)
		if keys != k.Keys {
			m.cry(no, api.ErrKeys)
		}
		sum += keys
		kids = append(kids, kid)
		n.Kids = append(n.Kids, len(m.nodes)-1)
	}
	for i, sep := range p.Seps {
		a, b := kids[i], kids[i+1]
		size := leaf.Size(slices.Concat(a.Items, b.Items))
		if p.Level > 1 {
			size = branch.Size(slices.Concat(a.Seps, [][]byte{sep}, b.Seps))
		}
		if size <= 3000 {
			m.cry(no, api.ErrThin)
		}
	}
	m.nodes = append(m.nodes, n)
	return sum
}

// frees is step 6.
func (m *plain) frees() {
	from, no := m.slot, m.head.First
	for no != 0 {
		p := m.meet(no, from)
		if p.Kind != api.Frees {
			m.cry(no, api.ErrFrees)
		}
		m.lists = append(m.lists, no)
		for _, free := range p.List {
			if free < 2 || free > m.head.Count-1 {
				m.cry(no, api.ErrOutside)
			}
			if len(m.listed) > 0 && free <= m.listed[len(m.listed)-1] {
				m.cry(no, api.ErrList)
			}
			if m.used[free] {
				m.cry(no, api.ErrTwice)
			}
			m.used[free] = true
			m.listed = append(m.listed, free)
		}
		from, no = no, p.Next
	}
}

// tellValue is a value as a short text, unlike those of other values.
func tellValue(v []byte) string {
	if len(v) < 20 {
		return fmt.Sprintf("%q", v)
	}
	return fmt.Sprintf("%d bytes, %08x", len(v), crc32.ChecksumIEEE(v))
}

// tellNodes are nodes as a text, in which nil and the empty list are the same.
func tellNodes(l []api.Node) string {
	var b strings.Builder
	for _, n := range l {
		fmt.Fprintf(&b, "%d, level %d, %q, %v:", n.No, n.Level, n.Seps, n.Kids)
		for i, p := range n.Pairs {
			fmt.Fprintf(&b, " %q = %s", p.Key, tellValue(p.Value))
			if i < len(n.Chains) {
				fmt.Fprint(&b, n.Chains[i])
			}
		}
		fmt.Fprintln(&b)
	}
	return b.String()
}

// tellFile is all that a file says.
func tellFile(h api.Head, nodes []api.Node, free, lists []int) string {
	return fmt.Sprintf("%+v\n%sfree %v, lists %v", h, tellNodes(nodes), free, lists)
}

// saying is all that an accepted file says.
func saying(f *check.File) string {
	return tellFile(f.Head(), f.Tree().Nodes(), f.Free(), f.Lists())
}

// asked is what Check answers; Open must answer the same, with a file just beside OK, and the bytes must be as they were.
func asked(t *testing.T, file []byte) (verdict, *check.File) {
	t.Helper()
	whole := file[:cap(file)]
	were := crc32.ChecksumIEEE(whole)
	at, err := check.Check(file)
	f, openAt, openErr := check.Open(file)
	if at != openAt || err != openErr || (f != nil) != (err == api.OK) {
		t.Fatalf("Check: %d at %d; Open: %d at %d, a file: %v", err, at, openErr, openAt, f != nil)
	}
	if crc32.ChecksumIEEE(whole) != were {
		t.Fatal("the bytes are not as they were")
	}
	return verdict{at, err}, f
}

// asPlain asks that a file is judged as the plain judge does, and says what the plain one finds.
func asPlain(t *testing.T, what string, file []byte) (verdict, *check.File) {
	t.Helper()
	want, m := judged(file)
	got, f := asked(t, file)
	if got != want {
		t.Fatalf("%s: %d at %d, not %d at %d", what, got.err, got.at, want.err, want.at)
	}
	if f != nil {
		if says, should := saying(f), tellFile(m.head, m.nodes, m.listed, m.lists); says != should {
			t.Fatalf("%s: says %.2000s\nnot %.2000s", what, says, should)
		}
		holdsTogether(t, what, f)
	}
	return got, f
}

// answers asks that a file is judged so.
func answers(t *testing.T, what string, file []byte, at int, err api.Errno) *check.File {
	t.Helper()
	v, f := asked(t, file)
	if v != (verdict{at, err}) {
		t.Errorf("%s: %d at %d, not %d at %d", what, v.err, v.at, err, at)
	}
	if want, _ := judged(file); want != (verdict{at, err}) {
		t.Errorf("%s: the plain judge says %d at %d, not %d at %d", what, want.err, want.at, err, at)
	}
	return f
}
