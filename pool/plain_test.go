package pool_test

import (
	"fmt"
	"slices"
	"testing"

	"coppice/api"
	"coppice/pool"
)

// noise tells numbers from 0 on, below the one it is given; the same ones for the same seed.
func noise(seed uint64) func(n int) int {
	return func(n int) int {
		seed = seed*6364136223846793005 + 1442695040888963407
		return int((seed >> 33) % uint64(n))
	}
}

// freed is a free number, and the version since which it is.
type freed struct{ no, since int }

// plain is a pool by the chapter's words.
type plain struct {
	count, cap int
	free       []freed
	pins       []int // a version as often as it is pinned
}

// newPlain is nil where New is to answer nil.
func newPlain(count, cap int, free []int) *plain {
	if count < 2 || count > cap || cap > 524287 || !slices.IsSorted(free) {
		return nil
	}
	m := &plain{count: count, cap: cap}
	for i, no := range free {
		if no < 2 || no > count-1 || i > 0 && free[i-1] == no {
			return nil
		}
		m.free = append(m.free, freed{no, 0})
	}
	return m
}

func (m *plain) unpin(version int) bool {
	i := slices.Index(m.pins, version)
	if i < 0 {
		return false
	}
	m.pins = slices.Delete(m.pins, i, i+1)
	return true
}

func (m *plain) isUsable(f freed) bool {
	return !slices.ContainsFunc(m.pins, func(version int) bool { return version < f.since })
}

// all are the free numbers, rising; only those that are usable, if that is asked.
func (m *plain) all(usable bool) []int {
	var l []int
	for _, f := range m.free {
		if !usable || m.isUsable(f) {
			l = append(l, f.no)
		}
	}
	slices.Sort(l)
	return l
}

func (m *plain) room() int { return len(m.all(true)) + m.cap - m.count }

// takes are the first n numbers that a commit takes, as if there were room for any.
func (m *plain) takes(n int) []int {
	l := m.all(true)
	l = l[:min(n, len(l))]
	for no := m.count; len(l) < n; no++ {
		l = append(l, no)
	}
	return l
}

func (m *plain) mayGo(gone []int) bool {
	for i, no := range gone {
		if no < 2 || no > m.count-1 || slices.Contains(m.all(false), no) || i > 0 && gone[i-1] >= no {
			return false
		}
	}
	return true
}

// behind is how many are free behind a commit that takes n numbers.
func (m *plain) behind(n int, gone []int) int {
	left := len(gone)
	taken := m.takes(n)
	for _, f := range m.free {
		if !slices.Contains(taken, f.no) {
			left++
		}
	}
	return left
}

// lists is asked of small d alone: it takes the numbers one by one.
func (m *plain) lists(d int, gone []int) int {
	if d < 0 || !m.mayGo(gone) {
		return -1
	}
	for f := 0; ; f++ {
		if m.behind(d+f, gone) <= f*1021 {
			return f
		}
	}
}

func (m *plain) commit(d int, gone []int, version int) ([]int, api.Errno) {
	f := m.lists(d, gone)
	switch {
	case f == -1:
		return nil, api.ErrPool
	case d+f > m.room():
		return nil, api.ErrFull
	}
	taken := m.takes(d + f)
	m.free = slices.DeleteFunc(m.free, func(f freed) bool { return slices.Contains(taken, f.no) })
	for _, no := range gone {
		m.free = append(m.free, freed{no, version})
	}
	if len(taken) > 0 {
		m.count = max(m.count, slices.Max(taken)+1)
	}
	return taken, api.OK
}

// tell is all that a pool tells, but Lists.
func tell(p *pool.Pool) string {
	return fmt.Sprint(p.Count(), p.Room(), p.Free(), p.Usable())
}

func (m *plain) tell() string { return fmt.Sprint(m.count, m.room(), m.all(false), m.all(true)) }

// alike asks that a pool tells what the plain one does.
func alike(t *testing.T, what string, p *pool.Pool, m *plain) {
	t.Helper()
	if got, want := tell(p), m.tell(); got != want {
		t.Fatalf("%s: %.500s, not %.500s", what, got, want)
	}
}

// commits asks for a Commit like the plain pool's, with the Lists that belong to it.
func commits(t *testing.T, what string, p *pool.Pool, m *plain, d int, gone []int, version int) ([]int, api.Errno) {
	t.Helper()
	if got, want := p.Lists(d, gone), m.lists(d, gone); got != want {
		t.Fatalf("%s: Lists(%d, %v): %d, not %d", what, d, gone, got, want)
	}
	l, err := p.Commit(d, gone, version)
	want, e := m.commit(d, gone, version)
	if err != e || !slices.Equal(l, want) {
		t.Fatalf("%s: Commit(%d, %v, %d): %v, %d, not %v, %d", what, d, gone, version, l, err, want, e)
	}
	alike(t, fmt.Sprintf("%s, behind Commit(%d, %v, %d)", what, d, gone, version), p, m)
	return l, err
}

// upTo are the numbers from a on, ahead of b.
func upTo(a, b int) []int {
	var l []int
	for ; a < b; a++ {
		l = append(l, a)
	}
	return l
}

// both are a pool, and the plain one.
func both(t *testing.T, count, cap int, free ...int) (*pool.Pool, *plain) {
	t.Helper()
	p, m := pool.New(count, cap, free), newPlain(count, cap, free)
	if p == nil || m == nil {
		t.Fatalf("there is no pool of %d, %d, %v", count, cap, free)
	}
	alike(t, "a new pool", p, m)
	return p, m
}
