package ledger_test

import (
	"fmt"
	"slices"
	"testing"

	"jurat/api"
	"jurat/ledger"
	"jurat/proof"
)

// book is what can be asked of a ledger, and of a plain one.
type book interface {
	Append(b []byte) (int, api.Errno)
	Size() int
	Leaf(i int) ([]byte, api.Errno)
	Head(n int) (api.Head, api.Errno)
	Include(i, n int) ([]api.Digest, api.Errno)
	Consist(m, n int) ([]api.Digest, api.Errno)
}

// plain is a ledger by the words of this chapter, worked out anew from the leaves at each call.
type plain struct{ leaves [][]byte }

func (p *plain) Append(b []byte) (int, api.Errno) {
	switch {
	case len(b) > 4096:
		return 0, api.ErrLong
	case len(p.leaves) == 4096:
		return 0, api.ErrFull
	}
	p.leaves = append(p.leaves, slices.Clone(b))
	return len(p.leaves) - 1, api.OK
}

func (p *plain) Size() int { return len(p.leaves) }

func (p *plain) Leaf(i int) ([]byte, api.Errno) {
	if i < 0 || i >= len(p.leaves) {
		return nil, api.ErrArg
	}
	return slices.Clone(p.leaves[i]), api.OK
}

func (p *plain) Head(n int) (api.Head, api.Errno) {
	if n < 0 || n > len(p.leaves) {
		return api.Head{}, api.ErrArg
	}
	return api.Head{Size: n, Root: proof.Root(p.digests(n))}, api.OK
}

func (p *plain) Include(i, n int) ([]api.Digest, api.Errno) {
	if n < 0 || n > len(p.leaves) || i < 0 || i >= n {
		return nil, api.ErrArg
	}
	return proof.Include(p.digests(n), i)
}

func (p *plain) Consist(m, n int) ([]api.Digest, api.Errno) {
	if n < 0 || n > len(p.leaves) || m < 0 || m > n {
		return nil, api.ErrArg
	}
	return proof.Consist(p.digests(n), m)
}

func (p *plain) digests(n int) []api.Digest {
	var l []api.Digest
	for _, b := range p.leaves[:n] {
		l = append(l, proof.Leaf(b))
	}
	return l
}

// told is all that a book tells of a place or a beginning of the first n leaves, so written that only what is alike reads alike.
func told(b book, i, n int) string {
	leaf, e0 := b.Leaf(i)
	head, e1 := b.Head(n)
	in, e2 := b.Include(i, n)
	con, e3 := b.Consist(i, n)
	return fmt.Sprintf("leaf %x %d; head %d %x %d; include %x %d; consist %x %d", leaf, e0, head.Size, head.Root, e1, in, e2, con, e3)
}

// hold holds a ledger's answers to two numbers against a plain one's.
func hold(t *testing.T, l, p book, i, n int) {
	t.Helper()
	if l.Size() != p.Size() {
		t.Fatalf("Size = %d, want %d", l.Size(), p.Size())
	}
	if got, want := told(l, i, n), told(p, i, n); got != want {
		t.Errorf("of %d leaves, asked for %d and %d:\n%s\nwant\n%s", p.Size(), i, n, got, want)
	}
}

// message is n bytes of which no two neighbours are alike.
func message(n int) []byte {
	b := make([]byte, n)
	for i := range n {
		b[i] = byte(0x9d*i + 0x81)
	}
	return b
}

// leaf is the one that stands at a place of the ledgers below: all lengths below 131 come again and again.
func leaf(i int) []byte { return message(i % 131) }

// grow appends leaves till there are n.
func grow(t *testing.T, b book, n int) {
	t.Helper()
	for i := b.Size(); i < n; i++ {
		if place, e := b.Append(leaf(i)); place != i || e != api.OK {
			t.Fatalf("Append of leaf %d: %d, %d", i, place, e)
		}
	}
}

// grown is a ledger of n leaves.
func grown(t *testing.T, n int) *ledger.Ledger {
	t.Helper()
	l := ledger.New()
	grow(t, l, n)
	return l
}

// both are a ledger of n leaves, and a plain one of the same.
func both(t *testing.T, n int) (*ledger.Ledger, *plain) {
	t.Helper()
	p := &plain{}
	grow(t, p, n)
	return grown(t, n), p
}
