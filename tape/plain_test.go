package tape_test

import (
	"fmt"
	"strings"
	"testing"

	"jurat/api"
	"jurat/tape"
)

// disk is what can be asked of a tape, and of a plain one.
type disk[T any] interface {
	Append(file int, b []byte) api.Errno
	Cut(file, n int) api.Errno
	Sync(file int) api.Errno
	Read(file int) ([]byte, api.Errno)
	Open(file int) int
	Fuse(n int)
	Down() bool
	Crash(kept []int) T
}

// plain is a tape by the words of this chapter. Of each file it has all that the file was since it was
// synced: what is sure, and what there was behind each open step.
type plain struct {
	was   [4][]string
	fused bool
	left  int // steps and syncs that are made yet, if it is fused
	down  bool
}

func newPlain() *plain {
	p := &plain{}
	for i := range p.was {
		p.was[i] = []string{""}
	}
	return p
}

func (p *plain) now(file int) string { return p.was[file][len(p.was[file])-1] }

// goes tells whether the power goes at a step or sync.
func (p *plain) goes() bool {
	if p.fused && p.left == 0 {
		p.down = true
	}
	p.left--
	return p.down
}

func (p *plain) Append(file int, b []byte) api.Errno {
	switch {
	case file < 0 || file > 3:
		return api.ErrArg
	case p.down:
		return api.ErrDown
	case len(p.now(file))+len(b) > 1048576:
		return api.ErrFull
	}
	for i := range b {
		if p.goes() {
			return api.ErrDown
		}
		p.was[file] = append(p.was[file], p.now(file)+string(b[i:i+1]))
	}
	return api.OK
}

func (p *plain) Cut(file, n int) api.Errno {
	switch {
	case file < 0 || file > 3 || n < 0 || n > len(p.now(file)):
		return api.ErrArg
	case p.down || p.goes():
		return api.ErrDown
	}
	p.was[file] = append(p.was[file], p.now(file)[:n])
	return api.OK
}

func (p *plain) Sync(file int) api.Errno {
	switch {
	case file < 0 || file > 3:
		return api.ErrArg
	case p.down || p.goes():
		return api.ErrDown
	}
	p.was[file] = []string{p.now(file)}
	return api.OK
}

func (p *plain) Read(file int) ([]byte, api.Errno) {
	switch {
	case file < 0 || file > 3:
		return nil, api.ErrArg
	case p.down:
		return nil, api.ErrDown
	}
	return []byte(p.now(file)), api.OK
}

func (p *plain) Open(file int) int {
	if file < 0 || file > 3 {
		return 0
	}
	return len(p.was[file]) - 1
}

func (p *plain) Fuse(n int) { p.fused, p.left = n >= 0, n }

func (p *plain) Down() bool { return p.down }

func (p *plain) Crash(kept []int) *plain {
	c := newPlain()
	for i := range p.was {
		k := 0
		if i < len(kept) && kept[i] > 0 {
			k = kept[i]
		}
		if k > p.Open(i) {
			k = p.Open(i)
		}
		c.was[i][0] = p.was[i][k]
	}
	return c
}

// files are what the four files of a disk have.
func files[T disk[T]](d T) string {
	var l []string
	for i := range 4 {
		b, e := d.Read(i)
		l = append(l, fmt.Sprintf("%q %d open %d", b, e, d.Open(i)))
	}
	return fmt.Sprintf("%s; down %t", strings.Join(l, ", "), d.Down())
}

// told is all that a disk tells: its files, and all that crashes leave of them.
func told[T disk[T]](d T) string {
	l := []string{files(d)}
	most := 0
	for i := range 4 {
		most = max(most, d.Open(i))
	}
	for k := range most + 2 {
		l = append(l, fmt.Sprintf("%d kept: %s", k, files(d.Crash([]int{k, k, k, k}))))
	}
	return strings.Join(l, "\n")
}

// hold holds all that a tape tells against what a plain one does.
func hold(t *testing.T, d *tape.Tape, p *plain, what string) {
	t.Helper()
	if got, want := told(d), told(p); got != want {
		t.Fatalf("%s:\n%s\nwant\n%s", what, got, want)
	}
}

// act is a call, of those that do something.
type act struct {
	kind byte // 'a': Append, 'c': Cut, 's': Sync, 'f': Fuse
	file int
	n    int // of Cut and Fuse
	text string
}

func (a act) String() string { return fmt.Sprintf("%c %d %d %q", a.kind, a.file, a.n, a.text) }

// do does what an act says.
func do[T disk[T]](d T, a act) api.Errno {
	switch a.kind {
	case 'a':
		return d.Append(a.file, []byte(a.text))
	case 'c':
		return d.Cut(a.file, a.n)
	case 's':
		return d.Sync(a.file)
	}
	d.Fuse(a.n)
	return api.OK
}

// both does the same to a tape and a plain one, and holds against each other what they answer and what they tell then.
func both(t *testing.T, d *tape.Tape, p *plain, acts []act) {
	t.Helper()
	for i, a := range acts {
		got, want := do(d, a), do(p, a)
		if got != want {
			t.Fatalf("%v, behind %v: %d, want %d", a, acts[:i], got, want)
		}
		hold(t, d, p, fmt.Sprintf("behind %v", acts[:i+1]))
	}
}
