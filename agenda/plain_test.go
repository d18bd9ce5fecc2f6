package agenda_test

import (
	"cmp"
	"fmt"
	"slices"
	"testing"

	"jurat/agenda"
	"jurat/api"
)

// book is what can be asked of an agenda, and of a plain one.
type book interface {
	Put(e api.Entry) api.Errno
	Drop(id int) bool
	At(id int) (int, bool)
	Next() (api.Entry, bool)
	Due(now int) []api.Entry
	Len() int
}

// plain is an agenda by the words of the chapter: a list of entries as they were put.
type plain struct{ entries []api.Entry }

func (p *plain) find(id int) int {
	return slices.IndexFunc(p.entries, func(e api.Entry) bool { return e.ID == id })
}

func (p *plain) Put(e api.Entry) api.Errno {
	if i := p.find(e.ID); i >= 0 {
		p.entries[i].At = e.At
		return api.OK
	}
	if len(p.entries) == 4096 {
		return api.ErrFull
	}
	p.entries = append(p.entries, e)
	return api.OK
}

func (p *plain) Drop(id int) bool {
	i := p.find(id)
	if i >= 0 {
		p.entries = slices.Delete(p.entries, i, i+1)
	}
	return i >= 0
}

func (p *plain) At(id int) (int, bool) {
	if i := p.find(id); i >= 0 {
		return p.entries[i].At, true
	}
	return 0, false
}

func (p *plain) Next() (api.Entry, bool) {
	if len(p.entries) == 0 {
		return api.Entry{}, false
	}
	return inOrder(p.entries)[0], true
}

func (p *plain) Due(now int) []api.Entry {
	var due, rest []api.Entry
	for _, e := range p.entries {
		if e.At <= now {
			due = append(due, e)
		} else {
			rest = append(rest, e)
		}
	}
	p.entries = rest
	return inOrder(due)
}

func (p *plain) Len() int { return len(p.entries) }

// inOrder is the same entries by their times, those of one time by their IDs.
func inOrder(entries []api.Entry) []api.Entry {
	return slices.SortedFunc(slices.Values(entries), func(a, b api.Entry) int {
		if a.At != b.At {
			return cmp.Compare(a.At, b.At)
		}
		return cmp.Compare(a.ID, b.ID)
	})
}

// act is a call that may change something.
type act struct {
	kind byte // 'p': Put, 'd': Drop, 'u': Due
	at   int  // of Put and Due
	id   int  // of Put and Drop
}

func (a act) String() string { return fmt.Sprintf("%c at %d id %d", a.kind, a.at, a.id) }

// do does what an act says, and tells what was answered.
func do(b book, a act) string {
	switch a.kind {
	case 'p':
		return fmt.Sprint(b.Put(api.Entry{At: a.at, ID: a.id}))
	case 'd':
		return fmt.Sprint(b.Drop(a.id))
	}
	return fmt.Sprint(b.Due(a.at))
}

// told is all that a book tells of itself and of some IDs, without a change.
func told(b book, ids []int) string {
	e, is := b.Next()
	s := fmt.Sprintf("%d, next %v %t", b.Len(), e, is)
	for _, id := range ids {
		at, is := b.At(id)
		s += fmt.Sprintf(", %d: %d %t", id, at, is)
	}
	return s
}

// pair is an agenda, and a plain one to which the same is done.
type pair struct {
	real  *agenda.Agenda
	plain *plain
	ids   []int // that were named so far
	acts  []act
}

func newPair() *pair { return &pair{real: agenda.New(), plain: &plain{}} }

// do does the same to both, and holds what they answer and what they tell then against each other.
func (p *pair) do(t *testing.T, acts ...act) {
	t.Helper()
	for _, a := range acts {
		if a.kind != 'u' && !slices.Contains(p.ids, a.id) {
			p.ids = append(p.ids, a.id)
		}
		got, want := do(p.real, a), do(p.plain, a)
		p.acts = append(p.acts, a)
		if got != want {
			t.Fatalf("%v: %s, want %s", p.acts, got, want)
		}
		if got, want := told(p.real, p.ids), told(p.plain, p.ids); got != want {
			t.Fatalf("behind %v:\n%s\nwant\n%s", p.acts, got, want)
		}
	}
}

// drain takes the entries away one by one, each by a Due of its own time, and holds them against the plain ones.
func (p *pair) drain(t *testing.T) {
	t.Helper()
	for p.plain.Len() > 0 {
		e, _ := p.plain.Next()
		p.do(t, act{kind: 'u', at: e.At})
	}
}
