package agenda_test

import (
	"math"
	"math/rand"
	"slices"
	"testing"

	"jurat/agenda"
	"jurat/api"
)

const most = 4096

// extremes are numbers that are negative, 0, or very great.
func extremes() []int {
	return []int{math.MinInt, math.MinInt + 1, -1 << 62, math.MinInt32, -4096, -2, -1, 0, 1, 2, 4096,
		math.MaxInt32, 1 << 31, 1 << 32, 1<<32 + 1, 1 << 62, math.MaxInt - 1, math.MaxInt}
}

// made is an agenda into which entries were put.
func made(t *testing.T, entries ...api.Entry) *agenda.Agenda {
	t.Helper()
	a := agenda.New()
	for _, e := range entries {
		put(t, a, e)
	}
	return a
}

func put(t *testing.T, a *agenda.Agenda, e api.Entry) {
	t.Helper()
	if got := a.Put(e); got != api.OK {
		t.Fatalf("Put of %v: %d", e, got)
	}
}

// due holds what is due against what should be.
func due(t *testing.T, a *agenda.Agenda, now int, want ...api.Entry) {
	t.Helper()
	if got := a.Due(now); !slices.Equal(got, want) {
		t.Errorf("Due of %d: %v, want %v", now, got, want)
	}
}

// full is an agenda of as many entries as there may be, the ID i at the time 7i mod 4096, less 2000.
func full(t *testing.T) *agenda.Agenda {
	t.Helper()
	a := agenda.New()
	for i := range most {
		put(t, a, fullEntry(i))
	}
	return a
}

func fullEntry(id int) api.Entry { return api.Entry{At: id*7%most - 2000, ID: id} }

// fullInOrder are the entries of a full agenda: at each time there is one.
func fullInOrder() []api.Entry {
	l := make([]api.Entry, most)
	for i := range most {
		l[fullEntry(i).At+2000] = fullEntry(i)
	}
	return l
}

// small are all agendas of at most so many entries, of times from 0 to 3 each.
func small(longest int, f func(times []int)) {
	for n := range longest + 1 {
		all := 1
		for range n {
			all *= 4
		}
		for c := range all {
			times := make([]int, n)
			for i := range times {
				times[i] = c % 4
				c /= 4
			}
			f(times)
		}
	}
}

// putAll are the acts that put times: the IDs are 0, 10, 20, .. but from the last one on, so that neither order is the other's.
func putAll(times []int) []act {
	var acts []act
	for i := len(times) - 1; i >= 0; i-- {
		acts = append(acts, act{kind: 'p', at: times[i], id: 10 * i})
	}
	return acts
}

// P13.1: the chapter's example.
func TestExample(t *testing.T) {
	a := made(t, api.Entry{At: 5, ID: 1}, api.Entry{At: 3, ID: 2}, api.Entry{At: 4, ID: 1})
	due(t, a, 4, api.Entry{At: 3, ID: 2}, api.Entry{At: 4, ID: 1})
	if a.Len() != 0 {
		t.Errorf("%d are left", a.Len())
	}
}

// P13.1, P0.4: a new agenda has no entries, whatever is asked; it is none that another call answered.
func TestNew(t *testing.T) {
	a := agenda.New()
	if a == nil || a.Len() != 0 {
		t.Fatal("New is nil, or has entries")
	}
	if e, is := a.Next(); is || e != (api.Entry{}) {
		t.Errorf("Next of none: %v %t", e, is)
	}
	for _, n := range extremes() {
		at, is := a.At(n)
		if at != 0 || is || a.Drop(n) {
			t.Errorf("ID %d is there: %d %t", n, at, is)
		}
		due(t, a, n)
	}
	put(t, a, api.Entry{At: 1, ID: 2})
	b := agenda.New()
	if b.Len() != 0 || a.Len() != 1 {
		t.Errorf("another new one has %d entries, the first %d", b.Len(), a.Len())
	}
	put(t, b, api.Entry{At: 9, ID: 2})
	due(t, a, 9, api.Entry{At: 1, ID: 2})
	due(t, b, 9, api.Entry{At: 9, ID: 2})
}

// P13.1: what an agenda of one entry tells, at the numbers 0 too.
func TestOneEntry(t *testing.T) {
	for _, at := range extremes() {
		for _, id := range extremes() {
			want := api.Entry{At: at, ID: id}
			a := made(t, want)
			if e, is := a.Next(); !is || e != want || a.Len() != 1 {
				t.Errorf("Next of %v: %v %t, %d entries", want, e, is, a.Len())
			}
			for _, n := range extremes() {
				if got, is := a.At(n); is != (n == id) || n == id && got != at || n != id && got != 0 {
					t.Errorf("At of %d in %v: %d %t", n, want, got, is)
				}
				if n != id && a.Drop(n) {
					t.Errorf("%d was dropped of %v", n, want)
				}
			}
			if at > math.MinInt {
				due(t, a, at-1)
			}
			due(t, a, at, want)
			due(t, a, math.MaxInt)
			if e, is := a.Next(); is || e != (api.Entry{}) || a.Len() != 0 {
				t.Errorf("behind a Due: %v %t, %d entries", e, is, a.Len())
			}
		}
	}
}

// P13.1: Put of an ID that is there: its time is an earlier one, a later one, the same, wherever it stands; no other one's changes.
func TestPutAgain(t *testing.T) {
	small(5, func(times []int) {
		for i := range times {
			for at := -1; at <= 4; at++ {
				p := newPair()
				p.do(t, putAll(times)...)
				p.do(t, act{kind: 'p', at: at, id: 10 * i}, act{kind: 'p', at: at, id: 10 * i})
				if p.real.Len() != len(times) {
					t.Fatalf("%d entries, want %d", p.real.Len(), len(times))
				}
				p.drain(t)
			}
		}
	})
}

// P13.1: Put of an ID that is there, to each time, in an agenda of many entries.
func TestPutAgainInMany(t *testing.T) {
	for id := range 40 {
		for at := -1; at <= 40; at++ {
			p := newPair()
			for i := range 40 {
				a := act{kind: 'p', at: i * 13 % 40, id: i}
				do(p.real, a)
				do(p.plain, a)
			}
			p.do(t, act{kind: 'p', at: at, id: id}, act{kind: 'u', at: math.MaxInt})
		}
	}
}

// P13.1, P0.2: with MaxAgenda entries there is no more room for an ID that isn't there, and nothing changes; one that is there is put off.
func TestFull(t *testing.T) {
	a := full(t)
	if a.Len() != most {
		t.Fatalf("%d entries", a.Len())
	}
	for range 3 {
		for _, id := range []int{-1, most, most + 1, math.MinInt, math.MaxInt} {
			if e := a.Put(api.Entry{At: -3000, ID: id}); e != api.ErrFull {
				t.Errorf("one more entry: %d", e)
			}
			if at, is := a.At(id); at != 0 || is || a.Drop(id) {
				t.Errorf("what was refused is there: %d %t", at, is)
			}
		}
	}
	if e, is := a.Next(); !is || e != fullInOrder()[0] || a.Len() != most {
		t.Errorf("behind what was refused: %v %t, %d entries", e, is, a.Len())
	}
	put(t, a, api.Entry{At: -2001, ID: most - 1})
	put(t, a, api.Entry{At: 5000, ID: 0})
	if e, is := a.Next(); !is || e != (api.Entry{At: -2001, ID: most - 1}) || a.Len() != most {
		t.Errorf("put off: %v %t, %d entries", e, is, a.Len())
	}
	put(t, a, fullEntry(0))
	put(t, a, fullEntry(most-1))
	due(t, a, math.MaxInt, fullInOrder()...)
}

// P13.1: each Drop and each entry that comes due makes room for just one more.
func TestRoom(t *testing.T) {
	a := full(t)
	refused := func() {
		t.Helper()
		if e := a.Put(api.Entry{At: 1, ID: -100}); e != api.ErrFull || a.Len() != most {
			t.Errorf("one more: %d, %d entries", e, a.Len())
		}
	}
	refused()
	if !a.Drop(17) || a.Drop(-1) {
		t.Error("Drop")
	}
	put(t, a, api.Entry{At: -9000, ID: -1})
	refused()
	due(t, a, -9000, api.Entry{At: -9000, ID: -1})
	put(t, a, fullEntry(17))
	refused()
	due(t, a, -1999, fullInOrder()[:2]...)
	put(t, a, api.Entry{At: -5, ID: -2})
	put(t, a, api.Entry{At: -5, ID: -3})
	refused()
	if got := a.Due(math.MaxInt); len(got) != most || a.Len() != 0 {
		t.Errorf("%d were due, %d are left", len(got), a.Len())
	}
	for i := range most {
		put(t, a, fullEntry(i))
	}
	refused()
}

// P13.1: Drop of the first, the last, those in the middle: it is gone, and all others are there, in order.
func TestDrop(t *testing.T) {
	small(5, func(times []int) {
		for i := range times {
			p := newPair()
			p.do(t, putAll(times)...)
			gone := act{kind: 'd', id: 10 * i}
			p.do(t, gone, gone, act{kind: 'd', id: 10*i + 1}, act{kind: 'd', id: -1})
			if p.real.Len() != len(times)-1 {
				t.Fatalf("%d entries, want %d", p.real.Len(), len(times)-1)
			}
			p.drain(t)
			p.do(t, gone)
		}
	})
}

// P13.1: Drop of each one of many entries, and of all of them, one behind the other.
func TestDropOfMany(t *testing.T) {
	for id := range 60 {
		a := agenda.New()
		var want []api.Entry
		for i := range 60 {
			e := api.Entry{At: i * 23 % 60, ID: i}
			put(t, a, e)
			if i != id {
				want = append(want, e)
			}
		}
		if !a.Drop(id) || a.Drop(id) {
			t.Errorf("Drop of %d", id)
		}
		due(t, a, 100, inOrder(want)...)
	}
	for _, step := range []int{1, 7, 4095} {
		a := full(t)
		for i := range most {
			id := i * step % most
			if !a.Drop(id) || a.Drop(id) || a.Len() != most-1-i {
				t.Fatalf("Drop of %d: %d entries", id, a.Len())
			}
		}
		if e, is := a.Next(); is {
			t.Errorf("%v is left", e)
		}
	}
}

// P13.1, P13.2: what was dropped, or came due, may be put again: earlier, later, at the same time; it comes due once more.
func TestPutBehindDropAndDue(t *testing.T) {
	small(4, func(times []int) {
		for i := range times {
			for at := -1; at <= 4; at++ {
				again := act{kind: 'p', at: at, id: 10 * i}
				p := newPair()
				p.do(t, putAll(times)...)
				p.do(t, act{kind: 'd', id: 10 * i}, again)
				p.drain(t)
				p.do(t, again)
				p.drain(t)
				p = newPair()
				p.do(t, putAll(times)...)
				p.do(t, act{kind: 'u', at: times[i]}, again)
				p.drain(t)
			}
		}
	})
}

// P13.1: entries of one time are in the order of their IDs, negative ones first, whatever the order in which they were put.
func TestOneTime(t *testing.T) {
	ids := extremes() // in order
	var want []api.Entry
	for _, id := range ids {
		want = append(want, api.Entry{At: -7, ID: id})
	}
	chance := rand.New(rand.NewSource(13))
	for range 200 {
		a := agenda.New()
		for _, i := range chance.Perm(len(ids)) {
			put(t, a, want[i])
		}
		if e, is := a.Next(); !is || e != want[0] {
			t.Errorf("Next: %v %t", e, is)
		}
		due(t, a, -8)
		due(t, a, -7, want...)
	}
}

// P13.1: the time comes ahead of the ID; negative times ahead of others; the greatest and the least numbers too.
func TestOrder(t *testing.T) {
	var want []api.Entry
	for i, at := range extremes() { // in order
		for id := range 3 {
			want = append(want, api.Entry{At: at, ID: id - 3*i}) // those that come later have the lesser IDs
		}
	}
	chance := rand.New(rand.NewSource(14))
	for range 100 {
		a := agenda.New()
		for _, i := range chance.Perm(len(want)) {
			put(t, a, want[i])
		}
		for i := 0; i < len(want); i += 3 {
			if got, is := a.Next(); !is || got != want[i] || !a.Drop(got.ID) {
				t.Fatalf("Next: %v %t, want %v", got, is, want[i])
			}
			due(t, a, want[i].At, want[i+1:i+3]...)
		}
	}
}

// P13.1: what is asked changes nothing: Next, At, Len, again and again; of one that is gone At tells nothing.
func TestAsked(t *testing.T) {
	a := made(t, api.Entry{At: 4, ID: 7}, api.Entry{At: 2, ID: 8}, api.Entry{At: 3, ID: 9})
	for range 5 {
		e, is := a.Next()
		at, there := a.At(7)
		none, gone := a.At(6)
		if !is || e != (api.Entry{At: 2, ID: 8}) || !there || at != 4 || none != 0 || gone || a.Len() != 3 {
			t.Errorf("Next %v %t, At %d %t, %d %t, Len %d", e, is, at, there, none, gone, a.Len())
		}
	}
	due(t, a, 2, api.Entry{At: 2, ID: 8})
	a.Drop(9)
	for _, id := range []int{8, 9} {
		if at, is := a.At(id); at != 0 || is {
			t.Errorf("At of %d, which is gone: %d %t", id, at, is)
		}
	}
	due(t, a, 4, api.Entry{At: 4, ID: 7})
}

// P13.1: Due of a time ahead of all, of just an entry's, of one between, behind all, twice, and of an earlier one then.
func TestDue(t *testing.T) {
	entries := []api.Entry{{At: -10, ID: 3}, {At: -10, ID: 5}, {At: 0, ID: 4}, {At: 6, ID: -1}, {At: 6, ID: 2}, {At: 7, ID: 0}}
	for now := -12; now <= 9; now++ {
		a := agenda.New()
		for _, i := range []int{3, 0, 5, 2, 4, 1} {
			put(t, a, entries[i])
		}
		n := 0
		for n < len(entries) && entries[n].At <= now {
			n++
		}
		due(t, a, now, entries[:n]...)
		due(t, a, now)
		due(t, a, now-1)
		due(t, a, math.MinInt)
		if a.Len() != len(entries)-n {
			t.Errorf("behind a Due of %d there are %d", now, a.Len())
		}
		due(t, a, math.MaxInt, entries[n:]...)
		due(t, a, math.MaxInt)
	}
}

// P13.2: a clock goes on tick by tick, while entries are put, put off and dropped: each comes due once, at its time or, put too late, at the next tick.
func TestEachComesDueOnce(t *testing.T) {
	chance := rand.New(rand.NewSource(15))
	a := agenda.New()
	wanted := map[int]int{} // of IDs, the times
	came := 0
	for now := range 3000 {
		for range 4 {
			id := chance.Intn(300)
			switch chance.Intn(5) {
			case 0:
				_, is := wanted[id]
				if a.Drop(id) != is {
					t.Fatalf("Drop of %d isn't %t", id, is)
				}
				delete(wanted, id)
			default:
				e := api.Entry{At: now + chance.Intn(120) - 5, ID: id}
				put(t, a, e)
				wanted[id] = e.At
			}
		}
		for _, e := range a.Due(now) {
			at, is := wanted[e.ID]
			if !is || at != e.At || at > now {
				t.Fatalf("at %d came %v, wanted %d %t", now, e, at, is)
			}
			delete(wanted, e.ID)
			came++
		}
		for id, at := range wanted {
			if at <= now {
				t.Fatalf("at %d the entry %d didn't come, whose time is %d", now, id, at)
			}
		}
		if a.Len() != len(wanted) {
			t.Fatalf("at %d there are %d, want %d", now, a.Len(), len(wanted))
		}
	}
	if came < 1000 {
		t.Errorf("only %d came", came)
	}
}

// P13.3: Due of an earlier time and then of a later one tell together what Due of the later one tells.
func TestEarlierAndLater(t *testing.T) {
	small(5, func(times []int) {
		for earlier := -1; earlier <= 4; earlier++ {
			for later := earlier; later <= 4; later++ {
				a, b := agenda.New(), agenda.New()
				for _, p := range putAll(times) {
					do(a, p)
					do(b, p)
				}
				both := slices.Concat(a.Due(earlier), a.Due(later))
				if one := b.Due(later); !slices.Equal(both, one) || a.Len() != b.Len() {
					t.Fatalf("%v, Due of %d and %d: %v, of the later one alone %v", times, earlier, later, both, one)
				}
			}
		}
	})
	a := full(t)
	var all []api.Entry
	for now := -2100; now < 3000; now += 13 {
		all = append(all, a.Due(now)...)
	}
	if !slices.Equal(all, fullInOrder()) {
		t.Error("Due of many times tells not all entries in order")
	}
}

// P0.3: who writes into what was answered, and behind its end, changes nothing that is kept, and nothing that another call answered.
func TestAnswersAreNewMemory(t *testing.T) {
	a := made(t, api.Entry{At: 1, ID: 1}, api.Entry{At: 2, ID: 2}, api.Entry{At: 3, ID: 3}, api.Entry{At: 4, ID: 4}, api.Entry{At: 5, ID: 5}, api.Entry{At: 6, ID: 6})
	spoil := func(l []api.Entry) {
		l = l[:cap(l)]
		for i := range l {
			l[i] = api.Entry{At: -99, ID: 6}
		}
	}
	first := a.Due(2)
	second := a.Due(4)
	spoil(first)
	if !slices.Equal(second, []api.Entry{{At: 3, ID: 3}, {At: 4, ID: 4}}) {
		t.Errorf("the second answer is %v now", second)
	}
	spoil(second)
	put(t, a, api.Entry{At: 2, ID: 7})
	next, _ := a.Next()
	next.At = 100
	due(t, a, 2, api.Entry{At: 2, ID: 7})
	spoil(a.Due(0))
	due(t, a, 6, api.Entry{At: 5, ID: 5}, api.Entry{At: 6, ID: 6})
	all := full(t)
	spoil(all.Due(-1))
	due(t, all, math.MaxInt, fullInOrder()[2000:]...)
}

// P0.3: what was answered stays, whatever is done then.
func TestAnswersStay(t *testing.T) {
	a := full(t)
	early := a.Due(-1)
	for i := range most {
		put(t, a, api.Entry{At: 5, ID: i})
	}
	a.Due(5)
	if !slices.Equal(early, fullInOrder()[:2000]) {
		t.Error("later calls changed an earlier answer")
	}
}

// P0.5: what is answered hangs on the entries, not on the order in which they came, nor on those that were there and went.
func TestTheSameAgain(t *testing.T) {
	want := fullInOrder()
	chance := rand.New(rand.NewSource(16))
	for range 5 {
		a := agenda.New()
		for _, i := range chance.Perm(2 * most) {
			if e := a.Put(api.Entry{At: chance.Intn(100), ID: i - 2*most}); e != api.OK && a.Len() != most {
				t.Fatalf("Put: %d", e)
			}
		}
		for a.Len() > 0 {
			e, _ := a.Next()
			a.Drop(e.ID)
		}
		for _, i := range chance.Perm(most) {
			put(t, a, want[i])
		}
		due(t, a, 50, want[:2051]...)
		due(t, a, 5000, want[2051:]...)
	}
}

// P13.1, P0.1: a nil agenda: ErrNil, zeros, false.
func TestNil(t *testing.T) {
	var a *agenda.Agenda
	for _, n := range extremes() {
		if e := a.Put(api.Entry{At: n, ID: n}); e != api.ErrNil {
			t.Errorf("Put: %d", e)
		}
		at, is := a.At(n)
		next, first := a.Next()
		if at != 0 || is || a.Drop(n) || next != (api.Entry{}) || first || a.Due(n) != nil || a.Len() != 0 {
			t.Errorf("a nil agenda has something: %d %t, %v %t, %d", at, is, next, first, a.Len())
		}
	}
}

// P13.1: a few numbers, so that much befalls few entries, the extremes among them, against the words of the chapter.
func TestRandomFew(t *testing.T) {
	chance := rand.New(rand.NewSource(17))
	numbers := append(extremes(), 3, 4, 5, 6, 7)
	for range 300 {
		p := newPair()
		for range 100 {
			a := act{kind: "ppppddu"[chance.Intn(7)], at: numbers[chance.Intn(len(numbers))], id: numbers[chance.Intn(len(numbers))]}
			p.do(t, a)
		}
		p.drain(t)
	}
}

// P13.1: many entries, up to the most there may be and beyond, against the words of the chapter.
func TestRandomMany(t *testing.T) {
	chance := rand.New(rand.NewSource(18))
	p, full := newPair(), 0
	for i := range 12000 {
		a := act{kind: "pppppppppd"[chance.Intn(10)], at: chance.Intn(20000) - 10000, id: chance.Intn(6000) - 3000}
		if i%4000 == 3999 {
			a = act{kind: 'u', at: -8000}
		}
		got, want := do(p.real, a), do(p.plain, a)
		if got != want || p.real.Len() != p.plain.Len() {
			t.Fatalf("%d, %v: %s, want %s", i, a, got, want)
		}
		if a.kind == 'p' && want == "90" {
			full++
		}
	}
	if full == 0 {
		t.Error("it never was full")
	}
	p.do(t, act{kind: 'u', at: 0}, act{kind: 'u', at: 20000})
}
