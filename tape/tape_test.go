package tape_test

import (
	"bytes"
	"fmt"
	"math"
	"math/rand"
	"slices"
	"strings"
	"testing"

	"jurat/api"
	"jurat/tape"
)

// extremes are numbers that are negative, or very great.
func extremes() []int {
	return []int{-1, -2, -3, -4, -1048576, math.MinInt32, -1 << 32, math.MinInt, math.MinInt + 1, 1048577, math.MaxInt32,
		1 << 31, 1 << 32, 1<<32 + 1, 1 << 62, math.MaxInt - 1, math.MaxInt}
}

// noFiles are numbers of no file.
func noFiles() []int { return append(extremes(), 4, 5, 8, 256, 1<<16, 1048576) }

func ok(t *testing.T, e api.Errno) {
	t.Helper()
	if e != api.OK {
		t.Fatalf("error %d", e)
	}
}

func mustRead(t *testing.T, d *tape.Tape, file int) string {
	t.Helper()
	b, e := d.Read(file)
	if e != api.OK {
		t.Fatalf("Read of %d: %q %d", file, b, e)
	}
	return string(b)
}

// want holds a file and the number of its open steps against what they should be.
func want(t *testing.T, d *tape.Tape, file int, text string, open int) {
	t.Helper()
	if got := mustRead(t, d, file); got != text || d.Open(file) != open {
		t.Errorf("file %d: %q, %d open, want %q, %d", file, got, d.Open(file), text, open)
	}
}

// made is a tape to which acts were done, all of which were answered OK.
func made(t *testing.T, acts ...act) *tape.Tape {
	t.Helper()
	d := tape.New()
	for _, a := range acts {
		if e := do(d, a); e != api.OK {
			t.Fatalf("%v: %d", a, e)
		}
	}
	return d
}

// worked are acts to all files: bytes, cuts and syncs, some steps left open in each file but the last one.
func worked() []act {
	return []act{
		{kind: 'a', file: 0, text: "abc"}, {kind: 's', file: 0}, {kind: 'a', file: 1, text: "0123"},
		{kind: 'c', file: 0, n: 2}, {kind: 'a', file: 0, text: "xy"}, {kind: 's', file: 2}, {kind: 'c', file: 1, n: 4},
		{kind: 'a', file: 3, text: "\x00\xff"}, {kind: 'c', file: 0, n: 0}, {kind: 'a', file: 2, text: "z"},
		{kind: 'c', file: 3, n: 1}, {kind: 's', file: 3}, {kind: 'a', file: 0, text: "q"}, {kind: 's', file: 3},
	}
}

// steps is how many steps and syncs acts are.
func steps(acts []act) int {
	n := 0
	for _, a := range acts {
		switch a.kind {
		case 'a':
			n += len(a.text)
		case 'c', 's':
			n++
		}
	}
	return n
}

// P10.1: the chapter's example, with each number of steps kept.
func TestExample(t *testing.T) {
	d := made(t, act{kind: 'a', text: "ab"}, act{kind: 's'}, act{kind: 'a', text: "cd"})
	for _, c := range []struct {
		kept []int
		want string
	}{{[]int{1}, "abc"}, {[]int{0}, "ab"}, {[]int{2}, "abcd"}, {[]int{3}, "abcd"}, {[]int{-1}, "ab"}, {nil, "ab"}} {
		want(t, d.Crash(c.kept), 0, c.want, 0)
	}
	want(t, d, 0, "abcd", 2)
}

// P10.1, P0.4: a new tape has four files without bytes and steps; its power is there.
func TestNew(t *testing.T) {
	d := tape.New()
	if d == nil || d.Down() {
		t.Fatal("New is no tape, or one that is down")
	}
	for i := range 4 {
		want(t, d, i, "", 0)
	}
	hold(t, d, newPlain(), "a new tape")
	other := tape.New()
	ok(t, d.Append(0, []byte("a")))
	hold(t, other, newPlain(), "another new tape")
}

// P10.1: what is appended stands behind what was there, in the file that was named; each byte is a step.
func TestAppend(t *testing.T) {
	for file := range 4 {
		d, p := tape.New(), newPlain()
		for _, text := range []string{"", "a", "bc", "", "\x00\xff\x80", "a", strings.Repeat("long ", 50)} {
			both(t, d, p, []act{{kind: 'a', file: file, text: text}})
		}
		want(t, d, file, "abc\x00\xff\x80a"+strings.Repeat("long ", 50), 257)
		for other := range 4 {
			if other != file {
				want(t, d, other, "", 0)
			}
		}
	}
}

// P10.1, P0.4: no bytes are no step: nil or an empty list, at any fuse.
func TestAppendOfNothing(t *testing.T) {
	for _, fuse := range []int{-1, 0, 1} {
		for _, nothing := range [][]byte{nil, {}, make([]byte, 0, 9)} {
			d := made(t, act{kind: 'a', file: 1, text: "ab"}, act{kind: 'f', n: fuse})
			for file := range 4 {
				ok(t, d.Append(file, nothing))
			}
			if d.Down() {
				t.Errorf("the power goes at no step, fuse %d", fuse)
			}
			want(t, d, 1, "ab", 2)
			want(t, d, 0, "", 0)
		}
	}
}

// P10.1, P0.2: a file has room for MaxTape bytes; one more is refused, and changes nothing. Each file has its own room.
func TestFull(t *testing.T) {
	const most = 1048576
	long := bytes.Repeat([]byte("0123456789abcdef"), most/16)
	d := tape.New()
	for file := range 4 {
		if e := d.Append(file, make([]byte, most+1)); e != api.ErrFull || d.Open(file) != 0 || mustRead(t, d, file) != "" {
			t.Errorf("file %d, one byte more than there may be: %d, %d open", file, e, d.Open(file))
		}
		ok(t, d.Append(file, long[:most-2]))
		for _, n := range []int{3, 4, 100, most - 1, most} {
			if e := d.Append(file, long[:n]); e != api.ErrFull || d.Open(file) != most-2 {
				t.Errorf("file %d, with room for two, %d bytes: %d, %d open", file, n, e, d.Open(file))
			}
		}
		ok(t, d.Append(file, long[most-2:]))
		ok(t, d.Append(file, nil))
		if got := mustRead(t, d, file); got != string(long) || d.Open(file) != most {
			t.Errorf("file %d: %d bytes, or not those; %d open", file, len(got), d.Open(file))
		}
	}
	for _, sure := range []bool{false, true} {
		if sure {
			ok(t, d.Sync(2))
		}
		for _, n := range []int{1, 2, most} {
			if e := d.Append(2, long[:n]); e != api.ErrFull {
				t.Errorf("%d bytes in a full file (sure: %t): %d", n, sure, e)
			}
		}
	}
	if got := mustRead(t, d, 2); got != string(long) || d.Open(2) != 0 {
		t.Errorf("a full file that is sure: %d bytes, %d open", len(got), d.Open(2))
	}
}

// P10.1: it's the bytes that a file has which are bounded, not its steps: what was cut makes room, also behind crashes.
func TestRoomBehindCuts(t *testing.T) {
	const most = 1048576
	long := bytes.Repeat([]byte("fedcba9876543210"), most/16)
	d := tape.New()
	ok(t, d.Append(0, long))
	ok(t, d.Cut(0, most-1))
	if e := d.Append(0, []byte("xy")); e != api.ErrFull {
		t.Errorf("two bytes with room for one: %d", e)
	}
	ok(t, d.Append(0, []byte("x")))
	ok(t, d.Cut(0, 1))
	ok(t, d.Append(0, long[1:]))
	if got := mustRead(t, d, 0); got != string(long) || d.Open(0) != 2*most+2 {
		t.Errorf("%d bytes, or not those, %d open", len(got), d.Open(0))
	}
	for _, c := range []struct {
		kept int
		want string
	}{{most, string(long)}, {most + 1, string(long[:most-1])}, {most + 2, string(long[:most-1]) + "x"}, {most + 3, "f"}, {most + 5, "fed"}, {2*most + 2, string(long)}} {
		left := d.Crash([]int{c.kept})
		if got := mustRead(t, left, 0); got != c.want {
			t.Errorf("with %d kept there are %d bytes, or not those; want %d", c.kept, len(got), len(c.want))
		}
		room := most - len(c.want)
		if e := left.Append(0, make([]byte, room+1)); e != api.ErrFull {
			t.Errorf("with %d kept, %d bytes more: %d", c.kept, room+1, e)
		}
		ok(t, left.Append(0, make([]byte, room)))
	}
}

// P10.1, P0.2: where the power is there and the file isn't full both ways, ErrFull comes ahead of the steps: no fuse is used.
func TestFullUsesNoFuse(t *testing.T) {
	const most = 1048576
	d := tape.New()
	ok(t, d.Append(3, make([]byte, most-1)))
	d.Fuse(0)
	for range 3 {
		if e := d.Append(3, []byte("ab")); e != api.ErrFull || d.Down() {
			t.Errorf("two bytes with room for one, with no power for a step: %d, down %t", e, d.Down())
		}
	}
	if e := d.Append(3, []byte("a")); e != api.ErrDown || !d.Down() {
		t.Errorf("the last byte: %d, down %t", e, d.Down())
	}
	if e := d.Append(3, []byte("ab")); e != api.ErrDown {
		t.Errorf("two bytes with room for one, without power: %d", e)
	}
}

// P10.1: a cut leaves the first bytes, from none to all; each one is a step, that which takes nothing away too.
func TestCut(t *testing.T) {
	const text = "abcdef"
	for _, sure := range []int{0, 3, 6} {
		for n := -1; n <= 7; n++ {
			d := made(t, act{kind: 'a', file: 2, text: text[:sure]}, act{kind: 's', file: 2}, act{kind: 'a', file: 2, text: text[sure:]})
			e := d.Cut(2, n)
			if n < 0 || n > 6 {
				if e != api.ErrArg {
					t.Errorf("Cut to %d of 6: %d", n, e)
				}
				want(t, d, 2, text, 6-sure)
				continue
			}
			ok(t, e)
			want(t, d, 2, text[:n], 7-sure)
			want(t, d.Crash([]int{0, 0, 6 - sure}), 2, text, 0)
			want(t, d.Crash([]int{0, 0, 7 - sure}), 2, text[:n], 0)
		}
	}
}

// P10.1: cuts behind cuts, and bytes behind them, which stand where others stood.
func TestCutsBehindCuts(t *testing.T) {
	d, p := tape.New(), newPlain()
	both(t, d, p, []act{
		{kind: 'c', n: 0}, {kind: 'c', n: 1}, {kind: 'a', text: "abcdef"}, {kind: 'c', n: 4}, {kind: 'c', n: 5}, {kind: 'c', n: 4},
		{kind: 'a', text: "EF"}, {kind: 'c', n: 5}, {kind: 's'}, {kind: 'c', n: 6}, {kind: 'c', n: 5}, {kind: 'c', n: 1},
		{kind: 'c', n: 2}, {kind: 'a', text: "BCDE"}, {kind: 'c', n: 0}, {kind: 'c', n: 0}, {kind: 'a', text: "new"}, {kind: 's'}, {kind: 'c', n: 3},
	})
	want(t, d, 0, "new", 1)
	want(t, d.Crash([]int{0}), 0, "new", 0)
}

// P10.1: a length that isn't one, also of a file that is empty, of one that was longer, and of one that will be.
func TestWrongCuts(t *testing.T) {
	for _, text := range []string{"", "a", "abc"} {
		d := made(t, act{kind: 'a', text: "much longer"}, act{kind: 's'}, act{kind: 'c', n: 0}, act{kind: 'a', text: text}, act{kind: 'f', n: 1})
		before := told(d)
		for _, n := range append(extremes(), len(text)+1, len(text)+2, 11, 12) {
			for range 2 {
				if e := d.Cut(0, n); e != api.ErrArg || told(d) != before {
					t.Errorf("Cut to %d of %q: %d, then\n%s", n, text, e, told(d))
				}
			}
		}
		ok(t, d.Cut(0, 0)) // the fuse is as it was: for one step
		if e := d.Cut(0, 0); e != api.ErrDown {
			t.Errorf("a second step: %d", e)
		}
	}
}

// P10.1: a sync makes the steps of its file sure, none of another one: with nothing open, twice, behind cuts.
func TestSync(t *testing.T) {
	d, p := tape.New(), newPlain()
	both(t, d, p, []act{{kind: 's', file: 1}, {kind: 's', file: 1}, {kind: 'a', file: 1, text: "abc"}, {kind: 'a', file: 2, text: "de"},
		{kind: 's', file: 1}, {kind: 's', file: 1}, {kind: 'c', file: 1, n: 2}, {kind: 's', file: 1}, {kind: 'a', file: 1, text: "x"},
		{kind: 'c', file: 1, n: 1}, {kind: 'c', file: 1, n: 1}, {kind: 's', file: 1}, {kind: 's', file: 0}, {kind: 's', file: 3}})
	want(t, d, 1, "a", 0)
	want(t, d, 2, "de", 2)
	want(t, d.Crash(nil), 1, "a", 0)
	want(t, d.Crash(nil), 2, "", 0)
	both(t, d, p, []act{{kind: 's', file: 2}, {kind: 'c', file: 2, n: 0}, {kind: 's', file: 2}, {kind: 's', file: 2}})
	want(t, d, 2, "", 0)
	both(t, d, p, []act{{kind: 'a', file: 2, text: "d"}, {kind: 'a', file: 1, text: "bc"}})
}

// P10.1: the list of steps begins anew behind each sync, be it longer or shorter than the one ahead.
func TestStepsBeginAnew(t *testing.T) {
	d, p := tape.New(), newPlain()
	for _, n := range []int{1, 40, 3, 0, 80, 2, 79} {
		both(t, d, p, []act{{kind: 'a', text: strings.Repeat(fmt.Sprint(n%10), n)}, {kind: 'c', n: min(n, 7)}})
		if d.Open(0) != n+1 {
			t.Errorf("%d open, want %d", d.Open(0), n+1)
		}
		both(t, d, p, []act{{kind: 's'}})
		if d.Open(0) != 0 {
			t.Errorf("behind a sync %d are open", d.Open(0))
		}
	}
}

// P10.1, P0.1, P0.2: there are no other files: nothing is done, nothing told, no fuse used; a tape that is down says the same.
func TestNoSuchFile(t *testing.T) {
	for _, down := range []bool{false, true} {
		d := made(t, worked()...)
		d.Fuse(1)
		if down {
			d.Fuse(0)
			d.Sync(0)
		}
		before := told(d)
		for _, file := range noFiles() {
			b, e := d.Read(file)
			if b != nil || e != api.ErrArg || d.Open(file) != 0 {
				t.Errorf("Read of %d: %q %d, Open %d", file, b, e, d.Open(file))
			}
			for _, b := range [][]byte{nil, []byte("a"), make([]byte, 1048577)} {
				if e := d.Append(file, b); e != api.ErrArg {
					t.Errorf("Append of %d bytes to %d: %d", len(b), file, e)
				}
			}
			for _, n := range append(extremes(), 0, 1) {
				if e := d.Cut(file, n); e != api.ErrArg {
					t.Errorf("Cut of %d to %d: %d", file, n, e)
				}
			}
			if e := d.Sync(file); e != api.ErrArg {
				t.Errorf("Sync of %d: %d", file, e)
			}
		}
		if told(d) != before || d.Down() != down {
			t.Errorf("calls of no file changed\n%s\nto\n%s", before, told(d))
		}
		if !down {
			ok(t, d.Sync(0)) // the fuse is as it was: for one
		}
	}
}

// P10.1: a fuse of each number, from none to more than all steps and syncs that are made: up to it all is made as without, then nothing.
func TestFuses(t *testing.T) {
	acts := worked()
	all := steps(acts)
	for n := range all + 3 {
		d, p := tape.New(), newPlain()
		both(t, d, p, []act{{kind: 'f', n: n}})
		both(t, d, p, acts)
		if d.Down() != (n < all) {
			t.Errorf("a fuse of %d at %d steps and syncs: down %t", n, all, d.Down())
		}
		both(t, d, p, acts)
	}
}

// P10.1: the power goes in the midst of an Append, at its first byte, behind its last, at a cut, at a sync, each time at the step itself.
func TestWhereThePowerGoes(t *testing.T) {
	begin := []act{{kind: 'a', text: "ab"}, {kind: 's'}, {kind: 'a', text: "c"}}
	cases := []struct {
		fuse int
		act  act
		e    api.Errno
		left string // all steps kept
		open int
		sure string
	}{
		{0, act{kind: 'a', text: "xyz"}, api.ErrDown, "abc", 1, "ab"},
		{1, act{kind: 'a', text: "xyz"}, api.ErrDown, "abcx", 2, "ab"},
		{2, act{kind: 'a', text: "xyz"}, api.ErrDown, "abcxy", 3, "ab"},
		{3, act{kind: 'a', text: "xyz"}, api.OK, "abcxyz", 4, "ab"},
		{0, act{kind: 'c', n: 1}, api.ErrDown, "abc", 1, "ab"},
		{1, act{kind: 'c', n: 1}, api.OK, "a", 2, "ab"},
		{0, act{kind: 's'}, api.ErrDown, "abc", 1, "ab"},
		{1, act{kind: 's'}, api.OK, "abc", 0, "abc"},
	}
	for _, c := range cases {
		d := made(t, begin...)
		d.Fuse(c.fuse)
		if d.Down() {
			t.Errorf("a fuse of %d: down ahead of any step", c.fuse)
		}
		if e := do(d, c.act); e != c.e || d.Down() != (e == api.ErrDown) || d.Open(0) != c.open {
			t.Errorf("a fuse of %d, %v: %d, down %t, %d open", c.fuse, c.act, e, d.Down(), d.Open(0))
		}
		want(t, d.Crash([]int{9}), 0, c.left, 0)
		want(t, d.Crash(nil), 0, c.sure, 0)
	}
}

// P10.1: steps and syncs of all files burn the one fuse; what isn't one doesn't burn it.
func TestWhatBurnsAFuse(t *testing.T) {
	quiet := func(d *tape.Tape) {
		for range 3 {
			d.Read(0)
			d.Read(9)
			d.Open(1)
			d.Down()
			d.Crash([]int{1, 2, 3, 4}).Sync(0)
			d.Append(0, nil)
			d.Append(7, []byte("a"))
			d.Append(1, make([]byte, 1048577))
			d.Cut(0, 1000)
			d.Cut(0, -1)
			d.Sync(-1)
		}
	}
	d := tape.New()
	d.Fuse(5)
	for _, a := range []act{{kind: 'a', file: 0, text: "a"}, {kind: 's', file: 3}, {kind: 'c', file: 1}, {kind: 's', file: 0}, {kind: 'a', file: 2, text: "z"}} {
		quiet(d)
		ok(t, do(d, a))
	}
	quiet(d)
	if d.Down() {
		t.Error("down ahead of the step behind the fuse")
	}
	if e := d.Sync(1); e != api.ErrDown || !d.Down() {
		t.Errorf("a sync behind the fuse: %d, down %t", e, d.Down())
	}
}

// P10.1: a fuse below 0 never burns down, whatever the number.
func TestNoFuse(t *testing.T) {
	for _, n := range []int{-1, -2, -3, math.MinInt32, math.MinInt, math.MinInt + 1} {
		d, p := tape.New(), newPlain()
		both(t, d, p, []act{{kind: 'f', n: 1}, {kind: 'f', n: n}})
		both(t, d, p, append(worked(), worked()...))
		if d.Down() {
			t.Errorf("a fuse of %d went", n)
		}
	}
	for _, n := range []int{math.MaxInt32, math.MaxInt} {
		d := made(t, act{kind: 'f', n: n}, act{kind: 'a', text: "abc"}, act{kind: 's'})
		if d.Down() {
			t.Errorf("a fuse of %d went", n)
		}
	}
}

// P10.1: a fuse that is set anew counts from there, longer, shorter or none.
func TestFuseAnew(t *testing.T) {
	for _, first := range []int{-1, 0, 1, 2, 9} {
		for _, made := range []int{0, 1, 2} {
			for _, second := range []int{-1, 0, 1, 2, 9} {
				d, p := tape.New(), newPlain()
				both(t, d, p, []act{{kind: 'f', n: first}, {kind: 'a', text: "abc"[:made]}, {kind: 'f', n: second}})
				both(t, d, p, []act{{kind: 'a', text: "xy"}, {kind: 's'}, {kind: 'c', n: 1}})
			}
		}
	}
}

// down is a tape whose power went at the third byte of an Append to file 1.
func down(t *testing.T) *tape.Tape {
	t.Helper()
	d := made(t, act{kind: 'a', file: 0, text: "sure"}, act{kind: 's', file: 0}, act{kind: 'a', file: 0, text: "or not"}, act{kind: 'f', n: 2})
	if e := d.Append(1, []byte("abc")); e != api.ErrDown {
		t.Fatalf("the third byte: %d", e)
	}
	return d
}

// P10.1, P0.2: a tape that is down does and tells nothing, but its steps, and what a crash leaves; wrong arguments are told first.
func TestDown(t *testing.T) {
	d := down(t)
	before := told(d)
	for file := range 4 {
		b, e := d.Read(file)
		if b != nil || e != api.ErrDown {
			t.Errorf("Read of %d: %q %d", file, b, e)
		}
		for _, b := range [][]byte{nil, {}, []byte("a"), []byte("abc"), make([]byte, 1048576), make([]byte, 1048577)} {
			if e := d.Append(file, b); e != api.ErrDown {
				t.Errorf("Append of %d bytes to %d: %d", len(b), file, e)
			}
		}
		length := []int{10, 2, 0, 0}[file]
		for n := -1; n <= length+1; n++ {
			should := api.ErrDown
			if n < 0 || n > length {
				should = api.ErrArg
			}
			if e := d.Cut(file, n); e != should {
				t.Errorf("Cut of %d to %d: %d, want %d", file, n, e, should)
			}
		}
		if e := d.Sync(file); e != api.ErrDown {
			t.Errorf("Sync of %d: %d", file, e)
		}
		if open := []int{6, 2, 0, 0}[file]; d.Open(file) != open {
			t.Errorf("Open of %d: %d, want %d", file, d.Open(file), open)
		}
	}
	if told(d) != before || !d.Down() {
		t.Errorf("calls of a tape that is down changed\n%s\nto\n%s", before, told(d))
	}
}

// P10.1: a tape that is down stays so, whatever fuse it is given.
func TestFuseOfADownTape(t *testing.T) {
	for _, n := range append(extremes(), 0, 1, 2, 100) {
		d := down(t)
		before := told(d)
		d.Fuse(n)
		if _, e := d.Read(0); e != api.ErrDown || !d.Down() {
			t.Errorf("Fuse of %d: Read %d, down %t", n, e, d.Down())
		}
		for file := range 4 {
			if d.Append(file, []byte("a")) != api.ErrDown || d.Append(file, nil) != api.ErrDown || d.Cut(file, 0) != api.ErrDown || d.Sync(file) != api.ErrDown {
				t.Errorf("Fuse of %d: a call of file %d isn't told that it is down", n, file)
			}
		}
		if told(d) != before {
			t.Errorf("Fuse of %d changed\n%s\nto\n%s", n, before, told(d))
		}
	}
}

// crashed is a tape with five, three and no open steps, and four that make an empty file again.
func crashed(t *testing.T) *tape.Tape {
	t.Helper()
	return made(t, act{kind: 'a', file: 0, text: "base"}, act{kind: 's', file: 0}, act{kind: 'a', file: 0, text: "12"},
		act{kind: 'c', file: 0, n: 3}, act{kind: 'a', file: 0, text: "3"}, act{kind: 'c', file: 0, n: 0},
		act{kind: 'a', file: 1, text: "xyz"}, act{kind: 'a', file: 2, text: "kept"}, act{kind: 's', file: 2},
		act{kind: 'a', file: 3, text: "?!?"}, act{kind: 'c', file: 3, n: 0})
}

// P10.1, P10.3: what a crash leaves, with each number of steps up to all, more, and below 0, of each file on its own.
func TestCrash(t *testing.T) {
	first := []string{"base", "base1", "base12", "bas", "bas3", ""}
	second := []string{"", "x", "xy", "xyz"}
	fourth := []string{"", "?", "?!", "?!?", ""}
	left := func(l []string, n int) string { return l[min(max(n, 0), len(l)-1)] }
	counts := []int{0, 1, 2, 3, 4, 5, 6, 7, -1, math.MinInt, math.MaxInt}
	d := crashed(t)
	before := told(d)
	for _, a := range counts {
		for _, b := range counts {
			for _, c := range counts {
				l := d.Crash([]int{a, b, b, c})
				want(t, l, 0, left(first, a), 0)
				want(t, l, 1, left(second, b), 0)
				want(t, l, 2, "kept", 0)
				want(t, l, 3, left(fourth, c), 0)
			}
		}
	}
	if told(d) != before {
		t.Errorf("crashes changed\n%s\nto\n%s", before, told(d))
	}
}

// P10.1, P0.4: numbers for fewer files than there are keep none of the others' steps; those for more don't count.
func TestNumbersForFewerAndMoreFiles(t *testing.T) {
	d := crashed(t)
	for _, c := range []struct {
		kept []int
		want [4]string
	}{
		{nil, [4]string{"base", "", "kept", ""}},
		{[]int{}, [4]string{"base", "", "kept", ""}},
		{make([]int, 0, 4), [4]string{"base", "", "kept", ""}},
		{[]int{1, 2, 3, 4}[:0], [4]string{"base", "", "kept", ""}},
		{[]int{2, 2, 2, 2}[:1], [4]string{"base12", "", "kept", ""}},
		{[]int{2}, [4]string{"base12", "", "kept", ""}},
		{[]int{2, 2}, [4]string{"base12", "xy", "kept", ""}},
		{[]int{2, 2, 2}, [4]string{"base12", "xy", "kept", ""}},
		{[]int{2, 2, 2, 2}, [4]string{"base12", "xy", "kept", "?!"}},
		{[]int{2, 2, 2, 2, 2}, [4]string{"base12", "xy", "kept", "?!"}},
		{append([]int{2, 2, 2, 2}, extremes()...), [4]string{"base12", "xy", "kept", "?!"}},
	} {
		l := d.Crash(c.kept)
		for i, text := range c.want {
			want(t, l, i, text, 0)
		}
	}
}

// P10.1: behind a crash all is sure, and the power is there and stays: neither the fuse nor its end came along.
func TestBehindACrash(t *testing.T) {
	fused := crashed(t)
	fused.Fuse(0)
	for _, d := range []*tape.Tape{crashed(t), fused, down(t)} {
		for _, kept := range [][]int{nil, {1, 1, 1, 1}, {9, 9, 9, 9}} {
			l := d.Crash(kept)
			if l == nil || l.Down() {
				t.Fatal("a crash leaves no tape, or one that is down")
			}
			p := newPlain()
			for i := range 4 {
				p.was[i][0] = mustRead(t, l, i)
			}
			hold(t, l, p, "behind a crash")
			both(t, l, p, append(append(worked(), act{kind: 'f', n: 3}), worked()...))
		}
	}
}

// P10.1, P10.3: a crash of a tape that is down leaves the steps ahead of the power's going, and no other.
func TestCrashOfADownTape(t *testing.T) {
	d := down(t)
	want(t, d.Crash(nil), 0, "sure", 0)
	want(t, d.Crash([]int{3, 1}), 0, "sureor ", 0)
	want(t, d.Crash([]int{3, 1}), 1, "a", 0)
	want(t, d.Crash([]int{7, 3}), 0, "sureor not", 0)
	want(t, d.Crash([]int{7, 3}), 1, "ab", 0)
	if !d.Down() || d.Open(0) != 6 || d.Open(1) != 2 {
		t.Errorf("the tape itself: down %t, %d and %d open", d.Down(), d.Open(0), d.Open(1))
	}
}

// P10.1, P10.2: a crash of a crash: what the first one left is sure, and nothing else of the tape ahead comes back.
func TestCrashOfACrash(t *testing.T) {
	d := crashed(t)
	for kept := range 7 {
		one := d.Crash([]int{kept, kept, kept, kept})
		for _, again := range [][]int{nil, {9, 9, 9, 9}} {
			if two := one.Crash(again); told(two) != told(one) {
				t.Errorf("with %d kept, then %v:\n%s\nwant\n%s", kept, again, told(two), told(one))
			}
		}
		ok(t, one.Append(1, []byte("++")))
		want(t, one.Crash([]int{9, 1}), 1, "xyz"[:min(kept, 3)]+"+", 0)
		want(t, one.Crash([]int{9}), 1, "xyz"[:min(kept, 3)], 0)
	}
}

// P10.2: of what was synced a crash takes away no more than open cuts that were kept did.
func TestSyncedIsThere(t *testing.T) {
	r := rand.New(rand.NewSource(102))
	for range 300 {
		d := tape.New()
		ok(t, d.Append(0, []byte("synced once")[:r.Intn(12)]))
		ok(t, d.Sync(0))
		sure := mustRead(t, d, 0)
		least := []int{len(sure)} // of the lengths of what is sure, behind each step
		for range r.Intn(8) {
			if n := len(mustRead(t, d, 0)); r.Intn(2) == 0 {
				cut := r.Intn(n + 1)
				ok(t, d.Cut(0, cut))
				least = append(least, min(least[len(least)-1], cut))
			} else {
				ok(t, d.Append(0, []byte{byte('0' + r.Intn(10))}))
				least = append(least, least[len(least)-1])
			}
		}
		if r.Intn(2) == 0 {
			d.Fuse(0)
			d.Append(0, []byte("!"))
		}
		for kept, n := range least {
			if got := mustRead(t, d.Crash([]int{kept}), 0); !strings.HasPrefix(got, sure[:n]) {
				t.Errorf("%q was sure; with %d kept, which left %d of it, there is %q", sure, kept, n, got)
			}
		}
	}
}

// P10.3: with all steps kept a crash leaves what Read told, with none what was read ahead of the last sync.
func TestAllOrNone(t *testing.T) {
	r := rand.New(rand.NewSource(103))
	for range 100 {
		d := tape.New()
		var sure [4]string
		for range 40 {
			a := someAct(r, func(file int) int { return len(mustRead(t, d, file)) })
			if a.kind == 'f' {
				continue
			}
			if e := do(d, a); e == api.OK && a.kind == 's' {
				sure[a.file] = mustRead(t, d, a.file)
			}
			all := d.Crash([]int{d.Open(0), d.Open(1), d.Open(2), d.Open(3)})
			none := d.Crash([]int{0, 0, 0, 0})
			for i := range 4 {
				want(t, all, i, mustRead(t, d, i), 0)
				want(t, none, i, sure[i], 0)
			}
		}
	}
}

// churn does to all files what writes over bytes that were there: cuts, bytes behind them, syncs; and lets the power go.
func churn(d *tape.Tape, mark string) {
	for i := range 4 {
		d.Sync(i)
		d.Append(i, []byte(mark))
		d.Cut(i, 1)
		d.Sync(i)
		d.Append(i, []byte(strings.Repeat(mark, 9)))
		d.Cut(i, 0)
		d.Append(i, []byte(mark))
		d.Sync(i)
	}
	d.Append(0, []byte(mark))
	d.Fuse(1)
	d.Append(1, []byte(mark+mark))
}

// P10.4: what is done to a crash changes nothing of the tape, nor of another crash of it, of the same steps or others.
func TestCrashIsItsOwn(t *testing.T) {
	d := crashed(t)
	d.Fuse(3)
	before := told(d)
	for kept := -1; kept < 7; kept++ {
		numbers := []int{kept, kept, kept, kept}
		one, two, more := d.Crash(numbers), d.Crash(numbers), d.Crash([]int{9, 9, 9, 9})
		as, most := told(two), told(more)
		churn(one, "#")
		if told(two) != as || told(more) != most || told(d) != before {
			t.Errorf("with %d kept: what is done to a crash changes another, or the tape", kept)
		}
	}
	ok(t, d.Append(2, []byte("abc"))) // the fuse is as it was: for three
	if d.Append(2, []byte("d")) != api.ErrDown {
		t.Error("a fourth step is made")
	}
}

// P10.4: what is done to a tape behind a crash changes nothing of what it left, nor does what is done to a crash of that.
func TestTapeBehindItsCrash(t *testing.T) {
	for kept := -1; kept < 7; kept++ {
		d := crashed(t)
		numbers := []int{kept, kept, kept, kept}
		one := d.Crash(numbers)
		ok(t, one.Append(2, []byte("open")))
		as := told(one)
		two := one.Crash([]int{0, 0, 2, 0})
		then := told(two)
		churn(d, "#")
		if told(one) != as || told(two) != then {
			t.Errorf("with %d kept: what is done to the tape changes its crash", kept)
		}
		churn(two, "%")
		if told(one) != as {
			t.Errorf("with %d kept: what is done to a crash's crash changes it", kept)
		}
		churn(one, "&")
		if again := crashed(t).Crash(numbers); told(again) == told(one) || !one.Down() {
			t.Errorf("with %d kept: a crash is not written to", kept)
		}
	}
}

// P0.3: bytes that are handed in aren't changed, the room behind them neither, nor kept: all come out of one room that is written over.
func TestHandedInIsNotKept(t *testing.T) {
	for _, sure := range []bool{false, true} {
		d, p := tape.New(), newPlain()
		room := []byte("what stands in this room is written over")
		for i := range 20 {
			n := 3 * i % 11
			as := slices.Clone(room)
			ok(t, d.Append(i%4, room[:n]))
			ok(t, p.Append(i%4, as[:n]))
			if sure {
				ok(t, d.Sync(i%4))
				ok(t, p.Sync(i%4))
			}
			if !bytes.Equal(room, as) {
				t.Fatalf("Append changed %q to %q", as, room)
			}
			for k := range room {
				room[k] ^= byte(5*i + k)
			}
			hold(t, d, p, "behind what is written into what was handed in")
		}
	}
}

// P0.3: the numbers of a crash aren't changed, nor those behind their end, and none is kept.
func TestKeptIsNotKept(t *testing.T) {
	d := crashed(t)
	room := []int{2, -7, 1 << 40, 2, 5, 6}
	kept := room[:4]
	l := d.Crash(kept)
	if !slices.Equal(room, []int{2, -7, 1 << 40, 2, 5, 6}) {
		t.Errorf("Crash changed its numbers: %v", room)
	}
	as := told(l)
	for i := range room {
		room[i] = 0
	}
	if told(l) != as {
		t.Error("a crash hangs on numbers that are written over")
	}
}

// P0.3: whoever writes into what Read answered, or behind its end, changes neither the tape, nor a crash, nor another answer.
func TestAnswersAreNew(t *testing.T) {
	synced := crashed(t)
	for i := range 4 {
		ok(t, synced.Sync(i))
	}
	for _, d := range []*tape.Tape{crashed(t), synced, crashed(t).Crash([]int{2, 2, 2, 2})} {
		l := d.Crash(nil)
		before, left := told(d), told(l)
		for i := range 4 {
			one, _ := d.Read(i)
			two, _ := d.Read(i)
			as := string(two)
			room := one[:cap(one)]
			for k := range room {
				room[k] ^= 0xff
			}
			if string(two) != as || told(d) != before || told(l) != left {
				t.Errorf("file %d: what is written into an answer changes more than it", i)
			}
		}
		for i := range 4 { // what is appended now doesn't stand in an answer's memory
			one, _ := d.Read(i)
			as := string(one)
			churn(d, "#")
			if string(one) != as {
				t.Errorf("file %d: what is done to the tape changes an answer", i)
			}
		}
	}
}

// P10.1, P0.1, P0.2: a nil tape tells ErrNil and zeros, ahead of all other errors; it is down, and no crash leaves anything of it.
func TestNil(t *testing.T) {
	var d *tape.Tape
	for _, file := range append(noFiles(), 0, 1, 2, 3) {
		for _, b := range [][]byte{nil, []byte("a"), make([]byte, 1048577)} {
			if e := d.Append(file, b); e != api.ErrNil {
				t.Errorf("Append: %d", e)
			}
		}
		for _, n := range append(extremes(), 0, 1) {
			if e := d.Cut(file, n); e != api.ErrNil {
				t.Errorf("Cut: %d", e)
			}
		}
		if e := d.Sync(file); e != api.ErrNil {
			t.Errorf("Sync: %d", e)
		}
		b, e := d.Read(file)
		if b != nil || e != api.ErrNil || d.Open(file) != 0 {
			t.Errorf("Read: %q %d, Open %d", b, e, d.Open(file))
		}
	}
	for _, n := range append(extremes(), 0, 1) {
		d.Fuse(n)
		if !d.Down() || d.Crash(nil) != nil || d.Crash([]int{}) != nil || d.Crash([]int{n, n, n, n, n}) != nil {
			t.Error("a nil tape isn't down, or a crash leaves something")
		}
	}
}

// someAct is an act by chance, of a disk whose files have the lengths that are told: mostly one that can be done.
func someAct(r *rand.Rand, length func(file int) int) act {
	file := r.Intn(4)
	if r.Intn(20) == 0 {
		return act{kind: "acs"[r.Intn(3)], file: []int{-1, 4, math.MinInt, math.MaxInt}[r.Intn(4)], text: "none"}
	}
	switch k := r.Intn(20); {
	case k < 9:
		return act{kind: 'a', file: file, text: "abcdefghijklmnopqrstuvwxyz"[r.Intn(20):][:r.Intn(6)]}
	case k < 14:
		return act{kind: 'c', file: file, n: r.Intn(length(file)+3) - 1}
	case k < 19:
		return act{kind: 's', file: file}
	}
	return act{kind: 'f', n: r.Intn(40) - 5}
}

// P10.1, P10.3: long turns of calls by chance, with crashes between, held against the plain tape.
func TestByChance(t *testing.T) {
	r := rand.New(rand.NewSource(10))
	for range 150 {
		d, p := tape.New(), newPlain()
		for range 60 {
			both(t, d, p, []act{someAct(r, func(file int) int { return len(p.now(file)) })})
			if r.Intn(12) == 0 || d.Down() && r.Intn(3) == 0 {
				var kept []int
				for range r.Intn(6) {
					kept = append(kept, r.Intn(12)-2)
				}
				d, p = d.Crash(kept), p.Crash(kept)
				hold(t, d, p, fmt.Sprintf("behind a crash with %v kept", kept))
			}
		}
	}
}

// P0.5: the same calls have the same answers, whatever is done to other tapes between, and however often it is asked.
func TestHangsOnItsCallsAlone(t *testing.T) {
	var before []string
	for range 3 {
		var now []string
		d, other := tape.New(), crashed(t)
		d.Fuse(15)
		for _, a := range worked() {
			now = append(now, fmt.Sprint(do(d, a)), told(d), told(d))
			churn(other, "#")
			other = other.Crash([]int{1, 2, 3})
		}
		if before != nil && !slices.Equal(before, now) {
			t.Error("the same calls are answered otherwise")
		}
		before = now
	}
}
