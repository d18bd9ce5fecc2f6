package vault_test

import (
	"fmt"
	"testing"

	"jurat/api"
	"jurat/tape"
	"jurat/vault"
)

// fused is a vault on a tape on which that stands, whose power goes behind so many steps.
func fused(t *testing.T, c content, fuse int) (*tape.Tape, *vault.Vault) {
	t.Helper()
	d := lay(t, c)
	v := open(t, "a tape", d)
	d.Fuse(fuse)
	return d, v
}

// kept is all that a crash may leave on a tape: of each file each number of open steps, with none and with all of the others'.
func kept(d *tape.Tape) [][]int {
	var all [][]int
	for f := range api.MaxFiles {
		for _, others := range []int{0, 1 << 30} {
			for n := range d.Open(f) + 1 {
				k := []int{others, others, others, others}
				k[f] = n
				all = append(all, k)
			}
		}
	}
	return all
}

// P12.1, P12.2: Add puts the record's frame behind the journal, and syncs it. Wherever its power goes, the vault is
// down, and what was there is opened, or that and the record.
func TestAddStepByStep(t *testing.T) {
	was := content{snap(1, "a") + snap(1, "b"), snap(1, "s"), snap(2, "spoilt")[1:]}
	had := has{1, "s", []string{"a", "b"}}
	record := snap(1, "record")
	for fuse := range len(record) + 1 {
		name := fmt.Sprintf("Add, with %d steps", fuse)
		d, v := fused(t, was, fuse)
		says(t, name, v.Add([]byte("record")), api.ErrDown)
		dead(t, name, v)
		now := was
		now[0] += record[:fuse]
		if got := on(t, d); got != now {
			t.Fatalf("%s: on the tape stands %q, not %q", name, got, now)
		}
		if got := sure(t, d, 0); got != was {
			t.Fatalf("%s: %q is sure, not %q", name, got, was)
		}
		for _, k := range kept(d) {
			want := had
			if k[0] >= len(record) && fuse == len(record) {
				want = had.with("record")
			}
			opens(t, fmt.Sprint(name, ", kept ", k), d.Crash(k), want)
		}
	}
	d, v := fused(t, was, len(record)+1)
	says(t, "Add with as many steps as it takes", v.Add([]byte("record")), api.OK)
	finds(t, "Add with as many steps as it takes", v, d.Crash(nil), had.with("record"))
	if got := look(v); !got.like(had.with("record")) || d.Down() {
		t.Errorf("Add with as many steps as it takes: the vault has %v", got)
	}
	says(t, "one more", v.Add(nil), api.ErrDown)
	dead(t, "one more", v)
}

// P12.1, P12.2: Save cuts the slot to nothing, puts the snapshot's frame there, and syncs it; then it cuts the journal,
// and syncs that. Wherever its power goes, the vault is down, and what was there is opened, or the new snapshot.
func TestSaveStepByStep(t *testing.T) {
	was := content{snap(2, "a") + snap(1, "b"), snap(1, "long ago"), snap(2, "s")}
	had := has{2, "s", []string{"a"}}
	next := has{gen: 3, text: "snapshot"}
	slot := snap(3, "snapshot")
	for fuse := range len(slot) + 4 {
		name := fmt.Sprintf("Save, with %d steps", fuse)
		d, v := fused(t, was, fuse)
		says(t, name, v.Save([]byte("snapshot")), api.ErrDown)
		dead(t, name, v)
		now, safe := was, was
		switch {
		case fuse > len(slot)+2:
			now[0], now[1], safe[1] = "", slot, slot
		case fuse > len(slot)+1:
			now[1], safe[1] = slot, slot
		case fuse > 0:
			now[1] = slot[:fuse-1]
		}
		if got := on(t, d); got != now {
			t.Fatalf("%s: on the tape stands %q, not %q", name, got, now)
		}
		if got := sure(t, d, 0); got != safe {
			t.Fatalf("%s: %q is sure, not %q", name, got, safe)
		}
		for _, k := range kept(d) {
			want := had
			if safe[1] == slot || now[1] == slot && k[1] > len(slot) {
				want = next
			}
			opens(t, fmt.Sprint(name, ", kept ", k), d.Crash(k), want)
		}
	}
	d, v := fused(t, was, len(slot)+4)
	says(t, "Save with as many steps as it takes", v.Save([]byte("snapshot")), api.OK)
	finds(t, "Save with as many steps as it takes", v, d.Crash(nil), next)
	if got := on(t, d); got != (content{"", slot, snap(2, "s")}) || d.Down() {
		t.Errorf("Save with as many steps as it takes: on the tape stands %q", got)
	}
	says(t, "one more", v.Save(nil), api.ErrDown)
	dead(t, "one more", v)
}

// P12.1, P12.2, P12.3: Open cuts the journal where it ends, and syncs it. Wherever its power goes, no vault is answered,
// and what is opened later is the same.
func TestOpenStepByStep(t *testing.T) {
	right := snap(1, "a") + snap(7, "x")
	was := content{right + snap(1, "b")[1:], snap(1, "s"), "junk"}
	want := has{1, "s", []string{"a"}}
	for fuse := range 2 {
		name := fmt.Sprintf("Open, with %d steps", fuse)
		d := lay(t, was)
		d.Fuse(fuse)
		if v, e := vault.Open(d); v != nil || e != api.ErrDown {
			t.Fatalf("%s: %v, %d", name, v, e)
		}
		if got := sure(t, d, 0); got != was {
			t.Fatalf("%s: %q is sure, not %q", name, got, was)
		}
		now := was
		if fuse == 1 {
			now[0] = right
		}
		if got := on(t, d); got != now {
			t.Fatalf("%s: on the tape stands %q, not %q", name, got, now)
		}
		for _, k := range kept(d) {
			opens(t, fmt.Sprint(name, ", kept ", k), d.Crash(k), want)
		}
	}
	d := lay(t, was)
	d.Fuse(2)
	opens(t, "Open with as many steps as it takes", d, want)
	stands(t, "Open with as many steps as it takes", d, content{right, snap(1, "s"), "junk"})
	if v, e := vault.Open(d); v != nil || e != api.ErrDown {
		t.Errorf("Open of a tape with no power left for a sync: %v, %d", v, e)
	}
}

// P12.1: what stands in the journal is sure behind Open, so a tape with no power for that has no vault.
func TestOpenSyncs(t *testing.T) {
	d := tape.New()
	if e := d.Append(0, held(0, "a")); e != api.OK {
		t.Fatal(e)
	}
	d.Fuse(0)
	if v, e := vault.Open(d); v != nil || e != api.ErrDown || !d.Down() {
		t.Fatalf("Open with no power: %v, %d", v, e)
	}
	opens(t, "nothing kept", d.Crash(nil), has{})
	opens(t, "all kept", d.Crash([]int{1000}), has{0, "", []string{"a"}})
}

// life is a list of calls that are made as long as they answer OK.
type life []struct {
	save bool
	text string
}

// lived makes the calls of a life, and tells what those made that answered OK, what there would be with the one that
// answered ErrDown, and whether one did.
func lived(t *testing.T, v *vault.Vault, l life, made has) (has, has, bool) {
	t.Helper()
	for _, c := range l {
		next, e := made.with(c.text), api.OK
		if c.save {
			next = has{gen: made.gen + 1, text: c.text}
			e = v.Save([]byte(c.text))
		} else {
			e = v.Add([]byte(c.text))
		}
		if e == api.ErrDown {
			return made, next, true
		}
		says(t, c.text, e, api.OK)
		made = next
	}
	return made, made, false
}

// P12.2: wherever the power goes in a vault's life, whatever is kept, and wherever it goes when it is opened then: what
// is opened at last is what the calls that answered OK had made, or that and the one that was under way; and it goes on.
func TestPower(t *testing.T) {
	l := life{{false, "a"}, {true, "s"}, {false, ""}, {false, "bc"}, {true, ""}, {true, "t"}, {false, "d"}, {true, "long"}, {false, "e"}}
	for fuse := 0; ; fuse++ {
		d, v := fused(t, content{}, fuse)
		made, next, fell := lived(t, v, l, has{})
		if !fell {
			finds(t, "a whole life", v, d.Crash(nil), has{4, "long", []string{"e"}})
			break
		}
		dead(t, fmt.Sprint("fuse ", fuse), v)
		for _, k := range kept(d) {
			left := d.Crash(k)
			name := fmt.Sprint("fuse ", fuse, ", kept ", k)
			got := look(open(t, name, left))
			if !got.like(made) && !got.like(next) {
				t.Fatalf("%s: %v, neither %v nor %v", name, got, made, next)
			}
			opens(t, name+", again", left, got)
			for opening := range 2 {
				again := d.Crash(k)
				again.Fuse(opening)
				vault.Open(again)
				for _, j := range kept(again) {
					opens(t, fmt.Sprint(name, ", with ", opening, " steps when it was opened, kept ", j), again.Crash(j), got)
				}
			}
			v := open(t, name, left)
			add(t, v, "on")
			finds(t, name+", and Add", v, left, got.with("on"))
			save(t, v, "and on")
			finds(t, name+", and Save", v, left, has{gen: got.gen + 1, text: "and on"})
		}
	}
}
