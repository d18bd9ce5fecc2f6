package vault_test

import (
	"bytes"
	"encoding/hex"
	"fmt"
	"math"
	"slices"
	"testing"

	"jurat/api"
	"jurat/frame"
	"jurat/tape"
	"jurat/vault"
	"jurat/wire"
)

const (
	most    = 262144 - 64 // bytes of a record, or of a snapshot
	lastGen = 1099511627776
)

func join(parts ...[]byte) []byte { return bytes.Join(parts, nil) }

func unhex(t *testing.T, text string) []byte {
	t.Helper()
	b, err := hex.DecodeString(text)
	if err != nil {
		t.Fatal(err)
	}
	return b
}

// message is n bytes of which no two neighbours are alike.
func message(n int) []byte {
	b := make([]byte, n)
	for i := range n {
		b[i] = byte(0x9d*i + 0x81)
	}
	return b
}

// framed is the frame of any bytes, which need not be what a vault puts into one.
func framed(b []byte) []byte {
	f, e := frame.Wrap(b)
	if e != api.OK {
		panic(e)
	}
	return f
}

// held is the frame of a generation and a text.
func held(gen uint64, text string) []byte {
	return framed(join(wire.Num(gen), wire.Text([]byte(text))))
}

// content is what a tape's files have.
type content [api.MaxFiles]string

// lay is a tape on which that stands, and is sure.
func lay(t testing.TB, c content) *tape.Tape {
	t.Helper()
	d := tape.New()
	for i, b := range c {
		if e := d.Append(i, []byte(b)); e != api.OK {
			t.Fatalf("a tape with %d bytes in file %d: %d", len(b), i, e)
		}
	}
	return d.Crash([]int{math.MaxInt, math.MaxInt, math.MaxInt, math.MaxInt})
}

// on is what stands on a tape, whether it is down or not, and its open steps too.
func on(t testing.TB, d *tape.Tape) content {
	t.Helper()
	return sure(t, d, math.MaxInt)
}

// sure is what a crash leaves on a tape, if of each file so many steps are kept.
func sure(t testing.TB, d *tape.Tape, kept int) content {
	t.Helper()
	var c content
	left := d.Crash([]int{kept, kept, kept, kept})
	for i := range c {
		b, e := left.Read(i)
		if e != api.OK {
			t.Fatalf("Read of file %d: %d", i, e)
		}
		c[i] = string(b)
	}
	return c
}

// stands tells whether just that is on a tape, and all of it is sure.
func stands(t testing.TB, name string, d *tape.Tape, want content) {
	t.Helper()
	if got := on(t, d); got != want {
		t.Fatalf("%s: on the tape stands %.200q, not %.200q", name, got, want)
	}
	for i := range want {
		if n := d.Open(i); n != 0 {
			t.Fatalf("%s: file %d has %d open steps", name, i, n)
		}
	}
}

// has is what a vault has.
type has struct {
	gen     int
	text    string
	records []string
}

func (h has) like(other has) bool {
	return h.gen == other.gen && h.text == other.text && slices.Equal(h.records, other.records)
}

// with is h with a record more.
func (h has) with(record string) has {
	h.records = append(slices.Clone(h.records), record)
	return h
}

func look(v *vault.Vault) has {
	h := has{gen: v.Gen(), text: string(v.Text())}
	for _, b := range v.Records() {
		h.records = append(h.records, string(b))
	}
	return h
}

func (h has) String() string {
	text := fmt.Sprintf("generation %d, snapshot %.40q (%d bytes), %d records:", h.gen, h.text, len(h.text), len(h.records))
	for _, b := range h.records[:min(len(h.records), 20)] {
		text += fmt.Sprintf(" %.20q", b)
	}
	return text
}

func open(t testing.TB, name string, d *tape.Tape) *vault.Vault {
	t.Helper()
	v, e := vault.Open(d)
	if e != api.OK || v == nil {
		t.Fatalf("%s: Open: %v, %d", name, v, e)
	}
	return v
}

// finds tells whether a vault has just that, whether what is opened on its tape has it, behind a crash too.
func finds(t testing.TB, name string, v *vault.Vault, d *tape.Tape, want has) {
	t.Helper()
	if got := look(v); !got.like(want) {
		t.Fatalf("%s: the vault has %v, not %v", name, got, want)
	}
	opens(t, name+", behind a crash", d.Crash(nil), want)
	opens(t, name+", on the same tape", d, want)
}

// opens tells whether the vault on a tape has just that.
func opens(t testing.TB, name string, d *tape.Tape, want has) {
	t.Helper()
	if got := look(open(t, name, d)); !got.like(want) {
		t.Fatalf("%s: what is opened has %v, not %v", name, got, want)
	}
}

// says tells whether a call answered just that.
func says(t testing.TB, name string, got, want api.Errno) {
	t.Helper()
	if got != want {
		t.Fatalf("%s: %d, not %d", name, got, want)
	}
}

func add(t testing.TB, v *vault.Vault, records ...string) {
	t.Helper()
	for _, b := range records {
		says(t, fmt.Sprintf("Add of %.20q", b), v.Add([]byte(b)), api.OK)
	}
}

func save(t testing.TB, v *vault.Vault, text string) {
	t.Helper()
	says(t, fmt.Sprintf("Save of %.20q", text), v.Save([]byte(text)), api.OK)
}

// dead tells whether a vault is down: it has nothing, and all calls answer ErrDown, whatever else applies.
func dead(t testing.TB, name string, v *vault.Vault) {
	t.Helper()
	if got := look(v); !got.like(has{}) {
		t.Fatalf("%s: a vault that is down has %v", name, got)
	}
	for _, n := range []int{0, 1, most, most + 1, 2 * most} {
		says(t, name+": Add when it is down", v.Add(make([]byte, n)), api.ErrDown)
		says(t, name+": Save when it is down", v.Save(make([]byte, n)), api.ErrDown)
	}
}

// P12.1: the example of the chapter.
func TestExample(t *testing.T) {
	d := tape.New()
	v := open(t, "an empty tape", d)
	add(t, v, "a")
	save(t, v, "s")
	add(t, v, "b")
	finds(t, "the example", v, d, has{1, "s", []string{"b"}})
}

// P12.1: on an empty tape there is a vault of generation 0 that has nothing, and nothing is written there.
func TestOpenOfAnEmptyTape(t *testing.T) {
	d := tape.New()
	v := open(t, "an empty tape", d)
	finds(t, "an empty tape", v, d, has{})
	stands(t, "an empty tape", d, content{})
}

// P12.1: what each call leaves on the tape, as another program worked it out. File 3 is no file of a vault's.
func TestKnownTapes(t *testing.T) {
	d := lay(t, content{3: "not the vault's"})
	v := open(t, "a tape", d)
	journal, one, two := "", "", ""
	for _, c := range []struct {
		name string
		do   func()
		want func()
	}{
		{"Add of a", func() { add(t, v, "a") }, func() { journal += "010400010161138d16b18f243c71" }},
		{"Add of nothing", func() { add(t, v, "") }, func() { journal += "01020000d81fe96dc500bc43" }},
		{"Save of s", func() { save(t, v, "s") }, func() { journal, one = "", "01050101010173fc6163fc24489c8a" }},
		{"Add of b", func() { add(t, v, "b") }, func() { journal += "01050101010162cc3ccca3db2caceb" }},
		{"Save of nothing", func() { save(t, v, "") }, func() { journal, two = "", "010301020096bd1b9307ecbce8" }},
	} {
		c.do()
		c.want()
		stands(t, c.name, d, content{string(unhex(t, journal)), string(unhex(t, one)), string(unhex(t, two)), "not the vault's"})
	}
}

// P12.1, P12.2: generations in both slots, with records of each, opened anew behind each call.
func TestManyGenerations(t *testing.T) {
	d := tape.New()
	v := open(t, "an empty tape", d)
	want := has{}
	for gen := 1; gen <= 300; gen++ {
		for i := range gen % 4 {
			record := fmt.Sprint("record ", gen, i)
			add(t, v, record)
			want = want.with(record)
			finds(t, record, v, d, want)
		}
		text := fmt.Sprint("snapshot ", gen)
		if gen%7 == 0 {
			text = ""
		}
		save(t, v, text)
		want = has{gen: gen, text: text}
		finds(t, text, v, d, want)
		if gen%5 == 0 {
			v = open(t, text, d)
		}
		slots := [2]string{}
		slots[(gen+1)%2] = string(held(uint64(gen), text))
		if c := on(t, d); c[0] != "" || c[2-gen%2] != slots[(gen+1)%2] {
			t.Fatalf("behind %s the tape has %q", text, c)
		}
	}
}

// P12.1: an empty record counts, and one that looks like a frame, or like what stands in one.
func TestAnyBytes(t *testing.T) {
	d := tape.New()
	v := open(t, "an empty tape", d)
	want := has{}
	for _, b := range []string{"", "\x00", string(held(0, "a")), string(held(1, "a"))[:5], "", string(message(300)), string(make([]byte, 40))} {
		add(t, v, b)
		want = want.with(b)
		finds(t, fmt.Sprintf("Add of %.20q", b), v, d, want)
	}
	says(t, "Add of nil", v.Add(nil), api.OK)
	finds(t, "Add of nil", v, d, want.with(""))
	for i, b := range []string{string(held(7, "a")), "\x00", string(make([]byte, 40))} {
		save(t, v, b)
		finds(t, fmt.Sprintf("Save of %.20q", b), v, d, has{gen: i + 1, text: b})
	}
	says(t, "Save of nil", v.Save(nil), api.OK)
	finds(t, "Save of nil", v, d, has{gen: 4})
}

// P12.1: a record and a snapshot have at most MaxRecord - 64 bytes. P0.2: what is refused changes nothing.
func TestLengths(t *testing.T) {
	long := string(message(most))
	d := tape.New()
	v := open(t, "an empty tape", d)
	add(t, v, "a", long)
	want := has{0, "", []string{"a", long}}
	finds(t, "Add of as many bytes as may be", v, d, want)
	was := on(t, d)
	d.Fuse(0)
	for _, n := range []int{most + 1, most + 2, most + 64, most + 65, 4 * most, 1 << 22} {
		says(t, "Add of too many bytes", v.Add(make([]byte, n)), api.ErrLong)
		says(t, "Save of too many bytes", v.Save(make([]byte, n)), api.ErrLong)
	}
	d.Fuse(-1)
	finds(t, "what was too long", v, d, want)
	stands(t, "what was too long", d, was)
	save(t, v, long)
	finds(t, "Save of as many bytes as may be", v, d, has{gen: 1, text: long})
	save(t, v, long[:most-1])
	finds(t, "Save of one less", v, d, has{gen: 2, text: long[:most-1]})
	add(t, v, long[1:])
	finds(t, "Add of one less", v, d, has{2, long[:most-1], []string{long[1:]}})
}

// P12.1: at the greatest generation, records and snapshots of as many bytes as may be are written down too.
func TestLengthsAtTheGreatestGeneration(t *testing.T) {
	d := lay(t, content{1: string(held(lastGen-1, "x"))})
	v := open(t, "a tape", d)
	long := string(message(most))
	save(t, v, long)
	add(t, v, long)
	finds(t, "the greatest generation", v, d, has{lastGen, long, []string{long}})
}

// P12.1: where the journal has no room for a record, the answer is the tape's error, and nothing has changed: what
// is shorter finds room, up to the last byte, and Save makes room.
func TestFullTape(t *testing.T) {
	d := tape.New()
	v := open(t, "an empty tape", d)
	long := string(message(most))
	add(t, v, long, long, long, long)
	want := has{0, "", []string{long, long, long, long}}
	was := on(t, d)
	room := api.MaxTape - len(was[0])
	fits := 0
	for len(held(0, string(message(fits+1)))) <= room {
		fits++
	}
	for _, b := range []string{long, string(message(fits + 1))} {
		says(t, "Add to a full journal", v.Add([]byte(b)), api.ErrFull)
		stands(t, "Add to a full journal", d, was)
	}
	finds(t, "a full journal", v, d, want)
	add(t, v, string(message(fits)))
	want = want.with(string(message(fits)))
	if n := len(on(t, d)[0]); n != api.MaxTape {
		t.Fatalf("the journal has %d bytes", n)
	}
	d.Fuse(0) // a record that finds no room takes no step
	says(t, "Add of nothing to a full journal", v.Add(nil), api.ErrFull)
	d.Fuse(-1)
	finds(t, "a journal that is full to the last byte", v, d, want)
	save(t, v, long)
	add(t, v, long)
	finds(t, "behind Save", v, d, has{1, long, []string{long}})
}

// P12.1: records of other generations and what can't be read take room too; slots are cut first, so they have always enough.
func TestRoomThatOthersTake(t *testing.T) {
	stuff := string(make([]byte, api.MaxTape))
	d := lay(t, content{stuff, stuff, stuff})
	v := open(t, "a tape full of zeros", d)
	finds(t, "a tape full of zeros", v, d, has{})
	stands(t, "a tape full of zeros", d, content{1: stuff, 2: stuff})
	long := string(message(most))
	for gen := 1; gen <= 3; gen++ {
		save(t, v, long)
		finds(t, "Save where a slot is full", v, d, has{gen: gen, text: long})
	}

	other := string(held(9, string(make([]byte, most))))
	full := other + other + other + other
	d = lay(t, content{full, string(held(1, "s"))})
	v = open(t, "records of another generation", d)
	says(t, "Add of as many bytes", v.Add([]byte(long)), api.ErrFull)
	add(t, v, "a")
	finds(t, "records of another generation", v, d, has{1, "s", []string{"a"}})
	stands(t, "records of another generation", d, content{full + string(held(1, "a")), string(held(1, "s"))})
	save(t, v, "t")
	stands(t, "behind Save", d, content{1: string(held(1, "s")), 2: string(held(2, "t"))})
}

// P12.1: Save at generation 2^40 is refused, and changes nothing; a snapshot of that generation can be made.
func TestSaveAtTheGreatestGeneration(t *testing.T) {
	d := lay(t, content{1: string(unhex(t, "011405ffffffffff010c6c61737420627574206f6e6546ef9c130dd6ccf2"))})
	v := open(t, "the last but one", d)
	finds(t, "the last but one", v, d, has{gen: lastGen - 1, text: "last but one"})
	add(t, v, "a")
	save(t, v, "last")
	add(t, v, "b")
	want := has{lastGen, "last", []string{"b"}}
	finds(t, "the last one", v, d, want)
	was := on(t, d)
	if was[2] != string(unhex(t, "010d0601000000000001046c6173742d7f8c2148e3ba7f")) {
		t.Errorf("slot 2 has % x", was[2])
	}
	d.Fuse(0)
	for _, text := range []string{"", "more", string(message(most))} {
		says(t, "Save at generation 2^40", v.Save([]byte(text)), api.ErrFull)
	}
	says(t, "Save of too many bytes at generation 2^40", v.Save(message(most+1)), api.ErrLong)
	d.Fuse(-1)
	finds(t, "Save at generation 2^40", v, d, want)
	stands(t, "Save at generation 2^40", d, was)
	add(t, v, "c")
	finds(t, "Add at generation 2^40", v, d, want.with("c"))
}

// P12.1: a nil tape has no vault, and a nil vault has nothing.
func TestNil(t *testing.T) {
	v, e := vault.Open(nil)
	if v != nil || e != api.ErrNil {
		t.Errorf("Open of nil: %v, %d", v, e)
	}
	if got := look(v); !got.like(has{}) {
		t.Errorf("a nil vault has %v", got)
	}
	for _, n := range []int{0, 1, most, most + 1} {
		says(t, "Add to a nil vault", v.Add(make([]byte, n)), api.ErrNil)
		says(t, "Save of a nil vault", v.Save(make([]byte, n)), api.ErrNil)
	}
}

// P12.1: a tape that is down has no vault to be opened, whatever stands there.
func TestOpenOfATapeThatIsDown(t *testing.T) {
	for _, c := range []content{{}, {string(held(1, "b")), string(held(1, "s"))}, {"junk", "junk", "junk"}} {
		d := lay(t, c)
		d.Fuse(0)
		says(t, "Sync", d.Sync(3), api.ErrDown)
		for range 3 {
			if v, e := vault.Open(d); v != nil || e != api.ErrDown {
				t.Errorf("Open of a tape that is down: %v, %d", v, e)
			}
		}
		if got := on(t, d); got != c {
			t.Errorf("Open of a tape that is down changed %q to %q", c, got)
		}
	}
}

// P12.1: a vault is down from its first ErrDown on, not from the fall of its tape, of which it may not know: till then
// it has what it had, and what is refused for another reason is refused for that.
func TestTapeThatFellByItself(t *testing.T) {
	for _, last := range []func(*vault.Vault) api.Errno{
		func(v *vault.Vault) api.Errno { return v.Add([]byte("c")) },
		func(v *vault.Vault) api.Errno { return v.Save([]byte("c")) },
	} {
		d := lay(t, content{1: string(held(1, "s"))})
		v := open(t, "a tape", d)
		add(t, v, "a", "b")
		was := on(t, d)
		d.Fuse(0)
		says(t, "Append by somebody else", d.Append(3, []byte("x")), api.ErrDown)
		says(t, "Add of too many bytes", v.Add(message(most+1)), api.ErrLong)
		says(t, "Save of too many bytes", v.Save(message(most+1)), api.ErrLong)
		if got, want := look(v), (has{1, "s", []string{"a", "b"}}); !got.like(want) {
			t.Errorf("ahead of an ErrDown the vault has %v, not %v", got, want)
		}
		says(t, "a call", last(v), api.ErrDown)
		dead(t, "a tape that fell", v)
		if got := on(t, d); got != was {
			t.Errorf("on the tape stands %q, not %q", got, was)
		}
	}
}

// P0.2: of ErrFull and ErrDown the answer of Save at generation 2^40 is the one that is named first; of Add to a full
// journal it is the tape's, who names ErrDown first.
func TestSeveralErrors(t *testing.T) {
	d := lay(t, content{2: string(held(lastGen, "s"))})
	v := open(t, "a tape", d)
	d.Fuse(0)
	says(t, "Append by somebody else", d.Append(3, []byte("x")), api.ErrDown)
	says(t, "Save at generation 2^40", v.Save(nil), api.ErrFull)
	says(t, "Add", v.Add(nil), api.ErrDown)
	dead(t, "generation 2^40", v)

	d = tape.New()
	v = open(t, "a tape", d)
	long := string(message(most))
	add(t, v, long, long, long, long)
	d.Fuse(0)
	says(t, "Append by somebody else", d.Append(3, []byte("x")), api.ErrDown)
	says(t, "Add to a full journal", v.Add([]byte(long)), api.ErrDown)
	dead(t, "a full journal", v)
}

// P12.4, P0.3: what is handed in may be written into later, and isn't written into.
func TestHandedIn(t *testing.T) {
	d := tape.New()
	v := open(t, "an empty tape", d)
	room := []byte("record behind")
	whole := bytes.Clone(room)
	says(t, "Add", v.Add(room[:6]), api.OK)
	says(t, "Add", v.Add(room[:0]), api.OK)
	if !bytes.Equal(room, whole) {
		t.Errorf("Add wrote into what was handed in: %q", room)
	}
	clear(room)
	finds(t, "a record that was written into", v, d, has{0, "", []string{"record", ""}})

	copy(room, whole)
	says(t, "Save", v.Save(room[:6]), api.OK)
	if !bytes.Equal(room, whole) {
		t.Errorf("Save wrote into what was handed in: %q", room)
	}
	clear(room)
	finds(t, "a snapshot that was written into", v, d, has{gen: 1, text: "record"})
}

// P12.4, P0.3: what is answered may be written into, the room behind its end too: neither the vault nor another answer changes.
func TestAnswered(t *testing.T) {
	for _, name := range []string{"the vault that wrote it", "a vault that was opened"} {
		d := tape.New()
		v := open(t, "an empty tape", d)
		save(t, v, "snapshot")
		add(t, v, "one", "", "two", "three")
		if name == "a vault that was opened" {
			v = open(t, name, d)
		}
		want := has{1, "snapshot", []string{"one", "", "two", "three"}}
		texts, lists := [2][]byte{v.Text(), v.Text()}, [2][][]byte{v.Records(), v.Records()}
		spoil(texts[0])
		for k, b := range lists[0] {
			spoil(b)
			for j := k + 1; j < len(lists[0]); j++ {
				if string(lists[0][j]) != want.records[j] {
					t.Errorf("%s: record %d was written into, and %d changed", name, k, j)
				}
			}
		}
		all := lists[0][:cap(lists[0])]
		for k := range all {
			all[k] = []byte("spoilt")
		}
		if string(texts[1]) != want.text || !slices.EqualFunc(lists[1], want.records, func(b []byte, s string) bool { return string(b) == s }) {
			t.Errorf("%s: another answer changed: %q, %q", name, texts[1], lists[1])
		}
		finds(t, name, v, d, want)
		add(t, v, "more")
		finds(t, name, v, d, want.with("more"))
	}
}

// spoil writes into all the room that a list has.
func spoil(b []byte) {
	b = b[:cap(b)]
	for i := range b {
		b[i] ^= 0xff
	}
}

// P0.5: the same calls on two tapes answer the same and leave the same.
func TestSameCallsSameTapes(t *testing.T) {
	var tapes [2]content
	for i := range tapes {
		d := tape.New()
		v := open(t, "an empty tape", d)
		add(t, v, "a", "b")
		save(t, v, "s")
		add(t, v, "c")
		save(t, v, "t")
		save(t, v, "u")
		add(t, v, "d", "e")
		tapes[i] = on(t, d)
	}
	if tapes[0] != tapes[1] {
		t.Errorf("the same calls leave %q and %q", tapes[0], tapes[1])
	}
}
