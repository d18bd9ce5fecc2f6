package vault_test

import (
	"fmt"
	"strings"
	"testing"

	"jurat/wire"
)

// snap is the frame of a snapshot or a record, as text.
func snap(gen uint64, text string) string { return string(held(gen, text)) }

// frameOf is the frame of any bytes, as text.
func frameOf(b string) string { return string(framed([]byte(b))) }

// number is a number's bytes, and textOf a text's, as text.
func number(n uint64) string { return string(wire.Num(n)) }

func textOf(b string) string { return string(wire.Text([]byte(b))) }

// wrong is b with one bit of it changed.
func wrong(b string, at, bit int) string {
	return b[:at] + string([]byte{b[at] ^ 1<<bit}) + b[at+1:]
}

// elses is frames that are right and hold no generation and text, or a generation that there isn't: of the same slot as gen.
func elses(gen uint64) map[string]string {
	return map[string]string{
		"nothing":                               frameOf(""),
		"a number alone":                        frameOf(number(gen)),
		"a text alone":                          frameOf(textOf("text")),
		"any bytes":                             frameOf("any bytes, not those of a snapshot"),
		"a text that is too short":              frameOf(number(gen) + textOf("text")[:5]),
		"a byte behind the text":                frameOf(number(gen) + textOf("text") + "\x00"),
		"a text behind the text":                frameOf(number(gen) + textOf("text") + textOf("")),
		"a number above 2^40":                   snap(gen+lastGen+2, "text"),
		"a much greater number":                 snap(gen+1<<62, "text"),
		"the greatest numbers":                  snap(1<<64-2+gen%2, "text"),
		"a number that isn't in its short form": frameOf("\x02\x00" + string([]byte{byte(gen)}) + textOf("text")),
		"a number of nine bytes":                frameOf("\x09" + strings.Repeat("\x00", 8) + string([]byte{byte(gen)}) + textOf("text")),
		"a length that isn't in its short form": frameOf(number(gen) + "\x02\x00\x04text"),
		"a length of nine bytes":                frameOf(number(gen) + "\x09" + strings.Repeat("\x00", 8) + "\x04text"),
		"a byte ahead of the number":            frameOf("\x00" + number(gen) + textOf("text")),
		"a frame":                               frameOf(snap(gen, "text")),
	}
}

// found tells whether what is opened on a tape has just that and leaves just that journal, and is the same when it is
// opened again, on the same tape and behind a crash.
func found(t *testing.T, name string, c content, want has, journal string) {
	t.Helper()
	d := lay(t, c)
	v := open(t, name, d)
	finds(t, name, v, d, want)
	c[0] = journal
	stands(t, name, d, c)
	opens(t, name+", laid anew", lay(t, c), want)
}

// P12.1, P12.3: of the snapshots that stand in the slots as they should, the one of the greater generation is taken.
func TestSlots(t *testing.T) {
	behind := snap(1, "s") + snap(3, "behind")
	for _, c := range []struct {
		name     string
		one, two string
		gen      int
		text     string
	}{
		{"no slots", "", "", 0, ""},
		{"generation 1", snap(1, "s"), "", 1, "s"},
		{"generation 2", "", snap(2, "s"), 2, "s"},
		{"an empty text", snap(1, ""), "", 1, ""},
		{"1 and 2", snap(1, "s"), snap(2, "t"), 2, "t"},
		{"3 and 2", snap(3, "s"), snap(2, "t"), 3, "s"},
		{"1 and 256", snap(1, "s"), snap(256, "t"), 256, "t"},
		{"257 and 256", snap(257, "s"), snap(256, "t"), 257, "s"},
		{"1 and 2^40", snap(1, "s"), snap(lastGen, "t"), lastGen, "t"},
		{"2^40 - 1 and 2", snap(lastGen-1, "s"), snap(2, "t"), lastGen - 1, "s"},
		{"2^40 - 1 and 2^40", snap(lastGen-1, "s"), snap(lastGen, "t"), lastGen, "t"},
		{"generation 0", "", snap(0, "s"), 0, ""},
		{"generation 0 in slot 1", snap(0, "s"), "", 0, ""},
		{"generation 0 in both", snap(0, "s"), snap(0, "t"), 0, ""},
		{"1 and 0", snap(1, "s"), snap(0, "t"), 1, "s"},
		{"1 in slot 2", "", snap(1, "s"), 0, ""},
		{"2 in slot 1", snap(2, "s"), "", 0, ""},
		{"both in the wrong slot", snap(4, "s"), snap(5, "t"), 0, ""},
		{"1, and 5 in slot 2", snap(1, "s"), snap(5, "t"), 1, "s"},
		{"2, and 6 in slot 1", snap(6, "s"), snap(2, "t"), 2, "t"},
		{"2^40 in slot 1", snap(lastGen, "s"), "", 0, ""},
		{"2^40 + 1", snap(lastGen+1, "s"), snap(2, "t"), 2, "t"},
		{"2^40 + 2", snap(1, "s"), snap(lastGen+2, "t"), 1, "s"},
		{"2^64 - 1 and 2^64 - 2", snap(1<<64-1, "s"), snap(1<<64-2, "t"), 0, ""},
		{"2^63 + 1 and 2^63", snap(1<<63+1, "s"), snap(1<<63, "t"), 0, ""},
		{"a byte behind a snapshot's frame", snap(1, "s") + "\x00", "", 1, "s"},
		{"part of a frame behind it", snap(1, "s"), snap(2, "t") + snap(4, "u")[:9], 2, "t"},
		{"a snapshot behind it", behind, "", 1, "s"},
		{"a snapshot behind a frame of something else", frameOf("else") + snap(1, "s"), "", 0, ""},
		{"a snapshot behind an empty frame", frameOf("") + snap(1, "s"), snap(2, "t"), 2, "t"},
		{"a snapshot behind a byte", "\x00" + snap(1, "s"), "", 0, ""},
		{"as many bytes as may be", snap(1, string(message(most))), "", 1, string(message(most))},
		{"more bytes than Save takes", snap(1, string(message(262144-6))), "", 1, string(message(262144 - 6))},
	} {
		found(t, c.name, content{1: c.one, 2: c.two}, has{gen: c.gen, text: c.text}, "")
		j := snap(uint64(c.gen), "a") + snap(uint64(c.gen), "b")
		found(t, c.name+", with records", content{j, c.one, c.two}, has{c.gen, c.text, []string{"a", "b"}}, j)
	}
}

// P12.1, P12.3: a frame that holds something else is no snapshot: what stands in the other slot is taken, if something does.
func TestSlotsOfSomethingElse(t *testing.T) {
	for what, b := range elses(1) {
		found(t, what+" in slot 1", content{1: b}, has{}, "")
		found(t, what+" in slot 1, and 2", content{snap(2, "a") + snap(1, "b"), b, snap(2, "t")}, has{2, "t", []string{"a"}}, snap(2, "a")+snap(1, "b"))
	}
	for what, b := range elses(2) {
		found(t, what+" in slot 2", content{2: b}, has{}, "")
		found(t, what+" in slot 2, and 1", content{snap(2, "a") + snap(1, "b"), snap(1, "t"), b}, has{1, "t", []string{"b"}}, snap(2, "a")+snap(1, "b"))
	}
}

// P12.2, P12.3: a snapshot is there wholly or not at all: of no part of its frame, and with no bit of it changed.
func TestSlotsOfPartsAndWrongBits(t *testing.T) {
	whole := snap(3, "snapshot")
	other := content{snap(2, "a") + snap(3, "b"), "", snap(2, "t")}
	for n := range len(whole) {
		other[1] = whole[:n]
		found(t, fmt.Sprintf("%d bytes of a snapshot", n), other, has{2, "t", []string{"a"}}, other[0])
		for bit := range 8 {
			other[1] = wrong(whole, n, bit)
			found(t, fmt.Sprintf("bit %d of byte %d wrong", bit, n), other, has{2, "t", []string{"a"}}, other[0])
		}
	}
	other[1] = whole
	found(t, "the whole snapshot", other, has{3, "snapshot", []string{"b"}}, other[0])
}

// P12.1, P12.3: of the journal's records those of the vault's generation are told, in order, whatever stands between them.
func TestJournalsOfSeveralGenerations(t *testing.T) {
	j := snap(0, "a") + snap(1, "b") + snap(2, "c") + snap(1, "") + snap(3, "d") + snap(lastGen, "e") + snap(1, "f") + snap(0, "g")
	for _, c := range []struct {
		one, two string
		want     has
	}{
		{"", "", has{0, "", []string{"a", "g"}}},
		{snap(1, "s"), "", has{1, "s", []string{"b", "", "f"}}},
		{"", snap(2, "s"), has{2, "s", []string{"c"}}},
		{snap(3, "s"), snap(2, "t"), has{3, "s", []string{"d"}}},
		{snap(3, "s"), snap(4, "t"), has{4, "t", nil}},
		{"", snap(lastGen, "s"), has{lastGen, "s", []string{"e"}}},
		{snap(lastGen-1, "s"), "", has{lastGen - 1, "s", nil}},
	} {
		found(t, fmt.Sprint("generation ", c.want.gen), content{j, c.one, c.two}, c.want, j)
		d := lay(t, content{j, c.one, c.two})
		v := open(t, "a tape", d)
		add(t, v, "new")
		finds(t, fmt.Sprint("Add behind records of other generations than ", c.want.gen), v, d, c.want.with("new"))
		stands(t, "Add behind records of other generations", d, content{j + snap(uint64(c.want.gen), "new"), c.one, c.two})
	}
}

// P12.1, P12.3: the journal ends where something else stands in a frame, or a number above 2^40: it is cut away there,
// with all that stands behind it.
func TestJournalsOfSomethingElse(t *testing.T) {
	for gen, one := range []string{"", snap(1, "s")} {
		g := uint64(gen)
		right := snap(g, "a") + snap(5, "x") + snap(g, "b")
		text := []string{"", "s"}[gen]
		for what, b := range elses(g) {
			for _, behind := range []string{"", snap(g, "c"), "\x00"} {
				found(t, what, content{right + b + behind, one}, has{gen, text, []string{"a", "b"}}, right)
				found(t, what+" at the beginning", content{b + behind, one}, has{gen: gen, text: text}, "")
			}
		}
	}
}

// P12.1, P12.3: the same of a record of a generation that isn't the vault's.
func TestJournalsOfSomethingElseOfAnotherGeneration(t *testing.T) {
	for what, b := range elses(7) {
		found(t, what, content{snap(1, "a") + b + snap(1, "b"), snap(1, "s")}, has{1, "s", []string{"a"}}, snap(1, "a"))
	}
}

// P12.1, P12.3: part of a frame and other bytes behind the journal's last right frame are cut away; what is added then
// stands behind that frame.
func TestJournalsWithOtherBytesBehind(t *testing.T) {
	right := snap(1, "a") + snap(9, "x") + snap(1, "b")
	want := has{1, "s", []string{"a", "b"}}
	whole := snap(1, "record")
	var rests []string
	for n := range len(whole) {
		rests = append(rests, whole[:n], wrong(whole, n, n%8), wrong(whole, n, 7)+snap(1, "c"), strings.Repeat("\x00", n), strings.Repeat("\xff", n))
	}
	for _, rest := range append(rests, strings.Repeat("\x01", 1000), string(message(100000))) {
		c := content{right + rest, snap(1, "s")}
		name := fmt.Sprintf("% .40x behind", rest)
		found(t, name, c, want, right)
		d := lay(t, c)
		v := open(t, name, d)
		add(t, v, "c")
		finds(t, name+", and Add", v, d, want.with("c"))
		stands(t, name+", and Add", d, content{right + snap(1, "c"), snap(1, "s")})
		found(t, name+" of nothing", content{rest, snap(1, "s")}, has{gen: 1, text: "s"}, "")
	}
}

// P12.3: steps that are open when a vault is opened count as what stands there: those of the journal are sure then.
func TestOpenSteps(t *testing.T) {
	d := lay(t, content{snap(1, "a"), snap(1, "s")})
	for _, b := range []string{snap(1, "b"), snap(1, "c")[:7]} {
		if e := d.Append(0, []byte(b)); e != 0 {
			t.Fatal(e)
		}
	}
	v := open(t, "open steps", d)
	finds(t, "open steps", v, d, has{1, "s", []string{"a", "b"}})
	stands(t, "open steps", d, content{snap(1, "a") + snap(1, "b"), snap(1, "s")})
}

// P12.3: records longer than Add takes, that yet go into a frame, are records.
func TestLongRecords(t *testing.T) {
	for _, n := range []int{most, most + 1, 262144 - 6} {
		j := snap(1, string(message(n)))
		found(t, fmt.Sprintf("a record of %d bytes", n), content{j + "\x00", snap(1, "s")}, has{1, "s", []string{string(message(n))}}, j)
	}
}
