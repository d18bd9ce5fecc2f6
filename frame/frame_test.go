package frame_test

import (
	"bytes"
	"encoding/hex"
	"fmt"
	"slices"
	"testing"

	"jurat/api"
	"jurat/frame"
)

// message is n bytes of which no two neighbours are alike.
func message(n int) []byte {
	b := make([]byte, n)
	for i := range n {
		b[i] = byte(0x9d*i + 0x81)
	}
	return b
}

func join(parts ...[]byte) []byte { return bytes.Join(parts, nil) }

func alike(a, b [][]byte) bool { return slices.EqualFunc(a, b, bytes.Equal) }

func unhex(t *testing.T, text string) []byte {
	t.Helper()
	b, err := hex.DecodeString(text)
	if err != nil {
		t.Fatal(err)
	}
	return b
}

func wrap(t *testing.T, record []byte) []byte {
	t.Helper()
	b, e := frame.Wrap(record)
	if e != api.OK {
		t.Fatalf("Wrap of %d bytes: %d", len(record), e)
	}
	return b
}

func wrapAll(t *testing.T, records [][]byte) []byte {
	t.Helper()
	var b []byte
	for _, record := range records {
		b = append(b, wrap(t, record)...)
	}
	return b
}

// scans tells whether Scan of b answers just these records, and so many bytes.
func scans(t *testing.T, name string, b []byte, records [][]byte, n int) {
	t.Helper()
	if got, m := frame.Scan(b); m != n || !alike(got, records) {
		t.Errorf("%s: Scan tells %d records and %d bytes, not %d and %d", name, len(got), m, len(records), n)
	}
}

// some is records that are unlike each other, with the lengths at which a frame is put together in another way.
func some() [][]byte {
	return [][]byte{[]byte("first"), nil, {0}, message(40), {}, message(255), message(256), {9}, nil}
}

// P11.1, P11.2: the frames of small records, as another program worked them out.
func TestKnownFrames(t *testing.T) {
	for _, c := range []struct {
		record []byte
		frame  string
	}{
		{nil, "006e340b9cffb37a98"},
		{[]byte{}, "006e340b9cffb37a98"},
		{[]byte{0}, "0101009f44ac6acb8a37b0"},
		{[]byte("a"), "010161daac01eaa51e59dd"},
		{[]byte("abc"), "0103616263a18bb1cc0780ac9b"},
		{[]byte("first"), "0105666972737494e1da42c5aeeec4"},
		{make([]byte, 8), "010800000000000000006fc8c6364b779b27"},
	} {
		want := unhex(t, c.frame)
		if got, e := frame.Wrap(c.record); e != api.OK || !bytes.Equal(got, want) {
			t.Errorf("Wrap of % x: % x and %d, not % x", c.record, got, e, want)
		}
		scans(t, c.frame, want, [][]byte{c.record}, len(want))
	}
}

// P11.1, P11.2: frames of the lengths at which a text's bytes have one byte more, and of the greatest one.
func TestLengths(t *testing.T) {
	for _, c := range []struct {
		n         int
		size      int
		first     string
		behindAll string
	}{
		{255, 265, "01ff811ebb", "eba1500fe8ed3c6a"},
		{256, 267, "020100811e", "ca2b2e1a91d67dd2"},
		{65535, 65546, "02ffff811e", "60774ba0ff3057c3"},
		{65536, 65548, "0301000081", "b85a6e3f212a532a"},
		{262144, 262156, "0304000081", "3ff5cc0cd1b537c2"},
	} {
		b := wrap(t, message(c.n))
		if len(b) != c.size || !bytes.HasPrefix(b, unhex(t, c.first)) || !bytes.HasSuffix(b, unhex(t, c.behindAll)) {
			t.Errorf("Wrap of %d bytes has %d bytes, % x .. % x", c.n, len(b), b[:5], b[len(b)-8:])
		}
		scans(t, fmt.Sprint(c.n), b, [][]byte{message(c.n)}, c.size)
		holds(t, fmt.Sprint(c.n), join(b, b, []byte{1}))
	}
}

// P11.1: a record has at most MaxRecord bytes. P0.2: beside the error there are none.
func TestWrapOfTooMany(t *testing.T) {
	for _, n := range []int{most + 1, most + 2, 2 * most, 1 << 24} {
		if b, e := frame.Wrap(make([]byte, n)); len(b) != 0 || e != api.ErrLong {
			t.Errorf("Wrap of %d bytes: %d bytes and %d", n, len(b), e)
		}
	}
}

// P11.1: examples of the chapter.
func TestExamples(t *testing.T) {
	b := wrap(t, nil)
	if len(b) != 9 || b[0] != 0 {
		t.Errorf("the frame of nothing: % x", b)
	}
	scans(t, "the frame of nothing", b, [][]byte{nil}, 9)
	scans(t, "a byte behind it", append(b, 1), [][]byte{nil}, 9)
}

// P11.1, P0.4: of nothing no record is told.
func TestScanOfNothing(t *testing.T) {
	scans(t, "nil", nil, nil, 0)
	scans(t, "no bytes", []byte{}, nil, 0)
}

// P11.2: of many frames all records are told, in order.
func TestScanOfMany(t *testing.T) {
	var records [][]byte
	for i := range 3000 {
		records = append(records, message(i%37))
	}
	b := wrapAll(t, records)
	scans(t, "many", b, records, len(b))

	empty := make([][]byte, 20000)
	b = wrapAll(t, empty)
	scans(t, "empty ones", b, empty, 9*len(empty))
}

// P11.2: whatever stands behind frames, at least their records are told; a frame that isn't right hides those behind it.
func TestWhatStandsBehind(t *testing.T) {
	b := wrapAll(t, some())
	for value := range 256 {
		scans(t, "a byte behind", join(b, []byte{byte(value)}), some(), len(b))
		scans(t, "many bytes behind", join(b, bytes.Repeat([]byte{byte(value)}, 300)), some(), len(b))
	}
	for _, record := range some() {
		one := wrap(t, record)
		for n := range len(one) {
			scans(t, "part of a frame behind", join(b, one[:n]), some(), len(b))
		}
		scans(t, "a frame behind", join(b, one), append(some(), record), len(b)+len(one))
		scans(t, "a frame behind a byte", join(b, []byte{5}, one), some(), len(b))
	}
}

// P11.3: of each beginning of frames just those records are told whose frames are there wholly.
func TestBeginnings(t *testing.T) {
	var b []byte
	var ends []int
	for _, record := range some() {
		b = append(b, wrap(t, record)...)
		ends = append(ends, len(b))
	}
	for n := range len(b) + 1 {
		whole, size := 0, 0
		for whole < len(ends) && ends[whole] <= n {
			size = ends[whole]
			whole++
		}
		scans(t, fmt.Sprint("the first ", n), b[:n], some()[:whole], size)
	}
}

// P11.3: of the greatest record's frame no beginning is a record's.
func TestBeginningsOfTheGreatest(t *testing.T) {
	one := wrap(t, message(most))
	for _, n := range []int{1, 2, 3, 4, 5, 1000, most, most + 3, most + 4, most + 5, most + 11} {
		scans(t, fmt.Sprint("the first ", n), one[:n], nil, 0)
	}
}

// P11.3: a frame whose last bytes are 0 isn't there wholly without them.
func TestSumsThatEndInZeros(t *testing.T) {
	found := 0
	for i := range 5000 {
		record := []byte{byte(i), byte(i >> 8)}
		one := wrap(t, record)
		for n := len(one) - 1; one[n] == 0; n-- {
			found++
			scans(t, fmt.Sprintf("% x without zeros", record), one[:n], nil, 0)
		}
	}
	if found < 5 {
		t.Errorf("only %d sums end in zeros", found)
	}
}

// P11.1: a frame of which one bit is another one is none, and hides those behind it: whichever frame it is.
func TestBitsThatAreWrong(t *testing.T) {
	records := [][]byte{[]byte("first"), message(300), nil, {0}}
	b := wrapAll(t, records)
	which, begin, end := 0, 0, len(wrap(t, records[0]))
	for i := range b {
		if i == end {
			which++
			begin, end = end, end+len(wrap(t, records[which]))
		}
		for bit := range 8 {
			b[i] ^= 1 << bit
			scans(t, fmt.Sprintf("bit %d of byte %d is wrong", bit, i), b, records[:which], begin)
			b[i] ^= 1 << bit
		}
	}
}

// P11.1: each value of a byte that isn't the right one: of the length, the record and the sum, in all of their places.
func TestBytesThatAreWrong(t *testing.T) {
	two := [][]byte{message(7), message(256)}
	first, second := wrap(t, two[0]), wrap(t, two[1])
	tail := wrap(t, []byte("tail"))
	for i := range first {
		for value := range 255 {
			wrong := bytes.Clone(first)
			wrong[i] += byte(value + 1)
			scans(t, "the first frame", join(wrong, second, tail), nil, 0)
			scans(t, "the last frame", join(second, wrong), two[1:], len(second))
		}
	}
	for _, i := range []int{0, 1, 2, 3, 130, 258, 259, 262, 266} {
		for value := range 255 {
			wrong := bytes.Clone(second)
			wrong[i] += byte(value + 1)
			scans(t, "the middle frame", join(first, wrong, tail), two[:1], len(first))
		}
	}
}

// P11.1: sums that aren't the text's bytes': of the record alone, of another record, the last eight, those of nothing.
func TestSumsOfOtherThings(t *testing.T) {
	record := message(20)
	text := wrap(t, record)[:22]
	for name, sum := range map[string][]byte{
		"of the record": framed(record)[20:],
		"of another":    framed(wrap(t, message(21))[:23])[23:],
		"of no bytes":   framed(nil),
		"zeros":         make([]byte, 8),
		"turned":        {text[0], 1, 2, 3, 4, 5, 6, 7},
	} {
		scans(t, name, join(text, sum), nil, 0)
		scans(t, name, join(text, sum, make([]byte, 40)), nil, 0)
	}
}

// P11.1: a length that isn't in the shortest form is none, though the sum of all is right.
func TestLengthsThatAreNotShort(t *testing.T) {
	ahead := wrap(t, []byte("ahead"))
	for _, length := range []string{
		"0100", "020000", "020003", "03000003", "0400000003", "080000000000000003", "0800000000000000ff", "03000100",
		"0903", "09000000000000000003", "ff03", "10",
	} {
		b := framed(join(unhex(t, length), []byte("abc")))
		scans(t, length, b, nil, 0)
		scans(t, length, join(ahead, b, ahead), [][]byte{[]byte("ahead")}, len(ahead))
		scans(t, length+" of nothing", framed(unhex(t, length)), nil, 0)
	}
}

// P11.1: a length above MaxRecord is none, though all its bytes are there, and the sum of all is right.
func TestTooLongWithAllItsBytes(t *testing.T) {
	ahead := wrap(t, nil)
	for _, n := range []int{most + 1, most + 2, 2 * most, 1 << 24} {
		b := plainWrap(message(n))
		scans(t, fmt.Sprint(n), b, nil, 0)
		scans(t, fmt.Sprint(n, " behind a frame"), join(ahead, b, ahead), [][]byte{nil}, 9)
	}
	b := plainWrap(message(most)) // the same bytes, made by the same hand, of as many as may be
	scans(t, "as many as may be", b, [][]byte{message(most)}, len(b))
}

// P0.1: very great lengths with few bytes behind them.
func TestGreatLengths(t *testing.T) {
	ahead := wrap(t, []byte{3})
	for _, length := range []string{
		"03040000", "03ffffff", "047fffffff", "0480000000", "04ffffffff", "050100000000", "06ffffffffffff", "077fffffffffffff",
		"087fffffffffffffff", "088000000000000000", "08ffffffffffffffff", "08fffffffffffffff8", "087ffffffffffffff7",
	} {
		for n := range 20 {
			b := append(unhex(t, length), message(n)...)
			scans(t, length, b, nil, 0)
			scans(t, length, framed(b), nil, 0)
			scans(t, length, join(ahead, b), [][]byte{{3}}, len(ahead))
		}
	}
}

// P11.4: the frames of what Scan tells are the bytes that it counts, wherever frames are cut or changed.
func TestCountedBytes(t *testing.T) {
	b := wrapAll(t, some())
	for n := range len(b) + 1 {
		holds(t, "a beginning", b[:n:n])
		holds(t, "an end", b[n:])
	}
	for i := range b {
		b[i]++
		holds(t, "a byte is wrong", b)
		b[i]--
	}
}

// P0.3: neither call writes into what was handed in, nor into the room behind it.
func TestHandedInStays(t *testing.T) {
	room := bytes.Repeat([]byte{0xaa}, 400)
	copy(room, message(100))
	was := bytes.Clone(room)
	wrap(t, room[:100])
	if !bytes.Equal(room, was) {
		t.Error("Wrap wrote into what was handed in")
	}

	frames := wrapAll(t, some())
	room = append(frames, bytes.Repeat([]byte{0xaa}, 400)...)
	was = bytes.Clone(room)
	for n := range len(frames) + 1 {
		frame.Scan(room[:n])
	}
	if !bytes.Equal(room, was) {
		t.Error("Scan wrote into what was handed in")
	}
}

// P11.1, P0.3: what stands in the room behind the end is no part of what is scanned.
func TestRoomIsNotScanned(t *testing.T) {
	one := wrap(t, []byte("first"))
	two := join(one, one)
	for n := range len(one) {
		scans(t, "the room has the rest", two[:n], nil, 0)
		scans(t, "the room has the rest", two[:len(one)+n], [][]byte{[]byte("first")}, len(one))
	}
}

// fill writes into all of a list's memory, the room behind its end too.
func fill(b []byte) {
	b = b[:cap(b)]
	for i := range b {
		b[i] = 0x5a
	}
}

// P0.3: what Wrap answers is memory of its own.
func TestWrapIsNew(t *testing.T) {
	for _, record := range append(some(), message(most)) {
		b := bytes.Clone(record)
		one, two := wrap(t, b), wrap(t, b)
		fill(one)
		if !bytes.Equal(b, record) || !bytes.Equal(two, plainWrap(record)) {
			t.Errorf("what Wrap of %d bytes answers shares its memory", len(record))
		}
		fill(b)
		if !bytes.Equal(two, plainWrap(record)) || !bytes.Equal(wrap(t, record), plainWrap(record)) {
			t.Errorf("what Wrap of %d bytes answers hangs on what was handed in", len(record))
		}
	}
}

// P0.3: what Scan answers is memory of its own, each record too.
func TestScanIsNew(t *testing.T) {
	records := some()
	b := wrapAll(t, records)
	was := bytes.Clone(b)
	one, _ := frame.Scan(b)
	two, _ := frame.Scan(b)
	for i := range one {
		fill(one[i])
		if !alike(one[i+1:], records[i+1:]) {
			t.Errorf("the record %d shares its memory with those behind it", i)
		}
	}
	for i := range one[:cap(one)] {
		one[:cap(one)][i] = []byte("other")
	}
	if !bytes.Equal(b, was) || !alike(two, records) {
		t.Error("what Scan answers shares its memory")
	}
	fill(b)
	if !alike(two, records) {
		t.Error("what Scan answers hangs on what was handed in")
	}
	fill(two[len(two)-2])
	if !alike(two[:len(two)-2], records[:len(two)-2]) {
		t.Error("the last records share their memory with those ahead")
	}
}

// P0.5: what is answered hangs on the argument alone.
func TestSameAgain(t *testing.T) {
	b := wrapAll(t, some())
	for range 3 {
		frame.Scan(message(300))
		frame.Wrap(make([]byte, most+1))
		if !bytes.Equal(wrapAll(t, some()), b) {
			t.Error("Wrap answers otherwise")
		}
		scans(t, "again", b, some(), len(b))
	}
}
