package bits_test

import (
	"bytes"
	"fmt"
	"math"
	"strings"
	"testing"

	"jurat/api"
	"jurat/bits"
)

// turnOnce turns x by one place, so that Rot is held against something plainer than itself.
func turnOnce(x uint32, left bool) uint32 {
	if left {
		return x*2 + x>>31
	}
	return x/2 + x%2*(1<<31)
}

func words() []uint32 {
	return []uint32{0, 1, 2, 0x80000000, 0x80000001, 0x12345678, 0xdeadbeef, 0xfffffffe, math.MaxUint32}
}

func numbers() []uint64 {
	list := []uint64{0, 10, 258, 0x0102030405060708, 0xfedcba9876543210, math.MaxUint64}
	for i := range 64 {
		list = append(list, 1<<i, 1<<i-1)
	}
	return list
}

// byteLists has all lengths up to 10, with high bits, zeros in front, and the nil list.
func byteLists() [][]byte {
	list := [][]byte{nil, {}, make([]byte, 8), make([]byte, 9)}
	for n := range 11 {
		one := make([]byte, n)
		two := make([]byte, n)
		for i := range n {
			one[i] = byte(0x9d*i + 0x81)
			two[i] = byte(i)
		}
		list = append(list, one, two)
	}
	return list
}

// P1.1
func TestRotTurns(t *testing.T) {
	for _, x := range words() {
		right, left := x, x
		for n := range 200 {
			if got := bits.Rot(x, n); got != right {
				t.Errorf("Rot(%#x, %d) = %#x, want %#x", x, n, got, right)
			}
			if got := bits.Rot(x, -n); got != left {
				t.Errorf("Rot(%#x, %d) = %#x, want %#x", x, -n, got, left)
			}
			right, left = turnOnce(right, false), turnOnce(left, true)
		}
	}
}

// P1.1, P0.1
func TestRotExamplesAndEdges(t *testing.T) {
	cases := []struct {
		x    uint32
		n    int
		want uint32
	}{
		{1, 1, 1 << 31},
		{1, -1, 2},
		{0x12345678, 8, 0x78123456},
		{0x12345678, -8, 0x34567812},
		{0x12345678, 32, 0x12345678},
		{0x12345678, -32, 0x12345678},
		{0x12345678, 1_000_000_000, 0x12345678}, // 10^9 is 0 modulo 32
		{0x12345678, -1_000_000_008, 0x34567812},
		{0x12345678, math.MinInt, 0x12345678},
		{0x12345678, math.MinInt + 8, 0x78123456},
		{1, math.MaxInt, 2},
		{1, math.MinInt32, 1},
		{1, math.MaxInt32, 2},
	}
	for _, c := range cases {
		if got := bits.Rot(c.x, c.n); got != c.want {
			t.Errorf("Rot(%#x, %d) = %#x, want %#x", c.x, c.n, got, c.want)
		}
	}
}

// P1.2
func TestRotTwiceIsRotByBoth(t *testing.T) {
	const most = 1_000_000_000
	turns := []int{-most, -most + 1, -999_999_937, -100, -64, -33, -32, -31, -1, 0, 1, 5, 31, 32, 33, 64, 77, 999_999_937, most - 1, most}
	for _, x := range words() {
		for _, n := range turns {
			for _, m := range turns {
				if got, want := bits.Rot(bits.Rot(x, n), m), bits.Rot(x, n+m); got != want {
					t.Errorf("%#x by %d and %d: %#x, at once: %#x", x, n, m, got, want)
				}
			}
		}
	}
}

// P1.1
func TestWordReadsFourBytes(t *testing.T) {
	b := []byte{0, 1, 2, 3, 4, 0xff, 0xfe, 0xfd}
	cases := []struct {
		at   int
		want uint32
	}{{0, 0x00010203}, {1, 16909060}, {2, 0x020304ff}, {3, 0x0304fffe}, {4, 0x04fffefd}}
	for _, c := range cases {
		if got, e := bits.Word(b, c.at); got != c.want || e != api.OK {
			t.Errorf("Word(b, %d) = %#x, %d, want %#x", c.at, got, e, c.want)
		}
	}
	if got, e := bits.Word([]byte{255, 255, 255, 255}, 0); got != math.MaxUint32 || e != api.OK {
		t.Errorf("Word of the highest: %#x, %d", got, e)
	}
}

// P1.1, P0.1, P0.2
func TestWordRefuses(t *testing.T) {
	full := []byte{9, 9, 9, 9, 9, 9, 9, 9}
	cases := []struct {
		b  []byte
		at int
	}{
		{nil, 0}, {[]byte{}, 0}, {full[:1], 0}, {full[:3], 0}, {full[:3], -1},
		{full, -1}, {full, 5}, {full, 7}, {full, 8}, {full, 9},
		{full[:4], 1}, // the room behind the end isn't read
		{full, math.MaxInt}, {full, math.MaxInt - 3}, {full, math.MaxInt - 4}, {full, math.MinInt},
		{nil, math.MinInt}, {nil, math.MaxInt}, {nil, -4},
	}
	for _, c := range cases {
		if got, e := bits.Word(c.b, c.at); got != 0 || e != api.ErrArg {
			t.Errorf("Word(%v, %d) = %d, %d, want 0, ErrArg", c.b, c.at, got, e)
		}
	}
}

// P1.1
func TestBytesAreTheLowest(t *testing.T) {
	cases := []struct {
		n    uint64
		wide int
		want []byte
	}{
		{258, 2, []byte{1, 2}},
		{258, 0, nil},
		{258, 1, []byte{2}},
		{258, 3, []byte{0, 1, 2}},
		{0, 8, make([]byte, 8)},
		{0x0102030405060708, 8, []byte{1, 2, 3, 4, 5, 6, 7, 8}},
		{0x0102030405060708, 5, []byte{4, 5, 6, 7, 8}},
		{math.MaxUint64, 8, bytes.Repeat([]byte{255}, 8)},
	}
	for _, c := range cases {
		if got, e := bits.Bytes(c.n, c.wide); !bytes.Equal(got, c.want) || e != api.OK {
			t.Errorf("Bytes(%#x, %d) = %v, %d, want %v", c.n, c.wide, got, e, c.want)
		}
	}
}

// P1.1, P0.1, P0.2
func TestBytesRefuses(t *testing.T) {
	for _, wide := range []int{-1, 9, -8, 64, math.MinInt, math.MaxInt, math.MinInt32, math.MaxInt32} {
		if got, e := bits.Bytes(258, wide); len(got) != 0 || e != api.ErrArg {
			t.Errorf("Bytes(258, %d) = %v, %d, want none, ErrArg", wide, got, e)
		}
	}
}

// P1.1, P0.4
func TestNumberOfBytes(t *testing.T) {
	cases := []struct {
		b    []byte
		want uint64
	}{
		{nil, 0},
		{[]byte{}, 0},
		{[]byte{255}, 255},
		{[]byte{1, 2}, 258},
		{[]byte{0, 0, 1, 2}, 258},
		{[]byte{1, 2, 3, 4, 5, 6, 7, 8}, 0x0102030405060708},
		{bytes.Repeat([]byte{255}, 8), math.MaxUint64},
	}
	for _, c := range cases {
		if got, e := bits.Number(c.b); got != c.want || e != api.OK {
			t.Errorf("Number(%v) = %d, %d, want %d", c.b, got, e, c.want)
		}
	}
}

// P1.1, P0.2
func TestNumberRefuses(t *testing.T) {
	for _, b := range [][]byte{make([]byte, 9), bytes.Repeat([]byte{1}, 9), make([]byte, 1000)} {
		if got, e := bits.Number(b); got != 0 || e != api.ErrArg {
			t.Errorf("Number of %d bytes = %d, %d, want 0, ErrArg", len(b), got, e)
		}
	}
}

// P1.3
func TestNumberOfBytesIsTheNumber(t *testing.T) {
	for _, n := range numbers() {
		for wide := range 9 {
			b, e := bits.Bytes(n, wide)
			if e != api.OK || len(b) != wide {
				t.Fatalf("Bytes(%#x, %d): %v, %d", n, wide, b, e)
			}
			want := n
			if wide < 8 {
				want = n % (1 << (8 * wide))
			}
			if got, e := bits.Number(b); got != want || e != api.OK {
				t.Errorf("Number(Bytes(%#x, %d)) = %#x, %d, want %#x", n, wide, got, e, want)
			}
		}
	}
	for _, b := range byteLists() {
		if len(b) > 8 {
			continue
		}
		n, _ := bits.Number(b)
		if back, e := bits.Bytes(n, len(b)); !bytes.Equal(back, b) || e != api.OK {
			t.Errorf("Bytes(Number(%v)) = %v, %d", b, back, e)
		}
	}
}

// P1.1
func TestBitPlaces(t *testing.T) {
	cases := []struct {
		b       []byte
		i, want int
	}{
		{[]byte{0x80}, 0, 1}, {[]byte{0x80}, 1, 0}, {[]byte{0x80}, 7, 0},
		{[]byte{0x01}, 0, 0}, {[]byte{0x01}, 7, 1},
		{[]byte{0, 64}, 8, 0}, {[]byte{0, 64}, 9, 1}, {[]byte{0, 64}, 10, 0}, {[]byte{0, 65}, 15, 1},
	}
	for _, c := range cases {
		if got, e := bits.Bit(c.b, c.i); got != c.want || e != api.OK {
			t.Errorf("Bit(%v, %d) = %d, %d, want %d", c.b, c.i, got, e, c.want)
		}
	}
}

// P1.1, P0.1, P0.2
func TestBitRefuses(t *testing.T) {
	full := []byte{255, 255, 255, 255}
	cases := []struct {
		b []byte
		i int
	}{
		{nil, 0}, {[]byte{}, 0}, {nil, -1}, {full, -1}, {full, -7}, {full, -8}, {full, -9}, {full, 32}, {full, 33},
		{full[:1], 8}, // the room behind the end isn't read
		{full, math.MaxInt}, {full, math.MinInt}, {nil, math.MaxInt}, {nil, math.MinInt},
	}
	for _, c := range cases {
		if got, e := bits.Bit(c.b, c.i); got != 0 || e != api.ErrArg {
			t.Errorf("Bit(%v, %d) = %d, %d, want 0, ErrArg", c.b, c.i, got, e)
		}
	}
}

// P1.4
func TestBitsAreThoseOfTheNumber(t *testing.T) {
	for _, b := range byteLists() {
		if len(b) > 8 {
			continue
		}
		n, _ := bits.Number(b)
		for i := range 8 * len(b) {
			want := int(n >> (8*len(b) - 1 - i) & 1)
			if got, e := bits.Bit(b, i); got != want || e != api.OK {
				t.Errorf("Bit(%v, %d) = %d, %d, want %d", b, i, got, e, want)
			}
		}
	}
	for _, n := range numbers() {
		b, _ := bits.Bytes(n, 8)
		var sum uint64
		for i := range 64 {
			x, _ := bits.Bit(b, i)
			sum = 2*sum + uint64(x)
		}
		if sum != n {
			t.Errorf("the bits of %#x make %#x", n, sum)
		}
	}
}

// P1.1, P0.4
func TestHexIsTwoDigitsAByte(t *testing.T) {
	for _, b := range append(byteLists(), []byte{0x0a, 0xff}) {
		if got, want := bits.Hex(b), fmt.Sprintf("%x", b); got != want {
			t.Errorf("Hex(%v) = %q, want %q", b, got, want)
		}
	}
	for x := range 256 {
		if got, want := bits.Hex([]byte{byte(x)}), fmt.Sprintf("%02x", x); got != want {
			t.Errorf("Hex of %d = %q, want %q", x, got, want)
		}
	}
}

// P1.1
func TestUnhexReads(t *testing.T) {
	cases := []struct {
		s    string
		want []byte
	}{{"", nil}, {"00", []byte{0}}, {"0aff", []byte{0x0a, 0xff}}, {"0123456789abcdef", []byte{1, 0x23, 0x45, 0x67, 0x89, 0xab, 0xcd, 0xef}}}
	for _, c := range cases {
		if got, e := bits.Unhex(c.s); !bytes.Equal(got, c.want) || e != api.OK {
			t.Errorf("Unhex(%q) = %v, %d, want %v", c.s, got, e, c.want)
		}
	}
}

// P1.1, P0.1, P0.2
func TestUnhexRefuses(t *testing.T) {
	bad := []string{"0", "abc", "0A", "FF", "gg", "0g", "g0", " 0", "0 ", "0x", "0x00", "00\n", "00\x00", "\x00\x00", "é", "a\x80", "\xff\xff", "0０", "00 00", "-1", "0aff0G", "0aff0"}
	for _, s := range bad {
		if got, e := bits.Unhex(s); len(got) != 0 || e != api.ErrArg {
			t.Errorf("Unhex(%q) = %v, %d, want none, ErrArg", s, got, e)
		}
	}
}

// P1.3
func TestUnhexOfHexIsTheBytes(t *testing.T) {
	all := make([]byte, 256)
	for i := range all {
		all[i] = byte(i)
	}
	for _, b := range append(byteLists(), all) {
		if got, e := bits.Unhex(bits.Hex(b)); !bytes.Equal(got, b) || e != api.OK {
			t.Errorf("Unhex(Hex(%v)) = %v, %d", b, got, e)
		}
	}
}

// P1.3: of all texts of two bytes just those are read that Hex makes, each as what it was made of.
func TestUnhexReadsJustHex(t *testing.T) {
	read := 0
	for i := range 1 << 16 {
		s := string([]byte{byte(i >> 8), byte(i)})
		b, e := bits.Unhex(s)
		if e == api.OK {
			read++
			if back := bits.Hex(b); back != s {
				t.Errorf("Hex(Unhex(%q)) = %q", s, back)
			}
		} else if len(b) != 0 || e != api.ErrArg {
			t.Errorf("Unhex(%q) = %v, %d", s, b, e)
		}
	}
	if read != 256 {
		t.Errorf("%d texts of two bytes are read, want 256", read)
	}
}

// P0.3: nothing is written into what is handed in, nor behind its end.
func TestArgumentsStay(t *testing.T) {
	room := []byte{1, 2, 3, 4, 5, 6, 7, 8, 9, 10}
	kept := bytes.Clone(room)
	b := room[:5]
	bits.Word(b, 1)
	bits.Number(b)
	bits.Bit(b, 3)
	bits.Hex(b)
	if !bytes.Equal(room, kept) {
		t.Errorf("an argument was changed: %v", room)
	}
}

// P0.3, P0.5: answers share no memory, and each call answers the same again.
func TestAnswersAreNewMemory(t *testing.T) {
	calls := []func() ([]byte, api.Errno){
		func() ([]byte, api.Errno) { return bits.Bytes(0x01020304, 4) },
		func() ([]byte, api.Errno) { return bits.Unhex("01020304") },
	}
	for _, call := range calls {
		first, _ := call()
		second, _ := call()
		clear(first[:cap(first)])
		third, _ := call()
		want := []byte{1, 2, 3, 4}
		if !bytes.Equal(second, want) || !bytes.Equal(third, want) {
			t.Errorf("an answer was changed by writing into another: %v, %v", second, third)
		}
	}
	b := []byte{1, 2}
	text := bits.Hex(b)
	clear(b)
	if text != "0102" {
		t.Errorf("the digits hang on the list that was handed in: %q", text)
	}
}

// P0.1: long lists are no other than short ones.
func TestLongLists(t *testing.T) {
	b := bytes.Repeat([]byte{0xa5}, 1<<16)
	text := bits.Hex(b)
	if text != strings.Repeat("a5", 1<<16) {
		t.Error("Hex of a long list")
	}
	if back, e := bits.Unhex(text); !bytes.Equal(back, b) || e != api.OK {
		t.Error("Unhex of a long text", e)
	}
	if w, e := bits.Word(b, len(b)-4); w != 0xa5a5a5a5 || e != api.OK {
		t.Error("Word at a long list's end", w, e)
	}
	if x, e := bits.Bit(b, 8*len(b)-1); x != 1 || e != api.OK {
		t.Error("Bit at a long list's end", x, e)
	}
}
