package wire_test

import (
	"bytes"
	"fmt"
	"math"
	"math/big"
	"math/rand"
	"slices"
	"testing"

	"jurat/api"
	"jurat/wire"
)

// message is n bytes of which no two neighbours are alike.
func message(n int) []byte {
	b := make([]byte, n)
	for i := range n {
		b[i] = byte(0x9d*i + 0x81)
	}
	return b
}

func join(parts ...[]byte) []byte { return bytes.Join(parts, nil) }

func numbers() []uint64 {
	list := []uint64{0, 5, 100, 258, 0x0102030405060708, 0xfedcba9876543210, math.MaxUint64}
	for i := range 64 {
		list = append(list, 1<<i, 1<<i-1)
	}
	return list
}

func texts() [][]byte {
	list := [][]byte{nil, {}, {0}, {9}, {0, 0}, []byte("ab"), make([]byte, 40)}
	for _, n := range []int{1, 31, 32, 127, 254, 255, 256, 257, 1000, 65535, 65536, 65537} {
		list = append(list, message(n))
	}
	return list
}

func lists() [][][]byte {
	return [][][]byte{
		nil, {}, {nil}, {{}}, {nil, nil, nil}, {[]byte("ab"), nil}, {nil, []byte("ab")}, {{0}, {1}, {2}, {3}},
		{message(300), nil, message(1)}, slices.Repeat([][]byte{{7}}, 255), slices.Repeat([][]byte{nil}, 256),
		slices.Repeat([][]byte{message(3), nil}, 600), texts(),
	}
}

// plainNum, plainText and plainList are worked out by the document's words, and share no code with the package.
func plainNum(n uint64) []byte {
	b := new(big.Int).SetUint64(n).Bytes()
	return append([]byte{byte(len(b))}, b...)
}

func plainText(b []byte) []byte { return join(plainNum(uint64(len(b))), b) }

func plainList(l [][]byte) []byte {
	parts := [][]byte{plainNum(uint64(len(l)))}
	for _, b := range l {
		parts = append(parts, plainText(b))
	}
	return join(parts...)
}

// plain is a second reader: it goes on byte by byte, and goes back where it fails.
type plain struct {
	b   []byte
	at  int
	err api.Errno
}

func (p *plain) left() int { return len(p.b) - p.at }

// try runs a reading that answers an error; with one the place is as it was.
func (p *plain) try(read func() api.Errno) bool {
	if p.err != api.OK {
		return false
	}
	begin := p.at
	if p.err = read(); p.err != api.OK {
		p.at = begin
	}
	return p.err == api.OK
}

func (p *plain) any(n *big.Int) api.Errno {
	if p.left() == 0 {
		return api.ErrShort
	}
	count := int(p.b[p.at])
	p.at++
	if count > 8 {
		return api.ErrForm
	}
	if p.left() < count {
		return api.ErrShort
	}
	if count > 0 && p.b[p.at] == 0 {
		return api.ErrForm
	}
	for range count {
		n.Lsh(n, 8)
		n.Add(n, big.NewInt(int64(p.b[p.at])))
		p.at++
	}
	return api.OK
}

func (p *plain) one(most int, text *[]byte) api.Errno {
	n := new(big.Int)
	if e := p.any(n); e != api.OK {
		return e
	}
	if n.Cmp(big.NewInt(int64(most))) > 0 {
		return api.ErrLong
	}
	for range n.Int64() {
		if p.left() == 0 {
			return api.ErrShort
		}
		*text = append(*text, p.b[p.at])
		p.at++
	}
	return api.OK
}

func (p *plain) all(most, each int, list *[][]byte) api.Errno {
	n := new(big.Int)
	if e := p.any(n); e != api.OK {
		return e
	}
	if n.Cmp(big.NewInt(int64(most))) > 0 {
		return api.ErrLong
	}
	for range n.Int64() {
		var text []byte
		if e := p.one(each, &text); e != api.OK {
			return e
		}
		*list = append(*list, text)
	}
	return api.OK
}

func (p *plain) num(most uint64) uint64 {
	n := new(big.Int)
	if !p.try(func() api.Errno {
		if e := p.any(n); e != api.OK {
			return e
		}
		if n.Cmp(new(big.Int).SetUint64(most)) > 0 {
			return api.ErrLong
		}
		return api.OK
	}) {
		return 0
	}
	return n.Uint64()
}

func (p *plain) text(most int) (text []byte) {
	if !p.try(func() api.Errno { return p.one(most, &text) }) {
		return nil
	}
	return text
}

func (p *plain) list(most, each int) (list [][]byte) {
	if !p.try(func() api.Errno { return p.all(most, each, &list) }) {
		return nil
	}
	return list
}

// raw is n bytes, or n bytes 0.
func (p *plain) raw(n int) []byte {
	b := make([]byte, n)
	p.try(func() api.Errno {
		if p.left() < n {
			return api.ErrShort
		}
		p.at += copy(b, p.b[p.at:p.at+n])
		return api.OK
	})
	return b
}

func (p *plain) end() api.Errno {
	p.try(func() api.Errno {
		if p.left() > 0 {
			return api.ErrRest
		}
		return api.OK
	})
	return p.err
}

func sameLists(a, b [][]byte) bool { return slices.EqualFunc(a, b, bytes.Equal) }

// stands tells where a reader that met an error, or none, is not as it should be.
func stands(t *testing.T, what string, r *wire.Reader, e api.Errno, left int) {
	t.Helper()
	if r.Err() != e || r.Left() != left {
		t.Errorf("%s: error %d, %d left, want %d, %d", what, r.Err(), r.Left(), e, left)
	}
}

// stuck tells whether a reader that met e answers zeros to all calls and stays.
func stuck(t *testing.T, what string, r *wire.Reader, e api.Errno, left int) {
	t.Helper()
	for range 2 {
		stands(t, what, r, e, left)
		n, text, list := r.Num(math.MaxUint64), r.Text(math.MaxInt), r.List(math.MaxInt, math.MaxInt)
		if n != 0 || len(text) != 0 || len(list) != 0 {
			t.Errorf("%s: behind the error come %d, %x, %x", what, n, text, list)
		}
		r.Num(0)
		r.Text(-1)
		r.List(-1, -1)
		if b, d := r.Byte(), r.Digest(); b != 0 || d != (api.Digest{}) {
			t.Errorf("%s: behind the error come %d, %x", what, b, d)
		}
		if got := r.End(); got != e {
			t.Errorf("%s: End = %d, want %d", what, got, e)
		}
		stands(t, what, r, e, left)
	}
}

// P4.1: the document's examples, and the edges of each count.
func TestNumKnown(t *testing.T) {
	cases := []struct {
		n    uint64
		want []byte
	}{
		{0, []byte{0}}, {1, []byte{1, 1}}, {5, []byte{1, 5}}, {255, []byte{1, 255}},
		{256, []byte{2, 1, 0}}, {65535, []byte{2, 255, 255}}, {65536, []byte{3, 1, 0, 0}},
		{1 << 32, []byte{5, 1, 0, 0, 0, 0}}, {1<<56 - 1, []byte{7, 255, 255, 255, 255, 255, 255, 255}},
		{1 << 56, []byte{8, 1, 0, 0, 0, 0, 0, 0, 0}}, {1 << 63, []byte{8, 128, 0, 0, 0, 0, 0, 0, 0}},
		{0x0102030405060708, []byte{8, 1, 2, 3, 4, 5, 6, 7, 8}},
		{math.MaxUint64, []byte{8, 255, 255, 255, 255, 255, 255, 255, 255}},
	}
	for _, c := range cases {
		if got := wire.Num(c.n); !bytes.Equal(got, c.want) {
			t.Errorf("Num(%d) = %x, want %x", c.n, got, c.want)
		}
	}
}

// P4.1
func TestWritingByTheWords(t *testing.T) {
	for _, n := range numbers() {
		if got, want := wire.Num(n), plainNum(n); !bytes.Equal(got, want) {
			t.Errorf("Num(%d) = %x, want %x", n, got, want)
		}
	}
	for _, b := range texts() {
		if got, want := wire.Text(b), plainText(b); !bytes.Equal(got, want) {
			t.Errorf("Text of %d bytes = %.20x, want %.20x", len(b), got, want)
		}
	}
	for _, l := range lists() {
		if got, want := wire.List(l), plainList(l); !bytes.Equal(got, want) {
			t.Errorf("List of %d texts = %.20x, want %.20x", len(l), got, want)
		}
	}
}

// P4.1: the document's examples, nothing, and a length of two bytes.
func TestTextAndListKnown(t *testing.T) {
	if got := wire.Text([]byte("ab")); !bytes.Equal(got, []byte{1, 2, 'a', 'b'}) {
		t.Errorf("Text of ab = %x", got)
	}
	if got := wire.Text(nil); !bytes.Equal(got, []byte{0}) {
		t.Errorf("Text of nothing = %x", got)
	}
	if got := wire.Text(message(256)); !bytes.Equal(got, join([]byte{2, 1, 0}, message(256))) {
		t.Errorf("Text of 256 bytes = %x", got)
	}
	if got := wire.List([][]byte{[]byte("ab"), nil}); !bytes.Equal(got, []byte{1, 2, 1, 2, 'a', 'b', 0}) {
		t.Errorf("List of ab and nothing = %x", got)
	}
	if got := wire.List(nil); !bytes.Equal(got, []byte{0}) {
		t.Errorf("List of none = %x", got)
	}
	if got := wire.List([][]byte{nil}); !bytes.Equal(got, []byte{1, 1, 0}) {
		t.Errorf("List of nothing = %x", got)
	}
}

// numErrors are bytes of no number, and the error that comes ahead of whatever most is.
var numErrors = []struct {
	b []byte
	e api.Errno
}{
	{nil, api.ErrShort}, {[]byte{}, api.ErrShort},
	{[]byte{9}, api.ErrForm}, {[]byte{255}, api.ErrForm}, {[]byte{128, 1}, api.ErrForm}, // above 8, though too few are left
	{join([]byte{9}, message(9)), api.ErrForm}, {join([]byte{9}, make([]byte, 9)), api.ErrForm},
	{join([]byte{255}, message(255)), api.ErrForm},
	{[]byte{1}, api.ErrShort}, {[]byte{2, 1}, api.ErrShort}, {join([]byte{8}, message(7)), api.ErrShort},
	{[]byte{2, 0}, api.ErrShort}, {join([]byte{8}, make([]byte, 7)), api.ErrShort}, // too few, though the first is 0
	{[]byte{1, 0}, api.ErrForm}, {[]byte{2, 0, 1}, api.ErrForm}, {[]byte{2, 0, 0}, api.ErrForm},
	{[]byte{8, 0, 1, 1, 1, 1, 1, 1, 1}, api.ErrForm}, {[]byte{1, 0, 5}, api.ErrForm},
}

// P4.1: a number's errors, in their order, met by Num, by Text and by List whatever most is.
func TestNumbersErrors(t *testing.T) {
	for _, c := range numErrors {
		for _, most := range []uint64{0, 1, 100, math.MaxUint64} {
			r := wire.Read(c.b)
			if n := r.Num(most); n != 0 {
				t.Errorf("Num(%d) of %x = %d", most, c.b, n)
			}
			stuck(t, fmt.Sprintf("Num(%d) of %x", most, c.b), r, c.e, len(c.b))
		}
		for _, most := range []int{math.MinInt, -1, 0, 1, 100, math.MaxInt} {
			r := wire.Read(c.b)
			if text := r.Text(most); len(text) != 0 {
				t.Errorf("Text(%d) of %x = %x", most, c.b, text)
			}
			stuck(t, fmt.Sprintf("Text(%d) of %x", most, c.b), r, c.e, len(c.b))
			r = wire.Read(c.b)
			if list := r.List(most, 100); len(list) != 0 {
				t.Errorf("List(%d, 100) of %x = %x", most, c.b, list)
			}
			stuck(t, fmt.Sprintf("List(%d, 100) of %x", most, c.b), r, c.e, len(c.b))
		}
	}
}

// P4.1: most is the greatest number that is read.
func TestNumMost(t *testing.T) {
	for _, n := range numbers() {
		b := append(plainNum(n), 3)
		for _, most := range []uint64{n, n + 1, math.MaxUint64} {
			if most < n {
				continue
			}
			r := wire.Read(b)
			if got := r.Num(most); got != n {
				t.Errorf("Num(%d) of %x = %d", most, b, got)
			}
			stands(t, fmt.Sprintf("Num(%d) of %x", most, b), r, api.OK, 1)
		}
		for _, most := range []uint64{0, n / 2, n - 1} {
			if most >= n {
				continue
			}
			r := wire.Read(b)
			if got := r.Num(most); got != 0 {
				t.Errorf("Num(%d) of %x = %d", most, b, got)
			}
			stuck(t, fmt.Sprintf("Num(%d) of %x", most, b), r, api.ErrLong, len(b))
		}
	}
}

// P4.1: a text's errors, of which a length above most comes ahead of bytes that are too few.
func TestTextErrors(t *testing.T) {
	highest := bytes.Repeat([]byte{255}, 8)
	cases := []struct {
		b    []byte
		most int
		e    api.Errno
	}{
		{[]byte{0}, -1, api.ErrLong}, {[]byte{0}, math.MinInt, api.ErrLong}, {[]byte{1, 1, 'a'}, -1, api.ErrLong},
		{[]byte{1, 1, 'a'}, 0, api.ErrLong}, {[]byte{1, 2, 'a', 'b'}, 1, api.ErrLong}, {[]byte{1, 5}, 4, api.ErrLong},
		{[]byte{1, 5}, 5, api.ErrShort}, {[]byte{1, 1}, 1, api.ErrShort}, {[]byte{1, 3, 'a', 'b'}, 9, api.ErrShort},
		{plainText(message(256))[:258], 256, api.ErrShort}, {plainText(message(256)), 255, api.ErrLong},
		{join([]byte{8}, highest), math.MaxInt, api.ErrLong}, {join([]byte{8}, highest), -1, api.ErrLong},
		{[]byte{8, 128, 0, 0, 0, 0, 0, 0, 0}, math.MaxInt, api.ErrLong},
		{plainNum(math.MaxInt), math.MaxInt, api.ErrShort}, {plainNum(math.MaxInt), math.MaxInt - 1, api.ErrLong},
		{append(plainNum(math.MaxInt-8), 1), math.MaxInt, api.ErrShort},
		{append(plainNum(1<<32), 1), math.MaxInt, api.ErrShort}, {append(plainNum(1<<32+1), 1), 1 << 40, api.ErrShort},
	}
	for _, c := range cases {
		r := wire.Read(c.b)
		if text := r.Text(c.most); len(text) != 0 {
			t.Errorf("Text(%d) of %.20x = %x", c.most, c.b, text)
		}
		stuck(t, fmt.Sprintf("Text(%d) of %.20x", c.most, c.b), r, c.e, len(c.b))
	}
}

// P4.1: a text of just most bytes is read, nothing with most 0 too.
func TestTextMost(t *testing.T) {
	for _, b := range texts() {
		for _, most := range []int{len(b), len(b) + 1, 1 << 40, math.MaxInt} {
			r := wire.Read(append(plainText(b), 3, 4))
			if got := r.Text(most); !bytes.Equal(got, b) {
				t.Errorf("Text(%d) of %d bytes = %.20x", most, len(b), got)
			}
			stands(t, fmt.Sprintf("Text(%d) of %d bytes", most, len(b)), r, api.OK, 2)
		}
	}
}

// P4.1: a list's errors; whichever text meets one, the reader stays ahead of the whole list.
func TestListErrors(t *testing.T) {
	cases := []struct {
		b          []byte
		most, each int
		e          api.Errno
	}{
		{[]byte{0}, -1, 9, api.ErrLong}, {[]byte{0}, math.MinInt, -1, api.ErrLong}, {[]byte{1, 1, 0}, -1, 9, api.ErrLong},
		{[]byte{1, 1, 0}, 0, 9, api.ErrLong}, {[]byte{1, 2, 0, 0}, 1, 9, api.ErrLong},
		{[]byte{1, 2}, 1, 9, api.ErrLong}, {[]byte{1, 2, 9}, 1, -1, api.ErrLong}, // ahead of what the texts meet
		{[]byte{1, 2}, 2, 9, api.ErrShort}, {[]byte{1, 2, 0}, 2, 9, api.ErrShort}, {[]byte{1, 1}, 9, -1, api.ErrShort},
		{[]byte{1, 1, 9}, 9, 9, api.ErrForm}, {[]byte{1, 1, 9}, 9, -1, api.ErrForm}, {[]byte{1, 1, 1, 0}, 9, -1, api.ErrForm},
		{[]byte{1, 1, 2, 0}, 9, -1, api.ErrShort}, {[]byte{1, 1, 1, 3, 'a', 'b'}, 9, 3, api.ErrShort},
		{[]byte{1, 1, 1, 3, 'a', 'b'}, 9, 2, api.ErrLong}, {[]byte{1, 1, 0}, 9, -1, api.ErrLong},
		{[]byte{1, 1, 0}, 1, math.MinInt, api.ErrLong}, {[]byte{1, 1, 1, 1, 'a'}, 9, 0, api.ErrLong},
		{[]byte{1, 2, 1, 2, 'a', 'b', 9}, 2, 2, api.ErrForm}, {[]byte{1, 2, 1, 2, 'a', 'b', 1, 0}, 2, 2, api.ErrForm},
		{[]byte{1, 2, 1, 2, 'a', 'b', 1, 3, 1, 1, 1}, 2, 2, api.ErrLong}, {[]byte{1, 2, 1, 2, 'a', 'b', 1, 2, 1}, 2, 2, api.ErrShort},
		{[]byte{1, 2, 1, 2, 'a', 'b', 1, 9, 1}, 2, 2, api.ErrLong}, {[]byte{1, 2, 1, 2, 'a', 'b', 9, 9}, 2, 1, api.ErrLong}, // the first text's comes first
		{[]byte{8, 255, 255, 255, 255, 255, 255, 255, 255}, math.MaxInt, 9, api.ErrLong},
		{[]byte{8, 128, 0, 0, 0, 0, 0, 0, 0}, math.MaxInt, 9, api.ErrLong},
		{plainNum(math.MaxInt), math.MaxInt, math.MaxInt, api.ErrShort}, {plainNum(math.MaxInt), math.MaxInt - 1, 0, api.ErrLong},
		{join(plainNum(math.MaxInt), make([]byte, 1000)), math.MaxInt, 0, api.ErrShort},
		{join([]byte{1, 1}, plainNum(math.MaxInt), make([]byte, 10)), math.MaxInt, math.MaxInt, api.ErrShort},
		{join([]byte{1, 1}, plainNum(math.MaxUint64), make([]byte, 10)), math.MaxInt, math.MaxInt, api.ErrLong},
	}
	for _, c := range cases {
		what := fmt.Sprintf("List(%d, %d) of %.20x", c.most, c.each, c.b)
		r := wire.Read(c.b)
		if list := r.List(c.most, c.each); len(list) != 0 {
			t.Errorf("%s = %x", what, list)
		}
		stuck(t, what, r, c.e, len(c.b))
	}
}

// P4.1: just most texts of just each bytes are read; where there are no texts, each is not asked.
func TestListMost(t *testing.T) {
	for _, l := range lists() {
		longest := 0
		for _, b := range l {
			longest = max(longest, len(b))
		}
		for _, more := range []int{0, 1, 1 << 40} {
			r := wire.Read(append(plainList(l), 3, 4, 5))
			if got := r.List(len(l)+more, longest+more); !sameLists(got, l) {
				t.Errorf("a list of %d texts is read as %d", len(l), len(got))
			}
			stands(t, fmt.Sprintf("a list of %d texts", len(l)), r, api.OK, 3)
		}
	}
	for _, each := range []int{math.MinInt, -1, 0} {
		r := wire.Read([]byte{0, 7})
		if got := r.List(0, each); len(got) != 0 {
			t.Errorf("a list of none is read as %x", got)
		}
		stands(t, "a list of none", r, api.OK, 1)
	}
}

// P4.1
func TestByte(t *testing.T) {
	r := wire.Read([]byte{5, 0, 255})
	for i, want := range []byte{5, 0, 255} {
		if got := r.Byte(); got != want {
			t.Errorf("byte %d = %d, want %d", i, got, want)
		}
		stands(t, "Byte", r, api.OK, 2-i)
	}
	if got := r.End(); got != api.OK {
		t.Errorf("End = %d", got)
	}
	if got := r.Byte(); got != 0 {
		t.Errorf("Byte at the end = %d", got)
	}
	stuck(t, "Byte at the end", r, api.ErrShort, 0)
}

// P4.1
func TestDigest(t *testing.T) {
	r := wire.Read(append(message(64), message(31)...))
	for i := range 2 {
		if got := r.Digest(); !bytes.Equal(got[:], message(64)[32*i:32*i+32]) {
			t.Errorf("digest %d = %x", i, got)
		}
		stands(t, "Digest", r, api.OK, 63-32*i)
	}
	if got := r.Digest(); got != (api.Digest{}) {
		t.Errorf("Digest of 31 bytes = %x", got)
	}
	stuck(t, "Digest of 31 bytes", r, api.ErrShort, 31)
	for _, n := range []int{0, 1, 31} {
		r := wire.Read(message(n))
		if got := r.Digest(); got != (api.Digest{}) {
			t.Errorf("Digest of %d bytes = %x", n, got)
		}
		stuck(t, "Digest", r, api.ErrShort, n)
	}
	r = wire.Read(message(32))
	if got := r.Digest(); got != api.Digest(message(32)) || r.End() != api.OK {
		t.Errorf("Digest of 32 bytes = %x, %d", got, r.Err())
	}
}

// P4.1: the error is met by End, and the reader stays.
func TestEndMeetsRest(t *testing.T) {
	for _, b := range [][]byte{{0}, {1, 5}, {9}, message(100)} {
		r := wire.Read(b)
		stands(t, "a new reader", r, api.OK, len(b))
		if got := r.End(); got != api.ErrRest {
			t.Errorf("End with %x left = %d", b, got)
		}
		stuck(t, fmt.Sprintf("End with %x left", b), r, api.ErrRest, len(b))
	}
	r := wire.Read([]byte{1, 5, 1, 6})
	r.Num(9)
	if got := r.End(); got != api.ErrRest {
		t.Errorf("End between numbers = %d", got)
	}
	stuck(t, "End between numbers", r, api.ErrRest, 2)
}

// P4.1: an end that is right is no error, and may be asked again; what is read there is short.
func TestEndAtTheEnd(t *testing.T) {
	for _, b := range [][]byte{nil, {}, {0}, {1, 5}} {
		r := wire.Read(b)
		for r.Left() > 0 && r.Err() == api.OK {
			r.Num(9)
		}
		for range 2 {
			if got := r.End(); got != api.OK {
				t.Errorf("End behind %x = %d", b, got)
			}
			stands(t, "End", r, api.OK, 0)
		}
		r.Text(9)
		stuck(t, "Text at the end", r, api.ErrShort, 0)
	}
}

// P4.1: the first error stays, whatever comes behind it; the reader stands ahead of the call that met it, not of the first one.
func TestFirstErrorStays(t *testing.T) {
	head := join(plainNum(300), plainText([]byte("ab")), plainList([][]byte{{1}, nil}), []byte{77}, message(32))
	cases := []struct {
		tail []byte
		call func(r *wire.Reader)
		e    api.Errno
	}{
		{[]byte{9, 9}, func(r *wire.Reader) { r.Num(9) }, api.ErrForm},
		{[]byte{1, 10, 5}, func(r *wire.Reader) { r.Num(9) }, api.ErrLong},
		{[]byte{2, 10}, func(r *wire.Reader) { r.Num(9) }, api.ErrShort},
		{[]byte{1, 3, 1, 2}, func(r *wire.Reader) { r.Text(9) }, api.ErrShort},
		{[]byte{1, 3, 1, 2, 3}, func(r *wire.Reader) { r.Text(2) }, api.ErrLong},
		{[]byte{1, 0, 1, 2, 3}, func(r *wire.Reader) { r.Text(2) }, api.ErrForm},
		{[]byte{1, 2, 1, 1, 5, 1}, func(r *wire.Reader) { r.List(9, 9) }, api.ErrShort},
		{[]byte{1, 2, 1, 1, 5, 9}, func(r *wire.Reader) { r.List(9, 9) }, api.ErrForm},
		{[]byte{1, 2, 1, 1, 5, 1, 2, 3, 3}, func(r *wire.Reader) { r.List(9, 1) }, api.ErrLong},
		{nil, func(r *wire.Reader) { r.Byte() }, api.ErrShort},
		{message(31), func(r *wire.Reader) { r.Digest() }, api.ErrShort},
		{[]byte{0}, func(r *wire.Reader) { r.End() }, api.ErrRest},
	}
	for i, c := range cases {
		r := wire.Read(append(slices.Clone(head), c.tail...))
		n, text, list, b, d := r.Num(300), r.Text(2), r.List(2, 1), r.Byte(), r.Digest()
		if n != 300 || string(text) != "ab" || len(list) != 2 || b != 77 || d != api.Digest(message(32)) {
			t.Fatalf("case %d: %d, %q, %x, %d, %x", i, n, text, list, b, d)
		}
		stands(t, "ahead of the tail", r, api.OK, len(c.tail))
		c.call(r)
		stuck(t, fmt.Sprintf("case %d", i), r, c.e, len(c.tail))
		for _, other := range cases {
			other.call(r)
			stands(t, fmt.Sprintf("case %d, behind other calls", i), r, c.e, len(c.tail))
		}
	}
}

// P4.1, P0.1
func TestNilReader(t *testing.T) {
	var r *wire.Reader
	stuck(t, "a nil reader", r, api.ErrNil, 0)
}

// P4.2: there and back, whatever stands behind.
func TestThereAndBack(t *testing.T) {
	tails := [][]byte{nil, {0}, {1}, {9}, {255, 255}, {8, 0, 0}, message(40), make([]byte, 40)}
	for _, tail := range tails {
		for _, n := range numbers() {
			r := wire.Read(append(wire.Num(n), tail...))
			if got := r.Num(n); got != n || r.Err() != api.OK || r.Left() != len(tail) {
				t.Errorf("%d comes back as %d, %d, with %d left of %d", n, got, r.Err(), r.Left(), len(tail))
			}
		}
		for _, b := range texts() {
			r := wire.Read(append(wire.Text(b), tail...))
			if got := r.Text(len(b)); !bytes.Equal(got, b) || r.Err() != api.OK || r.Left() != len(tail) {
				t.Errorf("a text of %d bytes comes back as %.20x, %d, with %d left of %d", len(b), got, r.Err(), r.Left(), len(tail))
			}
		}
		for _, l := range lists() {
			r := wire.Read(append(wire.List(l), tail...))
			if got := r.List(len(l), 1<<20); !sameLists(got, l) || r.Err() != api.OK || r.Left() != len(tail) {
				t.Errorf("a list of %d texts comes back with %d, %d, with %d left of %d", len(l), len(got), r.Err(), r.Left(), len(tail))
			}
		}
	}
}

// P4.2: several things, one behind the other, are told apart.
func TestThereAndBackInTurn(t *testing.T) {
	d := api.Digest(message(32))
	var all []byte
	for _, n := range numbers() {
		all = append(all, wire.Num(n)...)
		all = append(all, wire.Text(message(int(n%50)))...)
		all = append(all, byte(n))
		all = append(all, wire.List([][]byte{message(int(n % 7)), nil, d[:]})...)
		all = append(all, d[:]...)
	}
	r := wire.Read(all)
	for _, n := range numbers() {
		if got := r.Num(math.MaxUint64); got != n {
			t.Errorf("%d comes back as %d", n, got)
		}
		if got := r.Text(49); !bytes.Equal(got, message(int(n%50))) {
			t.Errorf("a text of %d bytes comes back as %x", n%50, got)
		}
		if got := r.Byte(); got != byte(n) {
			t.Errorf("the byte %d comes back as %d", byte(n), got)
		}
		if got := r.List(3, 32); !sameLists(got, [][]byte{message(int(n % 7)), nil, d[:]}) {
			t.Errorf("a list comes back as %x", got)
		}
		if got := r.Digest(); got != d {
			t.Errorf("a digest comes back as %x", got)
		}
	}
	if got := r.End(); got != api.OK {
		t.Errorf("End = %d", got)
	}
}

// eachShort hands on all byte lists of at most six bytes over an alphabet that makes counts, zeros and texts of all kinds.
func eachShort(use func(b []byte)) {
	alphabet := []byte{0, 1, 2, 3, 8, 9, 255}
	var room [6]byte
	var grow func(n int)
	grow = func(n int) {
		use(room[:n:n])
		if n == len(room) {
			return
		}
		for _, x := range alphabet {
			room[n] = x
			grow(n + 1)
		}
	}
	grow(0)
}

// P4.2: of all short bytes, what is read has just the bytes that were gone through.
func TestWhatIsReadHasJustItsBytes(t *testing.T) {
	eachShort(func(b []byte) {
		r := wire.Read(b)
		if n := r.Num(math.MaxUint64); r.Err() == api.OK && !bytes.Equal(wire.Num(n), b[:len(b)-r.Left()]) {
			t.Errorf("%x is read as the number %d", b, n)
		}
		r = wire.Read(b)
		if text := r.Text(math.MaxInt); r.Err() == api.OK && !bytes.Equal(wire.Text(text), b[:len(b)-r.Left()]) {
			t.Errorf("%x is read as the text %x", b, text)
		}
		r = wire.Read(b)
		if list := r.List(math.MaxInt, math.MaxInt); r.Err() == api.OK && !bytes.Equal(wire.List(list), b[:len(b)-r.Left()]) {
			t.Errorf("%x is read as the list %x", b, list)
		}
	})
}

// P4.1: of all short bytes, each call answers what the document's words make.
func TestReadingShortBytesByTheWords(t *testing.T) {
	mosts := []int{-1, 0, 1, 2, 300, math.MaxInt}
	eachShort(func(b []byte) {
		for _, most := range mosts {
			held(t, b, fmt.Sprint("Num ", uint64(most)), func(r *wire.Reader, p *plain) bool { return r.Num(uint64(most)) == p.num(uint64(most)) })
			held(t, b, fmt.Sprint("Text ", most), func(r *wire.Reader, p *plain) bool { return bytes.Equal(r.Text(most), p.text(most)) })
			for _, each := range []int{-1, 0, 1, math.MaxInt} {
				held(t, b, fmt.Sprint("List ", most, each), func(r *wire.Reader, p *plain) bool { return sameLists(r.List(most, each), p.list(most, each)) })
			}
		}
	})
}

// held holds one call of a new reader against the same one of the plain reader.
func held(t *testing.T, b []byte, what string, call func(r *wire.Reader, p *plain) bool) {
	t.Helper()
	r, p := wire.Read(b), &plain{b: b}
	if !call(r, p) || r.Err() != p.err || r.Left() != p.left() {
		t.Errorf("%s of %x: error %d, %d left, want %d, %d (or another answer)", what, b, r.Err(), r.Left(), p.err, p.left())
	}
}

// oneCall makes the same call of both readers, and tells whether they answer alike.
func oneCall(kind, most, each int, r *wire.Reader, p *plain) bool {
	switch kind {
	case 0:
		return r.Num(uint64(most)) == p.num(uint64(most))
	case 1:
		return bytes.Equal(r.Text(most), p.text(most))
	case 2:
		return sameLists(r.List(most, each), p.list(most, each))
	case 3:
		return r.Byte() == p.raw(1)[0]
	case 4:
		return r.Digest() == api.Digest(p.raw(32))
	default:
		return r.End() == p.end()
	}
}

// P4.1, P0.5: long runs of calls over bytes of all kinds, the same runs each time.
func TestRunsOfCallsByTheWords(t *testing.T) {
	chance := rand.New(rand.NewSource(4))
	mosts := []int{-1, 0, 1, 2, 3, 5, 40, 300, math.MaxInt}
	for run := range 20000 {
		var b []byte
		for range chance.Intn(8) {
			switch chance.Intn(5) {
			case 0:
				b = append(b, plainNum(chance.Uint64()>>chance.Intn(64))...)
			case 1:
				b = append(b, plainText(message(chance.Intn(6)))...)
			case 2:
				b = append(b, plainList([][]byte{message(chance.Intn(3)), message(chance.Intn(3))}[:chance.Intn(3)])...)
			case 3:
				b = append(b, byte(chance.Intn(11)))
			default:
				b = append(b, message(32)...)
			}
		}
		r, p := wire.Read(b), &plain{b: b}
		for step := range 8 {
			kind, most, each := chance.Intn(11)%6, mosts[chance.Intn(len(mosts))], mosts[chance.Intn(len(mosts))]
			if !oneCall(kind, most, each, r, p) || r.Err() != p.err || r.Left() != p.left() {
				t.Fatalf("run %d, step %d, call %d (%d, %d) of %x: error %d, %d left, want %d, %d (or another answer)", run, step, kind, most, each, b, r.Err(), r.Left(), p.err, p.left())
			}
		}
	}
}

// P4.3: no beginning of a number's bytes is read as one.
func TestBeginningsOfNumbers(t *testing.T) {
	for _, n := range numbers() {
		b := wire.Num(n)
		for end := range len(b) {
			r := wire.Read(b[:end])
			if got := r.Num(n); got != 0 {
				t.Errorf("%x of %x is read as %d", b[:end], b, got)
			}
			stuck(t, fmt.Sprintf("%x of %x", b[:end], b), r, api.ErrShort, end)
		}
	}
}

// P4.3: nor one of a text's bytes.
func TestBeginningsOfTexts(t *testing.T) {
	for _, text := range texts() {
		if len(text) > 1000 {
			continue
		}
		b := wire.Text(text)
		for end := range len(b) {
			r := wire.Read(b[:end])
			if got := r.Text(len(text)); len(got) != 0 {
				t.Errorf("%d bytes of %d are read as %x", end, len(b), got)
			}
			stuck(t, fmt.Sprintf("%d bytes of %d", end, len(b)), r, api.ErrShort, end)
		}
	}
}

// P4.3: nor one of a list's bytes, where whole texts end neither.
func TestBeginningsOfLists(t *testing.T) {
	for _, l := range lists() {
		b := wire.List(l)
		if len(b) > 4000 {
			continue
		}
		for end := range len(b) {
			r := wire.Read(b[:end])
			if got := r.List(len(l), 1000); len(got) != 0 {
				t.Errorf("%d bytes of %d are read as %x", end, len(b), got)
			}
			stuck(t, fmt.Sprintf("%d bytes of %d", end, len(b)), r, api.ErrShort, end)
		}
	}
}

// P4.4, P0.3: who writes into what was handed to Read changes nothing that is read later.
func TestReaderKeepsNothingHandedIn(t *testing.T) {
	room := join(plainNum(300), plainText([]byte("ab")), plainList([][]byte{[]byte("cd"), []byte("e")}), []byte{7}, message(32), []byte{1, 5})
	b := room[:len(room)-2]
	before := bytes.Clone(room)
	r := wire.Read(b)
	if !bytes.Equal(room, before) {
		t.Errorf("Read changed %x to %x", before, room)
	}
	clear(room)
	n, text, list, one, d := r.Num(300), r.Text(2), r.List(2, 2), r.Byte(), r.Digest()
	if n != 300 || string(text) != "ab" || !sameLists(list, [][]byte{[]byte("cd"), []byte("e")}) || one != 7 || d != api.Digest(message(32)) {
		t.Errorf("read: %d, %q, %q, %d, %x", n, text, list, one, d)
	}
	if got := r.End(); got != api.OK { // the room behind the end isn't read
		t.Errorf("End = %d", got)
	}
	if !bytes.Equal(room, make([]byte, len(room))) {
		t.Errorf("a reader changed what was handed in: %x", room)
	}
}

// P4.4, P0.3: who writes into an answer, or behind its end, changes no bytes handed in, nothing read later and no other answer.
func TestReadersAnswersAreTheirOwn(t *testing.T) {
	b := join(plainText([]byte("abc")), plainList([][]byte{[]byte("de"), nil, []byte("fg"), []byte("h")}), plainText([]byte("ijk")), message(32), message(32))
	before := bytes.Clone(b)
	r := wire.Read(b)
	spoil := func(x []byte) {
		x = x[:cap(x)]
		for i := range x {
			x[i] = 0xee
		}
	}
	first := r.Text(9)
	if string(first) != "abc" {
		t.Errorf("the first text is %q", first)
	}
	spoil(first)
	list := r.List(9, 9)
	if !sameLists(list, [][]byte{[]byte("de"), nil, []byte("fg"), []byte("h")}) {
		t.Errorf("the list is %q", list)
	}
	spoil(list[0])
	spoil(list[1])
	if string(list[2]) != "fg" || string(list[3]) != "h" {
		t.Errorf("two texts of a list share memory: %q", list)
	}
	spoil(list[3])
	if string(list[2]) != "fg" {
		t.Errorf("two texts of a list share memory: %q", list)
	}
	clear(list[:cap(list)])
	if last := r.Text(9); string(last) != "ijk" {
		t.Errorf("the last text is %q", last)
	}
	one := r.Digest()
	clear(one[:])
	if two := r.Digest(); two != api.Digest(message(32)) || r.End() != api.OK {
		t.Errorf("the last digest is %x, %d", two, r.Err())
	}
	if !bytes.Equal(b, before) {
		t.Errorf("an answer shares memory with what was handed in: %x", b)
	}
}

// P4.4, P0.5: two readers of the same bytes go each its own way.
func TestReadersAreApart(t *testing.T) {
	b := join(plainText([]byte("ab")), plainText([]byte("cd")), []byte{9})
	one, two := wire.Read(b), wire.Read(b)
	text := one.Text(2)
	clear(text)
	if got := one.Text(1); len(got) != 0 || one.Err() != api.ErrLong {
		t.Errorf("Text(1) = %q, %d", got, one.Err())
	}
	stands(t, "the other reader", two, api.OK, len(b))
	if x, y := two.Text(2), two.Text(2); string(x) != "ab" || string(y) != "cd" {
		t.Errorf("the other reader reads %q, %q", x, y)
	}
	stands(t, "the first reader", one, api.ErrLong, len(b)-4)
	stands(t, "the other reader", two, api.OK, 1)
}

// P0.3: what is written down is new memory, and neither the arguments nor the room behind them are changed.
func TestWritingChangesNothing(t *testing.T) {
	room := message(300)
	for _, n := range []int{0, 1, 40, 255, 256} {
		text := wire.Text(room[:n])
		list := wire.List([][]byte{room[:n], room[:n/2], nil})
		if !bytes.Equal(room, message(300)) {
			t.Fatalf("%d bytes: an argument was changed", n)
		}
		clear(text[:cap(text)])
		clear(list[:cap(list)])
		if !bytes.Equal(room, message(300)) {
			t.Fatalf("%d bytes: an answer shares memory with an argument", n)
		}
	}
	outer := [][]byte{[]byte("ab"), []byte("cd"), []byte("ef")}
	wire.List(outer[:1])
	if !sameLists(outer, [][]byte{[]byte("ab"), []byte("cd"), []byte("ef")}) {
		t.Errorf("the room behind a list was changed: %q", outer)
	}
	for _, n := range numbers() {
		one, two := wire.Num(n), wire.Num(n)
		clear(one[:cap(one)])
		if !bytes.Equal(two, plainNum(n)) || !bytes.Equal(wire.Num(n), plainNum(n)) {
			t.Errorf("two answers of Num(%d) share memory", n)
		}
	}
}

// P0.4
func TestNilAndEmptyAreAlike(t *testing.T) {
	if !bytes.Equal(wire.Text(nil), wire.Text([]byte{})) {
		t.Error("Text of nil isn't that of none")
	}
	if !bytes.Equal(wire.List(nil), wire.List([][]byte{})) || !bytes.Equal(wire.List([][]byte{nil}), wire.List([][]byte{{}})) {
		t.Error("List of nil isn't that of none")
	}
	for _, b := range [][]byte{nil, {}} {
		r := wire.Read(b)
		if got := r.End(); got != api.OK || r.Left() != 0 {
			t.Errorf("a reader of nothing: %d, %d left", got, r.Left())
		}
		r.Num(9)
		stuck(t, "a reader of nothing", r, api.ErrShort, 0)
	}
}

// P0.1: a list of very many texts is written and read, and one that only says so ends.
func TestGreatLists(t *testing.T) {
	many := make([][]byte, 1<<18)
	b := wire.List(many)
	if len(b) != 4+1<<18 {
		t.Errorf("a list of 2^18 texts has %d bytes", len(b))
	}
	r := wire.Read(b)
	if got := r.List(1<<18, 0); len(got) != 1<<18 || r.End() != api.OK {
		t.Errorf("a list of 2^18 texts is read as %d, %d", len(got), r.Err())
	}
	b[1]++ // one of the length's three bytes
	r = wire.Read(b)
	if got := r.List(math.MaxInt, 0); len(got) != 0 {
		t.Errorf("a list without all its texts is read as %d", len(got))
	}
	stuck(t, "a list without all its texts", r, api.ErrShort, len(b))
}
