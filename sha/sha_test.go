package sha_test

import (
	"bytes"
	"fmt"
	"math"
	"math/big"
	"math/bits"
	"strings"
	"testing"

	"jurat/api"
	"jurat/sha"
)

// message is n bytes of which no two neighbours are alike.
func message(n int) []byte {
	b := make([]byte, n)
	for i := range n {
		b[i] = byte(0x9d*i + 0x81)
	}
	return b
}

func text(d api.Digest) string { return fmt.Sprintf("%x", d[:]) }

// plain works a block by the document's words, from constants that come out of the primes' roots,
// so that Block is held against something that shares no code with it.
type plain struct {
	first [8]uint32
	k     [64]uint32
}

func newPlain() *plain {
	p := &plain{}
	n := 0
	for q := int64(2); n < 64; q++ {
		if !big.NewInt(q).ProbablyPrime(0) {
			continue
		}
		if n < 8 {
			p.first[n] = rootBits(q, 2)
		}
		p.k[n] = rootBits(q, 3)
		n++
	}
	return p
}

// rootBits is the first 32 bits behind the point of the root of that degree: the greatest r whose
// power is at most q * 2^(32 * degree), without what stands ahead of the point.
func rootBits(q int64, degree int64) uint32 {
	wanted := new(big.Int).Lsh(big.NewInt(q), uint(32*degree))
	r := new(big.Int)
	for bit := 40; bit >= 0; bit-- {
		r.SetBit(r, bit, 1)
		if new(big.Int).Exp(r, big.NewInt(degree), nil).Cmp(wanted) > 0 {
			r.SetBit(r, bit, 0)
		}
	}
	return uint32(r.Uint64())
}

func right(x uint32, n int) uint32 { return bits.RotateLeft32(x, -n) }

func (p *plain) block(s [8]uint32, block []byte) [8]uint32 {
	var w [64]uint32
	for t := range w {
		if t < 16 {
			w[t] = uint32(block[4*t])<<24 | uint32(block[4*t+1])<<16 | uint32(block[4*t+2])<<8 | uint32(block[4*t+3])
			continue
		}
		s0 := right(w[t-15], 7) ^ right(w[t-15], 18) ^ w[t-15]>>3
		s1 := right(w[t-2], 17) ^ right(w[t-2], 19) ^ w[t-2]>>10
		w[t] = s1 + w[t-7] + s0 + w[t-16]
	}
	v := s
	for t := range w {
		a, b, c, e, f, g := v[0], v[1], v[2], v[4], v[5], v[6]
		t1 := v[7] + (right(e, 6) ^ right(e, 11) ^ right(e, 25)) + (e&f ^ ^e&g) + p.k[t] + w[t]
		t2 := (right(a, 2) ^ right(a, 13) ^ right(a, 22)) + (a&b ^ a&c ^ b&c)
		v = [8]uint32{t1 + t2, a, b, c, v[3] + t1, e, f, g}
	}
	for i := range v {
		v[i] += s[i]
	}
	return v
}

// states are first words, and eight words of all kinds.
func states(p *plain) [][8]uint32 {
	list := [][8]uint32{p.first, {}, {1, 2, 3, 4, 5, 6, 7, 8}}
	full := [8]uint32{}
	mixed := [8]uint32{}
	for i := range 8 {
		full[i] = math.MaxUint32
		mixed[i] = 0x9e3779b9 * uint32(i+1)
	}
	return append(list, full, mixed)
}

func blocks() [][]byte {
	return [][]byte{make([]byte, 64), bytes.Repeat([]byte{0xff}, 64), message(64), message(128)[64:], message(128)[13:77]}
}

// P2.1: the examples of the document, those of FIPS 180-4, and lengths about the ends of blocks; the
// sums were worked out by another program.
func TestSumKnown(t *testing.T) {
	texts := map[string]string{
		"":    "e3b0c44298fc1c149afbf4c8996fb92427ae41e4649b934ca495991b7852b855",
		"abc": "ba7816bf8f01cfea414140de5dae2223b00361a396177a9cb410ff61f20015ad",
		"hi":  "8f434346648f6b96df89dda901c5176b10a6d83961dd3c1ac88b59b2dc327aa4",
		"abcdbcdecdefdefgefghfghighijhijkijkljklmklmnlmnomnopnopq":                                                         "248d6a61d20638b8e5c026930c3e6039a33ce45964ff2167f6ecedd419db06c1",
		"abcdefghbcdefghicdefghijdefghijkefghijklfghijklmghijklmnhijklmnoijklmnopjklmnopqklmnopqrlmnopqrsmnopqrstnopqrstu": "cf5b16a778af8380036ce59e7b0492370b249b11e8f07a51afac45037afee9d1",
		strings.Repeat("a", 1_000_000): "cdc76e5c9914fb9281a1c7e284d73e67f1809a48a497200e046d39ccc7112cd0",
	}
	for message, want := range texts {
		if got := text(sha.Sum([]byte(message))); got != want {
			t.Errorf("Sum of %.20q (%d bytes) = %s, want %s", message, len(message), got, want)
		}
	}
	lengths := []struct {
		n    int
		want string
	}{
		{1, "591b7cc95037822dec5a4d593a2e2e8b19c07ddd2570e5699003d17f14c440a6"},
		{54, "5fe2fe9793acd03a56876fdd88d561a36f239d684ad60ef0123634b6e6007fa8"},
		{55, "439f665b391a7e0de585a99015d2295f30a9228110a3f6d42b3d7865aede972f"},
		{56, "bba5e6bbdc361395e0a56f0323068f873d5c90ba3544e8f6bc3c818ab73b001c"},
		{57, "974f1743c0464f57f28cfde1a8fd403b327ca215361f0d3fe4df4a16fd23f09c"},
		{63, "2ce6bee7fddfeffaa9a4da40485f5518b8270d3cb1fc343662ab9550d6e38021"},
		{64, "a911b85f9572c8c167b01dde82b7845a49dead0184826dde278bf487d2d69c42"},
		{65, "2153d8f2d836cc00713ac51a509062ead230b3fb8da160c1d369461385a4940b"},
		{119, "df4edd1b397665be6c62c6dfe89a5bb7786d8c7b514a6f2dd5f78a15e1072284"},
		{120, "c1f97d530d9f7f1fa16fc27d0f4ddc5ba88ad18b971701ee9d06ac464b4ef006"},
		{127, "c68469a4a7057a82cee0106267c1015abdc388c8f4b22e2fc32c62aa4e449ddb"},
		{128, "c55e48dfb702e3f8cc78c28c1bb29d028e1deb4ac7a6e46a9a871052cf099f9a"},
		{129, "81ba08ef0eaea22f923715fc17abc5b532501f95535341f260efbbb1b9128840"},
	}
	for _, c := range lengths {
		if got := text(sha.Sum(message(c.n))); got != c.want {
			t.Errorf("Sum of %d bytes = %s, want %s", c.n, got, c.want)
		}
	}
}

// P2.1: one known sum stands for those of all lengths up to 320.
func TestSumAllLengths(t *testing.T) {
	var sums []byte
	for n := range 321 {
		d := sha.Sum(message(n))
		sums = append(sums, d[:]...)
	}
	const want = "5981bc54703b295423e252f7852cc4340ff38436deefd459725ec7379433b7b4"
	if got := text(sha.Sum(sums)); got != want {
		t.Errorf("sum of the sums = %s, want %s", got, want)
	}
}

// P2.1
func TestBlockByTheWords(t *testing.T) {
	p := newPlain()
	for _, s := range states(p) {
		for _, b := range blocks() {
			got, e := sha.Block(s, b)
			if want := p.block(s, b); got != want || e != api.OK {
				t.Errorf("Block(%x, %x) = %x, %d, want %x", s, b, got, e, want)
			}
		}
	}
}

// P2.1, P2.3: a message and its fill, block by block from the first words on, are its sum.
func TestBlocksOfFilledMessageAreItsSum(t *testing.T) {
	p := newPlain()
	for n := range 200 {
		fill, _ := sha.Pad(n)
		filled := append(message(n), fill...)
		s := p.first
		for at := 0; at+64 <= len(filled); at += 64 {
			var e api.Errno
			if s, e = sha.Block(s, filled[at:at+64]); e != api.OK {
				t.Fatalf("Block of 64 bytes: %d", e)
			}
		}
		var d api.Digest
		for i := range d {
			d[i] = byte(s[i/4] >> (24 - i%4*8))
		}
		if got := sha.Sum(message(n)); got != d {
			t.Errorf("Sum of %d bytes = %x, its blocks say %x", n, got, d)
		}
	}
}

// P2.1, P0.1, P0.2, P0.4
func TestBlockRefuses(t *testing.T) {
	s := [8]uint32{1, 2, 3, 4, 5, 6, 7, 8}
	lists := [][]byte{nil, {}, message(1), message(32), message(63), message(65), message(128), message(64)[:63]}
	for _, b := range lists {
		if got, e := sha.Block(s, b); got != [8]uint32{} || e != api.ErrArg {
			t.Errorf("Block of %d bytes = %x, %d, want zeros, ErrArg", len(b), got, e)
		}
	}
}

// fillOf is what a message of n bytes is filled up with: the bit 1, zeros, the number of bits.
func fillOf(n int) []byte {
	fill := []byte{0x80}
	for (uint64(n)+uint64(len(fill))+8)%64 != 0 {
		fill = append(fill, 0)
	}
	count := new(big.Int).Mul(big.NewInt(int64(n)), big.NewInt(8)).FillBytes(make([]byte, 8))
	return append(fill, count...)
}

func padLengths() []int {
	list := []int{1000, 1<<31 - 1, 1 << 31, 1 << 32, 1<<53 + 1, 1<<60 - 1, 1 << 60}
	for n := range 260 {
		list = append(list, n, 1<<60-n)
	}
	return list
}

// P2.1, P2.3
func TestPadFillsUp(t *testing.T) {
	for _, n := range padLengths() {
		got, e := sha.Pad(n)
		if want := fillOf(n); e != api.OK || !bytes.Equal(got, want) {
			t.Errorf("Pad(%d) = %x, %d, want %x", n, got, e, want)
		}
		if (n+len(got))%64 != 0 {
			t.Errorf("P2.3: Pad(%d) has %d bytes: no whole blocks", n, len(got))
		}
		if len(got) >= 2*64 {
			t.Errorf("P2.3: Pad(%d) has %d bytes: two blocks or more", n, len(got))
		}
	}
}

// P2.1: the edges of the document.
func TestPadEdges(t *testing.T) {
	cases := []struct {
		n, length int
		end       string // the last eight bytes
	}{
		{0, 64, "0000000000000000"},
		{1, 63, "0000000000000008"},
		{55, 9, "00000000000001b8"},
		{56, 72, "00000000000001c0"},
		{63, 65, "00000000000001f8"},
		{64, 64, "0000000000000200"},
		{1 << 60, 64, "8000000000000000"},
		{1<<60 - 1, 65, "7ffffffffffffff8"},
		{1<<60 - 9, 9, "7fffffffffffffb8"},
	}
	for _, c := range cases {
		got, e := sha.Pad(c.n)
		if e != api.OK || len(got) != c.length {
			t.Errorf("Pad(%d) = %x, %d, want %d bytes", c.n, got, e, c.length)
			continue
		}
		if end := fmt.Sprintf("%x", got[len(got)-8:]); end != c.end || got[0] != 0x80 {
			t.Errorf("Pad(%d) = %x, want 80 .. %s", c.n, got, c.end)
		}
	}
}

// P2.1, P0.1, P0.2
func TestPadRefuses(t *testing.T) {
	for _, n := range []int{-1, -64, math.MinInt, math.MinInt + 1, 1<<60 + 1, 1 << 61, math.MaxInt, math.MaxInt - 63} {
		if got, e := sha.Pad(n); len(got) != 0 || e != api.ErrArg {
			t.Errorf("Pad(%d) = %x, %d, want none, ErrArg", n, got, e)
		}
	}
}

// P2.2: every cut in two, about the ends of blocks too, with and without a Sum between.
func TestWriteInTwoParts(t *testing.T) {
	for _, n := range []int{0, 1, 63, 64, 65, 119, 128, 150, 200} {
		whole := message(n)
		want := sha.Sum(whole)
		for cut := range n + 1 {
			for _, asked := range []bool{false, true} {
				h := sha.New()
				h.Write(whole[:cut])
				if asked && h.Sum() != sha.Sum(whole[:cut]) {
					t.Errorf("Sum between, behind %d of %d bytes", cut, n)
				}
				h.Write(whole[cut:])
				if h.Sum() != want || h.Len() != n {
					t.Errorf("%d bytes cut at %d (asked between: %v): %x, %d", n, cut, asked, h.Sum(), h.Len())
				}
			}
		}
	}
}

// P2.2
func TestWriteInManyParts(t *testing.T) {
	whole := message(1000)
	for step := 1; step <= 200; step++ {
		h := sha.New()
		for at := 0; at < len(whole); at += step {
			end := min(at+step, len(whole))
			h.Write(whole[at:end])
			h.Write(nil)
			h.Write([]byte{})
			if h.Len() != end {
				t.Fatalf("Len behind %d bytes = %d", end, h.Len())
			}
			if step%2 == 0 && h.Sum() != h.Sum() {
				t.Fatalf("Sum asked twice behind %d bytes", end)
			}
		}
		if h.Sum() != sha.Sum(whole) {
			t.Errorf("in parts of %d bytes: %x", step, h.Sum())
		}
	}
}

// P2.1, P0.5: each new hash begins with no bytes, whatever others were told.
func TestNewIsEmpty(t *testing.T) {
	used := sha.New()
	used.Write(message(100))
	h := sha.New()
	if h == nil || h == used || h.Len() != 0 || h.Sum() != sha.Sum(nil) {
		t.Error("New isn't a hash of no bytes")
	}
	if used.Len() != 100 || used.Sum() != sha.Sum(message(100)) {
		t.Error("New changed another hash")
	}
}

// P2.4: for all lengths in which a block may stand half full.
func TestCloneIsItsOwn(t *testing.T) {
	for n := range 131 {
		head := message(n)
		h := sha.New()
		h.Write(head)
		c := h.Clone()
		if c == nil || c == h || c.Sum() != sha.Sum(head) || c.Len() != n {
			t.Fatalf("clone of %d bytes", n)
		}
		c.Write([]byte("of the clone"))
		if h.Sum() != sha.Sum(head) || h.Len() != n {
			t.Errorf("%d bytes: a clone's Write changed the hash", n)
		}
		h.Write([]byte("of the first, and longer than what the clone was told: some more than a block has"))
		if want := sha.Sum(append(message(n), "of the clone"...)); c.Sum() != want || c.Len() != n+12 {
			t.Errorf("%d bytes: a hash's Write changed the clone", n)
		}
		if c.Clone().Sum() != c.Sum() {
			t.Errorf("%d bytes: clone of a clone", n)
		}
	}
}

// P2.1, P0.1: the document's words of a nil hash.
func TestNilHash(t *testing.T) {
	var h *sha.Hash
	h.Write(message(70))
	h.Write(nil)
	if h.Sum() != (api.Digest{}) || h.Len() != 0 || h.Clone() != nil {
		t.Error("a nil hash isn't zeros and nil")
	}
}

// P0.4
func TestNilAndEmptyAreAlike(t *testing.T) {
	if sha.Sum(nil) != sha.Sum([]byte{}) {
		t.Error("Sum of nil isn't that of none")
	}
	h := sha.New()
	h.Write(nil)
	h.Write([]byte{})
	if h.Len() != 0 || h.Sum() != sha.Sum(nil) {
		t.Error("no bytes were written, but the hash has some")
	}
}

// P0.3: neither the bytes nor the room behind them are changed.
func TestArgumentsStay(t *testing.T) {
	for _, n := range []int{0, 1, 55, 56, 64, 100, 128} {
		room := message(300)
		before := bytes.Clone(room)
		sha.Sum(room[:n])
		h := sha.New()
		h.Write(room[:n])
		h.Sum()
		h.Write(room[n : n+64])
		sha.Block([8]uint32{}, room[n:n+64])
		if !bytes.Equal(room, before) {
			t.Errorf("%d bytes: an argument was changed", n)
		}
	}
}

// P0.3: what was written is the hash's own from then on.
func TestWrittenBytesAreNotKept(t *testing.T) {
	for _, n := range []int{1, 55, 63, 64, 65, 100} {
		b := message(n)
		h := sha.New()
		h.Write(b)
		clear(b)
		if h.Sum() != sha.Sum(message(n)) {
			t.Errorf("%d bytes: the hash kept what was handed in", n)
		}
	}
}

// P0.3
func TestAnswersAreNew(t *testing.T) {
	one, _ := sha.Pad(3)
	two, _ := sha.Pad(3)
	clear(one)
	_ = append(one[:0], message(cap(one))...)
	if three, _ := sha.Pad(3); !bytes.Equal(two, fillOf(3)) || !bytes.Equal(three, fillOf(3)) {
		t.Error("two fills share memory")
	}
	h := sha.New()
	h.Write(message(10))
	d := h.Sum()
	clear(d[:])
	if h.Sum() != sha.Sum(message(10)) {
		t.Error("a sum shares memory with its hash")
	}
}
