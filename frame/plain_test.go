package frame_test

import (
	"bytes"
	"math/big"
	"math/rand"
	"testing"

	"jurat/api"
	"jurat/frame"
	"jurat/sha"
)

const most = 262144 // bytes of a record

// framed is bytes and, behind them, the first eight of their sum: a frame, if they are a text's.
func framed(text []byte) []byte {
	sum := sha.Sum(text)
	return join(text, sum[:8])
}

// plainWrap is a record's frame by the words of the chapters 4 and 11, of any length.
func plainWrap(record []byte) []byte {
	length := big.NewInt(int64(len(record))).Bytes()
	return framed(join([]byte{byte(len(length))}, length, record))
}

// plainFirst is the record of the frame at the beginning of b, if one stands there: it tries each way in which a
// length may be cut out, and holds b against the whole frame.
func plainFirst(b []byte) ([]byte, bool) {
	for count := range min(9, len(b)) {
		length := new(big.Int).SetBytes(b[1 : 1+count])
		if length.Cmp(big.NewInt(int64(min(most, len(b)-1-count)))) > 0 {
			continue
		}
		record := b[1+count:][:length.Int64()]
		if bytes.HasPrefix(b, plainWrap(record)) {
			return record, true
		}
	}
	return nil, false
}

func plainScan(b []byte) ([][]byte, int) {
	var records [][]byte
	size := 0
	for {
		record, ok := plainFirst(b[size:])
		if !ok {
			return records, size
		}
		records = append(records, record)
		size += len(plainWrap(record))
	}
}

// holds tells whether Scan of b answers what a plain one does, and whether P11.4 holds of it.
func holds(t *testing.T, name string, b []byte) {
	t.Helper()
	was := bytes.Clone(b)
	got, n := frame.Scan(b)
	want, m := plainScan(was)
	if n != m || !alike(got, want) {
		t.Fatalf("%s: Scan tells %d records and %d bytes, by the chapter's words there are %d and %d", name, len(got), n, len(want), m)
	}
	if frames := wrapAll(t, got); !bytes.Equal(frames, was[:n]) {
		t.Fatalf("%s: the frames of the records are % x, not the %d bytes that Scan counts", name, frames, n)
	}
	if !bytes.Equal(b, was) {
		t.Fatalf("%s: Scan wrote into what was handed in", name)
	}
}

// piece is a frame, or something that is nearly one, or nothing of the kind.
func piece(r *rand.Rand) []byte {
	record := make([]byte, r.Intn(12))
	if r.Intn(20) == 0 {
		record = make([]byte, 250+r.Intn(12))
	}
	r.Read(record)
	one := plainWrap(record)
	switch r.Intn(16) {
	case 0:
		return one[:r.Intn(len(one))]
	case 1:
		one[r.Intn(len(one))] ^= 1 << r.Intn(8)
		return one
	case 2:
		return record
	case 3:
		return framed(join([]byte{2, 0, byte(len(record))}, record))
	case 4:
		return make([]byte, r.Intn(20))
	}
	return one
}

// P11.1, P11.2, P11.3, P11.4: whatever is scanned, it is as the chapter's words say.
func TestScanAsThePlainOne(t *testing.T) {
	r := rand.New(rand.NewSource(11))
	whole, cut := 0, 0
	for range 20000 {
		var b []byte
		for range r.Intn(8) {
			b = append(b, piece(r)...)
		}
		holds(t, "pieces", b)
		if _, n := frame.Scan(b); n == len(b) {
			whole++
		} else if n > 0 {
			cut++
		}
	}
	if whole < 1000 || cut < 1000 {
		t.Errorf("of all that was scanned %d were frames and nothing else, %d had something else behind them", whole, cut)
	}
}

// P11.1: of few bytes all were tried: each one, each two, and three of a small alphabet with a sum's place behind them.
func TestScanOfFewBytes(t *testing.T) {
	for a := range 256 {
		holds(t, "one byte", []byte{byte(a)})
		for b := range 256 {
			holds(t, "two bytes", []byte{byte(a), byte(b)})
		}
	}
	few := []byte{0, 1, 2, 3, 4, 7, 8, 9, 127, 128, 255}
	for _, a := range few {
		for _, b := range few {
			for _, c := range few {
				for n := 1; n <= 3; n++ {
					holds(t, "bytes with a sum", framed([]byte{a, b, c}[:n]))
				}
			}
		}
	}
}

// P11.1: Wrap is a text's bytes and the first eight of their sum, at all lengths.
func TestWrapAsThePlainOne(t *testing.T) {
	for n := range 700 {
		got, e := frame.Wrap(message(n))
		if want := plainWrap(message(n)); e != api.OK || !bytes.Equal(got, want) {
			t.Errorf("Wrap of %d bytes: % x and %d, not % x", n, got, e, want)
		}
	}
}
