package keys_test

import (
	"bytes"
	"fmt"
	"math"
	"math/rand"
	"slices"
	"testing"

	"jurat/api"
	"jurat/keys"
	"jurat/mac"
	"jurat/sha"
	"jurat/wire"
)

// message is n bytes of which no two neighbours are alike.
func message(n int) []byte {
	b := make([]byte, n)
	for i := range n {
		b[i] = byte(0x9d*i + 0x81)
	}
	return b
}

// digests are n of them, all unlike.
func digests(n int) []api.Digest {
	l := make([]api.Digest, n)
	for i := range l {
		l[i] = sha.Sum(message(i))
	}
	return l
}

func full() api.Digest { return api.Digest(bytes.Repeat([]byte{0xff}, 32)) }

func texts() [][]byte {
	return [][]byte{nil, []byte("hello"), []byte("abc"), {0}, message(64), message(1000)}
}

// shapes are keys' bits and heights, the edges among them.
func shapes() [][2]int {
	return [][2]int{{1, 0}, {1, 1}, {1, 6}, {7, 2}, {8, 0}, {8, 3}, {9, 6}, {20, 4}, {128, 1}, {255, 1}, {256, 0}, {256, 2}}
}

// wrongShapes have bits or a height, or both, out of their bounds.
func wrongShapes() [][2]int {
	var l [][2]int
	for _, bits := range []int{0, -1, -256, math.MinInt32, math.MinInt, 257, 258, 512, 1 << 16, 1<<32 + 8, math.MaxInt32, math.MaxInt} {
		l = append(l, [2]int{bits, 0}, [2]int{bits, 1}, [2]int{bits, 6}, [2]int{bits, -1}, [2]int{bits, 7})
	}
	for _, height := range []int{-1, -2, -6, math.MinInt32, math.MinInt, 7, 8, 10, 11, 31, 32, 62, 63, 64, 1<<32 + 1, math.MaxInt32, math.MaxInt} {
		l = append(l, [2]int{1, height}, [2]int{8, height}, [2]int{256, height})
	}
	return l
}

func join(l []api.Digest) []byte {
	var b []byte
	for _, d := range l {
		b = append(b, d[:]...)
	}
	return b
}

func same(a, b api.Sig) bool {
	return a.Index == b.Index && slices.Equal(a.Ots, b.Ots) && slices.Equal(a.Path, b.Path)
}

func isZero(s api.Sig) bool { return s.Index == 0 && len(s.Ots) == 0 && len(s.Path) == 0 }

func copied(s api.Sig) api.Sig {
	return api.Sig{Index: s.Index, Ots: slices.Clone(s.Ots), Path: slices.Clone(s.Path)}
}

// The plain ones are worked out by the words of this chapter, and of those of the layers below, with mac.Mac and sha.Sum alone.
func plainSeed(seed api.Digest, label string, i int) api.Digest {
	return mac.Mac(seed[:], append([]byte(label+"\x00\x00\x00\x00\x00\x00\x00"), byte(i>>8), byte(i)))
}

func plainSum(d api.Digest) api.Digest { return sha.Sum(d[:]) }

func plainLeaf(seed api.Digest, bits, index int) api.Digest {
	own := plainSeed(seed, "key", index)
	b := []byte{2}
	for i := range 2 * bits {
		d := plainSum(plainSeed(own, "ots", i))
		b = append(b, d[:]...)
	}
	return sha.Sum(b)
}

func plainLeaves(seed api.Digest, bits, height int) []api.Digest {
	var l []api.Digest
	for i := range 1 << height {
		l = append(l, plainLeaf(seed, bits, i))
	}
	return l
}

func plainRoot(leaves []api.Digest) api.Digest {
	if len(leaves) == 1 {
		return leaves[0]
	}
	half := len(leaves) / 2
	return sha.Sum(append([]byte{3}, join([]api.Digest{plainRoot(leaves[:half]), plainRoot(leaves[half:])})...))
}

func plainPath(leaves []api.Digest, i int) []api.Digest {
	if len(leaves) == 1 {
		return nil
	}
	half := len(leaves) / 2
	if i < half {
		return append(plainPath(leaves[:half], i), plainRoot(leaves[half:]))
	}
	return append(plainPath(leaves[half:], i-half), plainRoot(leaves[:half]))
}

func plainOts(seed api.Digest, bits, index int, words []byte) []api.Digest {
	own := plainSeed(seed, "key", index)
	sum := sha.Sum(words)
	var l []api.Digest
	for i := range bits {
		b := int(sum[i/8]) >> (7 - i%8) & 1
		l = append(l, plainSeed(own, "ots", 2*i+b), plainSum(plainSeed(own, "ots", 2*i+1-b)))
	}
	return l
}

func mustNew(t *testing.T, seed api.Digest, bits, height int) *keys.Key {
	t.Helper()
	k, e := keys.New(seed, bits, height)
	if k == nil || e != api.OK {
		t.Fatalf("New of %d bits, height %d: %d", bits, height, e)
	}
	return k
}

func mustSign(t *testing.T, k *keys.Key, words []byte) api.Sig {
	t.Helper()
	s, e := k.Sign(words)
	if e != api.OK {
		t.Fatalf("Sign: %d", e)
	}
	return s
}

// signedBy is a key's signature by an index that it has yet to come to.
func signedBy(t *testing.T, k *keys.Key, index int, words []byte) api.Sig {
	t.Helper()
	if e := k.Skip(index); e != api.OK {
		t.Fatalf("Skip to %d: %d", index, e)
	}
	s := mustSign(t, k, words)
	if s.Index != index {
		t.Fatalf("Sign behind Skip to %d is by %d", index, s.Index)
	}
	return s
}

// P7.1: public keys, and the sums of signatures' bytes, as another program worked them out.
func TestKnown(t *testing.T) {
	cases := []struct {
		seed                api.Digest
		bits, height, index int
		public              string
		length              int
		sum                 string
	}{
		{api.Digest{}, 1, 0, 0, "bbecf3da2d6b730dd3b0aa952806aca0bbad117d27b3a31685f91034f0e20e18", 65, "a13f506dfef608459af9574af59f5d3f8f5494f662b919209903f4c1dd0db82c"},
		{api.Digest{7}, 8, 1, 0, "f8d62ab828b378cd592065d1acd5f6b276023dc34b6002e58172be104330ec7a", 545, "0dcdd0dc97cf9876b9ba2dfe3d3aec629c0b9ea5fccfc014ab2af4a15f044703"},
		{api.Digest{7}, 8, 1, 1, "f8d62ab828b378cd592065d1acd5f6b276023dc34b6002e58172be104330ec7a", 546, "85f277b86f2b3c3ec51ebb9cc48f840a2f43a7231baecc6bb05266734e9bec7e"},
		{api.Digest(message(32)), 20, 2, 0, "de97907db50e2d511d27b22409f8474bb13406500e1153f79e8d8d45b49c9e83", 1345, "ef0e88b253f74e63d48ddd1c21e5ceb017906f97520491760315f67e934ce4a9"},
		{api.Digest(message(32)), 20, 2, 3, "de97907db50e2d511d27b22409f8474bb13406500e1153f79e8d8d45b49c9e83", 1346, "bc0d2cf213a6edbe5638d72303fd0a74486d9a5aa7a29daa1a9919bfd6ad9516"},
		{api.Digest{7}, 128, 3, 5, "98ae7c0bac481e3aeb8e57063994d944fc7ce82b485a0e921ed652d16fa659e3", 8290, "ac5ffd5f3234aa1f68a0e52d7e46fbbd63ce4b7b779506d3cefdf27cff259217"},
		{full(), 9, 6, 0, "2206aed56c5576810e5978512b29570900bcc05b6db21c08afa004026c90474f", 769, "babaac9be0d1da13073b0ccd9c3214be1d69ccb6404934668b8f331e279a9556"},
		{full(), 9, 6, 31, "2206aed56c5576810e5978512b29570900bcc05b6db21c08afa004026c90474f", 770, "5e7e117f26e6b0e3a59a0d0744b3a1c01c2c5b62c4f6020c597662250095fdfc"},
		{full(), 9, 6, 32, "2206aed56c5576810e5978512b29570900bcc05b6db21c08afa004026c90474f", 770, "a17387378eaec4a83ab9c769be07079f471d1d9d6e941907588d96e89b2d5f9f"},
		{full(), 9, 6, 63, "2206aed56c5576810e5978512b29570900bcc05b6db21c08afa004026c90474f", 770, "c6b6661b6a1e0aa6e678f20df1150c088100ae411ffb87b3e6002986cfff9aa8"},
		{api.Digest(message(32)), 256, 6, 63, "77324e97a346f6c29a034e3fb0fcfb6f078ffc07311c62e610e42e4a10872855", 16578, "ca242ae1d67371af72ebcd6d0bdc3461b682a601b55aed41d804fe4bd77f12c0"},
	}
	for _, c := range cases {
		k := mustNew(t, c.seed, c.bits, c.height)
		if got := fmt.Sprintf("%x", k.Public()); got != c.public {
			t.Errorf("%d bits, height %d: the public key %s, want %s", c.bits, c.height, got, c.public)
		}
		b := keys.Encode(signedBy(t, k, c.index, []byte("hello")))
		if got := fmt.Sprintf("%x", sha.Sum(b)); len(b) != c.length || got != c.sum {
			t.Errorf("%d bits, height %d: by %d %d bytes of the sum %s, want %d of %s", c.bits, c.height, c.index, len(b), got, c.length, c.sum)
		}
	}
}

// P7.1: a signature's bytes, one by one, as another program worked them out.
func TestKnownBytes(t *testing.T) {
	const want = "004d328c7f97777721a35adbe457b32e13183c567667512fa64de95122ffa9579bde85c6fb96f1e378bf7f24103b9eacf3267d755e8938ce297dc51bbfb3245451"
	s := mustSign(t, mustNew(t, api.Digest{7}, 1, 0), []byte("hello"))
	if got := fmt.Sprintf("%x", keys.Encode(s)); got != want {
		t.Errorf("%s, want %s", got, want)
	}
}

// P7.1: each index's signature and the public key, held against the chapter's words.
func TestByTheWords(t *testing.T) {
	for _, shape := range shapes() {
		bits, height := shape[0], shape[1]
		seed := sha.Sum(message(bits + height))
		leaves := plainLeaves(seed, bits, height)
		k := mustNew(t, seed, bits, height)
		if k.Public() != plainRoot(leaves) {
			t.Errorf("%d bits, height %d: the public key", bits, height)
		}
		for i := range leaves {
			words := texts()[i%len(texts())]
			want := api.Sig{Index: i, Ots: plainOts(seed, bits, i, words), Path: plainPath(leaves, i)}
			if got := mustSign(t, k, words); !same(got, want) {
				t.Errorf("%d bits, height %d: the signature by %d", bits, height, i)
			}
		}
		if k.Public() != plainRoot(leaves) {
			t.Errorf("%d bits, height %d: the public key, when all is signed", bits, height)
		}
	}
}

// P7.1: of the seed each bit counts in the public key, as do the bits and the height.
func TestPublicHangsOnAll(t *testing.T) {
	seen := map[api.Digest]string{}
	tell := func(seed api.Digest, bits, height int) {
		public := mustNew(t, seed, bits, height).Public()
		name := fmt.Sprintf("%x, %d bits, height %d", seed, bits, height)
		if other, ok := seen[public]; ok {
			t.Errorf("one public key of %s and of %s", name, other)
		}
		seen[public] = name
	}
	for bit := range 256 {
		seed := api.Digest{}
		seed[bit/8] = 1 << (bit % 8)
		tell(seed, 1, 0)
	}
	for _, shape := range shapes() {
		tell(api.Digest{}, shape[0], shape[1])
	}
}

// P7.1: the next index and how many are left: at first, behind each signature, and when none is left.
func TestNextAndLeft(t *testing.T) {
	for height := 0; height <= api.MaxHeight; height++ {
		k := mustNew(t, api.Digest{7}, 2, height)
		count := 1 << height
		for i := range count {
			if k.Next() != i || k.Left() != count-i {
				t.Errorf("height %d, ahead of signature %d: next %d, left %d", height, i, k.Next(), k.Left())
			}
			if s := mustSign(t, k, []byte("hello")); s.Index != i {
				t.Errorf("height %d: signature %d is by %d", height, i, s.Index)
			}
		}
		for range 3 {
			if k.Next() != count || k.Left() != 0 {
				t.Errorf("height %d, behind the last one: next %d, left %d", height, k.Next(), k.Left())
			}
			if s, e := k.Sign([]byte("hello")); !isZero(s) || e != api.ErrKeys {
				t.Errorf("height %d, behind the last one: Sign by %d, %d", height, s.Index, e)
			}
		}
	}
}

// P7.1: the chapter's example.
func TestTwoSignatures(t *testing.T) {
	k := mustNew(t, api.Digest{}, 8, 1)
	mustSign(t, k, nil)
	mustSign(t, k, nil)
	if s, e := k.Sign(nil); !isZero(s) || e != api.ErrKeys {
		t.Errorf("the third one: %d, %d", s.Index, e)
	}
}

// P7.1: Skip to each index, from each: below the next one and above 2^h it is refused, and changes nothing.
func TestSkip(t *testing.T) {
	for _, height := range []int{0, 1, 2, 3, 6} {
		count := 1 << height
		for from := range count + 1 {
			k := mustNew(t, api.Digest{7}, 1, height)
			if e := k.Skip(from); e != api.OK || k.Next() != from || k.Left() != count-from {
				t.Fatalf("height %d, Skip to %d: %d; next %d, left %d", height, from, e, k.Next(), k.Left())
			}
			for _, to := range []int{from - 1, -1, -count, math.MinInt32, math.MinInt, -1 << 32,
				count + 1, count + 2, 2 * count, 65, 1 << 32, 1<<32 + from, math.MaxInt32, math.MaxInt - 1, math.MaxInt} {
				if to > count || to < from {
					if e := k.Skip(to); e != api.ErrArg || k.Next() != from || k.Left() != count-from {
						t.Errorf("height %d, at %d: Skip to %d: %d; next %d, left %d", height, from, to, e, k.Next(), k.Left())
					}
				}
			}
			if e := k.Skip(from); e != api.OK || k.Next() != from {
				t.Errorf("height %d: Skip to the next one, %d: %d; next %d", height, from, e, k.Next())
			}
			if e := k.Skip(count); e != api.OK || k.Next() != count || k.Left() != 0 {
				t.Errorf("height %d, at %d: Skip to the end: %d; next %d", height, from, e, k.Next())
			}
			if s, e := k.Sign(nil); !isZero(s) || e != api.ErrKeys {
				t.Errorf("height %d: Sign behind Skip to the end: by %d, %d", height, s.Index, e)
			}
			if e := k.Skip(from); (e == api.OK) != (from == count) {
				t.Errorf("height %d: Skip from the end to %d: %d", height, from, e)
			}
		}
	}
}

// P7.1: a signature is the same, whether the indexes ahead of its own were signed by or skipped.
func TestSkippedAndSignedAreAlike(t *testing.T) {
	signs := mustNew(t, api.Digest{7}, 8, 3)
	for i := range 8 {
		want := mustSign(t, signs, []byte("hello"))
		if got := signedBy(t, mustNew(t, api.Digest{7}, 8, 3), i, []byte("hello")); !same(got, want) {
			t.Errorf("the signature by %d", i)
		}
	}
}

// P7.1, P0.2: bits and heights out of their bounds.
func TestWrongShapes(t *testing.T) {
	k := mustNew(t, api.Digest{7}, 8, 1)
	s := mustSign(t, k, []byte("hello"))
	for _, shape := range wrongShapes() {
		bits, height := shape[0], shape[1]
		if k, e := keys.New(api.Digest{7}, bits, height); k != nil || e != api.ErrArg {
			t.Errorf("New of %d bits, height %d: %v, %d", bits, height, k != nil, e)
		}
		for _, public := range []api.Digest{{}, k.Public()} {
			for _, sig := range []api.Sig{{}, s, {Ots: digests(1)}, {Ots: digests(514)}, {Ots: digests(16), Path: digests(7)}} {
				if keys.Verify(public, bits, height, []byte("hello"), sig) {
					t.Errorf("Verify of %d bits, height %d", bits, height)
				}
			}
		}
		for _, b := range [][]byte{nil, {}, {9}, keys.Encode(s), message(40), append([]byte{0}, message(514*32)...)} {
			if u, e := keys.Decode(b, bits, height); !isZero(u) || e != api.ErrArg {
				t.Errorf("Decode of %d bits, height %d: %d", bits, height, e)
			}
		}
	}
}

// P7.1: the bounds themselves may be.
func TestBounds(t *testing.T) {
	for _, bits := range []int{1, api.MaxBits} {
		for _, height := range []int{0, api.MaxHeight} {
			k := mustNew(t, api.Digest{7}, bits, height)
			s := signedBy(t, k, 1<<height-1, []byte("hello"))
			if len(s.Ots) != 2*bits || len(s.Path) != height || !keys.Verify(k.Public(), bits, height, []byte("hello"), s) {
				t.Errorf("%d bits, height %d: %d and %d digests", bits, height, len(s.Ots), len(s.Path))
			}
			if u, e := keys.Decode(keys.Encode(s), bits, height); e != api.OK || !same(u, s) {
				t.Errorf("%d bits, height %d: Decode: %d", bits, height, e)
			}
		}
	}
}

// P7.1, P0.1: a nil key, in each call.
func TestNilKey(t *testing.T) {
	var k *keys.Key
	if k.Public() != (api.Digest{}) || k.Next() != 0 || k.Left() != 0 {
		t.Errorf("Public %x, Next %d, Left %d", k.Public(), k.Next(), k.Left())
	}
	for _, to := range []int{0, 1, -1, 64, 65, math.MinInt, math.MaxInt} {
		if e := k.Skip(to); e != api.ErrNil {
			t.Errorf("Skip to %d: %d", to, e)
		}
	}
	for _, words := range texts() {
		if s, e := k.Sign(words); !isZero(s) || e != api.ErrNil {
			t.Errorf("Sign: %d", e)
		}
	}
}

// P7.2: each signature of each key, of any text.
func TestSignedIsRight(t *testing.T) {
	for _, shape := range shapes() {
		bits, height := shape[0], shape[1]
		for n, seed := range []api.Digest{{}, {7}, full()} {
			k := mustNew(t, seed, bits, height)
			for i := range 1 << height {
				words := texts()[(i+n)%len(texts())]
				if s := mustSign(t, k, words); !keys.Verify(k.Public(), bits, height, words, s) {
					t.Errorf("%d bits, height %d: what is signed by %d isn't right", bits, height, i)
				}
			}
		}
	}
}

// P7.1: right is what leads to the public key, be it signed by a key or not.
func TestRightWithoutAKey(t *testing.T) {
	words, bits := []byte("hello"), 8
	sum := sha.Sum(words)
	for height := range 7 {
		sig := api.Sig{Index: 1<<height - 1, Ots: digests(2 * bits), Path: digests(height)}
		b := []byte{2}
		for i := range bits {
			two := [2]api.Digest{plainSum(sig.Ots[2*i]), sig.Ots[2*i+1]}
			if sum[i/8]>>(7-i%8)&1 == 1 {
				two[0], two[1] = two[1], two[0]
			}
			b = append(b, join(two[:])...)
		}
		public := sha.Sum(b)
		for _, d := range sig.Path { // the last index stands to the right at each step
			public = sha.Sum(append([]byte{3}, join([]api.Digest{d, public})...))
		}
		if !keys.Verify(public, bits, height, words, sig) {
			t.Errorf("height %d: any digests that lead to it aren't right", height)
		}
	}
}

// P7.1: an Index that isn't the one that signed, or none of the key's.
func TestVerifyRefusesOtherIndexes(t *testing.T) {
	for _, height := range []int{0, 1, 3, 6} {
		k := mustNew(t, api.Digest{7}, 8, height)
		count := 1 << height
		for _, i := range slices.Compact([]int{0, count / 2, count - 1}) {
			sig := signedBy(t, mustNew(t, api.Digest{7}, 8, height), i, []byte("hello"))
			for other := -2 * count; other <= 4*count; other++ {
				sig.Index = other
				if keys.Verify(k.Public(), 8, height, []byte("hello"), sig) != (other == i) {
					t.Errorf("height %d: the signature by %d, as by %d", height, i, other)
				}
			}
			for _, other := range []int{i + 64, i + 1024, i + 1<<32, i + math.MinInt, i - 1<<32, math.MinInt, math.MaxInt} {
				sig.Index = other
				if keys.Verify(k.Public(), 8, height, []byte("hello"), sig) || keys.Verify(api.Digest{}, 8, height, []byte("hello"), sig) {
					t.Errorf("height %d: the signature by %d, as by %d", height, i, other)
				}
			}
		}
	}
}

// P7.1: Ots or Path of another number of digests, though those that are there are the right ones.
func TestVerifyRefusesOtherLengths(t *testing.T) {
	for _, height := range []int{0, 1, 3, 6} {
		k := mustNew(t, api.Digest{7}, 8, height)
		good := mustSign(t, k, []byte("hello"))
		for _, n := range []int{0, 1, 8, 14, 15, 17, 18, 32, 600} {
			sig := copied(good)
			sig.Ots = append(sig.Ots, digests(600)...)[:n]
			if keys.Verify(k.Public(), 8, height, []byte("hello"), sig) || keys.Verify(api.Digest{}, 8, height, []byte("hello"), sig) {
				t.Errorf("height %d: %d digests of Ots", height, n)
			}
		}
		for _, n := range []int{0, 1, height - 1, height + 1, 10, 11, 64, 600} {
			if n < 0 || n == height {
				continue
			}
			sig := copied(good)
			sig.Path = append(sig.Path, digests(600)...)[:n]
			if keys.Verify(k.Public(), 8, height, []byte("hello"), sig) || keys.Verify(api.Digest{}, 8, height, []byte("hello"), sig) {
				t.Errorf("height %d: %d digests of Path", height, n)
			}
		}
		if keys.Verify(api.Digest{}, 8, height, nil, api.Sig{}) {
			t.Errorf("height %d: nothing is right", height)
		}
	}
}

// P7.1: a signature that is right as of one height or number of bits isn't so as of another,
// not even where the public key is what it leads to.
func TestVerifyRefusesOtherShapes(t *testing.T) {
	words := []byte("hello")
	k := mustNew(t, api.Digest{7}, 8, 3)
	sig := mustSign(t, k, words)
	for bits := range 258 {
		for height := -1; height < 8; height++ {
			if keys.Verify(k.Public(), bits, height, words, sig) != (bits == 8 && height == 3) {
				t.Errorf("as of %d bits, height %d", bits, height)
			}
		}
	}
	leaves := plainLeaves(api.Digest{7}, 8, 3)
	for n := range 3 { // a part of the path leads to the root of a part of the tree
		part := api.Sig{Ots: sig.Ots, Path: sig.Path[:n]}
		root := plainRoot(leaves[:1<<n])
		if !keys.Verify(root, 8, n, words, part) || keys.Verify(root, 8, 3, words, part) || keys.Verify(root, 8, n+1, words, part) {
			t.Errorf("%d digests of the path", n)
		}
	}
}

// P7.1: each digest of Ots and of Path counts, in each bit, and where it stands.
func TestVerifyRefusesSpoiltSignatures(t *testing.T) {
	words := []byte("hello")
	k := mustNew(t, api.Digest{7}, 8, 3)
	good := signedBy(t, k, 5, words)
	refused := func(sig api.Sig, what string, at int) {
		if keys.Verify(k.Public(), 8, 3, words, sig) {
			t.Errorf("%s %d doesn't count", what, at)
		}
	}
	for bit := range 256 {
		for i := range good.Ots {
			sig := copied(good)
			sig.Ots[i][bit/8] ^= 1 << (bit % 8)
			refused(sig, "digest of Ots", i)
		}
		for i := range good.Path {
			sig := copied(good)
			sig.Path[i][bit/8] ^= 1 << (bit % 8)
			refused(sig, "digest of Path", i)
		}
	}
	for i := range good.Ots[1:] {
		sig := copied(good)
		sig.Ots[i], sig.Ots[i+1] = sig.Ots[i+1], sig.Ots[i]
		refused(sig, "the place in Ots of", i)
	}
	for i := range good.Path[1:] {
		sig := copied(good)
		sig.Path[i], sig.Path[i+1] = sig.Path[i+1], sig.Path[i]
		refused(sig, "the place in Path of", i)
	}
	if !keys.Verify(k.Public(), 8, 3, words, good) {
		t.Error("the right one isn't right any more")
	}
}

// P7.1: another text, another public key, and parts of two signatures put together.
func TestVerifyRefusesOthers(t *testing.T) {
	k, alien := mustNew(t, api.Digest{7}, 256, 2), mustNew(t, api.Digest{8}, 256, 2)
	one, two := mustSign(t, k, []byte("one")), mustSign(t, k, []byte("one"))
	for _, words := range append(texts(), []byte("two"), []byte("one "), []byte("on")) {
		if keys.Verify(k.Public(), 256, 2, words, one) {
			t.Errorf("the signature of one, for %.20q", words)
		}
	}
	for bit := range 256 {
		public := k.Public()
		public[bit/8] ^= 1 << (bit % 8)
		if keys.Verify(public, 256, 2, []byte("one"), one) {
			t.Errorf("the public key's bit %d doesn't count", bit)
		}
	}
	for _, public := range []api.Digest{{}, alien.Public(), mustNew(t, api.Digest{7}, 256, 1).Public(), mustNew(t, api.Digest{7}, 255, 2).Public(), plainLeaf(api.Digest{7}, 256, 0)} {
		if keys.Verify(public, 256, 2, []byte("one"), one) {
			t.Errorf("right by %x", public)
		}
	}
	other := mustSign(t, alien, []byte("one"))
	for _, sig := range []api.Sig{
		other,
		{Index: 0, Ots: one.Ots, Path: two.Path}, {Index: 0, Ots: two.Ots, Path: one.Path}, {Index: 0, Ots: two.Ots, Path: two.Path},
		{Index: 1, Ots: one.Ots, Path: two.Path}, {Index: 1, Ots: two.Ots, Path: one.Path}, {Index: 1, Ots: one.Ots, Path: one.Path},
		{Index: 0, Ots: other.Ots, Path: one.Path}, {Index: 0, Ots: one.Ots, Path: other.Path},
	} {
		if keys.Verify(k.Public(), 256, 2, []byte("one"), sig) {
			t.Errorf("a signature put together as by %d is right", sig.Index)
		}
	}
	if !keys.Verify(k.Public(), 256, 2, []byte("one"), one) || !keys.Verify(k.Public(), 256, 2, []byte("one"), two) {
		t.Error("the signatures themselves aren't right")
	}
}

// P7.3: whatever is signed and skipped, in whatever order, refused calls among them: the indexes of signatures only rise.
func TestNoIndexTwice(t *testing.T) {
	for run := range 200 {
		chance := rand.New(rand.NewSource(int64(run)))
		height := run % 7
		count := 1 << height
		k := mustNew(t, api.Digest{byte(run)}, 1, height)
		next, used := 0, map[int]bool{}
		for range 4 * count {
			if chance.Intn(3) == 0 {
				to := chance.Intn(count+6) - 3
				if chance.Intn(2) == 0 {
					to = next + chance.Intn(5) - 2
				}
				e := k.Skip(to)
				if want := to >= next && to <= count; (e == api.OK) != want || !want && e != api.ErrArg {
					t.Fatalf("run %d, at %d: Skip to %d: %d", run, next, to, e)
				}
				if e == api.OK {
					next = to
				}
			} else {
				s, e := k.Sign(message(chance.Intn(5)))
				if next == count {
					if e != api.ErrKeys || !isZero(s) {
						t.Fatalf("run %d: Sign at the end: by %d, %d", run, s.Index, e)
					}
				} else if e != api.OK || s.Index != next || used[s.Index] {
					t.Fatalf("run %d, at %d: Sign by %d, %d", run, next, s.Index, e)
				} else {
					used[s.Index] = true
					next++
				}
			}
			if k.Next() != next || k.Left() != count-next {
				t.Fatalf("run %d: next %d, left %d, want %d of %d", run, k.Next(), k.Left(), next, count)
			}
		}
	}
}

// P7.3: of two signatures of a key none have a secret in common: another index, another seed.
func TestSecretsAreNotShared(t *testing.T) {
	k := mustNew(t, api.Digest{7}, 64, 4)
	seen := map[api.Digest]int{}
	for range 16 {
		s := mustSign(t, k, []byte("hello"))
		for _, d := range s.Ots {
			if other, ok := seen[d]; ok {
				t.Errorf("a digest stands in the signatures by %d and by %d", other, s.Index)
			}
			seen[d] = s.Index
		}
	}
}

// P7.4: there and back, for each index.
func TestThereAndBack(t *testing.T) {
	for _, shape := range shapes() {
		bits, height := shape[0], shape[1]
		k := mustNew(t, api.Digest{7}, bits, height)
		for range 1 << height {
			s := mustSign(t, k, []byte("hello"))
			b := keys.Encode(s)
			if want := slices.Concat(wire.Num(uint64(s.Index)), join(s.Ots), join(s.Path)); !bytes.Equal(b, want) {
				t.Errorf("%d bits, height %d: the bytes by %d", bits, height, s.Index)
			}
			u, e := keys.Decode(b, bits, height)
			if e != api.OK || !same(u, s) {
				t.Errorf("%d bits, height %d: by %d there and back: %d", bits, height, s.Index, e)
			}
			if !bytes.Equal(keys.Encode(u), b) || !keys.Verify(k.Public(), bits, height, []byte("hello"), u) {
				t.Errorf("%d bits, height %d: what is read of the one by %d isn't it", bits, height, s.Index)
			}
		}
	}
}

// P7.4: any digests are read, as of any index; they needn't be right.
func TestAnyDigestsAreRead(t *testing.T) {
	for _, shape := range shapes() {
		bits, height := shape[0], shape[1]
		for i := range 1 << height {
			s := api.Sig{Index: i, Ots: digests(2 * bits), Path: digests(2*bits + height)[2*bits:]}
			b := keys.Encode(s)
			if u, e := keys.Decode(b, bits, height); e != api.OK || !same(u, s) || !bytes.Equal(keys.Encode(u), b) {
				t.Errorf("%d bits, height %d: as by %d: %d", bits, height, i, e)
			}
		}
	}
}

// P7.1: the bytes of signatures that no key makes: an Index below 0 is written as 0, a great one whole.
func TestEncodeAny(t *testing.T) {
	for _, lists := range [][2]int{{0, 0}, {1, 0}, {0, 1}, {3, 20}, {600, 2}} {
		sig := api.Sig{Ots: digests(lists[0]), Path: digests(lists[1])}
		rest := append(join(sig.Ots), join(sig.Path)...)
		for _, i := range []int{-1, -2, -256, math.MinInt32, math.MinInt, math.MinInt + 1, 0, 1, 63, 64, 255, 256, 1 << 32, math.MaxInt} {
			sig.Index = i
			want := append(wire.Num(uint64(max(i, 0))), rest...)
			if got := keys.Encode(sig); !bytes.Equal(got, want) {
				t.Errorf("%d and %d digests: as by %d the bytes begin with %x", lists[0], lists[1], i, got[:min(9, len(got))])
			}
		}
	}
	if got := keys.Encode(api.Sig{}); !bytes.Equal(got, []byte{0}) {
		t.Errorf("the bytes of nothing: %x", got)
	}
}

// P7.1: bytes that end early, at each place, and such as go on behind the end.
func TestDecodeShortAndRest(t *testing.T) {
	for _, shape := range [][2]int{{1, 0}, {1, 6}, {8, 0}, {8, 3}} {
		bits, height := shape[0], shape[1]
		s := signedBy(t, mustNew(t, api.Digest{7}, bits, height), 1<<height-1, []byte("hello"))
		b := keys.Encode(s)
		for n := range b {
			if u, e := keys.Decode(b[:n], bits, height); !isZero(u) || e != api.ErrShort {
				t.Errorf("%d bits, height %d: the first %d bytes: %d", bits, height, n, e)
			}
		}
		for _, more := range [][]byte{{0}, {1}, message(31), message(32), message(33), b} {
			if u, e := keys.Decode(append(bytes.Clone(b), more...), bits, height); !isZero(u) || e != api.ErrRest {
				t.Errorf("%d bits, height %d: %d bytes more: %d", bits, height, len(more), e)
			}
		}
		if u, e := keys.Decode(nil, bits, height); !isZero(u) || e != api.ErrShort {
			t.Errorf("%d bits, height %d: no bytes: %d", bits, height, e)
		}
	}
}

// P7.1: bytes of another shape are too short, or too long.
func TestDecodeOtherShapes(t *testing.T) {
	b := keys.Encode(mustSign(t, mustNew(t, api.Digest{7}, 8, 3), []byte("hello")))
	for _, c := range []struct {
		bits, height int
		want         api.Errno
	}{{8, 3, api.OK}, {8, 4, api.ErrShort}, {8, 2, api.ErrRest}, {8, 0, api.ErrRest}, {9, 3, api.ErrShort}, {7, 3, api.ErrRest},
		{1, 0, api.ErrRest}, {256, 6, api.ErrShort}, {9, 1, api.OK}, {7, 5, api.OK}} { // 19 digests are 9 bits' and 1 too, or 7 bits' and 5
		u, e := keys.Decode(b, c.bits, c.height)
		if e != c.want || isZero(u) != (e != api.OK) {
			t.Errorf("as of %d bits, height %d: %d, want %d", c.bits, c.height, e, c.want)
		}
		if e == api.OK && (len(u.Ots) != 2*c.bits || len(u.Path) != c.height || !bytes.Equal(keys.Encode(u), b)) {
			t.Errorf("as of %d bits, height %d: %d and %d digests", c.bits, c.height, len(u.Ots), len(u.Path))
		}
	}
}

// P7.1: a number of 2^h or more is ErrForm, one below is read.
func TestDecodeNumbers(t *testing.T) {
	for height := range 7 {
		rest := join(digests(2*3 + height))
		count := uint64(1) << height
		for _, n := range []uint64{0, count - 1, count, count + 1, 2 * count, 63, 64, 65, 255, 256, 1 << 32, 1 << 62,
			math.MaxInt64, math.MaxInt64 + 1, math.MaxUint64 - 1, math.MaxUint64} {
			u, e := keys.Decode(append(wire.Num(n), rest...), 3, height)
			if n < count && (e != api.OK || u.Index != int(n)) || n >= count && (e != api.ErrForm || !isZero(u)) {
				t.Errorf("height %d, the number %d: %d, %d", height, n, u.Index, e)
			}
		}
	}
}

// P7.1, P0.2: the reader's errors, in their order, come ahead of the number's being too great.
func TestDecodeFirstError(t *testing.T) {
	rest := join(digests(16 + 1))
	for _, c := range []struct {
		number []byte
		more   []byte
		want   api.Errno
	}{
		{[]byte{9, 1, 2, 3, 4, 5, 6, 7, 8, 9}, rest, api.ErrForm},
		{[]byte{255}, nil, api.ErrForm},
		{[]byte{9}, nil, api.ErrForm},
		{[]byte{1}, nil, api.ErrShort},
		{[]byte{8, 1, 2, 3, 4, 5, 6, 7}, nil, api.ErrShort},
		{[]byte{2, 0}, nil, api.ErrShort},
		{[]byte{1, 0}, rest, api.ErrForm},
		{[]byte{1, 0}, nil, api.ErrForm},
		{[]byte{2, 0, 1}, rest, api.ErrForm},
		{[]byte{2, 0, 1}, append(bytes.Clone(rest), 7), api.ErrForm},
		{[]byte{1, 2}, nil, api.ErrShort},
		{[]byte{1, 2}, rest[:len(rest)-1], api.ErrShort},
		{[]byte{1, 2}, append(bytes.Clone(rest), 7), api.ErrRest},
		{[]byte{1, 2}, rest, api.ErrForm},
		{[]byte{1, 1}, append(bytes.Clone(rest), 7), api.ErrRest},
		{[]byte{1, 1}, rest, api.OK},
		{[]byte{0}, rest, api.OK},
	} {
		u, e := keys.Decode(append(bytes.Clone(c.number), c.more...), 8, 1)
		if e != c.want || e != api.OK && !isZero(u) {
			t.Errorf("the number %x and %d bytes: %d, want %d", c.number, len(c.more), e, c.want)
		}
	}
}

// P7.4, P0.1: of any bytes, whatever is read has just these bytes.
func TestDecodeAnyBytes(t *testing.T) {
	chance := rand.New(rand.NewSource(7))
	read := 0
	for range 20000 {
		bits, height := 1+chance.Intn(3), chance.Intn(3)
		b := make([]byte, chance.Intn(4)+32*(2*bits+height))
		chance.Read(b)
		if len(b) > 1 && chance.Intn(4) > 0 {
			b[0], b[1] = byte(chance.Intn(3)), byte(chance.Intn(5))
		}
		u, e := keys.Decode(b, bits, height)
		if e != api.OK {
			if !isZero(u) {
				t.Fatalf("a signature beside %d", e)
			}
			continue
		}
		read++
		if !bytes.Equal(keys.Encode(u), b) || len(u.Ots) != 2*bits || len(u.Path) != height || u.Index < 0 || u.Index >= 1<<height {
			t.Fatalf("what is read of %x has other bytes", b)
		}
	}
	if read < 100 {
		t.Errorf("only %d of them were read", read)
	}
}

// P0.4
func TestNilAndEmptyAreAlike(t *testing.T) {
	one, two := mustNew(t, api.Digest{7}, 8, 0), mustNew(t, api.Digest{7}, 8, 0)
	s := mustSign(t, one, nil)
	if !same(s, mustSign(t, two, []byte{})) {
		t.Error("the signature of nil isn't that of no text")
	}
	for _, path := range [][]api.Digest{nil, {}} {
		sig := api.Sig{Ots: s.Ots, Path: path}
		if !keys.Verify(one.Public(), 8, 0, []byte{}, sig) || !keys.Verify(one.Public(), 8, 0, nil, sig) {
			t.Error("the signature of nil isn't right for no text")
		}
		if !bytes.Equal(keys.Encode(sig), keys.Encode(s)) {
			t.Error("the bytes of no path")
		}
	}
	if !bytes.Equal(keys.Encode(api.Sig{Ots: []api.Digest{}, Path: []api.Digest{}}), []byte{0}) {
		t.Error("the bytes of nothing")
	}
	if _, e := keys.Decode([]byte{}, 8, 0); e != api.ErrShort {
		t.Errorf("Decode of no bytes: %d", e)
	}
}

// P0.3: neither what is handed in nor the room behind it is changed.
func TestArgumentsStay(t *testing.T) {
	k := mustNew(t, api.Digest{7}, 8, 3)
	words := message(100)
	mustSign(t, k, words[:50])
	shown, path := digests(40), digests(20)
	sig := api.Sig{Index: 3, Ots: shown[:16], Path: path[:3]}
	keys.Verify(k.Public(), 8, 3, words[:50], sig)
	b := keys.Encode(sig)
	room := append(bytes.Clone(b), message(60)...)
	want := bytes.Clone(room)
	if _, e := keys.Decode(room[:len(b)], 8, 3); e != api.OK {
		t.Errorf("Decode: %d", e)
	}
	keys.Decode(room[:len(b)-1], 8, 3)
	if !bytes.Equal(words, message(100)) || !slices.Equal(shown, digests(40)) || !slices.Equal(path, digests(20)) || !bytes.Equal(room, want) {
		t.Error("an argument was changed")
	}
}

// P0.3: whoever writes into a signature, or behind its lists' ends, changes neither the key nor what it answers later.
func TestSignaturesAreNew(t *testing.T) {
	for _, height := range []int{0, 1, 3} {
		k, fresh := mustNew(t, api.Digest{7}, 8, height), mustNew(t, api.Digest{7}, 8, height)
		public := k.Public()
		var kept []api.Sig
		var want []api.Sig
		for i := range 1 << height {
			words := message(20)
			s := mustSign(t, k, words)
			clear(words)
			if ref := mustSign(t, fresh, message(20)); !same(s, ref) {
				t.Errorf("height %d: the signature by %d, when the ones ahead of it were written into", height, i)
			} else {
				want = append(want, copied(ref))
			}
			if i%2 == 0 {
				clear(s.Ots[:cap(s.Ots)])
				clear(s.Path[:cap(s.Path)])
			} else {
				kept = append(kept, s)
			}
		}
		if k.Public() != public {
			t.Errorf("height %d: the public key hangs on what was written into signatures", height)
		}
		for n, s := range kept {
			if !same(s, want[2*n+1]) {
				t.Errorf("height %d: the signature by %d was changed", height, s.Index)
			}
		}
	}
}

// P0.3: what is encoded and decoded is memory of its own, Ots and Path each too.
func TestBytesAreNew(t *testing.T) {
	sig := api.Sig{Index: 5, Ots: digests(16), Path: digests(3)}
	one, two := keys.Encode(sig), keys.Encode(sig)
	want := bytes.Clone(one)
	clear(two[:cap(two)])
	if !bytes.Equal(one, want) || !bytes.Equal(keys.Encode(sig), want) {
		t.Error("two answers of Encode share memory")
	}
	clear(one)
	if !slices.Equal(sig.Ots, digests(16)) || !slices.Equal(sig.Path, digests(3)) {
		t.Error("what was written into the bytes changed the signature")
	}
	b := bytes.Clone(want)
	u, _ := keys.Decode(b, 8, 3)
	v, _ := keys.Decode(b, 8, 3)
	clear(b)
	clear(v.Ots[:cap(v.Ots)])
	if !slices.Equal(v.Path, digests(3)) {
		t.Error("Ots and Path of one answer share memory")
	}
	clear(v.Path[:cap(v.Path)])
	if !same(u, sig) {
		t.Error("what is decoded shares memory with the bytes, or with another answer")
	}
}

// P0.3, P0.5: two keys of one seed have nothing in common, and what is asked of a key between changes nothing.
func TestKeysAreTheirOwn(t *testing.T) {
	one, two := mustNew(t, api.Digest{7}, 8, 2), mustNew(t, api.Digest{7}, 8, 2)
	first := mustSign(t, one, []byte("hello"))
	if two.Next() != 0 || two.Left() != 4 {
		t.Errorf("the other key's next index is %d", two.Next())
	}
	for range 3 {
		if one.Public() != two.Public() || one.Next() != 1 || one.Left() != 3 {
			t.Error("asking changes the key")
		}
		keys.Verify(one.Public(), 8, 2, []byte("hello"), first)
		keys.Decode(keys.Encode(first), 8, 2)
	}
	if !same(mustSign(t, two, []byte("hello")), first) {
		t.Error("two keys of one seed sign otherwise")
	}
	if e := one.Skip(4); e != api.OK || two.Left() != 3 {
		t.Errorf("a Skip of the one: %d; of the other %d are left", e, two.Left())
	}
}
