package ots_test

import (
	"bytes"
	"fmt"
	"math"
	"slices"
	"testing"

	"jurat/api"
	"jurat/mac"
	"jurat/ots"
	"jurat/sha"
)

// message is n bytes of which no two neighbours are alike.
func message(n int) []byte {
	b := make([]byte, n)
	for i := range n {
		b[i] = byte(0x9d*i + 0x81)
	}
	return b
}

// digests are n of them, all unlike.
func digests(n int) []api.Digest {
	l := make([]api.Digest, n)
	for i := range l {
		l[i] = sha.Sum(message(i))
	}
	return l
}

func text(d api.Digest) string { return fmt.Sprintf("%x", d[:]) }

func join(l []api.Digest) []byte {
	var b []byte
	for _, d := range l {
		b = append(b, d[:]...)
	}
	return b
}

func seeds() []api.Digest {
	return []api.Digest{{}, {7}, api.Digest(message(32)), sha.Sum(nil), api.Digest(bytes.Repeat([]byte{0xff}, 32))}
}

func texts() [][]byte {
	return [][]byte{nil, []byte("hello"), []byte("abc"), {0}, message(64), message(1000)}
}

// counts are numbers of bits, the edges among them.
func counts() []int { return []int{1, 2, 3, 7, 8, 9, 16, 31, 64, 100, 255, 256} }

// wrongCounts are out of the bounds.
func wrongCounts() []int {
	return []int{0, -1, -8, -256, math.MinInt32, math.MinInt, math.MinInt + 1, math.MinInt + 8,
		257, 258, 512, 1 << 16, 1<<32 + 8, math.MaxInt32, math.MaxInt/2 + 1, math.MaxInt - 1, math.MaxInt}
}

// bitsOf are all bits of a text's sum, as a text of 0s and 1s.
func bitsOf(words []byte) string {
	s := ""
	for _, x := range sha.Sum(words) {
		s += fmt.Sprintf("%08b", x)
	}
	return s
}

// plainSecret is a mac, worked out by the words of this chapter and of that of Seed.
func plainSecret(seed api.Digest, i, b int) api.Digest {
	n := 2*i + b
	return mac.Mac(seed[:], append([]byte("ots\x00\x00\x00\x00\x00\x00\x00"), byte(n>>8), byte(n)))
}

func plainSum(d api.Digest) api.Digest { return sha.Sum(d[:]) }

func plainPublic(seed api.Digest, bits int) []api.Digest {
	var l []api.Digest
	for i := range bits {
		l = append(l, plainSum(plainSecret(seed, i, 0)))
		l = append(l, plainSum(plainSecret(seed, i, 1)))
	}
	return l
}

func plainRoot(public []api.Digest) api.Digest {
	return sha.Sum(append([]byte{2}, join(public)...))
}

func plainSign(seed api.Digest, bits int, words []byte) []api.Digest {
	var l []api.Digest
	for i, c := range bitsOf(words)[:bits] {
		if c == '0' {
			l = append(l, plainSecret(seed, i, 0), plainSum(plainSecret(seed, i, 1)))
		} else {
			l = append(l, plainSecret(seed, i, 1), plainSum(plainSecret(seed, i, 0)))
		}
	}
	return l
}

func plainRecover(bits int, words []byte, sig []api.Digest) api.Digest {
	var l []api.Digest
	for i, c := range bitsOf(words)[:bits] {
		if c == '0' {
			l = append(l, plainSum(sig[2*i]), sig[2*i+1])
		} else {
			l = append(l, sig[2*i+1], plainSum(sig[2*i]))
		}
	}
	return plainRoot(l)
}

func mustPublic(t *testing.T, seed api.Digest, bits int) []api.Digest {
	t.Helper()
	l, e := ots.Public(seed, bits)
	if e != api.OK || len(l) != 2*bits {
		t.Fatalf("Public of %d bits: %d digests, %d", bits, len(l), e)
	}
	return l
}

func mustSign(t *testing.T, seed api.Digest, bits int, words []byte) []api.Digest {
	t.Helper()
	l, e := ots.Sign(seed, bits, words)
	if e != api.OK || len(l) != 2*bits {
		t.Fatalf("Sign of %d bits: %d digests, %d", bits, len(l), e)
	}
	return l
}

// P5.1: the roots of public parts, and the sums of their digests and of those of the signatures of hello,
// as another program worked them out.
func TestKnown(t *testing.T) {
	zeros, mixed, full := api.Digest{}, api.Digest(message(32)), api.Digest(bytes.Repeat([]byte{0xff}, 32))
	cases := []struct {
		seed               api.Digest
		bits               int
		root, public, sign string
	}{
		{mixed, 1, "7db57d14d60d8f2a36a5f74dd60f5d9f7400c7222d4778606222542642f6d6b5", "43c66928cccd638a0e7c4a129475198bc5bb2a54b855072812989c74d7ef512a", "005d41db6e07179decc5a51fe10ca692a61ef210821ec890b8c0fc0292ef9238"},
		{mixed, 2, "9129bac1eea4d55f6e28c895a5fcfe8ebfd3e0450185af471a93de6f7fc8ddd7", "d39015f8a6bd0d1f4948d9ecd8e0fb478e37e1d26b694f2f6b9d4c653d40e0d3", "2262367bff6ae4b51411eb1db39817db1e53b92a14289480030197b970f4b03b"},
		{mixed, 8, "c1eb38307f945d2f6d589376846fd90d04907e88b1e569329105f7712ecfa937", "27bbf682be7f8153b46d9ed3c0959816c9968bea6bd2fbf17157ff1847e1ec16", "21cd402b71ec3afcece917eb4d5b83647f8a152e089040cc63d964df9e461dcf"},
		{mixed, 9, "5f44434dd2f2e412a81534e372f7a594cb190509edcae00931cc9f34dc388037", "42707cf07ea98968bb735eb19cce847a02ee32bc396876631024880c819ff565", "61f5a73deb0d751571e31259f0b4f94f701a6e398381115c59fd4d80b45f86cd"},
		{mixed, 255, "2b7a2810f17fc0f8d182cc30313bf1821b89d499f614d0e0a0c9ea44f9c330a3", "b2138a2f82403f6c3b3a2941e0ce2e0511b2cf0cea80b5bbb1c1e5deb9b3bc8f", "4d51b5cecae16cd38e888616a1cb3ec3bde673479de9b82b51f3b83d2216f42d"},
		{mixed, 256, "627b415f4fc244c04bc0ae08d291af6cf21ab44685c0fd74532a7ca7875f17e0", "e3650f85e45d7dd8f85eda419388d93a3023ad0046a13323227a958830eb6937", "fc89f6f1b35eea439724f7fc7b52d829396c2d51b6277c0236918749db0e1ed0"},
		{zeros, 1, "66d75e6185d98658cb9f853fef7964c60da732493b9579bfc1d23ab1ea50b204", "56385ccc486e8ebf616c36d9ff07a6e5e2163da9740fbcdab981f03dc176009e", "8e15bc02650a69ea67111fc18d28cc12293828702c4e8b23759d099877bb5aee"},
		{zeros, 256, "9bfb7cdf62b8bd265eccec3a442461655fc8de982cd812c98a99932ace58b859", "cfcef8ec7ccc4a4c206376f4494afdbadb9af25020bc1f542b3ab848fa3b4879", "d54a491377addb1252f716439b3cda27767812e19d469af1a8305dfe71e03c2c"},
		{full, 7, "2348307e11954467a91b26574ebcd756ae371ec97cca0d409586e445658b0fc4", "09ecec715c83bafbd483a988392a9adcd5c9e746d600f8a85d9bc64fa651f63c", "992273f77b99a0ec3e4e04747d6ae3ee6a39ca4f30aaf7d781f4569826d291c5"},
		{full, 64, "8129fef46624a4e7443445faff8354ff3c020d83ec6ba428171130a61cc00f86", "3eab7f02490ae02d3bf7055d7cda6bb99645ff57d651ac4e8abaac6fa4f5c73b", "9dcc864a240f416f2049ce2714b9424c0f43a5b7f79ae970432e1ba8ca178934"},
	}
	for _, c := range cases {
		public, sig := mustPublic(t, c.seed, c.bits), mustSign(t, c.seed, c.bits, []byte("hello"))
		if got := text(ots.Root(public)); got != c.root {
			t.Errorf("%d bits: root %s, want %s", c.bits, got, c.root)
		}
		if got := text(sha.Sum(join(public))); got != c.public {
			t.Errorf("%d bits: a public part of the sum %s, want %s", c.bits, got, c.public)
		}
		if got := text(sha.Sum(join(sig))); got != c.sign {
			t.Errorf("%d bits: a signature of the sum %s, want %s", c.bits, got, c.sign)
		}
	}
}

// P5.1: one bit, digest by digest: the sum of hello begins with 0, that of no text with 1.
func TestOneBit(t *testing.T) {
	const (
		secret0 = "672fd08e98333e256351e89f27b209e6cd8e817b1e98f2cb9cf6d8f8d003e8de"
		secret1 = "2d072014c1db991b730e1f47bc270176679f763e131bb670c76e9da76f65224e"
		sum0    = "f048c891b486edad4a990dfd3113d52ed047da00531e88a38f320b2bc33d0142"
		sum1    = "366d6a4f965683953aaa505ed5c976bc294d1a3fcdbd72b65b7cde8a46c9bc0e"
	)
	seed := api.Digest(message(32))
	lists := []struct {
		got         []api.Digest
		first, last string
	}{
		{mustPublic(t, seed, 1), sum0, sum1},
		{mustSign(t, seed, 1, []byte("hello")), secret0, sum1},
		{mustSign(t, seed, 1, nil), secret1, sum0},
	}
	for i, c := range lists {
		if text(c.got[0]) != c.first || text(c.got[1]) != c.last {
			t.Errorf("list %d = %x, want %s, %s", i, c.got, c.first, c.last)
		}
	}
}

// P5.1: one known sum stands for the roots, and one for the signatures, of all numbers of bits.
func TestAllCounts(t *testing.T) {
	seed := api.Digest(message(32))
	roots, sigs := sha.New(), sha.New()
	for bits := 1; bits <= api.MaxBits; bits++ {
		root := ots.Root(mustPublic(t, seed, bits))
		sig := sha.Sum(join(mustSign(t, seed, bits, message(bits))))
		roots.Write(root[:])
		sigs.Write(sig[:])
	}
	if got := text(roots.Sum()); got != "5d02776780595a66677fa7a8d14f6aec597413fb91b2b3a338ab17c1c150d579" {
		t.Errorf("sum of the roots = %s", got)
	}
	if got := text(sigs.Sum()); got != "ce3d00c25ce55b4cefda9882010744f280b268d731c48c3f7da8f47808e66669" {
		t.Errorf("sum of the signatures = %s", got)
	}
}

// P5.1: all calls, held against the document's words.
func TestByTheWords(t *testing.T) {
	for _, seed := range seeds() {
		for _, bits := range counts() {
			public := mustPublic(t, seed, bits)
			if !slices.Equal(public, plainPublic(seed, bits)) {
				t.Errorf("seed %x: the public part of %d bits", seed, bits)
			}
			if ots.Root(public) != plainRoot(public) {
				t.Errorf("seed %x: the root of %d bits", seed, bits)
			}
			for _, words := range texts() {
				if !slices.Equal(mustSign(t, seed, bits, words), plainSign(seed, bits, words)) {
					t.Errorf("seed %x: the signature of %d bits of %.20q", seed, bits, words)
				}
			}
		}
	}
}

// P5.1: the root of no digests, and of any other number of them.
func TestRootKnown(t *testing.T) {
	cases := []struct {
		n    int
		want string
	}{
		{0, "dbc1b4c900ffe48d575b5da5c638040125f65db0fe3e24494b76ea986457d986"},
		{1, "4750e69abcadca780560d18ef9d9cca4b6e1f5c9f170e02e3667bccd82ba5c16"},
		{2, "bbc27b5b0639fb22fd2f831e2e8448db6f9f32485821d836ee5050729fb3d01e"},
		{3, "d299d4cee33cbc3d5bdc8b763d03697b7a38cd5c5acfb7b0e09d8d86efe28e8b"},
		{15, "f76b9916495c272eaf361afc7a3731889caa1d346935aa496cf9748d71fa8bc0"},
		{16, "d2c96c221763586931371bbae26284334d528386fd439704209924287b485c88"},
		{17, "40dca210dca3a8f5be5f00ef900bebb53875b01c5c04be329ccbadd755f0d747"},
		{511, "e288084333b92e2b6e5d4afc500d8ee84fadba033ce445e668f0417c08fe4170"},
		{512, "93f1ebbb45d88fa46f9b7e8501afd38583bf939919d42b8e0530dc7451557a78"},
		{513, "267ef51442d5ef1ba15db12da3aae75792d6a9abc15171c1fd7fa1f7bea7dba8"},
		{1000, "38164ae05aaad6e0ddbfd76cfcc4df5b33276cde690d5d93c94c0159106aff8d"},
	}
	for _, c := range cases {
		if got := text(ots.Root(digests(c.n))); got != c.want {
			t.Errorf("Root of %d digests = %s, want %s", c.n, got, c.want)
		}
	}
	if ots.Root(nil) != sha.Sum([]byte{2}) {
		t.Error("the root of no digests isn't the sum of a byte 2")
	}
	for n := range 70 {
		if ots.Root(digests(n)) != plainRoot(digests(n)) {
			t.Errorf("the root of %d digests", n)
		}
	}
}

// P5.1: any digests, two a bit, lead to a root, be they a signature or not.
func TestRecoverKnown(t *testing.T) {
	cases := []struct {
		bits        int
		hello, none string
	}{
		{1, "3528323f61c6aa8701971e7cc678bc5e9d61ff7b356c68442b2c76106b8c62fb", "df9890dfd1e1583c783ac32742b25121167207a5b3fd17bf44f30d7a33c6eb97"},
		{2, "9644cb4c9475da104d53d407f63933f868942155854597120b9d326547798ec6", "c35f10f84d22e2d48b0430b776499209ca81c4cd3fe64914858cdfdfa1cb74cf"},
		{8, "4eea393af01a967793d994c7011310173c0ab264ae95aee188440f5bfbf93db3", "43435d557ca2812c61732ee3e529041fb8b7dc617c4607cf78c7b35c22075f39"},
		{13, "ade466fc28a59aed13ed21110a2eca7c5b1c84e4d5d853e02b1fcafc57c76ac9", "d7cd7b44703e425943b5eaba4120cd3e19c141685aed8f8fda2b5406bb37a2bf"},
		{255, "a563a40cd3d74f1a98f3dfe5b6bd81987294ef6f8e833a16b577eae90064bb7c", "6f969e82b9525bb1cb3cd98dbb85b3e38679a87919524744e7d02079d6bc3b54"},
		{256, "e1a75206b2aad7d008b2d6ed6cc8d84c402a53bf328582db6e5f5dd1d0027259", "1192c7d33ac84ef0a009f6a2c54f39b19e9d0dafe60dbbaf14aa5d423849f6cb"},
	}
	for _, c := range cases {
		sig := digests(2 * c.bits)
		if got, e := ots.Recover(c.bits, []byte("hello"), sig); text(got) != c.hello || e != api.OK {
			t.Errorf("Recover of %d bits of hello = %x, %d, want %s", c.bits, got, e, c.hello)
		}
		if got, e := ots.Recover(c.bits, nil, sig); text(got) != c.none || e != api.OK {
			t.Errorf("Recover of %d bits of no text = %x, %d, want %s", c.bits, got, e, c.none)
		}
	}
	for _, bits := range counts() {
		for _, words := range texts() {
			got, e := ots.Recover(bits, words, digests(2*bits))
			if want := plainRecover(bits, words, digests(2*bits)); got != want || e != api.OK {
				t.Errorf("Recover of %d bits of %.20q = %x, %d, want %x", bits, words, got, e, want)
			}
		}
	}
}

// P5.1, P5.2: what is signed leads to the root of the public part, and Verify tells so.
func TestSignedIsVerified(t *testing.T) {
	for _, seed := range seeds() {
		for _, bits := range counts() {
			root := ots.Root(mustPublic(t, seed, bits))
			for _, words := range texts() {
				sig := mustSign(t, seed, bits, words)
				if got, e := ots.Recover(bits, words, sig); got != root || e != api.OK {
					t.Errorf("%d bits of %.20q lead to %x, %d, want %x", bits, words, got, e, root)
				}
				if !ots.Verify(root, bits, words, sig) {
					t.Errorf("P5.2: %d bits of %.20q aren't verified", bits, words)
				}
			}
		}
	}
}

// P5.2: for every number of bits, the edges among them, and a text of its own each.
func TestSignedIsVerifiedForAllCounts(t *testing.T) {
	for bits := 1; bits <= api.MaxBits; bits++ {
		seed, words := sha.Sum(message(bits)), message(3*bits)
		if !ots.Verify(ots.Root(mustPublic(t, seed, bits)), bits, words, mustSign(t, seed, bits, words)) {
			t.Errorf("%d bits aren't verified", bits)
		}
	}
}

// P5.1: of unlike seeds the secrets, so the roots too, are unlike; the seed's every byte counts.
func TestSeedsAreUnlike(t *testing.T) {
	base := ots.Root(mustPublic(t, api.Digest{}, 8))
	sig := mustSign(t, api.Digest{}, 8, []byte("hello"))
	for bit := range 256 {
		seed := api.Digest{}
		seed[bit/8] = 1 << (bit % 8)
		if ots.Root(mustPublic(t, seed, 8)) == base {
			t.Errorf("the seed's bit %d doesn't count in the public part", bit)
		}
		other := mustSign(t, seed, 8, []byte("hello"))
		for i := range other {
			if other[i] == sig[i] {
				t.Errorf("the seed's bit %d doesn't count in digest %d of a signature", bit, i)
			}
		}
	}
}

// P5.1: a root that isn't the one a signature leads to, by any bit of it.
func TestVerifyRefusesOtherRoots(t *testing.T) {
	seed, words := api.Digest{7}, []byte("hello")
	for _, bits := range []int{1, 8, 256} {
		root := ots.Root(mustPublic(t, seed, bits))
		sig := mustSign(t, seed, bits, words)
		for bit := range 256 {
			other := root
			other[bit/8] ^= 1 << (bit % 8)
			if ots.Verify(other, bits, words, sig) {
				t.Errorf("%d bits: the root's bit %d doesn't count", bits, bit)
			}
		}
		for _, other := range []api.Digest{{}, ots.Root(nil), ots.Root(sig), ots.Root(mustPublic(t, api.Digest{8}, bits)), sha.Sum(words)} {
			if ots.Verify(other, bits, words, sig) {
				t.Errorf("%d bits: verified by %x", bits, other)
			}
		}
		if bits < 256 && ots.Verify(ots.Root(mustPublic(t, seed, bits+1)), bits, words, sig) {
			t.Errorf("%d bits: verified by the root of one bit more", bits)
		}
	}
}

// P5.1: a signature that is spoilt in any digest, or whose digests stand otherwise.
func TestVerifyRefusesSpoiltSignatures(t *testing.T) {
	seed, words := api.Digest{7}, []byte("hello")
	for _, bits := range []int{1, 8, 256} {
		root := ots.Root(mustPublic(t, seed, bits))
		good := mustSign(t, seed, bits, words)
		for i := range good {
			for _, at := range []int{0, i % 32, 31} {
				sig := slices.Clone(good)
				sig[i][at] ^= 1 << (i % 8)
				if ots.Verify(root, bits, words, sig) {
					t.Errorf("%d bits: byte %d of digest %d doesn't count", bits, at, i)
				}
			}
		}
		for i := range bits {
			sig := slices.Clone(good)
			sig[2*i], sig[2*i+1] = sig[2*i+1], sig[2*i]
			if ots.Verify(root, bits, words, sig) {
				t.Errorf("%d bits: those of bit %d may stand otherwise", bits, i)
			}
		}
		if ots.Verify(root, bits, words, mustPublic(t, seed, bits)) {
			t.Errorf("%d bits: the public part is verified", bits)
		}
		if ots.Verify(root, bits, words, mustSign(t, api.Digest{8}, bits, words)) {
			t.Errorf("%d bits: the signature by another seed is verified", bits)
		}
	}
}

// P5.1, P0.2: ErrArg comes ahead of ErrForm, with nothing beside it; Verify: false, by a root of zeros too.
func TestWrongCounts(t *testing.T) {
	good := mustSign(t, api.Digest{7}, 8, []byte("hello"))
	root := ots.Root(mustPublic(t, api.Digest{7}, 8))
	for _, bits := range wrongCounts() {
		if l, e := ots.Public(api.Digest{7}, bits); len(l) != 0 || e != api.ErrArg {
			t.Errorf("Public of %d bits: %d digests, %d", bits, len(l), e)
		}
		for _, words := range texts() {
			if l, e := ots.Sign(api.Digest{7}, bits, words); len(l) != 0 || e != api.ErrArg {
				t.Errorf("Sign of %d bits: %d digests, %d", bits, len(l), e)
			}
		}
		for _, sig := range [][]api.Digest{nil, {}, good, good[:15], digests(1), digests(514), digests(513)} {
			if d, e := ots.Recover(bits, []byte("hello"), sig); d != (api.Digest{}) || e != api.ErrArg {
				t.Errorf("Recover of %d bits, %d digests = %x, %d", bits, len(sig), d, e)
			}
			for _, r := range []api.Digest{{}, root, ots.Root(nil)} {
				if ots.Verify(r, bits, []byte("hello"), sig) {
					t.Errorf("Verify of %d bits, %d digests", bits, len(sig))
				}
			}
		}
	}
}

// P5.1, P0.2: a signature that hasn't two digests a bit.
func TestWrongLengths(t *testing.T) {
	seed, words := api.Digest{7}, []byte("hello")
	for _, bits := range []int{1, 2, 8, 255, 256} {
		good := mustSign(t, seed, bits, words)
		root := ots.Root(mustPublic(t, seed, bits))
		for _, n := range []int{0, 1, bits, 2*bits - 2, 2*bits - 1, 2*bits + 1, 2*bits + 2, 4 * bits, 600} {
			if n == 2*bits {
				continue
			}
			sig := append(slices.Clone(good), digests(600)...)[:n]
			if d, e := ots.Recover(bits, words, sig); d != (api.Digest{}) || e != api.ErrForm {
				t.Errorf("Recover of %d bits, %d digests = %x, %d", bits, n, d, e)
			}
			if ots.Verify(root, bits, words, sig) || ots.Verify(api.Digest{}, bits, words, sig) {
				t.Errorf("Verify of %d bits, %d digests", bits, n)
			}
		}
	}
	long := mustSign(t, seed, 16, words)
	if _, e := ots.Recover(8, words, long); e != api.ErrForm {
		t.Errorf("a signature of 16 bits, taken as of 8: %d", e)
	}
}

// P5.3: bit for bit, the secret for the text's own bit, and the other one's sum; the other one itself stands nowhere.
func TestSignatureShowsOneSecretOfEachBit(t *testing.T) {
	for _, seed := range seeds() {
		for _, words := range texts() {
			for _, bits := range []int{1, 8, 9, 256} {
				sig := mustSign(t, seed, bits, words)
				for i, c := range bitsOf(words)[:bits] {
					b := int(c - '0')
					own, other := plainSecret(seed, i, b), plainSecret(seed, i, 1-b)
					if sig[2*i] != own {
						t.Errorf("bit %d of %d: not the secret for %d", i, bits, b)
					}
					if sig[2*i+1] != plainSum(other) {
						t.Errorf("bit %d of %d: not the sum of the secret for %d", i, bits, 1-b)
					}
					if bytes.Contains(join(sig), other[:]) {
						t.Errorf("bit %d of %d: the secret for %d is shown", i, bits, 1-b)
					}
				}
			}
		}
	}
}

// P5.3: two texts' signatures by one seed show both secrets only of those bits in which their sums are unlike.
func TestTwoSignatures(t *testing.T) {
	one, two := mustSign(t, api.Digest{7}, 256, []byte("one")), mustSign(t, api.Digest{7}, 256, []byte("two"))
	first, second := bitsOf([]byte("one")), bitsOf([]byte("two"))
	for i := range 256 {
		if alike := one[2*i] == two[2*i]; alike != (first[i] == second[i]) {
			t.Errorf("bit %d: the same secret: %v", i, alike)
		}
		if alike := one[2*i+1] == two[2*i+1]; alike != (first[i] == second[i]) {
			t.Errorf("bit %d: the same sum: %v", i, alike)
		}
	}
}

// agreeing finds two texts whose sums agree in just their first n bits.
func agreeing(t *testing.T, n int) ([]byte, []byte) {
	t.Helper()
	seen := map[string][]byte{}
	for i := range 1 << 16 {
		words := fmt.Appendf(nil, "text %d", i)
		all := bitsOf(words)
		next := all[:n] + string('0'+'1'-all[n])
		if other, ok := seen[next]; ok {
			return other, words
		}
		seen[all[:n+1]] = words
	}
	t.Fatalf("no two texts whose sums agree in their first %d bits", n)
	return nil, nil
}

// P5.4: texts whose sums agree in their first bits have one signature of so many bits, and it is right for both;
// of one bit more, it isn't.
func TestFirstBitsAlone(t *testing.T) {
	for _, n := range []int{1, 2, 7, 8, 9, 15, 16, 17} {
		one, two := agreeing(t, n)
		for bits := 1; bits <= n+1; bits++ {
			root := ots.Root(mustPublic(t, api.Digest{7}, bits))
			first, second := mustSign(t, api.Digest{7}, bits, one), mustSign(t, api.Digest{7}, bits, two)
			if alike := slices.Equal(first, second); alike != (bits <= n) {
				t.Errorf("sums that agree in %d bits: one signature of %d bits: %v", n, bits, alike)
			}
			if ots.Verify(root, bits, two, first) != (bits <= n) || ots.Verify(root, bits, one, second) != (bits <= n) {
				t.Errorf("sums that agree in %d bits: the other's signature of %d bits", n, bits)
			}
			a, _ := ots.Recover(bits, one, digests(2*bits))
			b, _ := ots.Recover(bits, two, digests(2*bits))
			if (a == b) != (bits <= n) {
				t.Errorf("sums that agree in %d bits: of %d bits, any digests lead to one root: %v", n, bits, a == b)
			}
		}
	}
}

// P5.4: a signature of fewer bits is the beginning of one of more; so is the public part.
func TestFewerBitsAreABeginning(t *testing.T) {
	for _, words := range texts() {
		whole := mustSign(t, api.Digest{9}, 256, words)
		public := mustPublic(t, api.Digest{9}, 256)
		for bits := 1; bits <= 256; bits += 5 {
			if !slices.Equal(mustSign(t, api.Digest{9}, bits, words), whole[:2*bits]) {
				t.Errorf("the signature of %d bits of %.20q", bits, words)
			}
			if !slices.Equal(mustPublic(t, api.Digest{9}, bits), public[:2*bits]) {
				t.Errorf("the public part of %d bits", bits)
			}
		}
	}
}

// P5.1: of 256 bits, another text is not right by a text's signature.
func TestVerifyRefusesOtherTexts(t *testing.T) {
	root := ots.Root(mustPublic(t, api.Digest{7}, 256))
	for i, words := range texts() {
		sig := mustSign(t, api.Digest{7}, 256, words)
		for k, other := range texts() {
			if ots.Verify(root, 256, other, sig) != (i == k) {
				t.Errorf("the signature of text %d for text %d", i, k)
			}
		}
	}
}

// P0.4
func TestNilAndEmptyAreAlike(t *testing.T) {
	if ots.Root(nil) != ots.Root([]api.Digest{}) {
		t.Error("the root of nil isn't that of none")
	}
	if !slices.Equal(mustSign(t, api.Digest{7}, 8, nil), mustSign(t, api.Digest{7}, 8, []byte{})) {
		t.Error("the signature of nil isn't that of no text")
	}
	root := ots.Root(mustPublic(t, api.Digest{7}, 8))
	if !ots.Verify(root, 8, []byte{}, mustSign(t, api.Digest{7}, 8, nil)) {
		t.Error("the signature of nil isn't right for no text")
	}
	for _, words := range [][]byte{nil, {}} {
		for _, sig := range [][]api.Digest{nil, {}} {
			if d, e := ots.Recover(8, words, sig); d != (api.Digest{}) || e != api.ErrForm {
				t.Errorf("Recover of no digests = %x, %d", d, e)
			}
		}
	}
}

// P0.3: neither the lists nor the room behind them are changed.
func TestArgumentsStay(t *testing.T) {
	for _, bits := range []int{1, 8, 256} {
		words, sig := message(100), digests(600)
		ots.Sign(api.Digest{7}, bits, words[:50])
		ots.Recover(bits, words[:50], sig[:2*bits])
		ots.Verify(api.Digest{7}, bits, words[:50], sig[:2*bits])
		ots.Recover(bits, words[:50], sig[:2*bits-1])
		ots.Root(sig[:2*bits])
		ots.Root(sig[:0])
		if !bytes.Equal(words, message(100)) || !slices.Equal(sig, digests(600)) {
			t.Errorf("%d bits: an argument was changed", bits)
		}
	}
}

// P0.3, P0.5: whoever writes into an answer, or behind its end, or into an argument later, changes no other answer.
func TestAnswersAreNew(t *testing.T) {
	seed, words := api.Digest{7}, message(20)
	for _, bits := range []int{1, 8, 256} {
		for _, call := range []func() []api.Digest{
			func() []api.Digest { return mustPublic(t, seed, bits) },
			func() []api.Digest { return mustSign(t, seed, bits, words) },
		} {
			one, two := call(), call()
			want := slices.Clone(two)
			clear(one[:cap(one)])
			if !slices.Equal(two, want) || !slices.Equal(call(), want) {
				t.Errorf("%d bits: two answers share memory", bits)
			}
		}
		sig := mustSign(t, seed, bits, words)
		root, _ := ots.Recover(bits, words, sig)
		clear(sig)
		ots.Recover(bits, nil, sig)
		if again, _ := ots.Recover(bits, message(20), plainSign(seed, bits, message(20))); again != root {
			t.Errorf("%d bits: Recover hangs on what was told before", bits)
		}
	}
}
