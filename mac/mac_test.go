package mac_test

import (
	"bytes"
	"fmt"
	"math"
	"math/big"
	"strings"
	"testing"

	"jurat/api"
	"jurat/mac"
	"jurat/sha"
)

// message is n bytes of which no two neighbours are alike.
func message(n int) []byte {
	b := make([]byte, n)
	for i := range n {
		b[i] = byte(0x9d*i + 0x81)
	}
	return b
}

func text(d api.Digest) string { return fmt.Sprintf("%x", d[:]) }

func join(parts ...[]byte) []byte { return bytes.Join(parts, nil) }

// masked is a block's bytes, each xored with mask.
func masked(block []byte, mask byte) []byte {
	b := bytes.Clone(block)
	for i := range b {
		b[i] ^= mask
	}
	return b
}

// plainMac is worked out by the document's words, over whole texts, and shares no code with Mac.
func plainMac(key, text []byte) api.Digest {
	if len(key) > 64 {
		d := sha.Sum(key)
		key = d[:]
	}
	block := join(key, make([]byte, 64-len(key)))
	inner := sha.Sum(join(masked(block, 0x36), text))
	return sha.Sum(join(masked(block, 0x5c), inner[:]))
}

// wide is the lowest bytes of n as of the unsigned number, the highest first.
func wide(n, size int) []byte {
	modulus := new(big.Int).Lsh(big.NewInt(1), uint(8*size))
	return new(big.Int).Mod(big.NewInt(int64(n)), modulus).FillBytes(make([]byte, size))
}

// partText is the text of the part i that is derived.
func partText(i int, label string, n int) []byte {
	return join(wide(i, 4), []byte(label), []byte{0}, wide(n, 4))
}

// plainDerive is worked out by the document's words.
func plainDerive(key []byte, label string, n int) []byte {
	var all []byte
	for i := 1; len(all) < n; i++ {
		d := plainMac(key, partText(i, label, n))
		all = append(all, d[:]...)
	}
	return all[:n]
}

// P3.1: the document's example and those of RFC 4231.
func TestMacKnown(t *testing.T) {
	cases := []struct {
		key, text, want string
	}{
		{"Jefe", "what do ya want for nothing?", "5bdcc146bf60754e6a042426089575c75a003f089d2739839dec58b964ec3843"},
		{strings.Repeat("\x0b", 20), "Hi There", "b0344c61d8db38535ca8afceaf0bf12b881dc200c9833da726e9376c2e32cff7"},
		{strings.Repeat("\xaa", 20), strings.Repeat("\xdd", 50), "773ea91e36800e46854db8ebd09181a72959098b3ef8c122d9635514ced565fe"},
		{"\x01\x02\x03\x04\x05\x06\x07\x08\x09\x0a\x0b\x0c\x0d\x0e\x0f\x10\x11\x12\x13\x14\x15\x16\x17\x18\x19", strings.Repeat("\xcd", 50), "82558a389a443c0ea4cc819899f2083a85f0faa3e578f8077a2e3ff46729665b"},
		{strings.Repeat("\xaa", 131), "Test Using Larger Than Block-Size Key - Hash Key First", "60e431591ee0b67f0d8a26aacbf5b77f8e0bc6213728c5140546040f0ee37f54"},
		{strings.Repeat("\xaa", 131), "This is a test using a larger than block-size key and a larger than block-size data. The key needs to be hashed before being used by the HMAC algorithm.", "9b09ffa71b942fcb27635fbcd5b0e944bfdc63644f0713938a7f51535c3a35e2"},
	}
	for _, c := range cases {
		if got := text(mac.Mac([]byte(c.key), []byte(c.text))); got != c.want {
			t.Errorf("Mac(%.20q, %.20q) = %s, want %s", c.key, c.text, got, c.want)
		}
	}
}

// P3.1: lengths about the ends of blocks; the macs were worked out by another program.
func TestMacKnownLengths(t *testing.T) {
	cases := []struct {
		key, text int
		want      string
	}{
		{0, 0, "b613679a0814d9ec772f95d778c35fc5ff1697c493715653c6c712144292c5ad"},
		{0, 1, "54674c387e174ab90643086996573ebfb4bf494efd9f2f594dcac1ec0f63d63a"},
		{1, 0, "f481b5f78ea7926535c569c400cbf6a23441cb3c1662caacff5e5b905abd51e4"},
		{32, 55, "d9f3e2511f4686791c2f84ae20604bad09bb22140a6b1191aa8a751b8f4a4552"},
		{63, 64, "70641cd9095ba83fa08f1954316daee1afc44eb8f60ce69ed4073e2fee16b18e"},
		{64, 0, "d0b7b139273e08ea218ebb14fa8b8963e67740f70aeddb32cc4e755e2308eaff"},
		{64, 64, "4321cfa0f0ec2689e76493d3f92e31a8231dff048fa33f94cf9e6e343cd1cf9d"},
		{65, 1, "110b2fc223630690b09dd495e6c2f73d590dfecf0f244fdab169cfc57f0c7e7a"},
		{65, 64, "5841929b0953bc8f4358c25bc79f7f9c217912e3ab50a225240a55ff2661f886"},
		{128, 200, "ccf026fc0effbc18018a3664a549731ce518c66ee35b7a32fe76d6e529a24bfc"},
		{1000, 1000, "c013c580e221ea0390b74f2b518098a7d3060aaf599cc67cd1f96b6fdcbd4e8f"},
	}
	for _, c := range cases {
		if got := text(mac.Mac(message(c.key), message(c.text))); got != c.want {
			t.Errorf("Mac of %d and %d bytes = %s, want %s", c.key, c.text, got, c.want)
		}
	}
}

// P3.1: one known sum stands for the macs of all keys and texts of up to 130 bytes.
func TestMacAllLengths(t *testing.T) {
	h := sha.New()
	for key := range 131 {
		for length := range 131 {
			d := mac.Mac(message(key), message(length))
			h.Write(d[:])
		}
	}
	const want = "7df984de48ff9f08d5f0d1dc9c16b1642442d626918f2cc85bac95ddfc05aba1"
	if got := text(h.Sum()); got != want {
		t.Errorf("sum of the macs = %s, want %s", got, want)
	}
}

// P3.3: a key of more than a block is its sum; one of a block or less isn't.
func TestLongKeyIsItsSum(t *testing.T) {
	for n := 1; n <= 300; n++ {
		key := message(n)
		sum := sha.Sum(key)
		for _, length := range []int{0, 1, 64, 100} {
			alike := mac.Mac(key, message(length)) == mac.Mac(sum[:], message(length))
			if alike != (n > 64) {
				t.Errorf("a key of %d bytes, a text of %d: as its sum: %v", n, length, alike)
			}
		}
	}
}

// P3.3: bytes 0 behind a key change nothing up to a block, and something beyond it.
func TestZerosBehindKey(t *testing.T) {
	for n := range 65 {
		want := mac.Mac(message(n), []byte("zeros"))
		for length := n; length <= 70; length++ {
			padded := join(message(n), make([]byte, length-n))
			if alike := mac.Mac(padded, []byte("zeros")) == want; alike != (length <= 64) {
				t.Errorf("a key of %d bytes with %d bytes 0: alike: %v", n, length-n, alike)
			}
		}
	}
}

// P3.3: it holds of what is derived too, as that is made of macs; and of the long key's sum alone.
func TestDeriveByLongKeys(t *testing.T) {
	for _, n := range []int{65, 100, 1000} {
		sum := sha.Sum(message(n))
		one, _ := mac.Derive(message(n), "long", 100)
		two, _ := mac.Derive(sum[:], "long", 100)
		if !bytes.Equal(one, two) {
			t.Errorf("a key of %d bytes derives others than its sum", n)
		}
	}
}

// P3.1: every bit of a key of up to a block, and of a text, counts.
func TestMacHangsOnEveryBit(t *testing.T) {
	key, words := message(64), message(70)
	want := mac.Mac(key, words)
	for bit := range 8 * len(key) {
		other := bytes.Clone(key)
		other[bit/8] ^= 1 << (bit % 8)
		if mac.Mac(other, words) == want {
			t.Errorf("the key's bit %d doesn't count", bit)
		}
	}
	for bit := range 8 * len(words) {
		other := bytes.Clone(words)
		other[bit/8] ^= 1 << (bit % 8)
		if mac.Mac(key, other) == want {
			t.Errorf("the text's bit %d doesn't count", bit)
		}
	}
}

// P3.1, P3.2: the same bytes are told so, in as many steps as there are.
func TestSameOfSameBytes(t *testing.T) {
	for _, n := range []int{0, 1, 2, 31, 32, 33, 64, 255, 256, 257, 1000, 70000} {
		b := message(n)
		if same, steps := mac.Same(b, bytes.Clone(b)); !same || steps != n {
			t.Errorf("Same of %d bytes twice = %v, %d", n, same, steps)
		}
		if same, steps := mac.Same(b, b); !same || steps != n {
			t.Errorf("Same of one list of %d bytes = %v, %d", n, same, steps)
		}
	}
}

// P3.2: wherever one bit is unlike, the steps are as many.
func TestSameWhereverUnlike(t *testing.T) {
	for _, n := range []int{1, 2, 32, 65} {
		a := message(n)
		for bit := range 8 * n {
			b := bytes.Clone(a)
			b[bit/8] ^= 1 << (bit % 8)
			for _, pair := range [][2][]byte{{a, b}, {b, a}} {
				if same, steps := mac.Same(pair[0], pair[1]); same || steps != n {
					t.Errorf("Same of %d bytes, unlike in bit %d = %v, %d", n, bit, same, steps)
				}
			}
		}
	}
}

// P3.1: two places that are unlike don't make up for each other.
func TestSameWhereManyAreUnlike(t *testing.T) {
	cases := [][2][]byte{
		{{1, 1}, {2, 2}}, {{0xff, 0}, {0, 0xff}}, {{1, 2}, {2, 1}}, {{0x0f, 0xf0}, {0xf0, 0x0f}},
		{{0x80, 0x80}, {0, 0}}, {{255, 1}, {254, 0}}, {{1, 255}, {0, 0}},
	}
	for _, c := range cases {
		if same, steps := mac.Same(c[0], c[1]); same || steps != 2 {
			t.Errorf("Same(%x, %x) = %v, %d", c[0], c[1], same, steps)
		}
	}
	whole := bytes.Repeat([]byte{1}, 256)
	if same, steps := mac.Same(whole, make([]byte, 256)); same || steps != 256 {
		t.Errorf("Same of 256 bytes that are all unlike = %v, %d", same, steps)
	}
}

// P3.1, P3.2: of unlike lengths, and be the longer one's rest all 0.
func TestSameOfUnlikeLengths(t *testing.T) {
	for _, short := range []int{0, 1, 2, 31, 32, 64} {
		for _, long := range []int{short + 1, short + 2, short + 256, short + 1000, short + 65536} {
			for _, c := range [][2][]byte{
				{message(short), message(long)},
				{message(short), join(message(short), make([]byte, long-short))},
				{make([]byte, short), make([]byte, long)},
				{message(short), make([]byte, long)},
			} {
				for _, pair := range [][2][]byte{{c[0], c[1]}, {c[1], c[0]}} {
					if same, steps := mac.Same(pair[0], pair[1]); same || steps != long {
						t.Errorf("Same of %d and %d bytes = %v, %d", len(pair[0]), len(pair[1]), same, steps)
					}
				}
			}
		}
	}
}

// P3.1: equal bytes that stand behind a list's end don't count.
func TestSameLooksNotBehindTheEnd(t *testing.T) {
	room := message(40)
	if same, steps := mac.Same(room[:10], room[:20]); same || steps != 20 {
		t.Errorf("Same of 10 and 20 bytes in one room = %v, %d", same, steps)
	}
	other := bytes.Clone(room)
	other[10]++
	if same, steps := mac.Same(room[:10], other[:10]); !same || steps != 10 {
		t.Errorf("Same of 10 bytes, unlike behind the end = %v, %d", same, steps)
	}
}

// P3.1: bytes that another program worked out.
func TestDeriveKnown(t *testing.T) {
	cases := []struct {
		key, label string
		n          int
		want       string
	}{
		{"k", "label", 0, ""},
		{"k", "label", 1, "ff"},
		{"k", "label", 31, "78fed63dd6806bca962cc6ddf098214fd7b1e5268b3f005884d42f2707b9af"},
		{"k", "label", 32, "c2d75addc6467f3f61b86aac4d718c3cd80d22b367758d09c35fb23853979965"},
		{"k", "label", 33, "1ee84494616d5eda9c04291c5473bce8179365fb80fdd7a63ffaf6fc4726e63eec"},
		{"k", "label", 64, "25faf4eb20abe4bac227d902881e296569e5af5e521179f22a2786ecea6e44861eaead095d2d05ffb947149a9bd9f7f049206e08e27a55f05f695671a9864626"},
		{"k", "label", 70, "72dffca7d8fb40fcef7b6c53fcf72ed2c54d673d26cd40de6e62ef04d936d243046659a07c8a1292a0bbd42545c41b3bc17391c857bb9bf5500aa0a5efe02d01ed163c562b57"},
		{"", "", 1, "88"},
		{"", "", 40, "24b03ff97a1f2c260a8098e82cdfae9be001af2012d9926248db730bd9760411043938b5c672356e"},
	}
	for _, c := range cases {
		got, e := mac.Derive([]byte(c.key), c.label, c.n)
		if fmt.Sprintf("%x", got) != c.want || e != api.OK {
			t.Errorf("Derive(%q, %q, %d) = %x, %d, want %s", c.key, c.label, c.n, got, e, c.want)
		}
	}
}

// P3.1: as many as may be, and some fewer, by their sums.
func TestDeriveKnownSums(t *testing.T) {
	cases := []struct {
		key   []byte
		label string
		n     int
		want  string
	}{
		{[]byte("k"), "label", 8159, "01406628ed7afeb543f1a922dc26378ea0ff8ad8e986c18be9de2dea6216dd75"},
		{[]byte("k"), "label", 8160, "6f07e13bbdffd9da93b57a477d327b2a9a7f4df035638fc7a69e6a5fd5096ea1"},
		{message(100), "\xff\x00\xe9", 8160, "2c6229cefd0adfc92c52124018fc724bd95569bf962b4698835441a7b8a1dd36"},
		{nil, "", 256, "3d3613142063f2ceff2bc573d65eaa12d260efb0c932a029cde5c0303a464019"},
		{nil, "", 300, "981536d28c6bccc709c3602c8acfcc3300eae9c90df65fd17366ae19321e19dc"},
	}
	for _, c := range cases {
		got, e := mac.Derive(c.key, c.label, c.n)
		if len(got) != c.n || e != api.OK || text(sha.Sum(got)) != c.want {
			t.Errorf("Derive of %d bytes: %d bytes, %d, of the sum %x", c.n, len(got), e, sha.Sum(got))
		}
	}
}

// deriveLengths are 0 to 200, the last ones that may be, and some between.
func deriveLengths() []int {
	var list []int
	for n := range api.MaxDerive + 1 {
		if n <= 200 || n >= 8100 || n%97 == 0 {
			list = append(list, n)
		}
	}
	return list
}

// P3.1: one known sum stands for what is derived of all those lengths.
func TestDeriveManyLengths(t *testing.T) {
	h := sha.New()
	for _, n := range deriveLengths() {
		b, _ := mac.Derive([]byte("key of all"), "all lengths", n)
		h.Write(b)
	}
	const want = "a7caf8d51cd6abcc6f74fe8f7f28f216fcdbb9db2621fa2ee1cc0d2ff8a59b43"
	if got := text(h.Sum()); got != want {
		t.Errorf("sum of what is derived = %s, want %s", got, want)
	}
}

// P3.4: n bytes, of which the first 32 (or all, if they are fewer) are the mac of the first text.
func TestDeriveBeginsWithItsFirstMac(t *testing.T) {
	key, label := message(20), "first"
	for _, n := range deriveLengths() {
		got, e := mac.Derive(key, label, n)
		if len(got) != n || e != api.OK {
			t.Fatalf("Derive of %d bytes: %d bytes, %d", n, len(got), e)
		}
		first := mac.Mac(key, partText(1, label, n))
		if begin := min(n, 32); !bytes.Equal(got[:begin], first[:begin]) {
			t.Errorf("Derive of %d bytes begins with %x, not with %x", n, got[:begin], first)
		}
	}
}

// P3.1: labels of all kinds of bytes are taken as they are.
func TestDeriveByTheWords(t *testing.T) {
	labels := []string{"", "a", "\x00", "a\x00", "\x00a", "\xff\xfe", "ä", "日本", string(message(300))}
	for _, key := range [][]byte{nil, message(1), message(64), message(65)} {
		for _, label := range labels {
			for _, n := range []int{0, 1, 32, 65, 257} {
				got, e := mac.Derive(key, label, n)
				if want := plainDerive(key, label, n); !bytes.Equal(got, want) || e != api.OK {
					t.Errorf("Derive(%d bytes, %q, %d) = %x, %d, want %x", len(key), label, n, got, e, want)
				}
			}
		}
	}
}

// P3.1: a key, a label, a length each make others.
func TestDeriveHangsOnAll(t *testing.T) {
	base, _ := mac.Derive([]byte("key"), "label", 64)
	key, _ := mac.Derive([]byte("kez"), "label", 64)
	label, _ := mac.Derive([]byte("key"), "labem", 64)
	longer, _ := mac.Derive([]byte("key"), "label", 65)
	for _, other := range [][]byte{key, label, longer} {
		if bytes.Equal(base[:32], other[:32]) || bytes.Equal(base[32:], other[32:64]) {
			t.Errorf("another argument derives the same bytes: %x", other)
		}
	}
	if bytes.Equal(base[:32], base[32:]) {
		t.Error("two parts are the same bytes")
	}
}

// P3.1, P0.1, P0.2: below 0 and above MaxDerive, with nothing beside the error.
func TestDeriveRefuses(t *testing.T) {
	cases := []struct {
		n    int
		want api.Errno
	}{
		{-1, api.ErrArg}, {-32, api.ErrArg}, {-8160, api.ErrArg}, {-8161, api.ErrArg},
		{math.MinInt32, api.ErrArg}, {math.MinInt, api.ErrArg}, {math.MinInt + 1, api.ErrArg},
		{8161, api.ErrLong}, {8192, api.ErrLong}, {1 << 16, api.ErrLong}, {1 << 32, api.ErrLong},
		{1<<32 + 1, api.ErrLong}, {math.MaxInt32, api.ErrLong}, {math.MaxInt, api.ErrLong},
	}
	for _, c := range cases {
		for _, key := range [][]byte{nil, message(10), message(100)} {
			if got, e := mac.Derive(key, "label", c.n); len(got) != 0 || e != c.want {
				t.Errorf("Derive of %d bytes = %x, %d, want none, %d", c.n, got, e, c.want)
			}
		}
	}
}

// P3.1: the edges 0 and MaxDerive are taken.
func TestDeriveEdges(t *testing.T) {
	if got, e := mac.Derive(message(5), "edge", 0); len(got) != 0 || e != api.OK {
		t.Errorf("Derive of 0 bytes = %x, %d", got, e)
	}
	got, e := mac.Derive(message(5), "edge", api.MaxDerive)
	if want := plainDerive(message(5), "edge", 8160); !bytes.Equal(got, want) || e != api.OK {
		t.Errorf("Derive of MaxDerive bytes: %d bytes, %d", len(got), e)
	}
}

// P3.1: seeds that another program worked out, with numbers below 0 too.
func TestSeedKnown(t *testing.T) {
	cases := []struct {
		label string
		i     int
		want  string
	}{
		{"a", 0, "7180c69d646e10b0d387407c2614ec177e7af8133c9c017cbc868032e8a2fdfd"},
		{"a", 1, "760811d48fa92c20074937d6f737d9ef50802e1b754ed82e67e9c058b86bc716"},
		{"a", 2, "9c8036382c5a625aa1540bccfe415ff03144e50cb915b6414c3d4e5f8248102e"},
		{"a", 255, "1d73688ae4f4d3cb6e4251fc1d86fec0049561c8ca0e66ac0b74f428585aab65"},
		{"a", 256, "e49a744e155a9fce0906f9582ed42af71ce5b4a54a040fa51e1a38e016f70775"},
		{"a", -1, "3328beb5e9357bee62400a2c11fc15bfe0c1b713935031b1cca2d8a00fdb78b1"},
		{"a", -2, "039736c7f03c6d3aa5a3c962165f59e07511872202590c923b93f9c1c4205ba2"},
		{"a", math.MaxInt64, "77223c3e67f1d5cd1929f3650875fa6f8d8c36f51ad920f942aa3ff55708c7d9"},
		{"a", math.MinInt64, "95306b23e5becef70149fa2319ffe1be02c786be3bb3ace514387eee40964a33"},
		{"", 0, "d99a89d5b90b5c5aaecd5a7cdbb28f7d29eacce361c84d549e96e4c4f954de03"},
		{"a\x00b\xff", 0x0102030405060708, "de63d36258ef92feedfc0e2936fad51a179e25da04a8e32f5bfdab98b0c078bc"},
		{"ots", 1 << 40, "1fd6f2d7bc5003ae49b78823a401e084122f7a8e0cfa88ab6c5609873a594b02"},
	}
	for _, c := range cases {
		if got := text(mac.Seed(api.Digest(message(32)), c.label, c.i)); got != c.want {
			t.Errorf("Seed(%q, %d) = %s, want %s", c.label, c.i, got, c.want)
		}
	}
	if got := text(mac.Seed(api.Digest{}, "a", 1)); got != "d056a347d353a278fe068ba3d0f84c714936aa090f16684590097fc74a31d325" {
		t.Errorf("Seed by a key of bytes 0 = %s", got)
	}
	if got := text(mac.Seed(api.Digest{}, "", 0)); got != "fecc5ef09c6aa93ddbd645fd2ece6548aae8fdec747e3a4d6de54da7a19da622" {
		t.Errorf("Seed by a key of bytes 0, of no label = %s", got)
	}
}

// P3.1: a seed is a mac, by the key's bytes, of the label, a byte 0 and the number.
func TestSeedByTheWords(t *testing.T) {
	keys := []api.Digest{{}, api.Digest(message(32)), sha.Sum(nil), api.Digest(bytes.Repeat([]byte{0xff}, 32))}
	numbers := []int{0, 1, 9, 1 << 8, 1 << 16, 1<<31 - 1, 1 << 31, 1 << 32, 1 << 56, math.MaxInt,
		-1, -2, -256, -1 << 31, -1<<31 - 1, -1 << 32, math.MinInt + 1, math.MinInt}
	for _, key := range keys {
		for _, label := range []string{"", "a", "\x00", "a\x00", "\xff\xfe", "日本", string(message(300))} {
			for _, i := range numbers {
				want := plainMac(key[:], join([]byte(label), []byte{0}, wide(i, 8)))
				if got := mac.Seed(key, label, i); got != want {
					t.Errorf("Seed(%x, %q, %d) = %x, want %x", key, label, i, got, want)
				}
				if got := mac.Mac(key[:], join([]byte(label), []byte{0}, wide(i, 8))); got != want {
					t.Errorf("Mac of that text = %x, want %x", got, want)
				}
			}
		}
	}
}

// P3.1: a number below 0 has a seed of its own, unlike that of the number without its sign.
func TestSeedsAreUnlike(t *testing.T) {
	seen := map[api.Digest]int{}
	for i := -200; i <= 200; i++ {
		d := mac.Seed(api.Digest{1}, "unlike", i)
		if other, ok := seen[d]; ok {
			t.Errorf("%d and %d have one seed", i, other)
		}
		seen[d] = i
	}
}

// P0.4
func TestNilAndEmptyAreAlike(t *testing.T) {
	if mac.Mac(nil, nil) != mac.Mac([]byte{}, []byte{}) || mac.Mac(nil, []byte{}) != mac.Mac([]byte{}, nil) {
		t.Error("Mac of nil isn't that of none")
	}
	for _, a := range [][]byte{nil, {}} {
		for _, b := range [][]byte{nil, {}} {
			if same, steps := mac.Same(a, b); !same || steps != 0 {
				t.Errorf("Same of none = %v, %d", same, steps)
			}
		}
		if same, steps := mac.Same(a, []byte{0}); same || steps != 1 {
			t.Errorf("Same of none and a byte 0 = %v, %d", same, steps)
		}
	}
	one, _ := mac.Derive(nil, "x", 40)
	two, _ := mac.Derive([]byte{}, "x", 40)
	if !bytes.Equal(one, two) {
		t.Error("a nil key derives others than an empty one")
	}
}

// P0.3: neither the bytes nor the room behind them are changed.
func TestArgumentsStay(t *testing.T) {
	for _, n := range []int{0, 1, 32, 63, 64, 65, 128} {
		key, words := message(300), message(301)
		mac.Mac(key[:n], words[:n])
		mac.Mac(key[:n], nil)
		mac.Same(key[:n], words[:n+1])
		mac.Derive(key[:n], "label", 100)
		mac.Derive(key[:n], "label", 8161)
		if !bytes.Equal(key, message(300)) || !bytes.Equal(words, message(301)) {
			t.Errorf("%d bytes: an argument was changed", n)
		}
	}
	d := api.Digest(message(32))
	mac.Seed(d, "label", 1)
	mac.Derive(d[:], "label", 64)
	mac.Mac(d[:], d[:])
	if d != api.Digest(message(32)) {
		t.Error("a key was changed")
	}
}

// P0.3, P0.5: a key that is changed later, or another call between, is not seen in an answer.
func TestNothingIsKept(t *testing.T) {
	key := message(40)
	first := mac.Mac(key, key)
	derived, _ := mac.Derive(key, "kept", 100)
	seed := mac.Seed(api.Digest(key[:32]), "kept", -1)
	clear(key)
	mac.Mac(key, key)
	mac.Derive(key, "other", 8160)
	if mac.Mac(message(40), message(40)) != first {
		t.Error("Mac hangs on what was told before")
	}
	if again, _ := mac.Derive(message(40), "kept", 100); !bytes.Equal(again, derived) {
		t.Error("Derive hangs on what was told before")
	}
	if mac.Seed(api.Digest(message(40)[:32]), "kept", -1) != seed {
		t.Error("Seed hangs on what was told before")
	}
}

// P0.3: who writes into an answer, or behind its end, changes no other one.
func TestAnswersAreNew(t *testing.T) {
	for _, n := range []int{1, 32, 70, 8160} {
		want := plainDerive(message(10), "new", n)
		one, _ := mac.Derive(message(10), "new", n)
		two, _ := mac.Derive(message(10), "new", n)
		clear(one[:cap(one)])
		if three, _ := mac.Derive(message(10), "new", n); !bytes.Equal(two, want) || !bytes.Equal(three, want) {
			t.Errorf("%d bytes: two answers share memory", n)
		}
	}
	d := mac.Mac(message(10), nil)
	clear(d[:])
	if mac.Mac(message(10), nil) != plainMac(message(10), nil) {
		t.Error("an answer of Mac is kept")
	}
}
