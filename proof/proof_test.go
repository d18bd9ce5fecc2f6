package proof_test

import (
	"bytes"
	"encoding/hex"
	"fmt"
	"math"
	"math/bits"
	"slices"
	"testing"

	"jurat/api"
	"jurat/proof"
	"jurat/sha"
)

// message is n bytes of which no two neighbours are alike.
func message(n int) []byte {
	b := make([]byte, n)
	for i := range n {
		b[i] = byte(0x9d*i + 0x81)
	}
	return b
}

// digests are n of them, all unlike.
func digests(n int) []api.Digest {
	l := make([]api.Digest, n)
	for i := range l {
		l[i] = sha.Sum(message(i + 1)) // that of nothing would be the root of no digests
	}
	return l
}

func text(d api.Digest) string { return fmt.Sprintf("%x", d[:]) }

func join(l []api.Digest) []byte {
	var b []byte
	for _, d := range l {
		b = append(b, d[:]...)
	}
	return b
}

func full() api.Digest { return api.Digest(bytes.Repeat([]byte{0xff}, 32)) }

// spoilt is a digest with one bit changed.
func spoilt(d api.Digest, bit int) api.Digest {
	d[bit%256/8] ^= 1 << (bit % 8)
	return d
}

// lengths are those of lists: all small ones, powers of two, one fewer and one more.
func lengths() []int {
	var l []int
	for n := range 36 {
		l = append(l, n)
	}
	return append(l, 63, 64, 65, 100, 127, 128, 129)
}

// someOf are numbers from 0 to n: all, if they are few, else the edges, the split and its neighbours, and some between.
func someOf(n int) []int {
	var l []int
	for i := range n + 1 {
		k := plainSplit(max(n, 2))
		if n < 36 || i < 3 || i > n-3 || i >= k-1 && i <= k+1 || i%(1+n/8) == 0 {
			l = append(l, i)
		}
	}
	return l
}

// extremes are numbers that are negative or very great.
func extremes() []int {
	return []int{-1, -2, -3, -32, -64, -1 << 31, -1 << 32, math.MinInt, math.MinInt + 1, 1 << 31, 1<<31 - 1,
		1 << 32, 1<<32 + 1, 1 << 61, 1 << 62, 1<<62 - 1, 1<<62 + 1, math.MaxInt - 1, math.MaxInt}
}

// The plain checks are worked out by the chapter's words, from the last digest on.
func plainLeaf(b []byte) api.Digest { return sha.Sum(slices.Concat([]byte{0}, b)) }

func plainNode(a, b api.Digest) api.Digest { return sha.Sum(slices.Concat([]byte{1}, a[:], b[:])) }

// plainSplit is the greatest power of two below n.
func plainSplit(n int) int {
	k := 1
	for k < n-k {
		k *= 2
	}
	return k
}

func plainRoot(l []api.Digest) api.Digest {
	switch len(l) {
	case 0:
		return sha.Sum(nil)
	case 1:
		return l[0]
	}
	k := plainSplit(len(l))
	return plainNode(plainRoot(l[:k]), plainRoot(l[k:]))
}

// plainCount is how many digests the inclusion proof of i in n has.
func plainCount(i, n int) int {
	if n == 1 {
		return 0
	}
	k := plainSplit(n)
	if i < k {
		return 1 + plainCount(i, k)
	}
	return 1 + plainCount(i-k, n-k)
}

// plainUp is where an inclusion proof with as many digests as it has to have leads.
func plainUp(leaf api.Digest, i, n int, p []api.Digest) api.Digest {
	if n == 1 {
		return leaf
	}
	k, rest, end := plainSplit(n), p[:len(p)-1], p[len(p)-1]
	if i < k {
		return plainNode(plainUp(leaf, i, k, rest), end)
	}
	return plainNode(end, plainUp(leaf, i-k, n-k, rest))
}

func plainIncluded(leaf api.Digest, i, n int, p []api.Digest, root api.Digest) bool {
	return 0 <= i && i < n && len(p) == plainCount(i, n) && plainUp(leaf, i, n, p) == root
}

// plainParts is how many digests the part for (m, n, whole) has, m being 1 at least.
func plainParts(m, n int, whole bool) int {
	if m == n && whole {
		return 0
	}
	if m == n {
		return 1
	}
	k := plainSplit(n)
	if m <= k {
		return 1 + plainParts(m, k, whole)
	}
	return 1 + plainParts(m-k, n-k, false)
}

// plainLead is where the part for (m, n, whole) with as many digests as it has to have leads: to a root of the first m, and one of all.
func plainLead(m, n int, whole bool, p []api.Digest, old api.Digest) (api.Digest, api.Digest) {
	if m == n && whole {
		return old, old
	}
	if m == n {
		return p[0], p[0]
	}
	k, rest, end := plainSplit(n), p[:len(p)-1], p[len(p)-1]
	if m <= k {
		first, all := plainLead(m, k, whole, rest, old)
		return first, plainNode(all, end)
	}
	first, all := plainLead(m-k, n-k, false, rest, old)
	return plainNode(end, first), plainNode(end, all)
}

func plainConsistent(m, n int, p []api.Digest, old, root api.Digest) bool {
	switch {
	case m < 0 || m > n:
		return false
	case m == 0:
		return len(p) == 0 && old == sha.Sum(nil)
	case m == n:
		return len(p) == 0 && old == root
	case len(p) != plainParts(m, n, true):
		return false
	}
	first, all := plainLead(m, n, true, p, old)
	return first == old && all == root
}

// The level ones are worked out in another way than by the chapter's words: two and two are joined, one that is left over stays.
func levels(l []api.Digest) [][]api.Digest {
	all := [][]api.Digest{l}
	for len(l) > 1 {
		var up []api.Digest
		for pair := range slices.Chunk(l, 2) {
			if len(pair) == 2 {
				up = append(up, plainNode(pair[0], pair[1]))
			} else {
				up = append(up, pair[0])
			}
		}
		l = up
		all = append(all, l)
	}
	return all
}

// levelPath are the digests beside the node at place i of the first level, and beside those above it.
func levelPath(all [][]api.Digest, i int) []api.Digest {
	var p []api.Digest
	for _, l := range all {
		if i^1 < len(l) {
			p = append(p, l[i^1])
		}
		i /= 2
	}
	return p
}

func levelConsist(all [][]api.Digest, m int) []api.Digest {
	if m == 0 || m == len(all[0]) {
		return nil
	}
	level, i := 0, m-1
	for i%2 == 1 {
		level, i = level+1, i/2
	}
	p := levelPath(all[level:], i)
	if i > 0 {
		p = slices.Insert(p, 0, all[level][i])
	}
	return p
}

func mustInclude(t *testing.T, l []api.Digest, i int) []api.Digest {
	t.Helper()
	p, e := proof.Include(l, i)
	if e != api.OK {
		t.Fatalf("Include of %d in %d: %d", i, len(l), e)
	}
	return p
}

func mustConsist(t *testing.T, l []api.Digest, m int) []api.Digest {
	t.Helper()
	p, e := proof.Consist(l, m)
	if e != api.OK {
		t.Fatalf("Consist of %d in %d: %d", m, len(l), e)
	}
	return p
}

// holdIncluded holds an answer against the chapter's words, and tells it.
func holdIncluded(t *testing.T, leaf api.Digest, i, n int, p []api.Digest, root api.Digest) bool {
	t.Helper()
	got := proof.Included(leaf, i, n, p, root)
	if got != plainIncluded(leaf, i, n, p, root) {
		t.Errorf("Included of %d in %d by %d digests = %t", i, n, len(p), got)
	}
	return got
}

// holdConsistent holds an answer against the chapter's words, and tells it.
func holdConsistent(t *testing.T, m, n int, p []api.Digest, old, root api.Digest) bool {
	t.Helper()
	got := proof.Consistent(m, n, p, old, root)
	if got != plainConsistent(m, n, p, old, root) {
		t.Errorf("Consistent of %d in %d by %d digests = %t", m, n, len(p), got)
	}
	return got
}

// P8.1: leaves' digests as another program worked them out.
func TestLeafKnown(t *testing.T) {
	cases := []struct {
		b    []byte
		want string
	}{
		{nil, "6e340b9cffb37a989ca544e6bb780a2c78901d3fb33738768511a30617afa01d"},
		{[]byte{}, "6e340b9cffb37a989ca544e6bb780a2c78901d3fb33738768511a30617afa01d"},
		{[]byte{0}, "96a296d224f285c67bee93c30f8a309157f0daa35dc5b87e410b78630a09cfc7"},
		{[]byte{1}, "b413f47d13ee2fe6c845b2ee141af81de858df4ec549a58b7970bb96645bc8d2"},
		{[]byte("abc"), "609f6e36d2405585188d5cfd761f407c7cc46a7d3f314c88270469dde315fcd1"},
		{message(55), "cbe4bd0cd1f20c4272262a2bc79a66329723472334c4018894522ca7703c70b6"},
		{message(64), "66eca8cfd18aa634a78d3e77918d965448339b29b6dc30f41be63e1601410281"},
		{message(1000), "4ed4fd2055d6c1e980061452185f42f069eb2dc6ca16b5a19d14412749c20d01"},
	}
	for _, c := range cases {
		if got := text(proof.Leaf(c.b)); got != c.want {
			t.Errorf("Leaf of %d bytes = %s, want %s", len(c.b), got, c.want)
		}
	}
	for n := range 200 {
		if proof.Leaf(message(n)) != plainLeaf(message(n)) {
			t.Errorf("Leaf of %d bytes", n)
		}
	}
}

// P8.1: nodes as another program worked them out; which of both stands first counts.
func TestNodeKnown(t *testing.T) {
	l := digests(6)
	cases := []struct {
		a, b api.Digest
		want string
	}{
		{api.Digest{}, api.Digest{}, "ae0798d0ecaed2b778eddebf18f071a561c53658c05e76cedecc27cafbdbc577"},
		{api.Digest{}, full(), "bc6b943b820c449acf880d293c216a24a8066b153f87f2361fae2beda3a72641"},
		{full(), api.Digest{}, "a72afab084e5434c27771f0c63ab22802c9f2e963e417e09b4a95a3fdf4baff6"},
		{full(), full(), "1f94c635f1e71c09c04eddf83bf07f5b7f1ad772e98df90349f9054c403a0cfc"},
		{l[0], l[1], "3fd67c9e9018a3b0aa11a1e63ee297aef1e9d69e20023e42d8e75df615423071"},
		{l[1], l[0], "fc1d996227523b990d3fef6c663cb640576e2e36c013101f81693dd7e160444f"},
		{l[5], l[5], "95baa7a4cd3f7bdeb78aa7bed9513c08045fe04d49cfbf9ff2097e6fb19166c5"},
	}
	for _, c := range cases {
		if got := text(proof.Node(c.a, c.b)); got != c.want {
			t.Errorf("Node(%x, %x) = %s, want %s", c.a, c.b, got, c.want)
		}
	}
}

// P8.1: every bit of both digests counts in their node.
func TestNodeHangsOnAllBits(t *testing.T) {
	l := digests(2)
	node := proof.Node(l[0], l[1])
	for bit := range 512 {
		other := slices.Clone(l)
		other[bit/256] = spoilt(other[bit/256], bit)
		got := proof.Node(other[0], other[1])
		if got == node || got != plainNode(other[0], other[1]) {
			t.Errorf("bit %d: Node = %x", bit, got)
		}
	}
}

// P8.1: a leaf of a node's bytes is no node.
func TestLeafIsNoNode(t *testing.T) {
	l := digests(2)
	if proof.Leaf(join(l)) == proof.Node(l[0], l[1]) || proof.Leaf(append([]byte{1}, join(l)...)) == proof.Node(l[0], l[1]) {
		t.Error("a leaf has a node's digest")
	}
}

// logged are the digests of eight leaves of unlike lengths.
func logged(t *testing.T) []api.Digest {
	t.Helper()
	var l []api.Digest
	for _, s := range []string{"", "00", "10", "2021", "3031", "40414243", "5051525354555657", "606162636465666768696a6b6c6d6e6f"} {
		b, err := hex.DecodeString(s)
		if err != nil {
			t.Fatal(err)
		}
		l = append(l, proof.Leaf(b))
	}
	return l
}

// P8.1: the roots of these leaves, as another program worked them out.
func TestLoggedRoots(t *testing.T) {
	l := logged(t)
	for n, want := range []string{
		"e3b0c44298fc1c149afbf4c8996fb92427ae41e4649b934ca495991b7852b855",
		"6e340b9cffb37a989ca544e6bb780a2c78901d3fb33738768511a30617afa01d",
		"fac54203e7cc696cf0dfcb42c92a1d9dbaf70ad9e621f4bd8d98662f00e3c125",
		"aeb6bcfe274b70a14fb067a5e5578264db0fa9b51af5e0ba159158f329e06e77",
		"d37ee418976dd95753c1c73862b9398fa2a2cf9b4ff0fdfe8b30cd95209614b7",
		"4e3bbb1f7b478dcfe71fb631631519a3bca12c9aefca1612bfce4c13a86264d4",
		"76e67dadbcdf1e10e1b74ddc608abd2f98dfb16fbce75277b5232a127f2087ef",
		"ddb89be403809e325750d3d263cd78929c2942b7942a34b77e122c9594a74c8c",
		"5dc9da79a70659a9ad559cb701ded9a2ab9d823aad2f4960cfe370eff4604328",
	} {
		if got := text(proof.Root(l[:n])); got != want {
			t.Errorf("Root of %d = %s, want %s", n, got, want)
		}
	}
}

// P8.1: proofs of these leaves, digest by digest, as another program worked them out.
func TestLoggedProofs(t *testing.T) {
	l := logged(t)
	const (
		zero    = "6e340b9cffb37a989ca544e6bb780a2c78901d3fb33738768511a30617afa01d"
		one     = "96a296d224f285c67bee93c30f8a309157f0daa35dc5b87e410b78630a09cfc7"
		four    = "bc1a0643b12e4d2d7c77918f44e0f4f79a838b6cf9ec5b5c283e1f4d88599e6b"
		twos    = "5f083f0a1a33ca076a95279832580db3e0ef4584bdff1f54c8a360f50de3031e"
		fours   = "0ebc5d3437fbe2db158b9f126a1d118e308181031d0a949f8dededebc558ef6a"
		sixes   = "ca854ea128ed050b41b35ffc1b87b8eb2bde461e9e3b5596ece6b9d5975a0ae0"
		nought2 = "fac54203e7cc696cf0dfcb42c92a1d9dbaf70ad9e621f4bd8d98662f00e3c125"
		nought4 = "d37ee418976dd95753c1c73862b9398fa2a2cf9b4ff0fdfe8b30cd95209614b7"
		last4   = "6b47aaf29ee3c2af9af889bc1fb9254dabd31177f16232dd6aab035ca39bf6e4"
	)
	cases := []struct {
		include bool
		at, n   int
		want    []string
	}{
		{true, 0, 8, []string{one, twos, last4}},
		{true, 5, 8, []string{four, sixes, nought4}},
		{true, 2, 3, []string{nought2}},
		{true, 1, 5, []string{zero, twos, four}},
		{false, 1, 8, []string{one, twos, last4}},
		{false, 6, 8, []string{fours, sixes, nought4}},
		{false, 2, 5, []string{twos, four}},
	}
	for _, c := range cases {
		p := mustConsist(t, l[:c.n], c.at)
		if c.include {
			p = mustInclude(t, l[:c.n], c.at)
		}
		var got []string
		for _, d := range p {
			got = append(got, text(d))
		}
		if !slices.Equal(got, c.want) {
			t.Errorf("%d of %d (of a place: %t): %v, want %v", c.at, c.n, c.include, got, c.want)
		}
	}
}

// P8.1: roots, and the sums of all proofs one behind the other, as another program worked them out.
func TestKnown(t *testing.T) {
	cases := []struct {
		n                      int
		root, includes, consis string
	}{
		{0, "e3b0c44298fc1c149afbf4c8996fb92427ae41e4649b934ca495991b7852b855", "e3b0c44298fc1c149afbf4c8996fb92427ae41e4649b934ca495991b7852b855", "e3b0c44298fc1c149afbf4c8996fb92427ae41e4649b934ca495991b7852b855"},
		{1, "591b7cc95037822dec5a4d593a2e2e8b19c07ddd2570e5699003d17f14c440a6", "e3b0c44298fc1c149afbf4c8996fb92427ae41e4649b934ca495991b7852b855", "e3b0c44298fc1c149afbf4c8996fb92427ae41e4649b934ca495991b7852b855"},
		{2, "3fd67c9e9018a3b0aa11a1e63ee297aef1e9d69e20023e42d8e75df615423071", "d826a2ed7290d8a962dbdd2a07580eb8018763c4f4fbbda4d14ecb05374b9183", "2232352946af495ce4cb83e120d2c4aab36eb2d477509e32e12b880e19048d54"},
		{3, "5ed3ee651510bb0ee17c456bef7a6c4a418869810d3608b3175bb96a48a1b0c2", "032c7bf210109b0031520c4da04f5cbc74ba2543114c167efa65c637230b4913", "1064989bb31baec87a589cc8d2e4fc9d7cf1edc7e637ab98f10996dd150dc8b6"},
		{4, "d4fed274a98a0be0a1c5a0c544d05b1036280fc14d967199ea5b2f622df1da15", "1f5453c2a2798d6304d8acc7b6a75c1de16fd042d83cff0f6c39748359ddf350", "0e5b313e54b3c0f5b2d5715572155b2336568a93c94a687209f7c45f18f3245b"},
		{5, "45ff1cce5e60291d70f5db9ea52e3b6528802fa06797764e0cf59d3a7f0d3374", "6a56711adead7a4a6f3420302b64bbc9fda7fb269cb9e0db02234baed1b2d799", "cf5be79de84b54b6d14aa0e261d21a3d847a9580799b416c72879f289e4c1d54"},
		{6, "b89e08bcff4d2694e162c234722bf322490eb361c770edf07fec672152625789", "2974f492e7230ee92fa5dfd81be6e12581d1e6b166cbba638e16f963bfe8dbc0", "3217b0a0a21cbddde408d5c10a804b2ba9562f81c5b993e562af38fd4e8856b0"},
		{7, "8f08d989f84333d9dee26c55a198506b3942764fdd48ec1906de08631d821988", "4856cd6c02f6ee6a448c8d3b83523f41512530164a1b2a59d6372263a992a6a5", "d73ca11aaf278c89f5a8529341ade3b007c6b741c13f0ab92819cb8e0e45b44f"},
		{8, "462a06f737720b143ed3882adf7d7c7ca11dfad70d08f7ca041251df4c4e8091", "15b4a7542139c548074f14ae56c7133b66b8e6ed03fae5326dbe65cf02205b57", "3eb83ac32ed2c17135cc5b47a4d624b10a1ac80076b886a54c15adb25287a67c"},
		{9, "674fb28cfb13a5423cdddf60ca92a09f947bb9c713a776efd6dfe151af172be2", "7e73e078dfe2705e09be159b6327a3e19a898a95b3b987ec9c53c1d75f65440d", "0d6756e1d6089747b2c0343398fc6abb08efd496ede66fc9df877630927f34e7"},
		{15, "ffed8da2d7f6c0048b7814d63af6d3d9fb8523352335d8929251700820d2474b", "911692580176a13535fc71389b00570615bcd818e7132182bdf399a812820cd7", "bdf5a553ced8986b1e53edc8e7ac3c82e070fc71c626b30ba907552ed47ffecd"},
		{16, "507b86ef7308c9b55803ed4beb9a122103569d37e333e1b755c9fa10e8dd934c", "8c2e875a94e66358f287b768c2a20310a12586eaa8f2ec2ce064eba1e309e42a", "d6c068f040cc2cffe89e332d23889e19ac8726782b9eb5e945d0677f0bc58403"},
		{17, "acaa3f4c8167e21febb52dcb0acf5a655238a183dd1177ee48b622806b63e462", "2f89f6066fc24b557cf52ce6f2ed9a8ebf1cec14aea925a232b0bad53d8fc01e", "394d8d0b7d05d770f8b8b9d6286d5f8ca01f11af2347221cfc79b861ef6430f7"},
		{31, "73a5285970dd0866e6fcc449ee9d6c5de7a68f97027c1dcc435308499bd27bd0", "7f805c7868ac1a303528a691aef4a8eda86130c69f65148de3f82cc5617cb908", "d97bcd7f4c07c036ecf07f6c35e3ab069de3f7c1472132305cefad36661be556"},
		{32, "8cabdf98c91eced357c66f58a3dab430d51f9da90e81dec06adc98c28b685325", "7399e97cebd1d3a9369b12772edc6c90b8315be4393dbfd8bba0ee311821de38", "3551ad590a3a6d7a6c83ca414c1912cd9a7467b0a3ea89eee028cb5696be7e3b"},
		{33, "8dcede400fc46de88234a4cbace341bd4f4ab1d49e12ad37872a1af37b2929ac", "0632a4a7b80a18df73cb2dbf1ce81380619cbfa11b16f88fc32ef6b0547bf660", "21ff687510ba5da440557b1ee8b64956530edd334214af09709b9686ccacce20"},
		{63, "ce08a7f9712199eb94b6c144063d1ec00cfa9e32bd61bea578a121854b2c9611", "e61585fea7d64009e6451b3c0689ff0f37b12c628b38171675aa54b1ee71b6fe", "9b98d1d06b243399bc1ad4f68fa5393f302eac456af337cc72c4f5ef71aae931"},
		{64, "f4ca3b97fa76a043d227ff718006d4498e4b0b94b3b62fc524255c45c080156d", "985fbe3c1117c215cef97e8b03fe8f1edd37fa49a5d3fdd0b2d8f7d80913cb42", "53b643dab30acbf5f17c5fe8642f9ee3fac7ee5b90f44f00d038d5bdb1803794"},
		{65, "5bd859ac86f524447389dbc71b2cc67e1c4df10fe179481bb436ba63cdd7bb2b", "b74ec414dda5bad733f32f8448e254a5502849437363993c9fc84639c5846b43", "297a2f69a2696c20cfc0010b14a22d12608b96c1e23730d10933d1480f9f0be7"},
		{100, "e731f6d282d8c2a811e526c4bd1185ad98a4501f29b2195503a1d56f4e18fb94", "f674f912f544281efe0be5d7cf12d6726053f421e31bf9e5c06b4d321ac2b69d", "77549ba64dc9465b89023a1e521e9607883aa918ec6b6c50ffe533b3283e6a7a"},
	}
	for _, c := range cases {
		l := digests(c.n)
		var includes, consis []api.Digest
		for m := range c.n + 1 {
			if m < c.n {
				includes = append(includes, mustInclude(t, l, m)...)
			}
			consis = append(consis, mustConsist(t, l, m)...)
		}
		got := []string{text(proof.Root(l)), text(sha.Sum(join(includes))), text(sha.Sum(join(consis)))}
		if !slices.Equal(got, []string{c.root, c.includes, c.consis}) {
			t.Errorf("%d digests: %v", c.n, got)
		}
	}
}

// P8.1: great lists as another program worked them out: the root, and the sums of some places' proofs,
// and of those of the beginnings that end there.
func TestGreatKnown(t *testing.T) {
	cases := []struct {
		n                      int
		at                     []int
		root, includes, consis string
	}{
		{1000, []int{0, 333, 511, 512, 999}, "48202fd9eba2210b76073de023c83a31cec9689ed12e1ba122f314064dce69b7", "919092a326604d09d20726d26942d34c4ab841ab931f2d36c64387feef4279fd", "5e020a1967d15e5b2cc58949b69e4adcd1e79d58a1e6a9911aa9726fc5cde8a5"},
		{4096, []int{0, 1365, 2047, 2048, 4095}, "65d932de5699a24cf429ced00b8777da9743deced1cf3779a2ff0496689fd37b", "87ccdac3010ca3bb0e7495f9957a1da2a3e02cf7c554e9b699191bb95b6e1022", "9e536f9cff31443fe1155e295ea3d9af99b9217fa93152bb40d287ba6aa12800"},
		{4097, []int{0, 4095, 4096}, "3eafceb88e5acba47bdda6cbbee95eb088e052a823217b096eb2f3c7b61315f6", "24b366cbb0a02631d09c195c79ed9d7d61d2d35d31b9b5f6cf3fc40a4609828e", "eb22ca8ddfcd9768e024553b9fbe5140cf8da776253b134b3004e855bbb2d789"},
	}
	all := digests(4097)
	for _, c := range cases {
		l := all[:c.n]
		var includes, consis []api.Digest
		for _, i := range c.at {
			includes = append(includes, mustInclude(t, l, i)...)
			consis = append(consis, mustConsist(t, l, i+1)...)
		}
		got := []string{text(proof.Root(l)), text(sha.Sum(join(includes))), text(sha.Sum(join(consis)))}
		if !slices.Equal(got, []string{c.root, c.includes, c.consis}) {
			t.Errorf("%d digests: %v", c.n, got)
		}
	}
}

// P8.1: roots and proofs, held against the other way of working them out.
func TestByLevels(t *testing.T) {
	l := digests(129)
	for _, n := range lengths()[1:] {
		all := levels(l[:n])
		if proof.Root(l[:n]) != all[len(all)-1][0] {
			t.Errorf("the root of %d", n)
		}
		for i := range n {
			if !slices.Equal(mustInclude(t, l[:n], i), levelPath(all, i)) {
				t.Errorf("the proof of place %d of %d", i, n)
			}
		}
		for m := range n + 1 {
			if !slices.Equal(mustConsist(t, l[:n], m), levelConsist(all, m)) {
				t.Errorf("the proof of the first %d of %d", m, n)
			}
		}
	}
}

// P8.1: none, one, two and three digests, word by word, the chapter's examples among them.
func TestFewDigests(t *testing.T) {
	l := digests(4)
	a, b, c := l[1], l[2], l[3]
	ab := plainNode(a, b)
	cases := []struct {
		l                []api.Digest
		root             api.Digest
		include, consist [][]api.Digest
	}{
		{nil, sha.Sum(nil), nil, [][]api.Digest{nil}},
		{[]api.Digest{a}, a, [][]api.Digest{nil}, [][]api.Digest{nil, nil}},
		{[]api.Digest{a, b}, ab, [][]api.Digest{{b}, {a}}, [][]api.Digest{nil, {b}, nil}},
		{[]api.Digest{a, b, c}, plainNode(ab, c), [][]api.Digest{{b, c}, {a, c}, {ab}}, [][]api.Digest{nil, {b, c}, {c}, nil}},
	}
	for _, k := range cases {
		n := len(k.l)
		if got := proof.Root(k.l); got != k.root {
			t.Errorf("Root of %d = %x", n, got)
		}
		for i, want := range k.include {
			if got := mustInclude(t, k.l, i); !slices.Equal(got, want) || !proof.Included(k.l[i], i, n, want, k.root) {
				t.Errorf("place %d of %d: %x", i, n, got)
			}
		}
		for m, want := range k.consist {
			if got := mustConsist(t, k.l, m); !slices.Equal(got, want) || !proof.Consistent(m, n, want, plainRoot(k.l[:m]), k.root) {
				t.Errorf("the first %d of %d: %x", m, n, got)
			}
		}
	}
}

// P8.1: digests that are alike, zeros and ones among them, are digests as others are.
func TestDigestsAlike(t *testing.T) {
	for _, d := range []api.Digest{{}, full(), sha.Sum(nil)} {
		for _, n := range lengths()[1:] {
			l := slices.Repeat([]api.Digest{d}, n)
			root := proof.Root(l)
			if root != plainRoot(l) {
				t.Errorf("Root of %d times %x", n, d)
			}
			for _, i := range someOf(n - 1) {
				if p := mustInclude(t, l, i); !holdIncluded(t, d, i, n, p, root) {
					t.Errorf("place %d of %d times %x", i, n, d)
				}
				if p := mustConsist(t, l, i+1); !holdConsistent(t, i+1, n, p, proof.Root(l[:i+1]), root) {
					t.Errorf("the first %d of %d times %x", i+1, n, d)
				}
			}
		}
	}
}

// P8.1, P0.2: places that a list hasn't, though there is room for them behind its end: ErrArg, and nothing beside it.
func TestWrongPlaces(t *testing.T) {
	all := digests(200)
	for _, n := range lengths() {
		for _, i := range append(extremes(), -n, n, n+1, 2*n+1, 199) {
			if p, e := proof.Include(all[:n], i); len(p) != 0 || e != api.ErrArg {
				t.Errorf("Include of %d in %d: %d digests, %d", i, n, len(p), e)
			}
		}
	}
}

// P8.1, P0.2: beginnings that a list hasn't, though there is room for them behind its end: ErrArg, and nothing beside it.
func TestWrongBeginnings(t *testing.T) {
	all := digests(200)
	for _, n := range lengths() {
		for _, m := range append(extremes(), -n-1, n+1, n+2, 2*n+1, 200) {
			if p, e := proof.Consist(all[:n], m); len(p) != 0 || e != api.ErrArg {
				t.Errorf("Consist of %d in %d: %d digests, %d", m, n, len(p), e)
			}
		}
	}
}

// P8.1: inclusion proofs with digests that are wanting or too many, at each end.
func TestIncludedCounts(t *testing.T) {
	l := digests(129)
	for _, n := range lengths()[1:] {
		root := proof.Root(l[:n])
		for _, i := range someOf(n - 1) {
			p := mustInclude(t, l[:n], i)
			for cut := range p {
				if holdIncluded(t, l[i], i, n, p[:cut], root) || holdIncluded(t, l[i], i, n, p[cut+1:], root) {
					t.Errorf("%d of %d: included with too few digests", i, n)
				}
			}
			for _, d := range []api.Digest{{}, l[i], root, sha.Sum(nil)} {
				for at := range len(p) + 1 {
					if holdIncluded(t, l[i], i, n, slices.Insert(slices.Clone(p), at, d), root) {
						t.Errorf("%d of %d: included with a digest too many at %d", i, n, at)
					}
				}
			}
			if many := append(slices.Clone(p), make([]api.Digest, 100)...); proof.Included(l[i], i, n, many, root) {
				t.Errorf("%d of %d: included with very many digests", i, n)
			}
		}
	}
}

// P8.1: a proof with a digest too few leads to what it leads to, but to no list of that length.
func TestIncludedIsNotBelow(t *testing.T) {
	l := digests(40)
	for n := 2; n < 40; n++ {
		for i := range n {
			p := mustInclude(t, l[:n], i)
			k := plainSplit(n)
			part, place := l[:k], i
			if i >= k {
				part, place = l[k:n], i-k
			}
			below := proof.Root(part)
			if holdIncluded(t, l[i], i, n, p[:len(p)-1], below) {
				t.Errorf("%d of %d is included in a part of the list", i, n)
			}
			if !holdIncluded(t, l[i], place, len(part), p[:len(p)-1], below) {
				t.Errorf("%d of %d isn't included in its part of the list", i, n)
			}
		}
	}
}

// P8.1: each digest of an inclusion proof counts, and so do the leaf and the root.
func TestIncludedSpoilt(t *testing.T) {
	l := digests(129)
	for _, n := range lengths()[1:] {
		root := proof.Root(l[:n])
		for _, i := range someOf(n - 1) {
			p := mustInclude(t, l[:n], i)
			for k := range p {
				other := slices.Clone(p)
				other[k] = spoilt(other[k], 7*i+11*k)
				if holdIncluded(t, l[i], i, n, other, root) {
					t.Errorf("%d of %d: digest %d doesn't count", i, n, k)
				}
				other = slices.Clone(p)
				other[k], other[0] = other[0], other[k]
				if k > 0 && holdIncluded(t, l[i], i, n, other, root) {
					t.Errorf("%d of %d: digest %d may stand elsewhere", i, n, k)
				}
			}
			if holdIncluded(t, spoilt(l[i], i), i, n, p, root) || holdIncluded(t, l[i], i, n, p, spoilt(root, i)) {
				t.Errorf("%d of %d: the leaf or the root doesn't count", i, n)
			}
			if holdIncluded(t, l[i], i, n, p, api.Digest{}) || holdIncluded(t, api.Digest{}, i, n, p, root) {
				t.Errorf("%d of %d: zeros are as good as any digest", i, n)
			}
		}
	}
}

// P8.1: every bit of a proof counts, and of the leaf and the root.
func TestAllBitsCount(t *testing.T) {
	l := digests(7)
	root, old := proof.Root(l), proof.Root(l[:5])
	in, con := mustInclude(t, l, 4), mustConsist(t, l, 5)
	for bit := range 256 {
		for k := range in {
			other := slices.Clone(in)
			other[k] = spoilt(in[k], bit)
			if proof.Included(l[4], 4, 7, other, root) {
				t.Errorf("bit %d of digest %d of an inclusion proof doesn't count", bit, k)
			}
		}
		for k := range con {
			other := slices.Clone(con)
			other[k] = spoilt(con[k], bit)
			if proof.Consistent(5, 7, other, old, root) {
				t.Errorf("bit %d of digest %d of a consistency proof doesn't count", bit, k)
			}
		}
		if proof.Included(spoilt(l[4], bit), 4, 7, in, root) || proof.Included(l[4], 4, 7, in, spoilt(root, bit)) {
			t.Errorf("bit %d of the leaf or the root doesn't count", bit)
		}
		if proof.Consistent(5, 7, con, spoilt(old, bit), root) || proof.Consistent(5, 7, con, old, spoilt(root, bit)) {
			t.Errorf("bit %d of the old or the new root doesn't count", bit)
		}
	}
}

// P8.1: inclusion proofs of other places and of other lengths, and of other lists.
func TestIncludedElsewhere(t *testing.T) {
	l := digests(36)
	for n := 1; n < 35; n++ {
		root := proof.Root(l[:n])
		for i := range n {
			p := mustInclude(t, l[:n], i)
			for j := range n {
				if j != i && (holdIncluded(t, l[i], j, n, p, root) || holdIncluded(t, l[j], i, n, p, root)) {
					t.Errorf("%d of %d is included as %d", i, n, j)
				}
			}
			for other := range 36 {
				holdIncluded(t, l[i], i, other, p, root) // may be true: a root doesn't tell a length
				if other != n && holdIncluded(t, l[i], i, n, p, proof.Root(l[:other])) {
					t.Errorf("%d of %d is included in the first %d", i, n, other)
				}
			}
			for _, far := range extremes() {
				if holdIncluded(t, l[i], far, n, p, root) || holdIncluded(t, l[i], i, far, p, root) || holdIncluded(t, l[i], far, far, p, root) {
					t.Errorf("%d of %d is included with the number %d", i, n, far)
				}
			}
		}
	}
}

// P8.1: nothing is included in a list of none, by whichever proof.
func TestIncludedInNone(t *testing.T) {
	l := digests(5)
	none := sha.Sum(nil)
	for _, n := range append(extremes()[:9], 0) {
		for _, i := range append(extremes(), 0, 1, 2) {
			for k := range l {
				for _, root := range []api.Digest{none, l[0], {}} {
					if proof.Included(l[0], i, n, l[:k], root) || proof.Included(none, i, n, l[:k], root) {
						t.Errorf("%d is included in %d", i, n)
					}
				}
			}
		}
	}
}

// P8.1: consistency proofs with digests that are wanting or too many, at each end.
func TestConsistentCounts(t *testing.T) {
	l := digests(129)
	for _, n := range lengths() {
		root := proof.Root(l[:n])
		for _, m := range someOf(n) {
			old := proof.Root(l[:m])
			p := mustConsist(t, l[:n], m)
			for cut := range p {
				if holdConsistent(t, m, n, p[:cut], old, root) || holdConsistent(t, m, n, p[cut+1:], old, root) {
					t.Errorf("the first %d of %d: consistent with too few digests", m, n)
				}
			}
			for _, d := range []api.Digest{{}, old, root, sha.Sum(nil)} {
				for at := range len(p) + 1 {
					if holdConsistent(t, m, n, slices.Insert(slices.Clone(p), at, d), old, root) {
						t.Errorf("the first %d of %d: consistent with a digest too many at %d", m, n, at)
					}
				}
			}
			if many := append(slices.Clone(p), make([]api.Digest, 100)...); proof.Consistent(m, n, many, old, root) {
				t.Errorf("the first %d of %d: consistent with very many digests", m, n)
			}
		}
	}
}

// P8.1: each digest of a consistency proof counts, and so do both roots, where the chapter asks for them.
func TestConsistentSpoilt(t *testing.T) {
	l := digests(129)
	for _, n := range lengths() {
		root := proof.Root(l[:n])
		for _, m := range someOf(n) {
			old := proof.Root(l[:m])
			p := mustConsist(t, l[:n], m)
			for k := range p {
				other := slices.Clone(p)
				other[k] = spoilt(other[k], 7*m+11*k)
				if holdConsistent(t, m, n, other, old, root) {
					t.Errorf("the first %d of %d: digest %d doesn't count", m, n, k)
				}
				other = slices.Clone(p)
				other[k], other[0] = other[0], other[k]
				if k > 0 && holdConsistent(t, m, n, other, old, root) {
					t.Errorf("the first %d of %d: digest %d may stand elsewhere", m, n, k)
				}
			}
			for _, wrong := range []api.Digest{spoilt(old, m), {}, full()} {
				if holdConsistent(t, m, n, p, wrong, root) {
					t.Errorf("the first %d of %d: the old root doesn't count", m, n)
				}
			}
			for _, wrong := range []api.Digest{spoilt(root, m), {}, full()} {
				if m > 0 && holdConsistent(t, m, n, p, old, wrong) {
					t.Errorf("the first %d of %d: the root doesn't count", m, n)
				}
			}
			if m > 0 && m < n && (holdConsistent(t, m, n, p, root, root) || holdConsistent(t, m, n, p, old, old) || holdConsistent(t, m, n, p, root, old)) {
				t.Errorf("the first %d of %d: one root stands for the other", m, n)
			}
		}
	}
}

// P8.1: consistency proofs of other beginnings and of other lengths, and of other lists.
func TestConsistentElsewhere(t *testing.T) {
	l := digests(20)
	for n := 1; n < 19; n++ {
		root := proof.Root(l[:n])
		for m := range n + 1 {
			old := proof.Root(l[:m])
			p := mustConsist(t, l[:n], m)
			for other := range 20 {
				holdConsistent(t, other, n, p, old, root) // both may be true: a root doesn't tell a length
				holdConsistent(t, m, other, p, old, root)
				if other <= n && other != m && m > 0 && m < n && holdConsistent(t, other, n, p, proof.Root(l[:other]), root) {
					t.Errorf("the proof of the first %d of %d is one of %d", m, n, other)
				}
				if other != m && holdConsistent(t, m, n, p, proof.Root(l[:other]), root) {
					t.Errorf("the first %d are the first %d of %d", other, m, n)
				}
				if other != n && m > 0 && holdConsistent(t, m, n, p, old, proof.Root(l[:other])) {
					t.Errorf("the first %d of %d: consistent with the first %d", m, n, other)
				}
			}
			for _, far := range extremes() {
				if holdConsistent(t, far, n, p, old, root) || holdConsistent(t, far, far-1, p, old, root) {
					t.Errorf("the first %d of %d: consistent as the first %d", m, n, far)
				}
				if m > 0 && holdConsistent(t, m, far, p, old, root) {
					t.Errorf("the first %d of %d: consistent in %d", m, n, far)
				}
			}
		}
	}
}

// P8.1: a list that was changed, or has lost a digest, is no beginning of itself.
func TestChangedBeginnings(t *testing.T) {
	l := digests(33)
	for _, n := range []int{2, 3, 5, 8, 9, 31, 32, 33} {
		root := proof.Root(l[:n])
		for m := 1; m <= n; m++ {
			p := mustConsist(t, l[:n], m)
			for i := range m {
				other := slices.Clone(l[:n])
				other[i] = spoilt(other[i], i)
				if holdConsistent(t, m, n, p, proof.Root(other[:m]), root) || holdConsistent(t, m, n, mustConsist(t, other, m), proof.Root(other[:m]), root) {
					t.Errorf("the first %d of %d: digest %d of the list doesn't count", m, n, i)
				}
			}
		}
	}
}

// P8.1: of no digests: the proof is empty and old the root of none; the root isn't asked for.
func TestConsistentOfNone(t *testing.T) {
	l := digests(40)
	none := sha.Sum(nil)
	for _, n := range append(lengths(), 1<<31, 1<<32, 1<<62, math.MaxInt) {
		for _, root := range []api.Digest{l[3], {}, full(), none} {
			if n > 0 && !proof.Consistent(0, n, nil, none, root) {
				t.Errorf("no digests are no beginning of %d", n)
			}
			for _, old := range []api.Digest{root, {}, l[1], spoilt(none, 0)} {
				if old != none && proof.Consistent(0, n, nil, old, root) {
					t.Errorf("%x is the root of no digests, of %d", old, n)
				}
			}
			for k := 1; k < 40; k++ {
				if proof.Consistent(0, n, l[:k], none, root) {
					t.Errorf("no digests are a beginning of %d by %d digests", n, k)
				}
			}
		}
	}
	if !proof.Consistent(0, 0, nil, none, none) {
		t.Error("no digests are no beginning of none")
	}
}

// P8.1: of all digests: the proof is empty, and old is the root, whichever it is.
func TestConsistentOfAll(t *testing.T) {
	l := digests(40)
	for _, n := range append(lengths()[1:], 1<<31, 1<<32, 1<<62, math.MaxInt) {
		for _, root := range []api.Digest{l[3], {}, full(), sha.Sum(nil)} {
			if !proof.Consistent(n, n, nil, root, root) {
				t.Errorf("all of %d are no beginning of it", n)
			}
			for bit := range 256 {
				if proof.Consistent(n, n, nil, spoilt(root, bit), root) || proof.Consistent(n, n, nil, root, spoilt(root, bit)) {
					t.Errorf("all of %d: other roots are as good", n)
				}
			}
			for k := 1; k < 40; k++ {
				if proof.Consistent(n, n, l[:k], root, root) {
					t.Errorf("all of %d are a beginning by %d digests", n, k)
				}
			}
		}
	}
}

// P8.1, P0.1: beginnings that a list hasn't, by whichever proof.
func TestConsistentWrongNumbers(t *testing.T) {
	l := digests(5)
	for _, n := range append(extremes(), 0, 1, 2, 3, 8) {
		for _, m := range append(extremes(), 0, 1, 2, 3, 8, 9) {
			for k := range l {
				for _, old := range []api.Digest{{}, sha.Sum(nil), l[0]} {
					if got := holdConsistent(t, m, n, l[:k], old, old); got && (m < 0 || m > n) {
						t.Errorf("%d is a beginning of %d", m, n)
					}
				}
			}
		}
	}
}

// greatLengths are lengths of lists that nobody has, and of which a proof may be checked.
func greatLengths() []int {
	return []int{1 << 20, 1<<20 + 1, 1 << 31, 1<<31 - 1, 1<<32 + 1, 1<<40 + 5, 1 << 61, 1<<62 - 1, 1 << 62, 1<<62 + 1,
		0x5555555555555555, 0x7000000000000001, math.MaxInt - 1, math.MaxInt}
}

// greatPlaces are places in such a list.
func greatPlaces(n int) []int {
	k := plainSplit(n)
	l := []int{0, 1, 2, 3, 1000, n / 3, n / 2, k - 1, k, n - 3, n - 2, n - 1}
	if k+1 < n {
		l = append(l, k+1)
	}
	return l
}

// P8.1, P0.1: places of very great lists, as the chapter's words lead from them.
func TestIncludedInGreatLists(t *testing.T) {
	all := digests(70)
	for _, n := range greatLengths() {
		for _, i := range greatPlaces(n) {
			count := plainCount(i, n)
			p := all[1 : 1+count]
			root := plainUp(all[0], i, n, p)
			if !proof.Included(all[0], i, n, p, root) {
				t.Errorf("%d of %d isn't included", i, n)
			}
			if proof.Included(all[0], i, n, all[1:count], root) || proof.Included(all[0], i, n, all[1:2+count], root) || proof.Included(all[0], i, n, nil, all[0]) {
				t.Errorf("%d of %d is included by a digest fewer or more, or by none", i, n)
			}
			for k := range p {
				other := slices.Clone(p)
				other[k] = spoilt(other[k], k)
				if proof.Included(all[0], i, n, other, root) {
					t.Errorf("%d of %d: digest %d doesn't count", i, n, k)
				}
			}
		}
	}
}

// P8.1, P0.1: beginnings of very great lists, as the chapter's words lead from them.
func TestConsistentInGreatLists(t *testing.T) {
	all := digests(70)
	for _, n := range greatLengths() {
		for _, m := range greatPlaces(n)[1:] {
			count := plainParts(m, n, true)
			p := all[1 : 1+count]
			old, root := plainLead(m, n, true, p, all[0])
			if !proof.Consistent(m, n, p, old, root) {
				t.Errorf("%d of %d isn't consistent", m, n)
			}
			if proof.Consistent(m, n, all[1:count], old, root) || proof.Consistent(m, n, all[1:2+count], old, root) || proof.Consistent(m, n, nil, old, old) {
				t.Errorf("%d of %d is consistent by a digest fewer or more, or by none", m, n)
			}
			if proof.Consistent(m, n, p, spoilt(old, 9), root) || proof.Consistent(m, n, p, old, spoilt(root, 9)) {
				t.Errorf("%d of %d is consistent with another root", m, n)
			}
			for k := range p {
				other := slices.Clone(p)
				other[k] = spoilt(other[k], k)
				if proof.Consistent(m, n, other, old, root) {
					t.Errorf("%d of %d: digest %d doesn't count", m, n, k)
				}
			}
		}
	}
}

// P8.2: each place and each beginning.
func TestThereAndBack(t *testing.T) {
	l := digests(129)
	for _, n := range lengths() {
		root := proof.Root(l[:n])
		for i := range n {
			if !holdIncluded(t, l[i], i, n, mustInclude(t, l[:n], i), root) {
				t.Errorf("%d of %d isn't included", i, n)
			}
		}
		for m := range n + 1 {
			if !holdConsistent(t, m, n, mustConsist(t, l[:n], m), proof.Root(l[:m]), root) {
				t.Errorf("the first %d of %d aren't consistent", m, n)
			}
		}
	}
}

// P8.2: places and beginnings of great lists.
func TestThereAndBackInGreatLists(t *testing.T) {
	l := make([]api.Digest, 4100)
	for i := range l {
		l[i] = proof.Leaf([]byte{byte(i), byte(i >> 8)})
	}
	for _, n := range []int{1000, 1023, 1024, 1025, 4095, 4096, 4097, 4100} {
		root := proof.Root(l[:n])
		for _, i := range someOf(n - 1) {
			if !proof.Included(l[i], i, n, mustInclude(t, l[:n], i), root) {
				t.Errorf("%d of %d isn't included", i, n)
			}
			if !proof.Consistent(i+1, n, mustConsist(t, l[:n], i+1), proof.Root(l[:i+1]), root) {
				t.Errorf("the first %d of %d aren't consistent", i+1, n)
			}
		}
	}
}

// P8.3: as many digests as n - 1 has binary digits, at most, and one more; some proofs have just as many.
func TestProofsAreShort(t *testing.T) {
	l := make([]api.Digest, 1025)
	for _, n := range append(lengths()[1:], 255, 256, 257, 1023, 1024, 1025) {
		digits := bits.Len(uint(n - 1))
		longest := 0
		for _, i := range someOf(n - 1) {
			in, con := mustInclude(t, l[:n], i), mustConsist(t, l[:n], i)
			longest = max(longest, len(in))
			if len(in) > digits || len(con) > digits+1 {
				t.Errorf("%d of %d: %d digests, %d", i, n, len(in), len(con))
			}
		}
		if longest != digits {
			t.Errorf("of places of %d the longest proof has %d digests", n, longest)
		}
	}
	for _, n := range []int{4, 8, 16, 32, 1024} {
		if p := mustConsist(t, l[:n], n-1); len(p) != bits.Len(uint(n-1))+1 {
			t.Errorf("the first %d of %d: %d digests", n-1, n, len(p))
		}
	}
}

// P8.4: the root of a list by its two parts.
func TestRootByParts(t *testing.T) {
	l := digests(300)
	for n := 2; n <= 300; n++ {
		k := plainSplit(n)
		if proof.Root(l[:n]) != proof.Node(proof.Root(l[:k]), proof.Root(l[k:n])) {
			t.Errorf("the root of %d isn't the node of those of its first %d and its others", n, k)
		}
	}
}

// P8.4: a list of one more than a power of two.
func TestRootOfOneMore(t *testing.T) {
	l := digests(1025)
	for n := 1; n <= 1024; n *= 2 {
		if proof.Root(l[:n+1]) != proof.Node(proof.Root(l[:n]), l[n]) {
			t.Errorf("the root of %d isn't the node of that of %d and the new digest", n+1, n)
		}
	}
}

// P8.1: each digest of a list counts in its root, and so do its place and the list's length.
func TestRootHangsOnAll(t *testing.T) {
	l := digests(129)
	for _, n := range lengths()[1:] {
		root := proof.Root(l[:n])
		for _, i := range someOf(n - 1) {
			other := slices.Clone(l[:n])
			other[i] = spoilt(other[i], i)
			if proof.Root(other) == root {
				t.Errorf("digest %d of %d doesn't count", i, n)
			}
			other = slices.Clone(l[:n])
			other[i], other[n-1-i] = other[n-1-i], other[i]
			if i != n-1-i && proof.Root(other) == root {
				t.Errorf("digest %d of %d may stand elsewhere", i, n)
			}
		}
		if proof.Root(l[:n-1]) == root {
			t.Errorf("%d digests have the root of %d", n-1, n)
		}
	}
}

// P0.4
func TestNilAndEmptyAreAlike(t *testing.T) {
	if proof.Leaf(nil) != proof.Leaf([]byte{}) || proof.Root(nil) != proof.Root([]api.Digest{}) {
		t.Error("nil and empty have unlike digests")
	}
	for _, none := range [][]api.Digest{nil, {}} {
		if p, e := proof.Include(none, 0); len(p) != 0 || e != api.ErrArg {
			t.Errorf("Include of 0 in none: %d digests, %d", len(p), e)
		}
		if p, e := proof.Consist(none, 0); len(p) != 0 || e != api.OK {
			t.Errorf("Consist of 0 in none: %d digests, %d", len(p), e)
		}
		if p, e := proof.Consist(none, 1); len(p) != 0 || e != api.ErrArg {
			t.Errorf("Consist of 1 in none: %d digests, %d", len(p), e)
		}
		d := api.Digest{7}
		if !proof.Included(d, 0, 1, none, d) || proof.Included(d, 0, 1, none, api.Digest{8}) || proof.Included(d, 0, 2, none, d) {
			t.Error("Included by no digests")
		}
		if !proof.Consistent(0, 3, none, sha.Sum(nil), d) || !proof.Consistent(3, 3, none, d, d) || proof.Consistent(2, 3, none, d, d) || proof.Consistent(3, 4, none, d, d) {
			t.Error("Consistent by no digests")
		}
	}
}

// P0.3: neither what is handed in nor the room behind it is changed.
func TestArgumentsStay(t *testing.T) {
	given, want := digests(140), digests(140)
	bytesGiven, bytesWant := message(140), message(140)
	for n := range 130 {
		proof.Leaf(bytesGiven[:n])
		proof.Root(given[:n])
		for _, i := range append(someOf(n), -1, n+1) {
			proof.Include(given[:n], i)
			proof.Consist(given[:n], i)
			for k := range 9 {
				proof.Included(given[0], i, n, given[:k], given[1])
				proof.Consistent(i, n, given[:k], given[0], given[1])
			}
		}
		if !slices.Equal(given, want) || !bytes.Equal(bytesGiven, bytesWant) {
			t.Fatalf("what was handed in was changed, with %d", n)
		}
	}
}

// P0.3, P0.5: whoever writes into an answer, or behind its end, changes neither the list nor another answer.
func TestAnswersAreNew(t *testing.T) {
	for _, n := range []int{1, 2, 3, 4, 5, 7, 8, 9, 64, 65} {
		l := digests(n + 4)
		for at := range n + 1 {
			calls := []func([]api.Digest, int) ([]api.Digest, api.Errno){proof.Include, proof.Consist}
			for k, call := range calls {
				one, e := call(l[:n], at)
				two, _ := call(l[:n], at)
				want := slices.Clone(two)
				clear(one[:cap(one)])
				again, e2 := call(l[:n], at)
				if !slices.Equal(l, digests(n+4)) {
					t.Fatalf("call %d, %d of %d: the answer shares memory with the list", k, at, n)
				}
				if !slices.Equal(two, want) || !slices.Equal(again, want) || e2 != e {
					t.Errorf("call %d, %d of %d: two answers share memory", k, at, n)
				}
			}
		}
	}
}

// P0.3, P0.5: what is written into an argument later changes nothing that was answered, and nothing that is answered then.
func TestArgumentsAreNotKept(t *testing.T) {
	for _, n := range []int{1, 2, 3, 4, 5, 8, 9, 65} {
		l := digests(n)
		root, in, con := proof.Root(l), mustInclude(t, l, n-1), mustConsist(t, l, n/2)
		wantIn, wantCon := slices.Clone(in), slices.Clone(con)
		clear(l)
		if !slices.Equal(in, wantIn) || !slices.Equal(con, wantCon) {
			t.Errorf("%d digests: a proof shares memory with them", n)
		}
		if proof.Root(l) != plainRoot(l) {
			t.Errorf("%d digests: the root of what stood there before", n)
		}
		l = digests(n)
		if proof.Root(l) != root || !proof.Included(l[n-1], n-1, n, in, root) || !proof.Consistent(n/2, n, con, proof.Root(l[:n/2]), root) {
			t.Errorf("%d digests: an answer hangs on what was told before", n)
		}
	}
}
