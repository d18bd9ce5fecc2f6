package tree_test

import (
	"bytes"
	"fmt"
	"math"
	"slices"
	"testing"

	"jurat/api"
	"jurat/sha"
	"jurat/tree"
)

// message is n bytes of which no two neighbours are alike.
func message(n int) []byte {
	b := make([]byte, n)
	for i := range n {
		b[i] = byte(0x9d*i + 0x81)
	}
	return b
}

// digests are n of them, all unlike.
func digests(n int) []api.Digest {
	l := make([]api.Digest, n)
	for i := range l {
		l[i] = sha.Sum(message(i))
	}
	return l
}

func text(d api.Digest) string { return fmt.Sprintf("%x", d[:]) }

func join(l []api.Digest) []byte {
	var b []byte
	for _, d := range l {
		b = append(b, d[:]...)
	}
	return b
}

func full() api.Digest { return api.Digest(bytes.Repeat([]byte{0xff}, 32)) }

// sizes are all numbers of leaves that a tree has.
func sizes() []int { return []int{1, 2, 4, 8, 16, 32, 64, 128, 256, 512, 1024} }

// plainAbove, plainRoot and plainPath are worked out by the chapter's words, by halves.
func plainAbove(a, b api.Digest) api.Digest {
	return sha.Sum(slices.Concat([]byte{3}, a[:], b[:]))
}

func plainRoot(leaves []api.Digest) api.Digest {
	if len(leaves) == 1 {
		return leaves[0]
	}
	half := len(leaves) / 2
	return plainAbove(plainRoot(leaves[:half]), plainRoot(leaves[half:]))
}

func plainPath(leaves []api.Digest, i int) []api.Digest {
	if len(leaves) == 1 {
		return nil
	}
	half := len(leaves) / 2
	if i < half {
		return append(plainPath(leaves[:half], i), plainRoot(leaves[half:]))
	}
	return append(plainPath(leaves[half:], i-half), plainRoot(leaves[:half]))
}

// plainClimb goes up the halves: the last digest stands beside all the rest.
func plainClimb(leaf api.Digest, i int, path []api.Digest) api.Digest {
	if len(path) == 0 {
		return leaf
	}
	n := len(path) - 1
	half := 1 << n
	if i < half {
		return plainAbove(plainClimb(leaf, i, path[:n]), path[n])
	}
	return plainAbove(path[n], plainClimb(leaf, i-half, path[:n]))
}

func mustRoot(t *testing.T, leaves []api.Digest) api.Digest {
	t.Helper()
	d, e := tree.Root(leaves)
	if e != api.OK {
		t.Fatalf("Root of %d leaves: %d", len(leaves), e)
	}
	return d
}

func mustPath(t *testing.T, leaves []api.Digest, i int) []api.Digest {
	t.Helper()
	l, e := tree.Path(leaves, i)
	if e != api.OK || 1<<len(l) != len(leaves) {
		t.Fatalf("Path of %d of %d leaves: %d digests, %d", i, len(leaves), len(l), e)
	}
	return l
}

func mustClimb(t *testing.T, leaf api.Digest, i int, path []api.Digest) api.Digest {
	t.Helper()
	d, e := tree.Climb(leaf, i, path)
	if e != api.OK {
		t.Fatalf("Climb from %d up %d digests: %d", i, len(path), e)
	}
	return d
}

// P6.1: nodes as another program worked them out; which of both stands first counts.
func TestAboveKnown(t *testing.T) {
	l := digests(6)
	cases := []struct {
		a, b api.Digest
		want string
	}{
		{api.Digest{}, api.Digest{}, "dc48a742ae32cfd66352372d6120ed14d6629fc166246b05ff8b03e23804701f"},
		{api.Digest{}, full(), "674b99bfbe803009322662e5f61881ebd9ae36484c440d9751011f915802aa1e"},
		{full(), api.Digest{}, "1bc8272ae9ccdd814465a309a085b62f83dddf03d53588616215c5b5368d1b91"},
		{full(), full(), "c3c23d5b9760564cefda6cfd315e393d4b8f1e2171547c02556a9572bf1eb98e"},
		{l[0], l[1], "859dd731fbced3627aa0957d65c6625de4ca9570ceca71de82343b282d45d63f"},
		{l[1], l[0], "db44bb263e7bc8c7e83815c1b7247cdfd083f5ba063e80b6805de3dfa25d5e47"},
		{l[5], l[5], "93ba220281303a8af9489de42163b1fd927f49aeb0fbe84dde8e93d9f05cc897"},
	}
	for _, c := range cases {
		if got := text(tree.Above(c.a, c.b)); got != c.want {
			t.Errorf("Above(%x, %x) = %s, want %s", c.a, c.b, got, c.want)
		}
	}
}

// P6.1: every bit of both digests counts in the node above them.
func TestAboveHangsOnAllBits(t *testing.T) {
	l := digests(2)
	node := tree.Above(l[0], l[1])
	for bit := range 512 {
		other := slices.Clone(l)
		other[bit/256][bit%256/8] ^= 1 << (bit % 8)
		got := tree.Above(other[0], other[1])
		if got == node || got != plainAbove(other[0], other[1]) {
			t.Errorf("bit %d: Above = %x", bit, got)
		}
	}
}

// P6.1: the roots of all trees, and the sums of the paths of the first leaf, of one between, and of the last one,
// as another program worked them out.
func TestKnown(t *testing.T) {
	const nothing = "e3b0c44298fc1c149afbf4c8996fb92427ae41e4649b934ca495991b7852b855"
	cases := []struct {
		leaves                    int
		root, first, between, end string
	}{
		{1, nothing, nothing, nothing, nothing}, // the only leaf is the sum of nothing, and its path has no digest
		{2, "859dd731fbced3627aa0957d65c6625de4ca9570ceca71de82343b282d45d63f", "4877513190c15b1d16b9e26318a79023dde2ad894ec4fd08992770b3d204227b", "4877513190c15b1d16b9e26318a79023dde2ad894ec4fd08992770b3d204227b", "5df6e0e2761359d30a8275058e299fcc0381534545f55cf43e41983f5d4c9456"},
		{4, "193c2693fe9c537b102055b74ff64ddff306c6de7178fb6bba02e54b3a0900c6", "62ebb1aa18a8f35b56ab9d8646c28d334d9a9c18aa85d88e9d5f667d1bfc48d0", "cf18c8855103631be6320b7cdc50b10de98b9ba4f0a5fe22159984ac9d1202bf", "d749c142a2bb872ddb08d1d2d6678088611b70d7d085581a1a14338bb830ad6a"},
		{8, "f3010da32ff559260e7ea09f9afed110e182ead99c1ca77f0617c8ccf4a62356", "857c8f91195b1686f676288193800ff9c321513b2e572f334dae58a6c1b6add6", "cb4817b9e797238e235792e4f4380e3a393f3fe7eb6e507b59b5213a0b971e86", "1202636fba7e094c7f091b98a0cab0e1fa95198c3029385c183054716ada576c"},
		{16, "93e7768a6ee12675f0e9271f5608ef5fd5faa39d7a516efbfc14e9428b33416d", "ad0e1669330d842521343c062844df3e47515974e08fea8e5a3e088f1600acc3", "67c2283a774ddde12f9c443ae3499c930bfcd1a2688ef499d0e8e78cfc55a2d0", "2e6cbd7ef32f59745690c9afc398cdf2e3778f878680cdd9f54185c677af0091"},
		{32, "0c2f69a3b9949ebbff07a0600b37c4bc4b7af767188ab86acda86d3f720f6d60", "e0d1cecad998033465ce5afceee17615e74bb58ff1da9ea470db342a4673c169", "43000fd4ebd0f87fbfb0542f413d6944495e8475fd248424e22e450dd0e14bb6", "0c40fd6fa0f9bd63d3c4d2f7f157f1e484323394d157fe69c445e2ae83e56bfb"},
		{64, "4f6aca7e4209f500a8e7d742da914281bcd8d4e47ef57dbb1d04b6f51d9e14df", "ef407136425448e868d822327392bd6da80ac595b098351283f9b94162b60c58", "703308e4132c33f3dcb767e4644ec1dbde60d3ab8811c64a05a79b741f3e304f", "9b677a4824ca4291f750bad26356553ae302efe585400dd870802088a5cdd485"},
		{128, "23ee6201eb8bb031001a78ca9648c87570c7c87500a53317dca9acbfc0575a9f", "71a398b6e837c33f05070efe1772c1e343e88a3337058de63c1772544a22af1f", "bfa0df972b5c86a1be7b742a6012851fb4af0d9a17883a69533145b06bf9db4c", "8799cb6c4a9c5551544da1dd8d1ae6d351fcaae52baa7a3d407d1444cd41e5db"},
		{256, "345532350d1d9394b848868363ba8490ac7ed447c2a6a608e1f1a15eef988396", "c06c6a8da38af7bc8d6d56296805f82829a1a39eb3649f6fd6f472642bfecee6", "c575f4eedd03a11a2ec1d7c3094b5d94895a6b4ea724955e01f6ded1907b39b7", "35617cd1574b93743ee386feebae851d0570c448f11ae613492e1df71e54f166"},
		{512, "431e658820f9dac902aa5d70aa39db1559eec97a8057a64b9677c46ef4f9c5e7", "271038dc73fc0bf71f44555b52e68c4013d852bb384d355ec67a363743b7e96a", "4001d10cf8a7e82db9b7fde49e070a780b19e9743f0660eb8deaefa2b8a35803", "8c5c927257ea96dea4cc78cf25b552d9ab10e4b8030869f0c4bd42cb469bf244"},
		{1024, "1511ee0e7302013ecfed99ba015f7ccfad14ce9d44d91555e79bc10146f21969", "a31b6bd0b77acca9298c2916c9b562388e627affa1d3058dc94eba050dbae8d7", "b5874dcb8f932d6bfe4d2d387c16d15dad45202f6d8b71ff9f21f714b4877863", "e417d2f1cd96b3c517bff1b052c7b8d305151c59e4d089b0b88a047673060feb"},
	}
	for _, c := range cases {
		l := digests(c.leaves)
		if got := text(mustRoot(t, l)); got != c.root {
			t.Errorf("root of %d leaves = %s, want %s", c.leaves, got, c.root)
		}
		for i, want := range map[int]string{0: c.first, c.leaves / 3: c.between, c.leaves - 1: c.end} {
			if got := text(sha.Sum(join(mustPath(t, l, i)))); got != want {
				t.Errorf("path of %d of %d leaves: of the sum %s, want %s", i, c.leaves, got, want)
			}
		}
	}
}

// P6.1: the chapter's example.
func TestTwoLeaves(t *testing.T) {
	l := digests(2)
	if mustRoot(t, l) != tree.Above(l[0], l[1]) {
		t.Error("the root of two leaves isn't the node above them")
	}
	if !slices.Equal(mustPath(t, l, 0), l[1:]) || !slices.Equal(mustPath(t, l, 1), l[:1]) {
		t.Error("the path of one of two leaves isn't the other one")
	}
}

// P6.1: one leaf, of any bytes, is its own root; it is climbed to by no path.
func TestOneLeaf(t *testing.T) {
	for _, leaf := range []api.Digest{{}, {7}, full(), sha.Sum(nil)} {
		if mustRoot(t, []api.Digest{leaf}) != leaf {
			t.Errorf("the root of %x alone", leaf)
		}
		if path := mustPath(t, []api.Digest{leaf}, 0); len(path) != 0 {
			t.Errorf("the path of %x alone: %x", leaf, path)
		}
		if mustClimb(t, leaf, 0, nil) != leaf || mustClimb(t, leaf, 0, []api.Digest{}) != leaf {
			t.Errorf("%x isn't what no path leads to", leaf)
		}
	}
}

// P6.1: where any path leads, as another program worked it out, be it one of a tree that was seen or not.
func TestClimbKnown(t *testing.T) {
	cases := []struct {
		n, i int
		want string
	}{
		{0, 0, "44ce548064f75df5d2ae533e59739b655a838637438407bf60f288cd00eb7ceb"},
		{1, 0, "51de00c212df9b00135ffdca3fae5d8c47f6814afb4754c373eb4e2fa9f6df57"},
		{1, 1, "e84a1f1cf4b73e4f3611b5d24ef92b2fa86225c811fd2a3d5a8eef7295a3839c"},
		{2, 0, "74cc666d341d4cd7e6f2ae4d45c80a45a40782d65ee1da423add49aa3078d21d"},
		{2, 1, "df097acad80a9bb8972b4d62dc907046c456aef4956e9e087c19dd7d5b9dd8cc"},
		{2, 2, "f3dd388a581763b56e8ca047971d01cc2f8f69a5be98a0e4c1c781c55c0c3b46"},
		{2, 3, "4fba9f50aa26dab3e9e19b13255a5527ebfe3659158e4e13a2e8d8d32fc8f7cd"},
		{3, 5, "f9b59360ce1e9636e0595aeb4c1faea9d465ca3e8e0de7f3e11a9c8e1a8a66a4"},
		{9, 300, "8668bf00bd3832c0e60f7e1fb2147682daa0fab33e135fefc120ddde746d0b97"},
		{10, 0, "76ec477196d5af7d09d13e300f05d9be5d3528e87aa2fc715a2a1466dc41b850"},
		{10, 1, "86cebc625d40a16f4a0ca311f7c284762ca819337673535e38009bd4712ebdd2"},
		{10, 512, "3b28f08b61b13cbe34b92cda62adb63adede333e26ad01dfe49af4d30d55752c"},
		{10, 682, "49a854e8f51cbfdcff7e106fefd1b750c86dcf117aa2067470668d214ec2852f"},
		{10, 1023, "b4faa7bacd3d23a3fcc13f4b082107b2bfaf74a0d647790f63be3a027aad1a73"},
	}
	l := digests(110)
	for _, c := range cases {
		if got := text(mustClimb(t, l[50], c.i, l[100:100+c.n])); got != c.want {
			t.Errorf("Climb from %d up %d digests = %s, want %s", c.i, c.n, got, c.want)
		}
	}
}

// P6.1: all calls, held against the chapter's words.
func TestByTheWords(t *testing.T) {
	all := digests(api.MaxLeaves + 11)
	for _, n := range sizes() {
		leaves := all[:n]
		if mustRoot(t, leaves) != plainRoot(leaves) {
			t.Errorf("the root of %d leaves", n)
		}
		for i := 0; i < n; i += 1 + n/32 {
			if !slices.Equal(mustPath(t, leaves, i), plainPath(leaves, i)) {
				t.Errorf("the path of %d of %d leaves", i, n)
			}
		}
	}
	for n := range 11 {
		path := all[api.MaxLeaves : api.MaxLeaves+n]
		for i := range 1 << n {
			if mustClimb(t, all[0], i, path) != plainClimb(all[0], i, path) {
				t.Errorf("Climb from %d up %d digests", i, n)
			}
		}
	}
}

// P6.1: a path's digest is the root of the half beside the one with this leaf, the lowest first.
func TestPathIsRootsBeside(t *testing.T) {
	for _, n := range []int{2, 8, 64, 1024} {
		leaves := digests(n)
		for _, i := range []int{0, 1, n / 3, n/2 - 1, n / 2, n - 2, n - 1} {
			for k, d := range mustPath(t, leaves, i) {
				size := 1 << k
				from := (i/size ^ 1) * size
				if d != mustRoot(t, leaves[from:from+size]) {
					t.Errorf("%d of %d leaves: digest %d of the path isn't the root of those from %d on", i, n, k, from)
				}
			}
		}
	}
}

// P6.1: leaves that are alike, at each size: all paths of a tree are one then.
func TestLeavesAlike(t *testing.T) {
	for _, leaf := range []api.Digest{{}, full()} {
		want := leaf
		for _, n := range sizes() {
			leaves := slices.Repeat([]api.Digest{leaf}, n)
			if mustRoot(t, leaves) != want {
				t.Errorf("the root of %d times %x", n, leaf)
			}
			if !slices.Equal(mustPath(t, leaves, 0), mustPath(t, leaves, n-1)) {
				t.Errorf("the paths of %d times %x", n, leaf)
			}
			want = tree.Above(want, want)
		}
	}
}

// P6.1, P0.2: numbers of leaves that no tree has: ErrArg, and nothing beside it, whichever leaf is asked for.
func TestWrongNumbersOfLeaves(t *testing.T) {
	all := digests(2049)
	counts := []int{0, 1025, 1026, 1100, 1536, 2047, 2048, 2049}
	for n := range api.MaxLeaves {
		if !slices.Contains(sizes(), n) {
			counts = append(counts, n)
		}
	}
	for _, n := range counts {
		if d, e := tree.Root(all[:n]); d != (api.Digest{}) || e != api.ErrArg {
			t.Errorf("Root of %d leaves = %x, %d", n, d, e)
		}
		for _, i := range []int{0, 1, n / 2, n - 1, n, -1, math.MinInt, math.MaxInt} {
			if l, e := tree.Path(all[:n], i); len(l) != 0 || e != api.ErrArg {
				t.Errorf("Path of %d of %d leaves: %d digests, %d", i, n, len(l), e)
			}
		}
	}
	for _, n := range []int{1 << 12, 1 << 13, 1 << 16, 1<<16 + 1} {
		many := make([]api.Digest, n)
		if d, e := tree.Root(many); d != (api.Digest{}) || e != api.ErrArg {
			t.Errorf("Root of %d leaves = %x, %d", n, d, e)
		}
		if l, e := tree.Path(many, 0); len(l) != 0 || e != api.ErrArg {
			t.Errorf("Path of 0 of %d leaves: %d digests, %d", n, len(l), e)
		}
	}
}

// P6.1, P0.2: leaves that a tree hasn't, though there is room for them behind the list's end.
func TestWrongLeaves(t *testing.T) {
	all := digests(2 * api.MaxLeaves)
	for _, n := range sizes() {
		for _, i := range []int{-1, -2, -n, n, n + 1, 2*n - 1, 2 * n, 1024, 1 << 32, -1 << 32,
			math.MinInt32, math.MinInt, math.MinInt + 1, math.MaxInt32, math.MaxInt - 1, math.MaxInt} {
			if l, e := tree.Path(all[:n], i); len(l) != 0 || e != api.ErrArg {
				t.Errorf("Path of %d of %d leaves: %d digests, %d", i, n, len(l), e)
			}
		}
	}
}

// P6.1, P0.2: paths of more than ten digests, whatever the number.
func TestWrongPaths(t *testing.T) {
	all := digests(1024)
	for _, n := range []int{11, 12, 13, 31, 32, 33, 62, 63, 64, 65, 128, 1024} {
		for _, i := range []int{0, 1, 2, 1023, 1024, 2047, 2048, -1, math.MinInt, math.MaxInt} {
			if d, e := tree.Climb(all[0], i, all[:n]); d != (api.Digest{}) || e != api.ErrArg {
				t.Errorf("Climb from %d up %d digests = %x, %d", i, n, d, e)
			}
		}
	}
}

// P6.1, P0.2: numbers that aren't from 0 to 2^n - 1.
func TestWrongNumbers(t *testing.T) {
	all := digests(12)
	for n := range 11 {
		for _, i := range []int{1 << n, 1<<n + 1, 2 << n, 1 << 10, 1 << 11, 1 << 32, 1<<32 + 1, 1 << 62,
			math.MaxInt32, math.MaxInt - 1, math.MaxInt,
			-1, -2, -(1 << n), -(1 << n) - 1, -1 << 32, math.MinInt32, math.MinInt, math.MinInt + 1} {
			if d, e := tree.Climb(all[11], i, all[:n]); d != (api.Digest{}) || e != api.ErrArg {
				t.Errorf("Climb from %d up %d digests = %x, %d", i, n, d, e)
			}
		}
	}
}

// P6.2: each leaf of each tree.
func TestClimbIsTheRoot(t *testing.T) {
	for _, n := range sizes() {
		leaves := digests(n)
		root := mustRoot(t, leaves)
		for i, leaf := range leaves {
			if got := mustClimb(t, leaf, i, mustPath(t, leaves, i)); got != root {
				t.Errorf("%d of %d leaves: its path leads to %x, want %x", i, n, got, root)
			}
		}
	}
}

// P6.1: a leaf, a number or a digest of the path that isn't the right one doesn't lead to the root.
func TestClimbHangsOnAll(t *testing.T) {
	for _, n := range []int{2, 4, 16, 1024} {
		leaves := digests(n)
		root := mustRoot(t, leaves)
		for _, i := range []int{0, 1, n / 3, n - 1} {
			path := mustPath(t, leaves, i)
			for k := range n {
				if k != i && mustClimb(t, leaves[i], k, path) == root {
					t.Errorf("%d of %d leaves leads to the root as %d", i, n, k)
				}
				if k != i && mustClimb(t, leaves[k], i, path) == root {
					t.Errorf("%d of %d leaves leads to the root in the place of %d", k, n, i)
				}
			}
			for k := range path {
				spoilt := slices.Clone(path)
				spoilt[k][k] ^= 1
				if mustClimb(t, leaves[i], i, spoilt) == root {
					t.Errorf("%d of %d leaves: digest %d of the path doesn't count", i, n, k)
				}
			}
			if got, _ := tree.Climb(leaves[i], i/2, path[:len(path)-1]); got == root {
				t.Errorf("%d of %d leaves: the path's end doesn't count", i, n)
			}
		}
	}
}

// P6.3: the halves' roots, down to single leaves.
func TestRootByHalves(t *testing.T) {
	all := digests(api.MaxLeaves)
	for n := 2; n <= api.MaxLeaves; n *= 2 {
		for from := 0; from+n <= api.MaxLeaves; from += n {
			left, right := all[from:from+n/2], all[from+n/2:from+n]
			if mustRoot(t, all[from:from+n]) != tree.Above(mustRoot(t, left), mustRoot(t, right)) {
				t.Errorf("the root of %d leaves from %d on isn't above those of its halves", n, from)
			}
		}
	}
}

// P6.3: each leaf counts, and so does its place.
func TestRootHangsOnAllLeaves(t *testing.T) {
	for _, n := range []int{1, 2, 4, 8, 128, 1024} {
		leaves := digests(n)
		root := mustRoot(t, leaves)
		for i := 0; i < n; i += 1 + n/64 {
			other := slices.Clone(leaves)
			other[i][i%32] ^= 1 << (i % 8)
			if mustRoot(t, other) == root {
				t.Errorf("leaf %d of %d doesn't count", i, n)
			}
			other = slices.Clone(leaves)
			other[i], other[n-1-i] = other[n-1-i], other[i]
			if n > 1 && mustRoot(t, other) == root {
				t.Errorf("leaf %d of %d may stand elsewhere", i, n)
			}
		}
	}
}

// P6.4: of any path, cut at each place.
func TestClimbInTwoParts(t *testing.T) {
	all := digests(40)
	for n := range 11 {
		path := all[20 : 20+n]
		for i := 0; i < 1<<n; i += 1 + 1<<n/64 {
			whole := mustClimb(t, all[0], i, path)
			for cut := range n + 1 {
				below := mustClimb(t, all[0], i%(1<<cut), path[:cut])
				if mustClimb(t, below, i>>cut, path[cut:]) != whole {
					t.Errorf("from %d up %d digests, cut at %d", i, n, cut)
				}
			}
		}
	}
}

// P6.4: of a leaf's path the first part leads to the root of the leaves below, the rest from there to the root.
func TestPathInTwoParts(t *testing.T) {
	for _, n := range []int{1, 2, 8, 1024} {
		leaves := digests(n)
		root := mustRoot(t, leaves)
		for _, i := range []int{0, n / 3, n / 2, n - 1} {
			path := mustPath(t, leaves, i)
			for cut := range len(path) + 1 {
				size := 1 << cut
				from := i / size * size
				below := mustClimb(t, leaves[i], i-from, path[:cut])
				if below != mustRoot(t, leaves[from:from+size]) {
					t.Errorf("%d of %d leaves: the path's first %d lead to %x", i, n, cut, below)
				}
				if mustClimb(t, below, i/size, path[cut:]) != root {
					t.Errorf("%d of %d leaves: the path from its digest %d on", i, n, cut)
				}
			}
		}
	}
}

// P0.4
func TestNilAndEmptyAreAlike(t *testing.T) {
	for _, none := range [][]api.Digest{nil, {}} {
		if d, e := tree.Root(none); d != (api.Digest{}) || e != api.ErrArg {
			t.Errorf("Root of no leaves = %x, %d", d, e)
		}
		if l, e := tree.Path(none, 0); len(l) != 0 || e != api.ErrArg {
			t.Errorf("Path of no leaves: %d digests, %d", len(l), e)
		}
		if d, e := tree.Climb(api.Digest{7}, 0, none); d != (api.Digest{7}) || e != api.OK {
			t.Errorf("Climb up no digests = %x, %d", d, e)
		}
		for _, i := range []int{1, -1} {
			if d, e := tree.Climb(api.Digest{7}, i, none); d != (api.Digest{}) || e != api.ErrArg {
				t.Errorf("Climb from %d up no digests = %x, %d", i, d, e)
			}
		}
	}
}

// P0.3: neither the lists nor the room behind them are changed.
func TestArgumentsStay(t *testing.T) {
	given, want := digests(1100), digests(1100)
	for _, n := range []int{0, 1, 2, 3, 8, 9, 10, 11, 1024, 1025} {
		tree.Root(given[:n])
		tree.Path(given[:n], 0)
		tree.Path(given[:n], n-1)
		tree.Path(given[:n], n)
		tree.Climb(given[50], 0, given[:n])
		tree.Climb(given[50], 1<<n-1, given[:n])
		if !slices.Equal(given, want) {
			t.Fatalf("a list of %d was changed", n)
		}
	}
}

// P0.3, P0.5: whoever writes into an answer, or behind its end, changes neither the leaves nor another answer.
func TestAnswersAreNew(t *testing.T) {
	for _, n := range sizes() {
		leaves := digests(n + 4)
		for _, i := range []int{0, n / 2, n - 1} {
			one, two := mustPath(t, leaves[:n], i), mustPath(t, leaves[:n], i)
			want := slices.Clone(two)
			clear(one[:cap(one)])
			if !slices.Equal(leaves, digests(n+4)) {
				t.Fatalf("%d of %d leaves: the path shares memory with the leaves", i, n)
			}
			if !slices.Equal(two, want) || !slices.Equal(mustPath(t, leaves[:n], i), want) {
				t.Errorf("%d of %d leaves: two paths share memory", i, n)
			}
		}
	}
}

// P0.3, P0.5: what is written into an argument later changes nothing that was answered, and nothing that is answered then.
func TestArgumentsAreNotKept(t *testing.T) {
	for _, n := range sizes() {
		leaves := digests(n)
		root, path := mustRoot(t, leaves), mustPath(t, leaves, n-1)
		want := slices.Clone(path)
		clear(leaves)
		if !slices.Equal(path, want) {
			t.Errorf("%d leaves: a path shares memory with them", n)
		}
		if mustRoot(t, leaves) != plainRoot(leaves) {
			t.Errorf("%d leaves: the root of what stood there before", n)
		}
		if mustRoot(t, digests(n)) != root || mustClimb(t, digests(n)[n-1], n-1, path) != root {
			t.Errorf("%d leaves: an answer hangs on what was told before", n)
		}
	}
}
