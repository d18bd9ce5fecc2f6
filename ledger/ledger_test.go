package ledger_test

import (
	"bytes"
	"encoding/hex"
	"fmt"
	"math"
	"math/rand"
	"slices"
	"testing"

	"jurat/api"
	"jurat/ledger"
	"jurat/proof"
	"jurat/sha"
)

func text(d api.Digest) string { return fmt.Sprintf("%x", d[:]) }

func join(l []api.Digest) []byte {
	var b []byte
	for _, d := range l {
		b = append(b, d[:]...)
	}
	return b
}

// sizes are those of ledgers: none, one, two, powers of two, one fewer and one more.
func sizes() []int {
	return []int{0, 1, 2, 3, 4, 5, 6, 7, 8, 9, 15, 16, 17, 31, 32, 33, 63, 64, 65}
}

// extremes are numbers that are negative, or very great.
func extremes() []int {
	return []int{-1, -2, -3, -64, -4096, math.MinInt32, -1 << 32, math.MinInt, math.MinInt + 1, 4097, 4098, 1 << 16,
		math.MaxInt32, 1 << 31, 1 << 32, 1<<32 + 1, 1 << 62, math.MaxInt - 1, math.MaxInt}
}

// edges are the numbers at which a ledger of n leaves has its bounds, and some between.
func edges(n int) []int {
	l := []int{-1, 0, 1, 2, n / 3, n / 2, n - 2, n - 1, n, n + 1}
	slices.Sort(l)
	return slices.Compact(l)
}

func mustHead(t *testing.T, l *ledger.Ledger, n int) api.Digest {
	t.Helper()
	h, e := l.Head(n)
	if h.Size != n || e != api.OK {
		t.Fatalf("Head of %d: size %d, %d", n, h.Size, e)
	}
	return h.Root
}

func mustInclude(t *testing.T, l *ledger.Ledger, i, n int) []api.Digest {
	t.Helper()
	p, e := l.Include(i, n)
	if e != api.OK {
		t.Fatalf("Include of %d in %d: %d", i, n, e)
	}
	return p
}

func mustConsist(t *testing.T, l *ledger.Ledger, m, n int) []api.Digest {
	t.Helper()
	p, e := l.Consist(m, n)
	if e != api.OK {
		t.Fatalf("Consist of %d in %d: %d", m, n, e)
	}
	return p
}

// logged is a ledger of eight leaves of unlike lengths, the first one empty.
func logged(t *testing.T) *ledger.Ledger {
	t.Helper()
	l := ledger.New()
	for i, s := range []string{"", "00", "10", "2021", "3031", "40414243", "5051525354555657", "606162636465666768696a6b6c6d6e6f"} {
		b, err := hex.DecodeString(s)
		if err != nil {
			t.Fatal(err)
		}
		if place, e := l.Append(b); place != i || e != api.OK || l.Size() != i+1 {
			t.Fatalf("Append of leaf %d: %d, %d; Size %d", i, place, e, l.Size())
		}
	}
	return l
}

// P9.1: heads of these leaves, as another program worked them out.
func TestLoggedHeads(t *testing.T) {
	l := logged(t)
	for n, want := range []string{
		"e3b0c44298fc1c149afbf4c8996fb92427ae41e4649b934ca495991b7852b855",
		"6e340b9cffb37a989ca544e6bb780a2c78901d3fb33738768511a30617afa01d",
		"fac54203e7cc696cf0dfcb42c92a1d9dbaf70ad9e621f4bd8d98662f00e3c125",
		"aeb6bcfe274b70a14fb067a5e5578264db0fa9b51af5e0ba159158f329e06e77",
		"d37ee418976dd95753c1c73862b9398fa2a2cf9b4ff0fdfe8b30cd95209614b7",
		"4e3bbb1f7b478dcfe71fb631631519a3bca12c9aefca1612bfce4c13a86264d4",
		"76e67dadbcdf1e10e1b74ddc608abd2f98dfb16fbce75277b5232a127f2087ef",
		"ddb89be403809e325750d3d263cd78929c2942b7942a34b77e122c9594a74c8c",
		"5dc9da79a70659a9ad559cb701ded9a2ab9d823aad2f4960cfe370eff4604328",
	} {
		if got := text(mustHead(t, l, n)); got != want {
			t.Errorf("the root of the first %d = %s, want %s", n, got, want)
		}
	}
}

// P9.1: proofs of these leaves, digest by digest, as another program worked them out.
func TestLoggedProofs(t *testing.T) {
	const (
		zero    = "6e340b9cffb37a989ca544e6bb780a2c78901d3fb33738768511a30617afa01d"
		one     = "96a296d224f285c67bee93c30f8a309157f0daa35dc5b87e410b78630a09cfc7"
		four    = "bc1a0643b12e4d2d7c77918f44e0f4f79a838b6cf9ec5b5c283e1f4d88599e6b"
		twos    = "5f083f0a1a33ca076a95279832580db3e0ef4584bdff1f54c8a360f50de3031e"
		fours   = "0ebc5d3437fbe2db158b9f126a1d118e308181031d0a949f8dededebc558ef6a"
		sixes   = "ca854ea128ed050b41b35ffc1b87b8eb2bde461e9e3b5596ece6b9d5975a0ae0"
		nought2 = "fac54203e7cc696cf0dfcb42c92a1d9dbaf70ad9e621f4bd8d98662f00e3c125"
		nought4 = "d37ee418976dd95753c1c73862b9398fa2a2cf9b4ff0fdfe8b30cd95209614b7"
		last4   = "6b47aaf29ee3c2af9af889bc1fb9254dabd31177f16232dd6aab035ca39bf6e4"
	)
	l := logged(t)
	cases := []struct {
		include bool
		at, n   int
		want    []string
	}{
		{true, 0, 1, nil},
		{true, 0, 8, []string{one, twos, last4}},
		{true, 5, 8, []string{four, sixes, nought4}},
		{true, 2, 3, []string{nought2}},
		{true, 1, 5, []string{zero, twos, four}},
		{false, 0, 8, nil},
		{false, 8, 8, nil},
		{false, 1, 8, []string{one, twos, last4}},
		{false, 6, 8, []string{fours, sixes, nought4}},
		{false, 2, 5, []string{twos, four}},
	}
	for _, c := range cases {
		p := mustConsist(t, l, c.at, c.n)
		if c.include {
			p = mustInclude(t, l, c.at, c.n)
		}
		var got []string
		for _, d := range p {
			got = append(got, text(d))
		}
		if !slices.Equal(got, c.want) {
			t.Errorf("%d of %d (of a place: %t): %v, want %v", c.at, c.n, c.include, got, c.want)
		}
	}
}

// numbersTo are all from 0 on that are below n.
func numbersTo(n int) []int {
	var l []int
	for i := range n {
		l = append(l, i)
	}
	return l
}

// summed are the root of the first n leaves, and the sums of their proofs, of places and of beginnings, one behind the other.
func summed(t *testing.T, l *ledger.Ledger, n int, places, beginnings []int) [3]string {
	t.Helper()
	var in, con []byte
	for _, i := range places {
		in = append(in, join(mustInclude(t, l, i, n))...)
	}
	for _, m := range beginnings {
		con = append(con, join(mustConsist(t, l, m, n))...)
	}
	return [3]string{text(mustHead(t, l, n)), text(sha.Sum(in)), text(sha.Sum(con))}
}

// P9.1: roots, and the sums of all proofs one behind the other, as another program worked them out.
func TestKnown(t *testing.T) {
	cases := []struct {
		n    int
		want [3]string
	}{
		{0, [3]string{"e3b0c44298fc1c149afbf4c8996fb92427ae41e4649b934ca495991b7852b855", "e3b0c44298fc1c149afbf4c8996fb92427ae41e4649b934ca495991b7852b855", "e3b0c44298fc1c149afbf4c8996fb92427ae41e4649b934ca495991b7852b855"}},
		{1, [3]string{"6e340b9cffb37a989ca544e6bb780a2c78901d3fb33738768511a30617afa01d", "e3b0c44298fc1c149afbf4c8996fb92427ae41e4649b934ca495991b7852b855", "e3b0c44298fc1c149afbf4c8996fb92427ae41e4649b934ca495991b7852b855"}},
		{2, [3]string{"78e6f75f32b31e6f96a4239f3133ee38663eb52ba44a48378b2104058e2b0282", "8c03d6cf6d5ae5af0b41096d7422070afe2c154214765e724682f5c1ae72d5df", "fe9cfa5e365bb6671ee93295faf1ad38bf1f36ce9d8913299664ba6bed1c6393"}},
		{3, [3]string{"45c812ce32f880a62f2bb78e36ea078b1fcaaa950642c8131b97c2cb2ec773ac", "03879a38eaf1e85bbc6ca8044b1e93e22da590a20dd00c4aa09f3ccb2daf4e0b", "8e14b9cf546bec0509080b44b0c41a4e17920d25078420d0c1839b8a5150a212"}},
		{4, [3]string{"feba6024be0518c98e454443f7ac222c82c0016918fd6467d3bde33b4aab899d", "08f2f90975fbaeae07df25effabd839155791d81d31c77afee8f68ca07425b07", "a137f0a66e3f20990bbd9ac552bdd286f3eb15edb70e48efade28b1c7f4a4832"}},
		{5, [3]string{"2c1ccb22466655e8a586124edecf877c2a7f042cc6f97b8a02c45ceada319ec6", "968dc4cf98caf7d008c03479ad1db15872f2af0343d7fc2166ec5dd976061a87", "3378ee202e1ca4eabb6b8696ac64b90a7caa59d177b26b74bd2c393d196d3350"}},
		{7, [3]string{"858b05ea660f8a3d6b60029df02d489a7d4a402c37ccae66220ba04c3042cfa9", "eafae4040ed360c33f2ec1aaa27bafc8aa1573ac0936c6bbe71185cfdda3a825", "240edc4e0141b41e61f2d4981eb2bf3ad1819466e9a84d30f8898b61bf4db8a1"}},
		{8, [3]string{"764efee2c960d9bf8e848559e3870a0f07dddb4b82154977d8171dae3e60125d", "23907431f17b97565671d8068bf04fda787d574f5d1239d442b3a227a3412d6c", "86365226216eb4f7ec1bd4d4629d6f1596d605a8de227f38e1a44dec0f654a74"}},
		{9, [3]string{"712ac9b704a0b5289d8a79d09c9fa952ed75cfb5d3e242562df00019d7193743", "b1818c07e353bd30dcfb5b69d440ae1bc48ff1c8f0cc94efaa9068b6e922e608", "8ee736bb3c7834c9d2b5ff7b7665f491106d2195102fe412b989e9b2f8ada041"}},
		{31, [3]string{"fe71c7625ccb913727d5c184d56bb549a7662bdd6e016cd7669ae495548ec801", "1d40451ac9b2924d7cb68fa0b6597397e1f8e189c029843a018aa2ef0cf6419b", "7a73be35fb9beb1a6eae5359edc7e1777f5c789e8361852aece2081557299640"}},
		{32, [3]string{"01e694f2a2d4a04282c1ff08083cd6018566e01bba846acbacf3eea88b3f2df0", "ef04c9ff8b9acdd6ad1e872ce84add86f11a18d1b2b02feff6f691c44b58ed5f", "200c740f0310b0bdade8d0aad96f540deec426f41714072ff492f0186e3031a9"}},
		{33, [3]string{"b469ecbf61d6903e4e1d7de08802be4cc05be6636fd0ffb6fc996cd13555f7a2", "a0412ee989cd0c6ae64d5fdc423398409a08470da407df2e8b1c9be6ed048ae2", "4ff27ed4f77146bbf40986098c0887a7cec7cb1f0f5c725a2654e8dbe4472c54"}},
		{127, [3]string{"0112d3f45af48eb27b8e577bae21d44704459ccbe16ff868982089d15c156bb3", "4e54ad78cd3016bf714158187d8fb96bc9f14f8c085ea5a23c797d4dd200d989", "7870a0e25a3d69b8937b32509cf9750585ec3ff6b1e9cbe6e5371b6901f1120b"}},
		{128, [3]string{"b0c48cbf49c99f383c6ade78e0cd640267b0a3aed29c61aefa525749d14e6b9f", "48e2cb4f1ffed34949f9033fc555f1c79234238fe34d4a1f43dc0f2de6c5b4f1", "743817d4979eb5ef631a18d3894ffd2c224d4b7378c909c4c129193a47b7a008"}},
		{129, [3]string{"e66886942954875afa5ab0b91d2da31a224785f37a972dddf1a7a510743b938a", "18818d1cd39304c6650b27a3b736737edf3a634aac43d84ab9e89c3aec2435ba", "8475616db3c73ecd3de48f26259369a5fc93209dfc056347698251a29b51827c"}},
	}
	whole := grown(t, 200)
	for _, c := range cases {
		for _, l := range []*ledger.Ledger{grown(t, c.n), whole} { // what is behind the first n doesn't count
			if got := summed(t, l, c.n, numbersTo(c.n), numbersTo(c.n+1)); got != c.want {
				t.Errorf("the first %d of %d: %v, want %v", c.n, l.Size(), got, c.want)
			}
		}
	}
}

// P9.1: the same of a full ledger, of some places and beginnings.
func TestKnownOfMany(t *testing.T) {
	cases := []struct {
		n    int
		want [3]string
	}{
		{1000, [3]string{"7e436829c5b5f168ce5dcd2cad3856c883ed018e776b9b231452b2a422ce04c9", "7ebfa04541ce0ccdfe75030b63efe9086a5b19e1d2edbd5d2004a21031b9af0d", "7e7b511050c02dabe0c8aaac736184b5951a246e9bd30ca6d481e47240d3bcd0"}},
		{2047, [3]string{"f915220bd693667b2d4dd04653861200a8f049cf6e82446e9e3303387e795902", "018b901f4c6996ddbce219a450c1c463c6b27bcbba30da09621dcefc7f79d3c5", "71c1d7380be437d0c6654106c869c6bd23c3d58d29626905a24e94f53ae434bf"}},
		{2048, [3]string{"07d3aca69a6a4b5efd67cc7185695f350301f19727b0e780f16e9fbf96a9cb3e", "17c94e89829a322656fecc722de4fd7024749232865a47e2a80a53178139d6a0", "541f005c6b1d2cfff11c73129245a2e675dac1aedd7379cace6c1d15d8b16134"}},
		{2049, [3]string{"e605bc99bbd72fb89fb33dcf7cd6863f95bfcefc342048d40b7879b4fe4c5d10", "5cef1b231ee0d70d9376370fe62f9a0f899f6d52c938550021b3ce02e08a719c", "b4e17a51bc7ff6dccb01c2ede985e71abdb8c3290f5e9ae3818364bc0f8ee8b5"}},
		{4095, [3]string{"e721b9e39a8735f241c993cfa4d516ea866a658180736984c38dba660653b5f6", "b55fd5111c4509f7aca3ff246ba6f2d169a8d531f3731c633f6e4113f49b7cb9", "a420b6ff26a2eed40fb712ea21d7648f116f5cdbff5d826dc5bc525efb16f7cd"}},
		{4096, [3]string{"9d0b89571346744385491de96af060df2edc77e79ec71ad1fa5ada36e066db52", "2d708b4876455c6404d8368284daee7647fc8197b1de4832d36005224310adee", "5cbd3edd80505c5eea8e455a567bca86891ccd66bc3c2b978ce6199796997e55"}},
	}
	l := grown(t, 4096)
	for _, c := range cases {
		some := []int{0, 1, c.n / 3, c.n / 2, c.n - 2, c.n - 1}
		if got := summed(t, l, c.n, some, some); got != c.want {
			t.Errorf("the first %d: %v, want %v", c.n, got, c.want)
		}
	}
}

// P9.1: the chapter's examples.
func TestExamples(t *testing.T) {
	const (
		digestOfA = "022a6979e6dab7aa5ae4c3e5e45f7e977112a7e63593820dbec1ec738a24f93c"
		digestOfB = "57eb35615d47f34ec714cacdf5fd74608a5e8e102724e80b24b287c0c27b6a31"
		both      = "b137985ff484fb600db93107c77b0365c80d78f5b429ded0fd97361d077999eb"
	)
	l := ledger.New()
	l.Append([]byte("a"))
	l.Append([]byte("b"))
	if l.Size() != 2 || text(mustHead(t, l, 1)) != digestOfA || text(mustHead(t, l, 2)) != both {
		t.Errorf("Size %d, heads %x, %x", l.Size(), mustHead(t, l, 1), mustHead(t, l, 2))
	}
	if p := mustConsist(t, l, 1, 2); len(p) != 1 || text(p[0]) != digestOfB {
		t.Errorf("Consist of 1, 2: %x", p)
	}
}

// P9.1: a new ledger has no leaves, and yet a head: that of none.
func TestWithoutLeaves(t *testing.T) {
	l := ledger.New()
	if l == nil || l.Size() != 0 {
		t.Fatal("New is no ledger without leaves")
	}
	if mustHead(t, l, 0) != sha.Sum(nil) || len(mustConsist(t, l, 0, 0)) != 0 {
		t.Error("the root or the proof of none")
	}
	for _, i := range append(extremes(), 0, 1) {
		hold(t, l, &plain{}, i, 0)
		hold(t, l, &plain{}, 0, i)
	}
}

// P9.1, P0.2: all that is asked of ledgers of all small sizes, within the bounds and one beyond.
func TestAsTheWordsSay(t *testing.T) {
	for size := range 19 {
		l, p := both(t, size)
		for n := -1; n <= size+1; n++ {
			for i := -1; i <= size+1; i++ {
				hold(t, l, p, i, n)
			}
		}
	}
	for _, size := range sizes() {
		l, p := both(t, size)
		for _, n := range edges(size) {
			for _, i := range edges(n) {
				hold(t, l, p, i, n)
			}
		}
	}
}

// P9.1, P0.1, P0.2: numbers that may not be, in each place of each call, on ledgers with few leaves and with all.
func TestWrongNumbers(t *testing.T) {
	for _, size := range []int{0, 1, 2, 3, 8, 9, 4095, 4096} {
		l := grown(t, size)
		for _, far := range append(extremes(), size+1, size+2) {
			leaf, e1 := l.Leaf(far)
			head, e2 := l.Head(far)
			if leaf != nil || e1 != api.ErrArg || head != (api.Head{}) || e2 != api.ErrArg {
				t.Errorf("of %d leaves: Leaf of %d: %x %d, Head: %v %d", size, far, leaf, e1, head, e2)
			}
			for _, other := range append(extremes(), edges(size)...) {
				for _, numbers := range [][2]int{{far, other}, {other, far}} {
					in, e1 := l.Include(numbers[0], numbers[1])
					con, e2 := l.Consist(numbers[0], numbers[1])
					if in != nil || e1 != api.ErrArg || con != nil || e2 != api.ErrArg {
						t.Errorf("of %d leaves: Include of %v: %x %d, Consist: %x %d", size, numbers, in, e1, con, e2)
					}
				}
			}
		}
	}
}

// P9.1: a place that the first n haven't is none of theirs, though the ledger has it; a beginning may be as long as they are.
func TestPlacesBeyondTheFirst(t *testing.T) {
	l := grown(t, 40)
	for n := range 41 {
		for i := n; i <= 41; i++ {
			if p, e := l.Include(i, n); p != nil || e != api.ErrArg {
				t.Errorf("Include of %d in %d: %x %d", i, n, p, e)
			}
			if p, e := l.Consist(i+1, n); p != nil || e != api.ErrArg {
				t.Errorf("Consist of %d in %d: %x %d", i+1, n, p, e)
			}
		}
		if p := mustConsist(t, l, n, n); len(p) != 0 {
			t.Errorf("Consist of %d in %d: %x", n, n, p)
		}
	}
}

// P9.1, P0.4: leaves of no bytes, of MaxLeaf and about the ends of a sum's blocks; their digests as another program worked them out.
func TestLengthsOfLeaves(t *testing.T) {
	cases := []struct {
		b    []byte
		want string
	}{
		{nil, "6e340b9cffb37a989ca544e6bb780a2c78901d3fb33738768511a30617afa01d"},
		{[]byte{}, "6e340b9cffb37a989ca544e6bb780a2c78901d3fb33738768511a30617afa01d"},
		{message(1), "fb13e8eb4ee0b20345624f1ad3a29eb8e4c09ca68f5ae26f2dcfd0edf81ab81c"},
		{message(55), "cbe4bd0cd1f20c4272262a2bc79a66329723472334c4018894522ca7703c70b6"},
		{message(62), "094ea7787228eae1208c400cffcdb4b078ce05bd19edaee3433eac5b10b0127a"},
		{message(63), "b86d9b2cd90b62d1b52894e7acd050b644f2d81446007e1d5d10f98b4fd41215"},
		{message(64), "66eca8cfd18aa634a78d3e77918d965448339b29b6dc30f41be63e1601410281"},
		{message(4095), "47a859fb64383853025533e4856243af9cc750b6cfef2313abaf7b19c62d2346"},
		{message(4096), "9fc5d1f268227dc9527144cedb38adff2bbb9325b130b7eae3c613b12c406bdb"},
	}
	all := ledger.New()
	for i, c := range cases {
		one := ledger.New()
		if place, e := one.Append(c.b); place != 0 || e != api.OK || text(mustHead(t, one, 1)) != c.want {
			t.Errorf("a leaf of %d bytes: place %d, %d, digest %x", len(c.b), place, e, mustHead(t, one, one.Size()))
		}
		if place, e := all.Append(c.b); place != i || e != api.OK {
			t.Errorf("leaf %d, of %d bytes: place %d, %d", i, len(c.b), place, e)
		}
	}
	for i, c := range cases {
		if got, e := all.Leaf(i); !bytes.Equal(got, c.b) || e != api.OK {
			t.Errorf("Leaf of %d: %d bytes, %d, want %d bytes", i, len(got), e, len(c.b))
		}
	}
}

// P9.1: leaves that are alike stand there as often as they were appended.
func TestLeavesThatAreAlike(t *testing.T) {
	l, p := ledger.New(), &plain{}
	for i := range 17 {
		place, e := l.Append([]byte("again"))
		p.Append([]byte("again"))
		if place != i || e != api.OK || l.Size() != i+1 {
			t.Errorf("leaf %d: place %d, %d, Size %d", i, place, e, l.Size())
		}
		for at := range i + 2 {
			hold(t, l, p, at, i+1)
		}
	}
}

// P9.1, P0.2: a leaf that is too long is refused, and changes nothing.
func TestLongLeaves(t *testing.T) {
	for _, size := range []int{0, 1, 2, 7, 8} {
		l, p := both(t, size)
		for _, length := range []int{4097, 4098, 8192, 1 << 16, 1 << 20} {
			if place, e := l.Append(make([]byte, length)); place != 0 || e != api.ErrLong {
				t.Errorf("on %d leaves, one of %d bytes: %d, %d", size, length, place, e)
			}
			for i := -1; i <= size+1; i++ {
				hold(t, l, p, i, size)
				hold(t, l, p, 0, i)
			}
		}
		grow(t, l, size+9)
		grow(t, p, size+9)
		for i := range size + 9 {
			hold(t, l, p, i, size+9)
		}
	}
}

// P9.1, P0.2: of MaxLedger leaves all are taken and one more is refused, a long one as such; neither changes anything.
func TestFull(t *testing.T) {
	l, p := both(t, 4095)
	if place, e := l.Append(make([]byte, 4097)); place != 0 || e != api.ErrLong {
		t.Errorf("a long leaf ahead of the last one: %d, %d", place, e)
	}
	grow(t, l, 4096)
	grow(t, p, 4096)
	for range 3 {
		for _, length := range []int{0, 1, 32, 4095, 4096} {
			if place, e := l.Append(make([]byte, length)); place != 0 || e != api.ErrFull {
				t.Errorf("one leaf more, of %d bytes: %d, %d", length, place, e)
			}
		}
		for _, length := range []int{4097, 1 << 16} {
			if place, e := l.Append(make([]byte, length)); place != 0 || e != api.ErrLong {
				t.Errorf("one leaf more, of %d bytes: %d, %d", length, place, e)
			}
		}
	}
	for _, n := range []int{0, 1, 4095, 4096, 4097} {
		for _, i := range edges(4096) {
			hold(t, l, p, i, n)
		}
	}
	for i := range 4096 {
		if b, e := l.Leaf(i); !bytes.Equal(b, leaf(i)) || e != api.OK {
			t.Errorf("Leaf of %d: %x, %d", i, b, e)
		}
	}
}

// P9.2: all that was told of the first leaves is told again behind each further Append, taken or refused.
func TestToldForEver(t *testing.T) {
	l := ledger.New()
	before := map[[2]int]string{}
	for size := range 21 {
		for at, want := range before {
			if got := told(l, at[0], at[1]); got != want {
				t.Fatalf("with %d leaves, of %v:\n%s\nahead:\n%s", size, at, got, want)
			}
		}
		for n := range size + 1 {
			for i := range n {
				before[[2]int{i, n}] = told(l, i, n)
			}
		}
		l.Append(make([]byte, 4097))
		grow(t, l, size+1)
	}
}

// P9.2: what was told of few leaves is told so till the ledger is full.
func TestToldTillFull(t *testing.T) {
	l := grown(t, 3)
	var before []string
	for size := 3; size <= 4096; size++ {
		grow(t, l, size)
		var now []string
		for _, n := range []int{2, 3} {
			for i := range n {
				now = append(now, told(l, i, n))
			}
		}
		if before != nil && !slices.Equal(now, before) {
			t.Fatalf("with %d leaves the first ones are told otherwise", size)
		}
		before = now
	}
}

// P9.2: heads, leaves and proofs of all sizes about the powers of two, told when they were the last ones and when the ledger is full.
func TestHeadsTillFull(t *testing.T) {
	type asked struct {
		i, n int
		told string
	}
	l := ledger.New()
	var before []asked
	for n := 1; n <= 4096; n *= 2 {
		for size := n - 1; size <= n+1 && size <= 4096; size++ {
			grow(t, l, size)
			for _, i := range edges(size) {
				if 0 <= i && i < size { // none but these have a leaf and proofs for ever
					before = append(before, asked{i, size, told(l, i, size)})
				}
			}
		}
	}
	for _, a := range before {
		if got := told(l, a.i, a.n); got != a.told {
			t.Errorf("of %d and %d:\n%s\nahead:\n%s", a.i, a.n, got, a.told)
		}
	}
}

// P9.3: each leaf, told as bytes, is included in each head behind it; each head is consistent with each greater one.
func TestAllIsIncludedAndConsistent(t *testing.T) {
	for _, size := range []int{1, 2, 3, 66} {
		l := grown(t, size)
		for n := range size + 1 {
			root := mustHead(t, l, n)
			for i := range n {
				b, _ := l.Leaf(i)
				if !proof.Included(proof.Leaf(b), i, n, mustInclude(t, l, i, n), root) {
					t.Errorf("%d isn't included in %d", i, n)
				}
			}
			for m := range n + 1 {
				if !proof.Consistent(m, n, mustConsist(t, l, m, n), mustHead(t, l, m), root) {
					t.Errorf("%d isn't consistent with %d", m, n)
				}
			}
		}
	}
}

// P9.3: the same of a full ledger: places, beginnings and sizes about powers of two.
func TestManyAreIncludedAndConsistent(t *testing.T) {
	l := grown(t, 4096)
	numbers := []int{0, 1, 2, 100, 1023, 1024, 1025, 2047, 2048, 2049, 3000, 4094, 4095, 4096}
	for _, n := range numbers {
		root := mustHead(t, l, n)
		for _, i := range numbers {
			if i < n && !proof.Included(proof.Leaf(leaf(i)), i, n, mustInclude(t, l, i, n), root) {
				t.Errorf("%d isn't included in %d", i, n)
			}
			if i <= n && !proof.Consistent(i, n, mustConsist(t, l, i, n), mustHead(t, l, i), root) {
				t.Errorf("%d isn't consistent with %d", i, n)
			}
		}
	}
}

// rootOf is the root of a ledger of these leaves.
func rootOf(t *testing.T, leaves [][]byte) api.Digest {
	t.Helper()
	l := ledger.New()
	for _, b := range leaves {
		l.Append(b)
	}
	return mustHead(t, l, len(leaves))
}

// P9.3: a head is that of its own leaves: where one of them is another one, or stands elsewhere, so is the head.
func TestHeadsHangOnAll(t *testing.T) {
	for _, size := range sizes()[1:] {
		var leaves [][]byte
		for i := range size {
			leaves = append(leaves, leaf(i))
		}
		root := rootOf(t, leaves)
		for i := range size {
			other := slices.Clone(leaves)
			other[i] = append(leaf(i), 0)
			if rootOf(t, other) == root {
				t.Errorf("leaf %d of %d doesn't count", i, size)
			}
			other[i], other[size-1-i] = leaves[size-1-i], leaves[i]
			if i != size-1-i && rootOf(t, other) == root {
				t.Errorf("leaf %d of %d may stand elsewhere", i, size)
			}
		}
	}
}

// P9.4, P0.3: what is handed in isn't changed, the room behind it neither; nor is it kept: all leaves come out of one room that is written over.
func TestHandedInIsNotKept(t *testing.T) {
	l, p := ledger.New(), &plain{}
	room, want := message(5000), message(5000)
	for i := range 26 {
		n := 7 * i * i % 4097
		room[n] ^= byte(i)
		copy(want, room)
		place, e := l.Append(room[:n])
		p.Append(want[:n])
		if place != i || e != api.OK || !bytes.Equal(room, want) {
			t.Fatalf("leaf %d: place %d, %d, or what was handed in was changed", i, place, e)
		}
		for k := range room {
			room[k] = byte(k * i)
		}
		for k := range i + 1 {
			hold(t, l, p, k, i+1)
		}
	}
	if _, e := l.Append(room); e != api.ErrLong {
		t.Errorf("a long leaf: %d", e)
	}
	copy(want, room)
	clear(room)
	for k := range 26 {
		hold(t, l, p, k, 26)
	}
}

// P9.4, P0.3: whoever writes into a leaf that was answered, or behind its end, changes neither the ledger nor another answer.
func TestLeavesAreNew(t *testing.T) {
	l, p := both(t, 20)
	for i := range 20 {
		one, _ := l.Leaf(i)
		two, _ := l.Leaf(i)
		room := one[:cap(one)]
		for k := range room {
			room[k] ^= 0xff
		}
		if !bytes.Equal(two, leaf(i)) {
			t.Errorf("leaf %d: two answers share memory", i)
		}
		for k := range 20 {
			hold(t, l, p, k, 20)
		}
	}
}

// P9.4, P0.3: the same of proofs, of all leaves and of the first ones, behind whose digests others stand.
func TestProofsAreNew(t *testing.T) {
	const size = 17
	l, p := both(t, size)
	for n := range size + 1 {
		for i := range n + 1 {
			for _, call := range []func(int, int) ([]api.Digest, api.Errno){l.Include, l.Consist} {
				one, e := call(i, n)
				two, _ := call(i, n)
				want := slices.Clone(two)
				clear(one[:cap(one)])
				if again, e2 := call(i, n); !slices.Equal(two, want) || !slices.Equal(again, want) || e2 != e {
					t.Errorf("%d of %d: two answers share memory", i, n)
				}
			}
			hold(t, l, p, i, n)
		}
	}
	for i := range size {
		hold(t, l, p, i, size)
	}
	grow(t, l, 2*size)
	grow(t, p, 2*size)
	for i := range 2 * size {
		hold(t, l, p, i, 2*size)
	}
}

// P9.1, P0.1: a nil ledger.
func TestNil(t *testing.T) {
	var l *ledger.Ledger
	for _, length := range []int{0, 1, 4096, 4097} {
		if place, e := l.Append(make([]byte, length)); place != 0 || e != api.ErrNil {
			t.Errorf("Append of %d bytes: %d, %d", length, place, e)
		}
	}
	if l.Size() != 0 {
		t.Errorf("Size = %d", l.Size())
	}
	for _, i := range append(extremes(), 0, 1, 2) {
		leaf, e1 := l.Leaf(i)
		head, e2 := l.Head(i)
		if leaf != nil || e1 != api.ErrNil || head != (api.Head{}) || e2 != api.ErrNil {
			t.Errorf("Leaf of %d: %x %d, Head: %v %d", i, leaf, e1, head, e2)
		}
		for _, n := range append(extremes(), 0, 1, 2) {
			in, e1 := l.Include(i, n)
			con, e2 := l.Consist(i, n)
			if in != nil || e1 != api.ErrNil || con != nil || e2 != api.ErrNil {
				t.Errorf("Include of %d in %d: %x %d, Consist: %x %d", i, n, in, e1, con, e2)
			}
		}
	}
}

// P0.5: ledgers know nothing of each other, and what was asked of one changes nothing.
func TestLedgersAreApart(t *testing.T) {
	asked, unasked, other := ledger.New(), ledger.New(), ledger.New()
	want, otherWant := &plain{}, &plain{}
	for i := range 20 {
		asked.Append(leaf(i))
		other.Append(leaf(50 - i))
		unasked.Append(leaf(i))
		want.Append(leaf(i))
		otherWant.Append(leaf(50 - i))
		for n := -1; n <= i+2; n++ {
			told(asked, n, i+1)
			told(asked, i, n)
		}
	}
	for n := range 22 {
		for i := range n + 1 {
			hold(t, asked, want, i, n)
			hold(t, unasked, want, i, n)
			hold(t, other, otherWant, i, n)
		}
	}
}

// P9.1 to P9.4: leaves and questions by chance, the same at each run.
func TestByChance(t *testing.T) {
	for seed := range int64(12) {
		chance := rand.New(rand.NewSource(seed))
		l, p := ledger.New(), &plain{}
		room := make([]byte, 4200)
		for range 120 {
			if chance.Intn(2) == 0 {
				length := []int{0, 1, chance.Intn(200), 4096, 4097}[chance.Intn(5)]
				chance.Read(room)
				place, e := l.Append(room[:length])
				if wantPlace, want := p.Append(room[:length]); place != wantPlace || e != want {
					t.Errorf("seed %d: Append of %d bytes: %d, %d, want %d, %d", seed, length, place, e, wantPlace, want)
				}
			}
			hold(t, l, p, chance.Intn(p.Size()+3)-1, chance.Intn(p.Size()+3)-1)
		}
	}
}
