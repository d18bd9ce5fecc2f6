package vault_test

import (
	"fmt"
	"math/rand"
	"strings"
	"testing"

	"jurat/api"
	"jurat/frame"
	"jurat/tape"
	"jurat/vault"
	"jurat/wire"
)

// plainHeld is the number and the text of which b is the bytes, if it is: it tries each way to cut b in two and each
// way to begin a text, and holds b against the bytes of what that makes.
func plainHeld(b string) (uint64, string, bool) {
	for cut := range min(9, len(b)) {
		gen := uint64(0)
		for _, digit := range []byte(b[1 : 1+cut]) {
			gen = gen<<8 | uint64(digit)
		}
		for begin := range min(9, len(b)-cut) {
			text := b[1+cut+begin:]
			if gen <= 1099511627776 && number(gen)+textOf(text) == b {
				return gen, text, true
			}
		}
	}
	return 0, "", false
}

// plainOpen is the vault that is on a tape with that content, by the words of the chapter, and how many bytes of the
// journal are left.
func plainOpen(c content) (has, int) {
	var h has
	for slot := 1; slot <= 2; slot++ {
		frames, _ := frame.Scan([]byte(c[slot]))
		if len(frames) == 0 {
			continue
		}
		gen, text, ok := plainHeld(string(frames[0]))
		if ok && gen > 0 && (gen%2 == 1) == (slot == 1) && int(gen) > h.gen {
			h.gen, h.text = int(gen), text
		}
	}
	size := 0
	for {
		frames, _ := frame.Scan([]byte(c[0][size:]))
		if len(frames) == 0 {
			return h, size
		}
		gen, text, ok := plainHeld(string(frames[0]))
		if !ok {
			return h, size
		}
		size += len(framed(frames[0]))
		if int(gen) == h.gen {
			h.records = append(h.records, text)
		}
	}
}

// piece is a frame of a generation and a text, or something that is nearly one, or nothing of the kind.
func piece(r *rand.Rand) string {
	gen := uint64(r.Intn(4))
	if r.Intn(30) == 0 {
		gen = lastGen - 2 + uint64(r.Intn(5))
	}
	text := make([]byte, r.Intn(6))
	r.Read(text)
	one := snap(gen, string(text))
	switch r.Intn(30) {
	case 0:
		return one[:r.Intn(len(one))]
	case 1:
		return wrong(one, r.Intn(len(one)), r.Intn(8))
	case 2:
		return string(text)
	case 3:
		return frameOf(number(gen) + textOf(string(text)) + "\x00")
	case 4:
		few := elses(gen)
		for _, what := range []string{"nothing", "a number alone", "a text alone", "a frame", "a number that isn't in its short form"}[r.Intn(5):] {
			return few[what]
		}
	}
	return one
}

func pieces(r *rand.Rand, most int) string {
	var b strings.Builder
	for range r.Intn(most + 1) {
		b.WriteString(piece(r))
	}
	return b.String()
}

// P12.1, P12.3: whatever stands on a tape, what is opened is as the chapter's words say; and it is the same when it is
// opened again.
func TestOpenAsThePlainOne(t *testing.T) {
	r := rand.New(rand.NewSource(12))
	some, none, cut := 0, 0, 0
	for i := range 6000 {
		c := content{pieces(r, 12), pieces(r, 3), pieces(r, 3), "another one's"}
		want, size := plainOpen(c)
		found(t, fmt.Sprint("tape ", i), c, want, c[0][:size])
		if size < len(c[0]) {
			cut++
		}
		if want.gen > 0 && len(want.records) > 0 {
			some++
		} else {
			none++
		}
	}
	if some < 500 || none < 500 || cut < 1000 {
		t.Errorf("%d tapes had a snapshot and records, %d had not, %d had something to be cut away", some, none, cut)
	}
}

// P12.1, P12.3: of all contents of a frame of few bytes.
func TestFewBytesInAFrame(t *testing.T) {
	few := []byte{0, 1, 2, 3, 8, 9, 255}
	for n := range 5 {
		all := 1
		for range n {
			all *= len(few)
		}
		for code := range all {
			b := make([]byte, n)
			for i := range b {
				b[i] = few[code%len(few)]
				code /= len(few)
			}
			one := frameOf(string(b))
			for _, c := range []content{{0: one}, {snap(1, "a") + one, one, ""}, {snap(2, "a") + one, "", one}} {
				want, size := plainOpen(c)
				d := lay(t, c)
				opens(t, fmt.Sprintf("% x in a frame", b), d, want)
				if got := len(on(t, d)[0]); got != size {
					t.Fatalf("% x in a frame: the journal has %d bytes, not %d", b, got, size)
				}
			}
		}
	}
}

// game is a vault's lives on one tape after the other, and what there has to be.
type game struct {
	r     *rand.Rand
	d     *tape.Tape
	v     *vault.Vault
	made  has // by the calls that answered OK
	next  has // with the one that didn't
	fell  bool
	calls [3]int // that went well, that were refused, and falls
}

// act makes one call.
func (g *game) act(t *testing.T) {
	text := make([]byte, g.r.Intn(30))
	if g.r.Intn(40) == 0 {
		text = make([]byte, most-1+g.r.Intn(3))
	}
	g.r.Read(text)
	var e, refused api.Errno
	if g.r.Intn(4) == 0 {
		g.next = has{gen: g.made.gen + 1, text: string(text)}
		if g.made.gen == lastGen {
			refused = api.ErrFull
		}
		e = g.v.Save(text)
	} else {
		g.next = g.made.with(string(text))
		b, _ := g.d.Read(0)
		if len(b)+len(held(uint64(g.made.gen), string(text))) > api.MaxTape {
			refused = api.ErrFull
		}
		e = g.v.Add(text)
	}
	if len(text) > most {
		refused = api.ErrLong
	}
	switch {
	case refused != api.OK:
		says(t, "a call that is refused", e, refused)
		g.calls[1]++
	case e == api.ErrDown:
		g.fell = true
		g.calls[2]++
	default:
		says(t, "a call", e, api.OK)
		g.made = g.next
		g.calls[0]++
	}
	if !g.fell && !look(g.v).like(g.made) {
		t.Fatalf("the vault has %v, not %v", look(g.v), g.made)
	}
}

// crash leaves anything of the open steps, and opens what is there, with falls on the way.
func (g *game) crash(t *testing.T) {
	for {
		var k []int
		for i := range 3 {
			k = append(k, g.r.Intn(g.d.Open(i)+2))
		}
		g.d = g.d.Crash(k)
		if !g.fell {
			g.next = g.made
		}
		if g.r.Intn(3) == 0 {
			g.d.Fuse(g.r.Intn(3))
		}
		v, e := vault.Open(g.d)
		if e == api.ErrDown && v == nil && g.d.Down() {
			continue
		}
		says(t, "Open", e, api.OK)
		got := look(v)
		if !got.like(g.made) && !got.like(g.next) {
			t.Fatalf("what is opened has %v, neither %v nor %v", got, g.made, g.next)
		}
		g.v, g.made, g.fell = v, got, false
		return
	}
}

// P12.1, P12.2: vaults that live for long, on tapes whose powers go at any steps.
func TestLongGames(t *testing.T) {
	var calls [3]int
	for seed := range int64(18) {
		r := rand.New(rand.NewSource(seed))
		c := content{}
		if seed%3 == 1 {
			c = content{0: pieces(r, 9), 1: pieces(r, 2), 2: pieces(r, 2)}
		}
		if seed%3 == 2 {
			c = content{1: snap(lastGen-3, "s")}
		}
		g := &game{r: r, d: lay(t, c)}
		g.v = open(t, "a tape", g.d)
		g.made = look(g.v)
		for range 60 {
			g.d.Fuse(-1)
			if r.Intn(4) > 0 {
				g.d.Fuse(r.Intn(400))
			}
			for n := r.Intn(12); n > 0 && !g.fell; n-- {
				g.act(t)
			}
			if g.fell {
				dead(t, "a game", g.v)
			}
			g.crash(t)
		}
		for i, n := range g.calls {
			calls[i] += n
		}
	}
	if calls[0] < 1000 || calls[1] < 50 || calls[2] < 100 {
		t.Errorf("%d calls went well, %d were refused, %d ended with the power", calls[0], calls[1], calls[2])
	}
}

// P12.3: what a vault writes is read back by the words of the chapter alone.
func TestWrittenAsThePlainOneReads(t *testing.T) {
	d := tape.New()
	v := open(t, "an empty tape", d)
	want := has{}
	for i := range 600 {
		text := string(message(i % 300))
		if i%17 == 16 {
			save(t, v, text)
			want = has{gen: want.gen + 1, text: text}
		} else {
			add(t, v, text)
			want = want.with(text)
		}
		c := on(t, d)
		if got, size := plainOpen(c); !got.like(want) || size != len(c[0]) {
			t.Fatalf("call %d: on the tape stands %v, not %v", i, got, want)
		}
	}
}

// P12.1: a generation's and a text's bytes are those of layer 4.
func TestPlainHeld(t *testing.T) {
	for _, gen := range []uint64{0, 1, 255, 256, 65535, lastGen - 1, lastGen} {
		for _, n := range []int{0, 1, 255, 256, 300} {
			b := string(wire.Num(gen)) + string(wire.Text(message(n)))
			if g, text, ok := plainHeld(b); !ok || g != gen || text != string(message(n)) {
				t.Errorf("of generation %d and %d bytes the plain way reads %d and %d", gen, n, g, len(text))
			}
		}
	}
}
