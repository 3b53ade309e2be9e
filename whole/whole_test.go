package whole_test

import (
	"bytes"
	"slices"
	"testing"

	"kinescope/alloc"
	"kinescope/api"
	"kinescope/box"
	"kinescope/decode"
	"kinescope/fault"
	"kinescope/gop"
	"kinescope/plane"
	"kinescope/quant"
	"kinescope/scene"
	"kinescope/source"
	"kinescope/stats"
	"kinescope/syntax"
	"kinescope/vbv"
	"kinescope/whole"
)

type noise uint64

func (n *noise) next(most int) int {
	*n = *n*6364136223846793005 + 1442695040888963407
	return int(uint64(*n) >> 33 % uint64(most))
}

// video returns frames that move, with a cut now and then.
func (n *noise) video(w, h, frames int) []api.Frame {
	var l []api.Frame
	a, b, little := n.next(12), n.next(12), 1+n.next(40)
	for i := range frames {
		if n.next(4) == 0 {
			a, b = n.next(12), n.next(12)
		}
		f := api.Frame{W: w, H: h}
		for k := range w * h {
			f.Pix = append(f.Pix, (a*(k%w+i)+b*(k/w)+n.next(little))%256)
		}
		l = append(l, f)
	}
	return l
}

func config(rate, room, fill int) api.Config {
	return api.Config{QMin: 0, QMax: 15, Reach: 2, Cut: 1000, Gop: 4, Rate: rate, Room: room, Fill: fill}
}

func encoded(t *testing.T, l []api.Frame) []byte {
	t.Helper()
	b, err := source.Encode(l)
	if err != nil {
		t.Fatal(err)
	}
	return b
}

func flat(w, h, v int) api.Frame {
	f, _ := plane.New(w, h, v)
	return f
}

func TestExamples(t *testing.T) {
	if b, err := whole.Run(config(8, 64, 8), nil); fault.Text(err) != "source -1: code 1" || len(b) > 0 {
		t.Errorf("P25.3: no bytes: %s", fault.Text(err))
	}
	b, err := whole.Run(config(8, 64, 8), encoded(t, []api.Frame{flat(8, 8, 128)}))
	if err != nil || len(b) != 83 {
		t.Fatalf("P25.3: %d bytes, %v", len(b), err)
	}
	info, _ := box.Open(b)
	coded, _, _ := box.Part(b, info.Parts[0])
	if len(coded) != 1 || coded[0].Kind != api.UFlat {
		t.Errorf("P25.3: %v", coded)
	}
}

func isZero(p whole.Plan) bool {
	return p.W == 0 && p.H == 0 && len(p.Frames) == 0 && len(p.Groups) == 0 && len(p.Caps) == 0
}

func TestErrors(t *testing.T) {
	src := encoded(t, []api.Frame{flat(8, 8, 128)})
	for i, c := range []struct {
		c    api.Config
		src  []byte
		want string
	}{
		{api.Config{}, nil, "code 11"}, {config(7, 64, 8), src, "code 11"}, {config(8, 64, 8), src[:12], "source 0: bits 56: code 1"},
		{config(8, 64, 8), append(slices.Clone(src), 0), "source 1: code 5"}, {config(8, 64, 8), []byte("KX345"), "source -1: code 2"},
	} {
		p, err := whole.Prepare(c.c, c.src)
		b, err2 := whole.Run(c.c, c.src)
		l, err3 := whole.Built(c.c, c.src)
		if fault.Text(err) != c.want {
			t.Errorf("P25.1: case %d: %s", i, fault.Text(err))
		}
		if !fault.Same(err, err2) || !fault.Same(err, err3) || !isZero(p) || len(b) > 0 || len(l) > 0 {
			t.Errorf("P25.3: case %d: %s, %s", i, fault.Text(err2), fault.Text(err3))
		}
		if i > 1 {
			if _, want := source.Decode(c.src); !fault.Same(err, want) {
				t.Errorf("P25.1: case %d: the error of the source is %s", i, fault.Text(want))
			}
		}
	}
	p, _ := whole.Prepare(config(8, 64, 8), src)
	for _, n := range []int{-1, 1, 1 << 40, -1 << 63} {
		if k, err := whole.Chunk(config(8, 64, 8), p, n); err != error(api.ErrNone) || len(k.Coded) > 0 || k.Number != 0 || k.Group.Count != 0 {
			t.Errorf("P25.2: Chunk(%d) is %v", n, err)
		}
	}
}

func TestStitchErrors(t *testing.T) {
	c := config(30, 300, 90)
	c.Gop = 2
	p, err := whole.Prepare(c, encoded(t, slices.Repeat([]api.Frame{flat(8, 8, 9)}, 5)))
	if err != nil || len(p.Groups) != 3 {
		t.Fatalf("P25.1: %v, %v", p.Groups, err)
	}
	var l []gop.Chunk
	for n := range 3 {
		k, _ := whole.Chunk(c, p, n)
		l = append(l, k)
	}
	other := slices.Clone(l)
	other[2].Number = 1
	// Chunks that go together, but in other groups than those of the plan.
	divided := []gop.Chunk{
		{Number: 0, Group: api.Group{First: 0, Count: 1}, Coded: []api.Coded{{Kind: api.UFlat}}},
		{Number: 1, Group: api.Group{First: 1, Count: 2}, Coded: []api.Coded{{Kind: api.UFlat}, {Kind: api.USkip}}},
		{Number: 2, Group: api.Group{First: 3, Count: 2}, Coded: []api.Coded{{Kind: api.UFlat}, {Kind: api.USkip}}},
	}
	if _, err := box.Mux(c, 8, 8, divided); err != nil {
		t.Fatal(err)
	}
	for i, c2 := range []struct {
		l    []gop.Chunk
		want string
	}{
		{l[:2], "code 14"}, {append(slices.Clone(l), l[2]), "code 14"}, {nil, "code 14"}, {[]gop.Chunk{l[1], l[0], l[2]}, "code 14"}, {[]gop.Chunk{l[0], l[1], l[1]}, "code 14"},
		{divided, "code 14"}, {other, "code 14"}, {[]gop.Chunk{l[0], l[1], {Number: 2, Group: l[2].Group}}, "code 2"}, {l, ""},
	} {
		if b, err := whole.Stitch(c, p, c2.l); fault.Text(err) != c2.want || err != nil && len(b) > 0 {
			t.Errorf("P25.2: case %d: %s, not %s", i, fault.Text(err), c2.want)
		}
	}
	b, _ := whole.Stitch(c, p, l)
	if want, err := box.Mux(c, 8, 8, l); err != nil || !bytes.Equal(b, want) {
		t.Error("P25.2: Stitch is not Mux")
	}
}

// TestAnyPlan: a plan that nobody prepared is no reason to panic.
func TestAnyPlan(t *testing.T) {
	const far = 1<<63 - 1
	f := []api.Frame{flat(8, 8, 1), flat(8, 8, 2)}
	for i, g := range []api.Group{{First: -1, Count: 1}, {First: 0, Count: 3}, {First: 2, Count: 1}, {First: far, Count: far}, {First: 1, Count: far}, {First: 0, Count: -1}, {First: 3, Count: 0}, {First: 0, Count: 2}} {
		for _, p := range []whole.Plan{{W: 8, H: 8, Frames: f, Groups: []api.Group{g}, Caps: []int{9}}, {Frames: f[:1], Groups: []api.Group{g}, Caps: []int{9, 9}}} {
			if k, err := whole.Chunk(config(30, 300, 90), p, 0); err == nil || len(k.Coded) > 0 {
				t.Errorf("P0.1: case %d: %v", i, err)
			}
		}
	}
}

func TestRun(t *testing.T) {
	for seed := range 60 {
		x := noise(seed)
		c := config(8+x.next(90), 300, 8+x.next(290))
		c.QMin, c.Gop, c.Reach, c.Cut = x.next(4), 1+x.next(6), x.next(4), x.next(4000)
		c.QMax = c.QMin + x.next(16-c.QMin)
		l := x.video(8+x.next(2)*8, 8+x.next(2)*8, 1+x.next(9))
		src := encoded(t, l)
		before := slices.Clone(src)
		p, err := whole.Prepare(c, src)
		groups, _ := scene.Groups(l, c.Cut, c.Gop)
		weights, _ := stats.Weights(l, groups)
		caps, _ := alloc.Caps(c, weights)
		if err != nil || p.W != l[0].W || p.H != l[0].H || !slices.EqualFunc(p.Frames, l, plane.Same) || !slices.Equal(p.Groups, groups) || !slices.Equal(p.Caps, caps) {
			t.Fatalf("P25.1: seed %d: %v", seed, err)
		}
		if whole.Steps(p) != 8*(len(groups)+1) {
			t.Fatalf("P25.2: Steps is %d", whole.Steps(p))
		}
		chunks := make([]gop.Chunk, len(groups))
		var built []api.Frame
		// The last chunk is made first, and some of them twice.
		for n := len(groups) - 1; n >= 0; n-- {
			g := groups[n]
			coded, frames, err := gop.Encode(c, l[g.First:g.First+g.Count], caps[g.First:g.First+g.Count])
			built = append(slices.Clone(frames), built...)
			for range 1 + n%2 {
				k, err2 := whole.Chunk(c, p, n)
				if err != nil || err2 != nil || k.Number != n || k.Group != g || len(k.Coded) != g.Count {
					t.Fatalf("P25.2: seed %d, chunk %d: %v", seed, n, err2)
				}
				for i, one := range k.Coded {
					if one.Kind != coded[i].Kind || !bytes.Equal(one.Data, coded[i].Data) {
						t.Fatalf("P25.2: seed %d, chunk %d, frame %d", seed, n, i)
					}
				}
				chunks[n] = k
			}
		}
		want, err := whole.Stitch(c, p, chunks)
		b, err2 := whole.Run(c, src)
		if err != nil || err2 != nil || !bytes.Equal(b, want) {
			t.Fatalf("P25.3, P25.8: seed %d: %v, %v", seed, err, err2)
		}
		checkResult(t, c, l, src, b, built)
		if !bytes.Equal(src, before) {
			t.Fatal("P25.4: the source was changed")
		}
	}
}

// checkResult looks at what is promised of every file.
func checkResult(t *testing.T, c api.Config, l []api.Frame, src, b []byte, built []api.Frame) {
	t.Helper()
	got, err := whole.Built(c, src)
	frames, err2 := box.Frames(b)
	if err != nil || err2 != nil || len(got) != len(l) || !slices.EqualFunc(got, built, plane.Same) || !slices.EqualFunc(frames, got, plane.Same) {
		t.Fatalf("P25.3, P25.5: %v, %v", err, err2)
	}
	sizes, _ := box.Sizes(b)
	if _, err := vbv.Play(c, sizes); err != nil || len(sizes) != len(l) {
		t.Fatalf("P25.7: the bucket: %v", err)
	}
	info, _ := box.Open(b)
	for _, e := range info.Parts {
		coded, _, _ := box.Part(b, e)
		alone, err := decode.Frames(coded, info.W, info.H)
		if err != nil || !slices.EqualFunc(alone, got[e.First:e.First+e.Count], plane.Same) {
			t.Fatalf("P24.7: a part on its own: %v", err)
		}
		for i, one := range coded {
			head, _ := syntax.Read(one)
			peak, _ := plane.Peak(got[e.First+i], l[e.First+i])
			if bound, _ := quant.Bound(head.QP); head.Kind <= api.UPred && (peak > bound || head.QP < c.QMin || head.QP > c.QMax) {
				t.Fatalf("P25.6: a peak of %d with %d", peak, head.QP)
			}
		}
	}
}

func TestWithoutLoss(t *testing.T) {
	for seed := range 6 {
		x := noise(seed)
		l := x.video(16, 16, 4)
		for _, f := range l {
			for i := range f.Pix {
				f.Pix[i] = x.next(256)
				if seed == 0 {
					f.Pix[i] = x.next(2) * 255
				}
			}
		}
		c := config(1<<14, 1<<14, 1<<14)
		c.Cut, c.Reach = seed%2*16320, 1
		p, err := whole.Prepare(c, encoded(t, l))
		if err != nil || slices.Min(p.Caps) < 5000 {
			t.Fatalf("P25.6: the caps are %v (%v)", p.Caps, err)
		}
		if got, err := whole.Built(c, encoded(t, l)); err != nil || !slices.EqualFunc(got, l, plane.Same) {
			t.Fatalf("P25.6: seed %d: there is a loss (%v)", seed, err)
		}
	}
}

func TestNothingIsShared(t *testing.T) {
	x := noise(7)
	src := encoded(t, x.video(8, 8, 5))
	c := config(60, 300, 90)
	p, _ := whole.Prepare(c, src)
	q, _ := whole.Prepare(c, src)
	k, _ := whole.Chunk(c, p, 0)
	again, _ := whole.Chunk(c, p, 0)
	for i := range k.Coded {
		clear(k.Coded[i].Data)
	}
	k.Group.Count = 9
	p.Frames[0].Pix[0], p.Groups[0].Count, p.Caps[0] = 999, 999, 999
	third, err := whole.Chunk(c, q, 0)
	if err != nil || third.Group != again.Group || !bytes.Equal(third.Coded[0].Data, again.Coded[0].Data) {
		t.Error("P25.4: the plans or the chunks share memory")
	}
}
