package decode_test

import (
	"slices"
	"strconv"
	"strings"
	"testing"

	"kinescope/api"
	"kinescope/coef"
	"kinescope/decode"
	"kinescope/fault"
	"kinescope/intra"
	"kinescope/model"
	"kinescope/motion"
	"kinescope/plane"
	"kinescope/quant"
	"kinescope/syntax"
	"kinescope/wht"
)

type noise uint64

func (n *noise) next(most int) int {
	*n = *n*6364136223846793005 + 1442695040888963407
	return int(uint64(*n) >> 33 % uint64(most))
}

func (n *noise) frame(w, h int) api.Frame {
	f := api.Frame{W: w, H: h}
	for range w * h {
		f.Pix = append(f.Pix, n.next(256))
	}
	return f
}

func (n *noise) levels(size int) []int {
	l := make([]int, size)
	for i := range l {
		if n.next(5) == 0 {
			l[i] = n.next(61) - 30
		}
	}
	if n.next(9) == 0 {
		l[n.next(size)] = api.MaxLevel * (1 - 2*n.next(2))
	}
	return l
}

func (n *noise) square(kind int) syntax.Square {
	s := syntax.Square{Kind: kind}
	switch kind {
	case 1:
		s.Vector, s.Large = api.Vector{X: n.next(31) - 15, Y: n.next(31) - 15}, n.levels(64)
	case 2:
		s.Mode, s.Large = n.next(4), n.levels(64)
	case 3:
		for i := range 4 {
			s.Modes[i], s.Small[i] = n.next(4), n.levels(16)
		}
	}
	return s
}

func flat(w, h, v int) api.Frame {
	f, _ := plane.New(w, h, v)
	return f
}

func isZero(f api.Frame) bool { return f.W == 0 && f.H == 0 && len(f.Pix) == 0 }

// combined are a prediction and the residual of levels.
func combined(p, l []int, qp int) []int {
	v, _ := quant.Values(l, qp)
	r, _ := wht.Inverse(v)
	b := slices.Clone(p)
	for i := range b {
		b[i] = plane.Clip(p[i] + r[i])
	}
	return b
}

// build is Build, by the functions that the document names.
func build(f, prev api.Frame, x, y, qp int, s syntax.Square) api.Frame {
	inner := func(x, y, n, mode int, l []int) {
		top, left, corner := intra.Edges(f, x, y, n)
		p, _ := intra.Predict(mode, top, left, corner)
		f, _ = plane.Put(f, x, y, n, combined(p, l, qp))
	}
	switch s.Kind {
	case 0:
		f, _ = plane.Put(f, x, y, 8, motion.Block(prev, x, y, 8, api.Vector{}))
	case 1:
		f, _ = plane.Put(f, x, y, 8, combined(motion.Block(prev, x, y, 8, s.Vector), s.Large, qp))
	case 2:
		inner(x, y, 8, s.Mode, s.Large)
	case 3:
		inner(x, y, 4, s.Modes[0], s.Small[0])
		inner(x+4, y, 4, s.Modes[1], s.Small[1])
		inner(x, y+4, 4, s.Modes[2], s.Small[2])
		inner(x+4, y+4, 4, s.Modes[3], s.Small[3])
	}
	return f
}

func TestBuild(t *testing.T) {
	for seed := range 200 {
		x := noise(seed)
		w, h := 8+x.next(4)*8, 8+x.next(4)*8
		f, prev, s := x.frame(w, h), x.frame(w, h), x.square(seed%4)
		bx, by, qp := x.next(w/8)*8, x.next(h/8)*8, x.next(16)
		before, ahead := slices.Clone(f.Pix), slices.Clone(prev.Pix)
		got, err := decode.Build(f, prev, bx, by, qp, s)
		if err != nil || !plane.Same(got, build(f, prev, bx, by, qp, s)) {
			t.Fatalf("P21.1: seed %d, kind %d: %v", seed, s.Kind, err)
		}
		got.Pix[0]++
		if !slices.Equal(f.Pix, before) || !slices.Equal(prev.Pix, ahead) {
			t.Fatal("P21.4: an argument was changed, or is shared")
		}
		if s.Kind >= 2 {
			if other, err := decode.Build(f, api.Frame{}, bx, by, qp, s); err != nil || !plane.Same(other, build(f, prev, bx, by, qp, s)) {
				t.Fatalf("P21.1: kind %d without a frame ahead: %v", s.Kind, err)
			}
		}
	}
}

func TestBuildErrors(t *testing.T) {
	x := noise(1)
	f, other, bad := x.frame(16, 24), x.frame(24, 16), x.frame(16, 24)
	bad.Pix[0] = -1
	small, large := make([]int, 16), make([]int, 64)
	four := [4][]int{small, small, small, small}
	high, low := slices.Clone(large), slices.Clone(small)
	high[63], low[0] = 16321, -16321
	for i, c := range []struct {
		f, prev  api.Frame
		x, y, qp int
		s        syntax.Square
		want     error
	}{
		{bad, bad, -8, 0, 16, syntax.Square{Kind: 9}, api.ErrForm}, {api.Frame{}, f, 0, 0, 0, syntax.Square{}, api.ErrForm},
		{f, bad, -8, 0, 16, syntax.Square{Kind: 9}, api.ErrRange}, {f, bad, 16, 0, 0, syntax.Square{Kind: 9}, api.ErrRange}, {f, bad, 0, 24, 0, syntax.Square{Kind: 9}, api.ErrRange},
		{f, bad, 4, 0, 0, syntax.Square{Kind: 9}, api.ErrRange}, {f, bad, 0, 1, 0, syntax.Square{Kind: 9}, api.ErrRange}, {f, bad, 0, -8, 0, syntax.Square{Kind: 9}, api.ErrRange},
		{f, bad, -1 << 63, 0, 0, syntax.Square{Kind: 9}, api.ErrRange}, {f, bad, 0, 1<<63 - 8, 0, syntax.Square{Kind: 9}, api.ErrRange},
		{f, bad, 0, 0, 16, syntax.Square{Kind: 9}, api.ErrRange}, {f, bad, 0, 0, -1, syntax.Square{Kind: 9}, api.ErrRange},
		{f, bad, 0, 0, 0, syntax.Square{Kind: 4}, api.ErrKind}, {f, bad, 0, 0, 0, syntax.Square{Kind: -1}, api.ErrKind},
		{f, bad, 0, 0, 0, syntax.Square{Kind: 0}, api.ErrState}, {f, api.Frame{}, 0, 0, 0, syntax.Square{Kind: 0}, api.ErrState}, {f, other, 0, 0, 0, syntax.Square{Kind: 1, Vector: api.Vector{X: 99}}, api.ErrState},
		{f, f, 0, 0, 0, syntax.Square{Kind: 1, Vector: api.Vector{X: 16}}, api.ErrRange}, {f, f, 0, 0, 0, syntax.Square{Kind: 1, Vector: api.Vector{Y: -16}, Large: large}, api.ErrRange},
		{f, f, 0, 0, 0, syntax.Square{Kind: 1, Vector: api.Vector{X: -16}, Large: large}, api.ErrRange}, {f, f, 0, 0, 0, syntax.Square{Kind: 1, Vector: api.Vector{Y: 16}, Large: large}, api.ErrRange},
		{f, f, 0, 0, 0, syntax.Square{Kind: 2, Mode: 4}, api.ErrRange}, {f, f, 0, 0, 0, syntax.Square{Kind: 2, Mode: -1, Large: large}, api.ErrRange},
		{f, f, 0, 0, 0, syntax.Square{Kind: 3, Modes: [4]int{0, 0, 0, 4}}, api.ErrRange}, {f, f, 0, 0, 0, syntax.Square{Kind: 3, Modes: [4]int{-1}, Small: four}, api.ErrRange},
		{f, f, 0, 0, 0, syntax.Square{Kind: 1, Large: small}, api.ErrFit}, {f, f, 0, 0, 0, syntax.Square{Kind: 2, Large: append(high, 0)}, api.ErrFit},
		{f, f, 0, 0, 0, syntax.Square{Kind: 3, Small: [4][]int{low, small, small, nil}}, api.ErrFit}, {f, f, 0, 0, 0, syntax.Square{Kind: 3, Small: [4][]int{large, small, small, small}}, api.ErrFit},
		{f, f, 0, 0, 0, syntax.Square{Kind: 1, Large: high}, api.ErrRange}, {f, f, 0, 0, 0, syntax.Square{Kind: 2, Large: high}, api.ErrRange},
		{f, f, 0, 0, 0, syntax.Square{Kind: 3, Small: [4][]int{small, small, small, low}}, api.ErrRange},
		{f, f, 8, 16, 15, syntax.Square{Kind: 0, Mode: 9, Vector: api.Vector{X: 99}, Large: high, Small: [4][]int{low}}, nil},
		{f, bad, 8, 16, 15, syntax.Square{Kind: 2, Modes: [4]int{9}, Vector: api.Vector{X: 99}, Large: large, Small: [4][]int{low}}, nil},
		{f, bad, 8, 16, 15, syntax.Square{Kind: 3, Mode: 9, Vector: api.Vector{X: 99}, Large: high, Small: four}, nil},
	} {
		if got, err := decode.Build(c.f, c.prev, c.x, c.y, c.qp, c.s); err != c.want || err != nil && !isZero(got) {
			t.Errorf("P21.1: case %d: %v, not %v", i, err, c.want)
		}
	}
}

// coded returns a coded frame of blocks of all kinds, and the frame that it means.
func (n *noise) coded(w, h, kind int, prev api.Frame) (api.Coded, api.Frame) {
	f, writer, qp := flat(w, h, 128), model.NewWriter(), n.next(16)
	for y := 0; y < h; y += 8 {
		for x := 0; x < w; x += 8 {
			s := n.square(n.next(4))
			if kind == api.UKey {
				s = n.square(2 + n.next(2))
			}
			syntax.Code(writer, kind == api.UKey, s)
			f = build(f, prev, x, y, qp, s)
		}
	}
	c, _ := syntax.Pack(syntax.Head{Kind: kind, QP: qp, Data: writer.End()})
	return c, f
}

func TestFrame(t *testing.T) {
	for seed := range 60 {
		x := noise(seed)
		w, h := 8+x.next(4)*8, 8+x.next(4)*8
		prev := x.frame(w, h)
		kind := 1 + seed%2
		c, want := x.coded(w, h, kind, prev)
		ahead := prev
		if kind == api.UKey && seed%4 == 0 {
			ahead = api.Frame{}
		}
		got, err := decode.Frame(c, ahead, w, h)
		if err != nil || !plane.Same(got, want) {
			t.Fatalf("P21.2: seed %d: %v", seed, err)
		}
		// Data that is longer is read as far as it goes.
		longer := api.Coded{Kind: c.Kind, Data: append(slices.Clone(c.Data), 0, 0, 0, 0, 0)}
		if got, err := decode.Frame(longer, ahead, w, h); err != nil || !plane.Same(got, want) {
			t.Fatalf("P21.2: seed %d, longer: %v", seed, err)
		}
		skip, err := decode.Frame(api.Coded{Kind: api.USkip}, prev, w, h)
		if err != nil || !plane.Same(skip, prev) {
			t.Fatalf("P21.2: a skip: %v", err)
		}
		skip.Pix[0]++
		if plane.Same(skip, prev) {
			t.Fatal("P21.4: a skip shares memory")
		}
	}
}

func TestFrameExamples(t *testing.T) {
	zero := api.Frame{}
	if f, err := decode.Frame(api.Coded{Kind: api.UFlat}, zero, 8, 8); err != nil || !plane.Same(f, flat(8, 8, 128)) {
		t.Errorf("P21.2: UFlat: %v", err)
	}
	if f, err := decode.Frame(api.Coded{Kind: api.UKey, Data: []byte{0}}, zero, 8, 8); err != nil || !plane.Same(f, flat(8, 8, 128)) {
		t.Errorf("P21.2: UKey with one byte: %v", err)
	}
	if f, err := decode.Frame(api.Coded{Kind: api.UPred, Data: []byte{9}}, flat(16, 8, 3), 16, 8); err != nil || !plane.Same(f, flat(16, 8, 3)) {
		t.Errorf("P21.2: UPred with one byte: %v", err)
	}
}

// tooGreat codes a UPred of blocks 8 by 8, the last of which has a level that is too great.
func tooGreat(blocks int) api.Coded {
	w := model.NewWriter()
	for range blocks - 1 {
		model.Kind(w, 0)
	}
	model.Kind(w, 3)
	model.Mode(w, 0)
	coef.Code(w, make([]int, 16))
	model.Mode(w, 0)
	w.Bit(14, true)
	w.Bit(15, true)
	w.Flat(false)
	for j := range 14 {
		w.Bit(31+min(j, 7), true)
	}
	for range 26 {
		w.Flat(true)
	}
	return api.Coded{Kind: api.UPred, Data: append([]byte{3}, w.End()...)}
}

func TestFrameErrors(t *testing.T) {
	f, bad := flat(16, 8, 1), flat(16, 8, 1)
	bad.Pix[3] = 999
	for i, c := range []struct {
		c    api.Coded
		prev api.Frame
		w, h int
		want string
	}{
		{api.Coded{}, bad, 12, 8, "code 3"}, {api.Coded{}, f, 0, 8, "code 3"}, {api.Coded{}, f, 8, 40, "code 3"}, {api.Coded{Kind: api.UFlat}, f, -8, -8, "code 3"},
		{api.Coded{}, bad, 16, 8, "code 13"}, {api.Coded{Kind: 5}, bad, 16, 8, "code 13"}, {api.Coded{Kind: api.UKey}, bad, 16, 8, "code 1"},
		{api.Coded{Kind: api.UPred, Data: []byte{16}}, bad, 16, 8, "code 3"}, {api.Coded{Kind: api.USkip, Data: []byte{1}}, bad, 16, 8, "code 2"},
		{api.Coded{Kind: api.UKey, Data: make([]byte, 65537)}, f, 16, 8, "code 5"},
		{api.Coded{Kind: api.USkip}, bad, 16, 8, "code 12"}, {api.Coded{Kind: api.UPred, Data: []byte{0}}, bad, 16, 8, "code 12"}, {api.Coded{Kind: api.USkip}, api.Frame{}, 8, 8, "code 12"},
		{api.Coded{Kind: api.USkip}, flat(8, 16, 1), 16, 8, "code 12"}, {api.Coded{Kind: api.UPred, Data: []byte{0}}, f, 16, 16, "code 12"},
		{tooGreat(1), f, 16, 8, "decode 0: syntax 3: coef 0: code 3"}, {tooGreat(2), f, 16, 8, "decode 1: syntax 3: coef 0: code 3"},
		{tooGreat(16), flat(32, 32, 1), 32, 32, "decode 15: syntax 3: coef 0: code 3"},
	} {
		if got, err := decode.Frame(c.c, c.prev, c.w, c.h); fault.Text(err) != c.want || !isZero(got) {
			t.Errorf("P21.2: case %d: %s, not %s", i, fault.Text(err), c.want)
		}
	}
}

func TestFrames(t *testing.T) {
	for seed := range 30 {
		x := noise(seed)
		w, h := 8+x.next(3)*8, 8+x.next(3)*8
		prev := api.Frame{}
		var l []api.Coded
		var want []api.Frame
		keys := 0
		for i := range 1 + x.next(8) {
			kind := 1 + x.next(4)
			if i == 0 {
				kind = api.UKey + seed%2*3
			}
			c, f := api.Coded{Kind: kind}, flat(w, h, 128)
			switch kind {
			case api.UKey, api.UPred:
				c, f = x.coded(w, h, kind, prev)
			case api.USkip:
				f = prev
			}
			if kind == api.UKey || kind == api.UFlat {
				keys = i
			}
			l, want, prev = append(l, c), append(want, f), f
		}
		got, err := decode.Frames(l, w, h)
		if err != nil || !slices.EqualFunc(got, want, plane.Same) {
			t.Fatalf("P21.3: seed %d: %v", seed, err)
		}
		tail, err := decode.Frames(l[keys:], w, h)
		if err != nil || !slices.EqualFunc(tail, want[keys:], plane.Same) {
			t.Fatalf("P21.6: seed %d: %v", seed, err)
		}
		for i := range got {
			got[i].Pix[0] = 1000 + i
		}
		for i := range got {
			if got[i].Pix[0] != 1000+i {
				t.Fatal("P21.4: the frames share memory")
			}
		}
	}
}

func TestFramesErrors(t *testing.T) {
	grey := api.Coded{Kind: api.UFlat}
	for i, c := range []struct {
		l    []api.Coded
		w, h int
		want string
	}{
		{slices.Repeat([]api.Coded{{}}, 17), 8, 8, "code 5"}, {slices.Repeat([]api.Coded{grey}, 17), 9, 8, "code 5"}, {slices.Repeat([]api.Coded{grey}, 16), 8, 8, ""},
		{nil, 0, 0, ""}, {[]api.Coded{grey}, 9, 8, "frames 0: code 3"}, {[]api.Coded{{Kind: api.USkip}}, 8, 8, "frames 0: code 12"},
		{[]api.Coded{grey, {Kind: api.USkip}, {}}, 8, 8, "frames 2: code 13"}, {[]api.Coded{grey, tooGreat(2)}, 8, 16, "frames 1: decode 1: syntax 3: coef 0: code 3"},
	} {
		if got, err := decode.Frames(c.l, c.w, c.h); fault.Text(err) != c.want || err != nil && len(got) > 0 {
			t.Errorf("P21.3: case %d: %s, not %s", i, fault.Text(err), c.want)
		}
	}
}

func TestAnyBytes(t *testing.T) {
	failed := 0
	for seed := range 600 {
		x := noise(seed)
		prev := x.frame(16, 16)
		data := make([]byte, 1+x.next(200))
		for i := range data {
			data[i] = byte(x.next(256)) | byte(seed%3*85)
		}
		data[0] = byte(x.next(17))
		before := slices.Clone(data)
		f, err := decode.Frame(api.Coded{Kind: 1 + seed%2, Data: data}, prev, 16, 16)
		if !slices.Equal(data, before) {
			t.Fatal("P21.4: the data was changed")
		}
		if err == nil {
			if !plane.May(f) || f.W != 16 || f.H != 16 {
				t.Fatal("P21.5: a frame that is not valid")
			}
			continue
		}
		failed++
		text := fault.Text(err)
		if !isZero(f) || text != "code 3" && !strings.HasPrefix(text, "decode ") || !strings.HasSuffix(text, "code 3") {
			t.Fatalf("P21.5: %s", text)
		}
		if n := fault.Path(err); len(n) > 0 && (n[0].Place < 0 || n[0].Place > 3 || n[1].Where != "syntax") {
			t.Fatalf("P21.5: %s", text)
		}
	}
	if failed == 0 || failed > 500 {
		t.Error("P21.5: " + strconv.Itoa(failed) + " frames failed")
	}
}
