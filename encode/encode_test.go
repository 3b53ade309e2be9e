package encode_test

import (
	"bytes"
	"slices"
	"testing"

	"kinescope/api"
	"kinescope/block"
	"kinescope/decode"
	"kinescope/encode"
	"kinescope/intra"
	"kinescope/model"
	"kinescope/motion"
	"kinescope/plane"
	"kinescope/quant"
	"kinescope/syntax"
	"kinescope/wht"
)

type noise uint64

func (n *noise) next(most int) int {
	*n = *n*6364136223846793005 + 1442695040888963407
	return int(uint64(*n) >> 33 % uint64(most))
}

// frame returns a frame of some look: noise, a slope, stripes, flat with a few spots.
func (n *noise) frame(w, h int) api.Frame {
	f := api.Frame{W: w, H: h}
	look, a, b, c := n.next(5), n.next(20), n.next(20), n.next(256)
	for i := range w * h {
		x, y := i%w, i/w
		v := c
		switch look {
		case 0:
			v = n.next(256)
		case 1:
			v = a*x + b*y + c + n.next(4)
		case 2:
			v = (x*a/8+y*b/8)%3*90 + n.next(6)
		case 3:
			if n.next(12) == 0 {
				v = n.next(256)
			}
		case 4:
			v = c + x*x*a/9 - y*b
		}
		f.Pix = append(f.Pix, plane.Clip(v))
	}
	return f
}

// moved returns a frame as it is some samples further on, with a little noise.
func (n *noise) moved(f api.Frame) api.Frame {
	g := api.Frame{W: f.W, H: f.H}
	dx, dy, little := n.next(9)-4, n.next(9)-4, 1+n.next(5)
	for i := range f.Pix {
		g.Pix = append(g.Pix, plane.Clip(motion.Half(f, 2*(i%f.W)+dx, 2*(i/f.W)+dy)+n.next(little)))
	}
	return g
}

func flat(w, h, v int) api.Frame {
	f, _ := plane.New(w, h, v)
	return f
}

func isZero(f api.Frame) bool { return f.W == 0 && f.H == 0 && len(f.Pix) == 0 }

func levels(b, p []int, qp int) []int {
	d, _ := block.Sub(b, p)
	c, _ := wht.Forward(d)
	l, _ := quant.Levels(c, qp)
	return l
}

func same(a, b syntax.Square) bool {
	for i := range 4 {
		if !slices.Equal(a.Small[i], b.Small[i]) {
			return false
		}
	}
	return a.Kind == b.Kind && a.Mode == b.Mode && a.Modes == b.Modes && a.Vector == b.Vector && slices.Equal(a.Large, b.Large)
}

// inFour returns the block in four pieces, as the document says it, and its cost.
func inFour(b []int, cur api.Frame, x, y, qp int) (syntax.Square, int) {
	s, sum := syntax.Square{Kind: 3}, 0
	parts, _ := block.Quarter(b)
	for i, at := range [][2]int{{0, 0}, {4, 0}, {0, 4}, {4, 4}} {
		top, left, corner := intra.Edges(cur, x+at[0], y+at[1], 4)
		mode, best, _ := intra.Best(parts[i], top, left, corner)
		p, _ := intra.Predict(mode, top, left, corner)
		s.Modes[i], s.Small[i] = mode, levels(parts[i], p, qp)
		sum += best
		v, _ := quant.Values(s.Small[i], qp)
		r, _ := wht.Inverse(v)
		built, _ := block.Add(p, r)
		cur, _ = plane.Put(cur, x+at[0], y+at[1], 4, built)
	}
	return s, 4*sum + 24
}

// square is Square, as the document says it; it also returns the costs of the kinds.
func square(src, cur, prev api.Frame, key bool, x, y, qp, reach int) (syntax.Square, [4]int) {
	b := plane.Get(src, x, y, 8)
	best, least, costs := syntax.Square{}, -1, [4]int{}
	if !key {
		if block.Zero(levels(b, motion.Block(prev, x, y, 8, api.Vector{}), qp)) {
			return best, costs
		}
		v, _ := motion.Search(prev, b, x, y, reach)
		p := motion.Block(prev, x, y, 8, v)
		least, _ = motion.Cost(p, b, v)
		best = syntax.Square{Kind: 1, Vector: v, Large: levels(b, p, qp)}
		costs[1] = least
	}
	top, left, corner := intra.Edges(cur, x, y, 8)
	mode, sum, _ := intra.Best(b, top, left, corner)
	p, _ := intra.Predict(mode, top, left, corner)
	costs[2] = 4*sum + 8
	if least < 0 || costs[2] < least {
		best, least = syntax.Square{Kind: 2, Mode: mode, Large: levels(b, p, qp)}, costs[2]
	}
	four, cost := inFour(b, cur, x, y, qp)
	costs[3] = cost
	if cost < least {
		best = four
	}
	return best, costs
}

func TestSquare(t *testing.T) {
	var kinds [4]int
	for seed := range 700 {
		x := noise(seed)
		w, h := 8+x.next(3)*8, 8+x.next(3)*8
		prev, cur := x.frame(w, h), x.frame(w, h)
		src := x.moved(prev)
		if seed%3 == 0 {
			src = x.frame(w, h)
		}
		if seed%4 == 0 {
			cur = src
		}
		key := seed%5 == 0
		bx, by, qp, reach := x.next(w/8)*8, x.next(h/8)*8, x.next(16), x.next(8)
		want, costs := square(src, cur, prev, key, bx, by, qp, reach)
		kinds[want.Kind]++
		pix := [][]int{slices.Clone(src.Pix), slices.Clone(cur.Pix), slices.Clone(prev.Pix)}
		got, err := encode.Square(src, cur, prev, key, bx, by, qp, reach)
		if err != nil || !same(got, want) {
			t.Fatalf("P22.2: seed %d: kind %d, not %d of %v (%v)", seed, got.Kind, want.Kind, costs, err)
		}
		if !slices.Equal(pix[0], src.Pix) || !slices.Equal(pix[1], cur.Pix) || !slices.Equal(pix[2], prev.Pix) {
			t.Fatal("P22.5: an argument was changed")
		}
	}
	if slices.Min(kinds[:]) < 20 {
		t.Errorf("the kinds were chosen %v times", kinds)
	}
}

// TestEqualCosts: where ways cost the same, the first one is taken.
func TestEqualCosts(t *testing.T) {
	movedOrOne, oneOrFour := 0, 0
	for seed := range 3000 {
		x := noise(seed)
		cur := x.frame(16, 16)
		src, prev := cur, flat(16, 16, 128)
		src.Pix = slices.Clone(src.Pix)
		for i := range 64 {
			at := (8+i/8)*16 + 8 + i%8
			src.Pix[at] = plane.Clip(cur.Pix[(8+i/8)*16+7] + x.next(5) - 2)
			prev.Pix[at] = plane.Clip(src.Pix[at] + x.next(5) - 2)
		}
		for _, key := range []bool{false, true} {
			want, costs := square(src, cur, prev, key, 8, 8, 0, 1)
			switch {
			case key && costs[2] == costs[3]:
				oneOrFour++
			case !key && costs[1] == costs[2] && costs[2] <= costs[3]:
				movedOrOne++
			default:
				continue
			}
			got, err := encode.Square(src, cur, prev, key, 8, 8, 0, 1)
			if err != nil || !same(got, want) {
				t.Fatalf("P22.2: costs %v: kind %d, not %d", costs, got.Kind, want.Kind)
			}
		}
	}
	if movedOrOne < 3 || oneOrFour < 3 {
		t.Errorf("ways cost the same %d and %d times", movedOrOne, oneOrFour)
	}
}

// TestNearlyEqualCosts: vectors of odd lengths make costs that differ by 1.
func TestNearlyEqualCosts(t *testing.T) {
	var near [3]int
	for seed := range 20000 {
		x := noise(seed)
		prev := flat(16, 16, 0)
		for i := range prev.Pix {
			// Each quarter of the block is nearly flat, so that four pieces are good.
			prev.Pix[i] = 100 + i/16/4*23%50 + i%16/4*31%70 + x.next(4)
		}
		src := flat(16, 16, 0)
		dx, dy, little := x.next(5)-2, x.next(5)-2, 4+x.next(14)
		for i := range src.Pix {
			src.Pix[i] = motion.Half(prev, 2*(i%16)+dx, 2*(i/16)+dy)
		}
		for i := range prev.Pix {
			prev.Pix[i] = plane.Clip(prev.Pix[i] + x.next(little) - little/2)
		}
		want, costs := square(src, src, prev, false, 8, 8, 0, 2)
		d := costs[3] - costs[1]
		if want.Kind == 0 || costs[3] >= costs[2] || d < -1 || d > 1 {
			continue
		}
		near[d+1]++
		if got, err := encode.Square(src, src, prev, false, 8, 8, 0, 2); err != nil || !same(got, want) {
			t.Fatalf("P22.2: costs %v: kind %d, not %d", costs, got.Kind, want.Kind)
		}
	}
	if slices.Min(near[:]) == 0 {
		t.Errorf("costs differed by -1, 0 and 1 %v times", near)
	}
}

func TestErrors(t *testing.T) {
	f, turned, bad := flat(16, 24, 9), flat(24, 16, 9), flat(16, 24, 9)
	bad.Pix[5] = 256
	for i, c := range []struct {
		src, cur, prev  api.Frame
		key             bool
		x, y, qp, reach int
		square, frame   error
	}{
		{bad, turned, bad, false, 4, 0, 16, 8, api.ErrForm, api.ErrForm}, {api.Frame{}, f, f, true, 0, 0, 0, 0, api.ErrForm, api.ErrForm},
		{f, bad, bad, false, 4, 0, 16, 8, api.ErrForm, api.ErrState}, {f, turned, bad, false, 4, 0, 16, 8, api.ErrFit, api.ErrState},
		{f, turned, f, true, 0, 0, 0, 0, api.ErrFit, nil}, {f, flat(16, 16, 1), f, true, 0, 0, 0, 0, api.ErrFit, nil},
		{f, f, bad, false, 4, 0, 16, 8, api.ErrState, api.ErrState}, {f, f, turned, false, 0, 0, 0, 0, api.ErrState, api.ErrState}, {f, f, api.Frame{}, false, 0, 0, 0, 0, api.ErrState, api.ErrState},
		{f, f, flat(16, 16, 9), false, 0, 0, 0, 0, api.ErrState, api.ErrState}, {f, f, flat(8, 24, 9), false, 0, 0, 0, 0, api.ErrState, api.ErrState}, {f, flat(8, 24, 9), f, false, 0, 0, 0, 0, api.ErrFit, nil},
		{f, f, api.Frame{}, true, 0, 0, 16, 0, api.ErrRange, api.ErrRange}, {f, f, f, false, 0, 0, -1, 0, api.ErrRange, api.ErrRange}, {f, f, f, false, 0, 0, 0, 8, api.ErrRange, api.ErrRange},
		{f, f, f, true, 0, 0, 0, -1, api.ErrRange, api.ErrRange}, {f, f, f, true, 4, 0, 0, 0, api.ErrRange, nil}, {f, f, f, true, 0, 12, 0, 0, api.ErrRange, nil},
		{f, f, f, false, 16, 0, 0, 0, api.ErrRange, nil}, {f, f, f, false, 0, 24, 0, 0, api.ErrRange, nil}, {f, f, f, false, -8, 0, 0, 0, api.ErrRange, nil}, {f, f, f, false, 0, -8, 0, 0, api.ErrRange, nil},
		{f, f, f, false, 1<<63 - 8, 0, 0, 0, api.ErrRange, nil}, {f, f, bad, true, 8, 16, 15, 7, nil, nil}, {f, f, f, false, 8, 16, 15, 7, nil, nil},
	} {
		s, err := encode.Square(c.src, c.cur, c.prev, c.key, c.x, c.y, c.qp, c.reach)
		if err != c.square || err != nil && !same(s, syntax.Square{}) {
			t.Errorf("P22.1: case %d: Square is %v, not %v", i, err, c.square)
		}
		coded, built, err := encode.Frame(c.src, c.prev, c.key, c.qp, c.reach)
		if err != c.frame || err != nil && (coded.Kind != 0 || len(coded.Data) > 0 || !isZero(built)) {
			t.Errorf("P22.1: case %d: Frame is %v, not %v", i, err, c.frame)
		}
	}
}

func TestFrame(t *testing.T) {
	for seed := range 120 {
		x := noise(seed)
		w, h := 8+x.next(4)*8, 8+x.next(4)*8
		prev := x.frame(w, h)
		src := x.moved(prev)
		if seed%3 == 0 {
			src = x.frame(w, h)
		}
		key, qp, reach := seed%2 == 0, seed/2%16, x.next(4)
		ahead := prev
		if key && seed%4 == 0 {
			ahead = api.Frame{}
		}
		coded, built, err := encode.Frame(src, ahead, key, qp, reach)
		if err != nil {
			t.Fatal(err)
		}
		cur, writer := flat(w, h, 128), model.NewWriter()
		for y := 0; y < h; y += 8 {
			for x := 0; x < w; x += 8 {
				s, err := encode.Square(src, cur, ahead, key, x, y, qp, reach)
				if err != nil {
					t.Fatal(err)
				}
				syntax.Code(writer, key, s)
				cur, _ = decode.Build(cur, ahead, x, y, qp, s)
			}
		}
		kind := api.UPred
		if key {
			kind = api.UKey
		}
		want, _ := syntax.Pack(syntax.Head{Kind: kind, QP: qp, Data: writer.End()})
		if coded.Kind != want.Kind || !bytes.Equal(coded.Data, want.Data) || !plane.Same(built, cur) {
			t.Fatalf("P22.3: seed %d", seed)
		}
		back, err := decode.Frame(coded, ahead, w, h)
		if err != nil || !plane.Same(back, built) {
			t.Fatalf("P22.6: seed %d: the decoder has another frame (%v)", seed, err)
		}
		bound, _ := quant.Bound(qp)
		if peak, err := plane.Peak(src, built); err != nil || peak > bound {
			t.Fatalf("P22.7: seed %d: a peak of %d with %d", seed, peak, qp)
		}
	}
}

func TestFrameExample(t *testing.T) {
	c, f, err := encode.Frame(flat(8, 8, 128), api.Frame{}, true, 0, 0)
	w := model.NewWriter()
	syntax.Code(w, true, syntax.Square{Kind: 2, Large: make([]int, 64)})
	if err != nil || c.Kind != api.UKey || !bytes.Equal(c.Data, append([]byte{0}, w.End()...)) || !plane.Same(f, flat(8, 8, 128)) {
		t.Errorf("P22.3: the example: %v, %v", c, err)
	}
}

func config(qmin, qmax, reach int) api.Config {
	return api.Config{QMin: qmin, QMax: qmax, Reach: reach, Gop: 4, Rate: 8, Room: 64, Fill: 8}
}

func TestFit(t *testing.T) {
	fitted, none := 0, 0
	for seed := range 150 {
		x := noise(seed)
		w, h := 8+x.next(2)*8, 8+x.next(2)*8
		prev := x.frame(w, h)
		src := x.moved(prev)
		key := seed%2 == 0
		qmin := x.next(16)
		c := config(qmin, qmin+x.next(16-qmin), x.next(3))
		most := []int{8, 9, 12, 20, 40, 80, 200, 1 << 40}[x.next(8)]
		coded, built, err := encode.Fit(src, prev, key, c, most)
		if err != nil || syntax.Cost(coded) > most {
			t.Fatalf("P22.8: seed %d: %d bytes of %d (%v)", seed, syntax.Cost(coded), most, err)
		}
		wantCoded, wantBuilt := api.Coded{Kind: api.USkip}, prev
		if key {
			wantCoded, wantBuilt = api.Coded{Kind: api.UFlat}, flat(w, h, 128)
		}
		none++
		for qp := c.QMin; qp <= c.QMax; qp++ {
			a, b, _ := encode.Frame(src, prev, key, qp, c.Reach)
			if syntax.Cost(a) <= most {
				wantCoded, wantBuilt = a, b
				fitted++
				none--
				break
			}
		}
		if coded.Kind != wantCoded.Kind || !bytes.Equal(coded.Data, wantCoded.Data) || !plane.Same(built, wantBuilt) {
			t.Fatalf("P22.4: seed %d: kind %d, not %d", seed, coded.Kind, wantCoded.Kind)
		}
		back, err := decode.Frame(coded, prev, w, h)
		if err != nil || !plane.Same(back, built) {
			t.Fatalf("P22.6: seed %d", seed)
		}
		built.Pix[0] = 999
		if !plane.May(prev) {
			t.Fatal("P22.5: the frame ahead is shared")
		}
	}
	if fitted < 30 || none < 30 {
		t.Errorf("%d frames fitted, %d did not", fitted, none)
	}
}

func TestFitErrors(t *testing.T) {
	f, bad := flat(8, 8, 9), flat(8, 8, 256)
	good := config(0, 15, 2)
	for i, c := range []struct {
		src, prev api.Frame
		key       bool
		c         api.Config
		most      int
		want      error
	}{
		{bad, bad, false, api.Config{}, 7, api.ErrConfig}, {f, f, false, config(0, 16, 2), 8, api.ErrConfig}, {bad, bad, false, good, 7, api.ErrRange}, {f, f, true, good, -1 << 63, api.ErrRange},
		{bad, bad, false, good, 8, api.ErrForm}, {f, bad, false, good, 8, api.ErrState}, {f, flat(8, 16, 1), false, good, 99, api.ErrState}, {f, bad, true, good, 8, nil}, {f, f, false, good, 8, nil},
	} {
		coded, built, err := encode.Fit(c.src, c.prev, c.key, c.c, c.most)
		if err != c.want || err != nil && (coded.Kind != 0 || !isZero(built)) {
			t.Errorf("P22.4: case %d: %v, not %v", i, err, c.want)
		}
		if err != nil {
			continue
		}
		if c.key && (coded.Kind != api.UFlat || !plane.Same(built, flat(8, 8, 128))) || !c.key && (coded.Kind != api.USkip || !plane.Same(built, c.prev)) || len(coded.Data) > 0 {
			t.Errorf("P22.4: case %d: kind %d", i, coded.Kind)
		}
	}
}
