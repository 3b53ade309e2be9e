package motion_test

import (
	"slices"
	"testing"

	"kinescope/api"
	"kinescope/block"
	"kinescope/motion"
	"kinescope/plane"
)

func noise(n, seed int) []int {
	l := make([]int, n)
	x := uint64(seed)
	for i := range l {
		x = x*6364136223846793005 + 1442695040888963407
		l[i] = int(x >> 40 % 256)
	}
	return l
}

func frame(w, h, seed int) api.Frame { return api.Frame{W: w, H: h, Pix: noise(w*h, seed)} }

// smooth returns a frame without sharp edges, in which a search finds its way.
func smooth(w, h, dx, dy int) api.Frame {
	f := api.Frame{W: w, H: h}
	for y := range h {
		for x := range w {
			a, b := x+dx, y+dy
			f.Pix = append(f.Pix, plane.Clip(a*a%97+b*7+(a*b)%31))
		}
	}
	return f
}

func floor2(v int) int {
	if v < 0 {
		return -((1 - v) / 2)
	}
	return v / 2
}

// half is Half, as the document says it.
func half(f api.Frame, hx, hy int) int {
	x, y := floor2(hx), floor2(hy)
	oddX, oddY := hx != 2*x, hy != 2*y
	switch {
	case !oddX && !oddY:
		return plane.At(f, x, y)
	case !oddY:
		return (plane.At(f, x, y) + plane.At(f, x+1, y) + 1) / 2
	case !oddX:
		return (plane.At(f, x, y) + plane.At(f, x, y+1) + 1) / 2
	}
	return (plane.At(f, x, y) + plane.At(f, x+1, y) + plane.At(f, x, y+1) + plane.At(f, x+1, y+1) + 2) / 4
}

func TestHalf(t *testing.T) {
	rows := api.Frame{W: 8, H: 8, Pix: slices.Repeat([]int{0, 1, 2, 3, 4, 5, 6, 7}, 8)}
	for _, c := range []struct{ x, y, want int }{{3, 0, 2}, {-1, 0, 0}, {15, 1, 7}, {2, 1, 1}, {1, 1, 1}, {-65536, 65536, 0}, {65536, -65536, 7}, {65535, 65535, 7}} {
		if got := motion.Half(rows, c.x, c.y); got != c.want {
			t.Errorf("P11.1: Half(%d, %d) is %d", c.x, c.y, got)
		}
	}
	f := frame(16, 8, 1)
	for y := -20; y < 40; y++ {
		for x := -20; x < 60; x++ {
			if got := motion.Half(f, x, y); got != half(f, x, y) {
				t.Fatalf("P11.1: Half(%d, %d) is %d", x, y, got)
			}
		}
	}
	flat, _ := plane.New(8, 8, 200)
	for _, c := range [][2]int{{65537, 0}, {-65537, 0}, {0, 65537}, {0, -65537}, {-1 << 63, 0}, {0, 1<<63 - 1}} {
		if motion.Half(flat, c[0], c[1]) != 0 {
			t.Errorf("P11.1: Half%v", c)
		}
	}
	flat.Pix[0] = -1
	if motion.Half(flat, 6, 6) != 0 || motion.Half(api.Frame{}, 0, 0) != 0 {
		t.Error("P11.1: Half of a frame that is not valid")
	}
}

func TestBlock(t *testing.T) {
	f := frame(16, 24, 2)
	for _, n := range []int{4, 8} {
		for _, at := range [][2]int{{0, 0}, {8, 16}, {3, 5}, {15, 23}, {32, 32}, {32, 0}} {
			for _, v := range []api.Vector{{}, {X: 1}, {Y: 1}, {X: -3, Y: 5}, {X: 15, Y: -15}, {X: -15, Y: 15}, {X: 4, Y: -2}} {
				var want []int
				for j := range n {
					for i := range n {
						want = append(want, half(f, 2*(at[0]+i)+v.X, 2*(at[1]+j)+v.Y))
					}
				}
				if got := motion.Block(f, at[0], at[1], n, v); !slices.Equal(got, want) {
					t.Fatalf("P11.2: Block at %v of %d by %v", at, n, v)
				}
			}
		}
	}
	for i, c := range []struct {
		f       api.Frame
		x, y, n int
		v       api.Vector
	}{
		{api.Frame{}, 0, 0, 8, api.Vector{}}, {f, 0, 0, 0, api.Vector{}}, {f, 0, 0, 5, api.Vector{}}, {f, 0, 0, 16, api.Vector{}}, {f, 0, 0, -8, api.Vector{}},
		{f, -1, 0, 8, api.Vector{}}, {f, 0, -1, 8, api.Vector{}}, {f, 33, 0, 8, api.Vector{}}, {f, 0, 33, 8, api.Vector{}}, {f, -1 << 63, 0, 8, api.Vector{}},
		{f, 0, 0, 8, api.Vector{X: 16}}, {f, 0, 0, 8, api.Vector{Y: 16}}, {f, 0, 0, 8, api.Vector{X: -16}}, {f, 0, 0, 8, api.Vector{Y: -16}},
		{f, 0, 0, 4, api.Vector{X: -1 << 63}}, {f, 0, 0, 4, api.Vector{Y: 1<<63 - 1}},
	} {
		if b := motion.Block(c.f, c.x, c.y, c.n, c.v); len(b) > 0 {
			t.Errorf("P11.2: case %d: %v", i, b)
		}
	}
}

func TestCost(t *testing.T) {
	for _, c := range []struct {
		v    api.Vector
		want int
	}{{api.Vector{}, 20}, {api.Vector{X: -3, Y: 4}, 27}, {api.Vector{X: 15, Y: -15}, 50}} {
		if got, err := motion.Cost([]int{1, 2}, []int{4, 0}, c.v); got != c.want || err != nil {
			t.Errorf("P11.3: Cost by %v is %d, %v", c.v, got, err)
		}
	}
	for i, c := range []struct {
		a, b []int
		v    api.Vector
		want api.Code
	}{
		{[]int{1}, nil, api.Vector{X: 16}, api.ErrFit}, {[]int{1 << 21}, []int{0}, api.Vector{X: 16}, api.ErrRange},
		{nil, nil, api.Vector{X: 16}, api.ErrRange}, {nil, nil, api.Vector{Y: 16}, api.ErrRange}, {nil, nil, api.Vector{X: -16}, api.ErrRange},
		{nil, nil, api.Vector{Y: -16}, api.ErrRange}, {nil, nil, api.Vector{Y: -1 << 63}, api.ErrRange},
	} {
		if got, err := motion.Cost(c.a, c.b, c.v); got != 0 || err != error(c.want) {
			t.Errorf("P11.3: case %d: %v", i, err)
		}
	}
	if got, err := motion.Cost(nil, nil, api.Vector{Y: -15}); got != 15 || err != nil {
		t.Error("P11.3: Cost of nothing")
	}
}

// search is Search, as the document says it.
func search(f api.Frame, b []int, x, y, reach int) api.Vector {
	best := api.Vector{}
	cost := func(v api.Vector) int {
		c, _ := motion.Cost(motion.Block(f, x, y, 8, v), b, v)
		return c
	}
	examine := func(v api.Vector) {
		if max(v.X, -v.X, v.Y, -v.Y) <= api.MaxVector && cost(v) < cost(best) {
			best = v
		}
	}
	for j := -reach; j <= reach; j++ {
		for i := -reach; i <= reach; i++ {
			examine(api.Vector{X: 2 * i, Y: 2 * j})
		}
	}
	from := best
	for j := -1; j <= 1; j++ {
		for i := -1; i <= 1; i++ {
			examine(api.Vector{X: from.X + i, Y: from.Y + j})
		}
	}
	return best
}

func TestSearch(t *testing.T) {
	five, _ := plane.New(8, 8, 5)
	if v, err := motion.Search(five, slices.Repeat([]int{5}, 64), 0, 0, 3); v != (api.Vector{}) || err != nil {
		t.Errorf("P11.4: the example is %v, %v", v, err)
	}
	for seed := range 40 {
		f, b := smooth(24, 16, 0, 0), plane.Get(smooth(24, 16, seed%9-4, seed%5-2), 8, 8, 8)
		if seed%3 == 0 {
			f, b = frame(24, 16, seed), noise(64, seed+1)
		}
		if seed%4 == 1 {
			b = motion.Block(f, 8, 8, 8, api.Vector{X: seed%31 - 15, Y: seed*7%31 - 15})
		}
		for reach := 0; reach <= 7; reach += 1 + seed%3 {
			x, y := seed%3*8, seed%2*8
			want := search(f, b, x, y, reach)
			if got, err := motion.Search(f, b, x, y, reach); got != want || err != nil {
				t.Fatalf("P11.4: seed %d, reach %d: %v, not %v", seed, reach, got, want)
			}
			least, _ := motion.Cost(motion.Block(f, x, y, 8, want), b, want)
			for j := -reach; j <= reach; j++ {
				for i := -reach; i <= reach; i++ {
					v := api.Vector{X: 2 * i, Y: 2 * j}
					if c, _ := motion.Cost(motion.Block(f, x, y, 8, v), b, v); c < least {
						t.Fatalf("P11.6: %v costs %d, less than %d", v, c, least)
					}
				}
			}
		}
	}
}

// TestFirstOfEqual: the vectors left, right, above and below cost the same.
func TestFirstOfEqual(t *testing.T) {
	f, _ := plane.New(24, 24, 0)
	for y := range 24 {
		for x := range 24 {
			f.Pix[y*24+x] = (x + y) % 2 * 100
		}
	}
	b := motion.Block(f, 8, 8, 8, api.Vector{X: 2})
	if v, _ := motion.Search(f, b, 8, 8, 3); v != (api.Vector{Y: -2}) {
		t.Errorf("P11.4: the first of equal vectors is not %v", v)
	}
	if v, _ := motion.Search(f, slices.Repeat([]int{50}, 64), 8, 8, 0); v != (api.Vector{Y: -1}) {
		t.Errorf("P11.4: the first of equal half vectors is not %v", v)
	}
}

// TestFirstOfEqualInARow: only the vectors left and right cost the same.
func TestFirstOfEqualInARow(t *testing.T) {
	f, _ := plane.New(24, 24, 0)
	for i := range f.Pix {
		f.Pix[i] = i % 24 % 2 * 100
	}
	b := motion.Block(f, 8, 8, 8, api.Vector{X: 2})
	if v, _ := motion.Search(f, b, 8, 8, 1); v != (api.Vector{X: -2}) {
		t.Errorf("P11.4: the first of equal vectors is not %v", v)
	}
	if v, _ := motion.Search(f, slices.Repeat([]int{50}, 64), 8, 8, 0); v != (api.Vector{X: -1}) {
		t.Errorf("P11.4: the first of equal half vectors is not %v", v)
	}
}

func TestSearchErrors(t *testing.T) {
	f, b := frame(16, 8, 3), noise(64, 1)
	high, low := slices.Clone(b), slices.Clone(b)
	high[63], low[0] = 256, -1
	for i, c := range []struct {
		f           api.Frame
		b           []int
		x, y, reach int
		want        api.Code
	}{
		{api.Frame{}, nil, -1, 0, 9, api.ErrForm},
		{f, nil, 0, 0, -1, api.ErrRange}, {f, nil, 0, 0, 8, api.ErrRange}, {f, nil, -1, 0, 1, api.ErrRange}, {f, nil, 9, 0, 1, api.ErrRange},
		{f, nil, 0, 1, 1, api.ErrRange}, {f, nil, 0, -1, 1, api.ErrRange}, {f, nil, 1<<63 - 1, 0, 1, api.ErrRange}, {f, nil, 0, -1 << 63, 1, api.ErrRange},
		{f, b[:63], 8, 0, 7, api.ErrFit}, {f, append(slices.Clone(high), 1), 0, 0, 7, api.ErrFit}, {f, b[:16], 0, 0, 0, api.ErrFit},
		{f, high, 3, 0, 7, api.ErrRange}, {f, low, 0, 0, 0, api.ErrRange},
	} {
		if v, err := motion.Search(c.f, c.b, c.x, c.y, c.reach); v != (api.Vector{}) || err != error(c.want) {
			t.Errorf("P11.4: case %d: %v, not %v", i, err, c.want)
		}
	}
	if _, err := motion.Search(f, b, 3, 0, 7); err != nil {
		t.Error("P11.4: a block that does not begin at a multiple of 8")
	}
}

func TestNothingIsShared(t *testing.T) {
	f, b := frame(8, 8, 3), noise(64, 1)
	pix, before := slices.Clone(f.Pix), slices.Clone(b)
	got := motion.Block(f, 0, 0, 8, api.Vector{})
	motion.Search(f, b, 0, 0, 7)
	got[0]++
	if !slices.Equal(f.Pix, pix) || !slices.Equal(b, before) {
		t.Error("P11.5: an argument was changed, or is shared")
	}
}

func TestConsequences(t *testing.T) {
	f, flat := frame(32, 32, 9), api.Frame{}
	flat, _ = plane.New(8, 16, 255)
	for x := -15; x <= 15; x++ {
		for y := -15; y <= 15; y++ {
			b := motion.Block(f, 8, 24, 8, api.Vector{X: x, Y: y})
			if len(b) != 64 || slices.Min(b) < 0 || slices.Max(b) > 255 {
				t.Fatal("P11.6: a prediction that is no sample")
			}
			if b := motion.Block(flat, 0, 8, 4, api.Vector{X: x, Y: y}); !slices.Equal(b, slices.Repeat([]int{255}, 16)) {
				t.Fatal("P11.6: a block of equal samples")
			}
		}
	}
	if sad, err := block.Sad(motion.Block(f, 8, 24, 8, api.Vector{}), plane.Get(f, 8, 24, 8)); sad != 0 || err != nil {
		t.Error("P11.6: the vector 0, 0")
	}
}
