package intra_test

import (
	"slices"
	"testing"

	"kinescope/api"
	"kinescope/block"
	"kinescope/intra"
	"kinescope/plane"
)

func noise(n, seed int) []int {
	l := make([]int, n)
	x := uint64(seed)
	for i := range l {
		x = x*6364136223846793005 + 1442695040888963407
		l[i] = int(x >> 40 % 256)
	}
	return l
}

func TestEdges(t *testing.T) {
	f := api.Frame{W: 16, H: 24, Pix: noise(16*24, 1)}
	for _, n := range []int{4, 8} {
		for y := 0; y <= 24-n; y++ {
			for x := 0; x <= 16-n; x++ {
				top, left, corner := intra.Edges(f, x, y, n)
				if len(top) != n || len(left) != n {
					t.Fatalf("P10.1: Edges at %d, %d of %d", x, y, n)
				}
				for i := range n {
					wantTop, wantLeft := api.Grey, api.Grey
					if y > 0 {
						wantTop = plane.At(f, x+i, y-1)
					}
					if x > 0 {
						wantLeft = plane.At(f, x-1, y+i)
					}
					if top[i] != wantTop || left[i] != wantLeft {
						t.Fatalf("P10.1: Edges at %d, %d of %d: %v, %v", x, y, n, top, left)
					}
				}
				want := api.Grey
				if x > 0 && y > 0 {
					want = plane.At(f, x-1, y-1)
				}
				if corner != want {
					t.Fatalf("P10.1: the corner at %d, %d is %d", x, y, corner)
				}
			}
		}
	}
	nine, _ := plane.New(8, 8, 9)
	top, left, corner := intra.Edges(nine, 0, 4, 4)
	if !slices.Equal(top, []int{9, 9, 9, 9}) || !slices.Equal(left, []int{128, 128, 128, 128}) || corner != 128 {
		t.Error("P10.1: the example")
	}
}

func TestNoEdges(t *testing.T) {
	f, _ := plane.New(16, 8, 9)
	bad, _ := plane.New(16, 8, 9)
	bad.Pix[3] = 256
	for i, c := range []struct {
		f       api.Frame
		x, y, n int
	}{
		{bad, 8, 0, 8}, {api.Frame{}, 0, 0, 4}, {f, 0, 0, 0}, {f, 0, 0, 2}, {f, 0, 0, 5}, {f, 0, 0, 16}, {f, 0, 0, -4},
		{f, -1, 0, 4}, {f, 0, -1, 4}, {f, 13, 0, 4}, {f, 9, 0, 8}, {f, 0, 1, 8}, {f, 0, 5, 4}, {f, 1<<63 - 1, 0, 4}, {f, 0, 1<<63 - 1, 4}, {f, -1 << 63, 0, 4},
	} {
		if top, left, corner := intra.Edges(c.f, c.x, c.y, c.n); len(top) > 0 || len(left) > 0 || corner != 0 {
			t.Errorf("P10.1: case %d: %v, %v, %d", i, top, left, corner)
		}
	}
}

func TestPredict(t *testing.T) {
	for i, c := range []struct {
		mode      int
		top, left []int
		corner    int
		want      []int
	}{
		{0, []int{0, 0, 0, 0}, []int{8, 8, 8, 8}, 0, slices.Repeat([]int{4}, 16)},
		{0, []int{0, 0, 0, 0}, []int{0, 0, 0, 3}, 255, slices.Repeat([]int{0}, 16)},
		{0, []int{0, 0, 0, 0}, []int{0, 0, 0, 4}, 255, slices.Repeat([]int{1}, 16)},
		{0, slices.Repeat([]int{255}, 8), slices.Repeat([]int{254}, 8), 0, slices.Repeat([]int{255}, 64)},
		{1, []int{1, 2, 3, 4}, []int{5, 6, 7, 8}, 9, slices.Repeat([]int{1, 2, 3, 4}, 4)},
		{2, []int{1, 2, 3, 4}, []int{5, 6, 7, 8}, 9, []int{5, 5, 5, 5, 6, 6, 6, 6, 7, 7, 7, 7, 8, 8, 8, 8}},
		{3, []int{10, 20, 30, 40}, []int{0, 0, 0, 250}, 9, append(slices.Repeat([]int{1, 11, 21, 31}, 3), 251, 255, 255, 255)},
		{3, []int{0, 0, 0, 255}, []int{0, 0, 255, 255}, 255, []int{0, 0, 0, 0, 0, 0, 0, 0, 0, 0, 0, 255, 0, 0, 0, 255}},
	} {
		if got, err := intra.Predict(c.mode, c.top, c.left, c.corner); err != nil || !slices.Equal(got, c.want) {
			t.Errorf("P10.2: case %d: %v, %v", i, got, err)
		}
	}
}

func TestErrors(t *testing.T) {
	four, eight := []int{1, 2, 3, 4}, []int{1, 2, 3, 4, 5, 6, 7, 8}
	high, low := []int{1, 2, 3, 256}, []int{-1, 2, 3, 4}
	for i, c := range []struct {
		mode      int
		top, left []int
		corner    int
		want      api.Code
	}{
		{-1, nil, nil, -1, api.ErrKind}, {4, high, nil, 0, api.ErrKind}, {1 << 40, four, four, 0, api.ErrKind},
		{0, four, eight, 999, api.ErrFit}, {0, eight, four, 0, api.ErrFit}, {0, nil, nil, 0, api.ErrFit}, {3, eight[:5], eight[:5], 0, api.ErrFit},
		{1, high, nil, 0, api.ErrFit},
		{0, high, four, 0, api.ErrRange}, {0, low, four, 0, api.ErrRange}, {0, four, high, 0, api.ErrRange}, {0, four, low, 0, api.ErrRange},
		{1, four, four, -1, api.ErrRange}, {2, four, four, 256, api.ErrRange}, {1, four, low, 0, api.ErrRange}, {2, high, four, 0, api.ErrRange},
	} {
		if b, err := intra.Predict(c.mode, c.top, c.left, c.corner); err != error(c.want) || len(b) > 0 {
			t.Errorf("P10.2: case %d: %v, not %v", i, err, c.want)
		}
		if c.want == api.ErrKind {
			continue
		}
		// Best returns the same errors before its own.
		if m, s, err := intra.Best(nil, c.top, c.left, c.corner); err != error(c.want) || m != 0 || s != 0 {
			t.Errorf("P10.3: case %d: %v, not %v", i, err, c.want)
		}
	}
	b := noise(16, 2)
	bad, worse := slices.Clone(b), slices.Clone(b)
	bad[15], worse[0] = 256, -1
	for i, c := range []struct {
		b    []int
		want api.Code
	}{{b[:15], api.ErrFit}, {append(bad, 0), api.ErrFit}, {bad, api.ErrRange}, {worse, api.ErrRange}, {noise(64, 1), api.ErrFit}} {
		if m, s, err := intra.Best(c.b, four, four, 0); err != error(c.want) || m != 0 || s != 0 {
			t.Errorf("P10.3: case %d: %v, not %v", i, err, c.want)
		}
	}
}

func TestBest(t *testing.T) {
	for seed := range 200 {
		n := 4 + seed%2*4
		top, left, corner := noise(n, seed), noise(n, seed+1000), seed*7%256
		for from := range 5 {
			b := noise(n*n, seed+2000)
			if from < 4 {
				b, _ = intra.Predict(from, top, left, corner)
				b[seed%(n*n)] = (b[seed%(n*n)] + seed) % 256
			}
			want, least := -1, 0
			for mode := range 4 {
				p, err := intra.Predict(mode, top, left, corner)
				if err != nil || slices.Min(p) < 0 || slices.Max(p) > 255 {
					t.Fatal("P10.5: a prediction that is no sample")
				}
				if sum, _ := block.Sad(b, p); want < 0 || sum < least {
					want, least = mode, sum
				}
			}
			if mode, sum, err := intra.Best(b, top, left, corner); mode != want || sum != least || err != nil {
				t.Fatalf("P10.3, P10.5: Best is %d, %d, not %d, %d", mode, sum, want, least)
			}
		}
	}
}

func TestEqualEdges(t *testing.T) {
	for _, v := range []int{0, 1, 128, 254, 255} {
		for _, n := range []int{4, 8} {
			edge := slices.Repeat([]int{v}, n)
			for mode := range 4 {
				if b, _ := intra.Predict(mode, edge, edge, v); !slices.Equal(b, slices.Repeat([]int{v}, n*n)) {
					t.Errorf("P10.5: mode %d of %d is %v", mode, v, b)
				}
			}
			// All modes are equally good: the first one is taken.
			if mode, sum, _ := intra.Best(slices.Repeat([]int{7}, n*n), edge, edge, v); mode != 0 || sum != n*n*max(v-7, 7-v) {
				t.Errorf("P10.3: Best is %d, %d", mode, sum)
			}
		}
	}
	// Modes 1 and 3 are equally good.
	if mode, sum, _ := intra.Best(slices.Repeat([]int{9, 200, 0, 77}, 4), []int{9, 200, 0, 77}, []int{5, 5, 5, 5}, 5); mode != 1 || sum != 0 {
		t.Errorf("P10.3: Best is %d, %d", mode, sum)
	}
}

func TestNothingIsShared(t *testing.T) {
	f, _ := plane.New(16, 16, 9)
	top, left, _ := intra.Edges(f, 8, 8, 4)
	top[0], left[0] = 1, 2
	_ = append(top, 3, 3, 3, 3)
	if slices.Max(f.Pix) != 9 || slices.Min(f.Pix) != 9 || left[1] != 9 {
		t.Error("P10.4: the edges share memory")
	}
	for mode := range 4 {
		b, _ := intra.Predict(mode, top, left, 9)
		for i := range b {
			b[i] = 77
		}
		if !slices.Equal(top, []int{1, 9, 9, 9}) || !slices.Equal(left, []int{2, 9, 9, 9}) {
			t.Error("P10.4: an argument was changed, or is shared")
		}
	}
}
