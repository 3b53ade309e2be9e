package stats_test

import (
	"slices"
	"testing"

	"kinescope/api"
	"kinescope/fault"
	"kinescope/plane"
	"kinescope/stats"
)

func flat(w, h, v int) api.Frame {
	f, _ := plane.New(w, h, v)
	return f
}

func noise(w, h, most, seed int) api.Frame {
	x := uint64(seed)
	f := api.Frame{W: w, H: h}
	for range w * h {
		x = x*6364136223846793005 + 1442695040888963407
		f.Pix = append(f.Pix, int(x>>40)%(most+1))
	}
	return f
}

// activities are what the document says of each block: the activity, and the sum of differences with another frame.
func activities(f, prev api.Frame) ([]int, []int) {
	var own, other []int
	for y := 0; y < f.H; y += 8 {
		for x := 0; x < f.W; x += 8 {
			m, a, d := 32, 0, 0
			for i := range 64 {
				m += f.Pix[(y+i/8)*f.W+x+i%8]
			}
			m /= 64
			for i := range 64 {
				v, p := f.Pix[(y+i/8)*f.W+x+i%8], prev.Pix[(y+i/8)*f.W+x+i%8]
				a += max(v-m, m-v)
				d += max(v-p, p-v)
			}
			own, other = append(own, a), append(other, d)
		}
	}
	return own, other
}

func TestInnerAndOuter(t *testing.T) {
	half := flat(8, 8, 0)
	for i := range 32 {
		half.Pix[i*2] = 2
	}
	if v, err := stats.Inner(half); v != 64 || err != nil {
		t.Errorf("P17.1: Inner of the example is %d, %v", v, err)
	}
	if v, err := stats.Inner(flat(32, 32, 200)); v != 0 || err != nil {
		t.Errorf("P17.1: Inner of equal samples is %d, %v", v, err)
	}
	// The mean is rounded: half of the samples 1 make a mean of 1, one less makes 0.
	for n, want := range map[int]int{31: 31, 32: 32, 33: 31} {
		f := flat(8, 8, 0)
		for i := range n {
			f.Pix[i] = 1
		}
		if v, _ := stats.Inner(f); v != want {
			t.Errorf("P17.1: Inner with %d samples 1 is %d", n, v)
		}
	}
	for seed := range 60 {
		w, h := 8+seed%4*8, 8+seed/4%4*8
		f, prev := noise(w, h, 255, seed), noise(w, h, 255, seed+seed%2)
		if seed%3 > 0 {
			// Some blocks are as the ones ahead, and some nearly.
			for i := range prev.Pix {
				if i/8%2 == 0 {
					prev.Pix[i] = plane.Clip(f.Pix[i] + seed%5 - 2)
				}
			}
		}
		own, other := activities(f, prev)
		inner, outer := 0, 0
		for i := range own {
			inner += own[i]
			outer += min(own[i], other[i])
		}
		if v, err := stats.Inner(f); v != inner || err != nil {
			t.Fatalf("P17.1: Inner is %d, not %d (%v)", v, inner, err)
		}
		if v, err := stats.Outer(f, prev); v != outer || err != nil {
			t.Fatalf("P17.1: Outer is %d, not %d (%v)", v, outer, err)
		}
		if outer > inner {
			t.Fatal("P17.3: Outer is greater than Inner")
		}
	}
}

func TestErrors(t *testing.T) {
	f, bad := flat(16, 8, 1), flat(16, 8, 1)
	bad.Pix[127] = -1
	if v, err := stats.Inner(bad); v != 0 || err != error(api.ErrForm) {
		t.Errorf("P17.1: %v", err)
	}
	for i, c := range []struct {
		f, prev api.Frame
		want    api.Code
	}{{bad, f, api.ErrForm}, {f, bad, api.ErrForm}, {f, api.Frame{}, api.ErrForm}, {bad, flat(8, 16, 1), api.ErrForm}, {f, flat(8, 16, 1), api.ErrFit}, {f, flat(16, 16, 1), api.ErrFit}} {
		if v, err := stats.Outer(c.f, c.prev); v != 0 || err != error(c.want) {
			t.Errorf("P17.1: case %d: %v", i, err)
		}
	}
}

func TestWeights(t *testing.T) {
	two := []api.Frame{flat(8, 8, 9), flat(8, 8, 9)}
	if w, err := stats.Weights(two, []api.Group{{First: 0, Count: 2}}); err != nil || !slices.Equal(w, []int{64, 64}) {
		t.Errorf("P17.2: %v, %v", w, err)
	}
	l := []api.Frame{noise(16, 16, 255, 1), noise(16, 16, 40, 2), noise(16, 16, 40, 2), noise(16, 16, 255, 3), noise(16, 16, 9, 4)}
	for _, starts := range [][]int{{0}, {0, 1}, {0, 2}, {0, 1, 2, 3, 4}, {0, 3, 4}} {
		var g []api.Group
		var want []int
		for i := range l {
			w, _ := stats.Inner(l[i])
			w = 64 + 2*w
			if slices.Contains(starts, i) {
				g = append(g, api.Group{First: i})
			} else {
				w, _ = stats.Outer(l[i], l[i-1])
				w += 64
			}
			g[len(g)-1].Count++
			want = append(want, w)
		}
		got, err := stats.Weights(l, g)
		if err != nil || !slices.Equal(got, want) {
			t.Errorf("P17.2: groups %v: %v, not %v (%v)", g, got, want, err)
		}
		if slices.Min(got) < 64 || !slices.Contains(starts, 2) && got[2] != 64 {
			t.Errorf("P17.3: groups %v: %v", g, got)
		}
	}
	inner, _ := stats.Inner(l[0])
	if w, err := stats.Weights(l[:1], []api.Group{{First: 0, Count: 1}}); err != nil || !slices.Equal(w, []int{64 + 2*inner}) {
		t.Errorf("P17.2: one frame: %v, %v", w, err)
	}
	other := slices.Clone(l)
	other[0], other[4] = flat(16, 16, 0), flat(16, 16, 255)
	a, _ := stats.Weights(l, []api.Group{{First: 0, Count: 5}})
	b, _ := stats.Weights(other, []api.Group{{First: 0, Count: 5}})
	if !slices.Equal(a[2:4], b[2:4]) {
		t.Error("P17.3: a weight depends on other frames than its own and the one ahead")
	}
}

func TestWeightsErrors(t *testing.T) {
	const far = 1<<63 - 1
	f := flat(8, 8, 1)
	l := []api.Frame{f, f, f}
	bad := []api.Frame{f, {}, {}}
	for i, c := range []struct {
		l    []api.Frame
		g    []api.Group
		want string
	}{
		{nil, nil, "code 3"}, {l, nil, "code 3"}, {nil, []api.Group{{First: 0, Count: 1}}, "code 3"},
		{l, []api.Group{{First: 0, Count: 2}}, "code 3"}, {l, []api.Group{{First: 0, Count: 4}}, "code 3"}, {l, []api.Group{{First: 1, Count: 2}}, "code 3"},
		{l, []api.Group{{First: 0, Count: 0}, {First: 0, Count: 3}}, "code 3"}, {l, []api.Group{{First: 0, Count: 3}, {First: 3, Count: 0}}, "code 3"},
		{l, []api.Group{{First: 0, Count: 1}, {First: 2, Count: 1}}, "code 3"}, {l, []api.Group{{First: 0, Count: 2}, {First: 1, Count: 2}}, "code 3"},
		{l, []api.Group{{First: 0, Count: 4}, {First: 4, Count: -1}}, "code 3"}, {l, []api.Group{{First: 0, Count: far}, {First: far, Count: far}}, "code 3"},
		{l, []api.Group{{First: 0, Count: 2}, {First: 2, Count: far}}, "code 3"}, {bad, []api.Group{{First: 0, Count: 2}}, "code 3"},
		{slices.Repeat(l, 6)[:17], []api.Group{{First: 0, Count: 17}}, "code 3"},
		{bad, []api.Group{{First: 0, Count: 3}}, "stats 1: code 2"}, {bad, []api.Group{{First: 0, Count: 1}, {First: 1, Count: 2}}, "stats 1: code 2"},
		{[]api.Frame{{}, f}, []api.Group{{First: 0, Count: 2}}, "stats 0: code 2"},
		{[]api.Frame{f, f, flat(16, 8, 1)}, []api.Group{{First: 0, Count: 3}}, "stats 2: code 14"},
	} {
		if w, err := stats.Weights(c.l, c.g); fault.Text(err) != c.want || len(w) > 0 {
			t.Errorf("P17.2: case %d: %v, %s", i, w, fault.Text(err))
		}
	}
	if _, err := stats.Weights([]api.Frame{f, flat(16, 8, 1)}, []api.Group{{First: 0, Count: 1}, {First: 1, Count: 1}}); err != nil {
		t.Errorf("P17.2: groups of other dimensions: %v", err)
	}
	if w, err := stats.Weights(slices.Repeat(l, 6)[:16], []api.Group{{First: 0, Count: 16}}); err != nil || len(w) != 16 {
		t.Errorf("P17.2: sixteen frames: %v", err)
	}
}
