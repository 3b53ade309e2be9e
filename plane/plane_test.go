package plane_test

import (
	"slices"
	"testing"

	"kinescope/api"
	"kinescope/plane"
)

// ramp returns a frame whose samples all differ from their neighbours.
func ramp(w, h, seed int) api.Frame {
	f := api.Frame{W: w, H: h}
	for i := range w * h {
		f.Pix = append(f.Pix, (i*7+i/w*13+seed)%256)
	}
	return f
}

func isZero(f api.Frame) bool { return f.W == 0 && f.H == 0 && len(f.Pix) == 0 }

func TestMayAndNew(t *testing.T) {
	for w := -8; w <= 48; w++ {
		for h := -8; h <= 48; h++ {
			good := w >= 8 && w <= 32 && w%8 == 0 && h >= 8 && h <= 32 && h%8 == 0
			f, err := plane.New(w, h, 128)
			if (err == nil) != good || !good && (err != error(api.ErrRange) || !isZero(f)) {
				t.Fatalf("P6.1: New(%d, %d) is %v", w, h, err)
			}
			if good && (f.W != w || f.H != h || !slices.Equal(f.Pix, slices.Repeat([]int{128}, w*h)) || !plane.May(f)) {
				t.Fatalf("P6.1: New(%d, %d)", w, h)
			}
			if !good && plane.May(api.Frame{W: w, H: h, Pix: make([]int, max(0, w*h))}) {
				t.Fatalf("P6.1: May of %d by %d", w, h)
			}
		}
	}
	for _, v := range []int{-1, 256, 1 << 40, -1 << 63} {
		if _, err := plane.New(8, 8, v); err != error(api.ErrRange) {
			t.Errorf("P6.1: New of samples %d", v)
		}
		f := ramp(8, 8, 0)
		f.Pix[63] = v
		if plane.May(f) {
			t.Errorf("P6.1: May with a sample %d", v)
		}
	}
	for _, v := range []int{0, 255} {
		if _, err := plane.New(8, 8, v); err != nil {
			t.Errorf("P6.1: New of samples %d", v)
		}
	}
	short, long := ramp(16, 8, 0), ramp(16, 8, 0)
	short.Pix, long.Pix = short.Pix[:127], append(long.Pix, 0)
	if plane.May(short) || plane.May(long) || plane.May(api.Frame{}) || plane.May(api.Frame{W: 1 << 32, H: 1 << 32}) {
		t.Error("P6.1: May with another number of samples")
	}
}

func TestClip(t *testing.T) {
	for _, c := range []struct{ v, want int }{{-3, 0}, {300, 255}, {0, 0}, {-1, 0}, {255, 255}, {256, 255}, {77, 77}, {1<<63 - 1, 255}, {-1 << 63, 0}} {
		if plane.Clip(c.v) != c.want {
			t.Errorf("P6.1: Clip(%d) is %d", c.v, plane.Clip(c.v))
		}
	}
}

func TestSame(t *testing.T) {
	a, b := ramp(16, 8, 1), ramp(16, 8, 1)
	if !plane.Same(a, b) || plane.Same(a, ramp(8, 16, 1)) {
		t.Error("P6.1: Same")
	}
	b.Pix[127]++
	if plane.Same(a, b) || plane.Same(api.Frame{}, api.Frame{}) {
		t.Error("P6.1: Same of frames that differ, or are none")
	}
	flat, _ := plane.New(16, 8, 5)
	turned, _ := plane.New(8, 16, 5)
	if plane.Same(flat, turned) {
		t.Error("P6.1: Same of other dimensions with the same samples")
	}
	b.Pix[127] = 256
	if plane.Same(b, b) {
		t.Error("P6.1: Same of a frame that is not valid")
	}
}

func TestAt(t *testing.T) {
	f := ramp(16, 24, 3)
	for y := -3; y < 28; y++ {
		for x := -3; x < 20; x++ {
			want := f.Pix[max(0, min(y, 23))*16+max(0, min(x, 15))]
			if plane.At(f, x, y) != want {
				t.Fatalf("P6.2: At(%d, %d)", x, y)
			}
		}
	}
	if plane.At(f, -1<<63, 1<<63-1) != f.Pix[23*16] || plane.At(f, 1<<63-1, -1<<63) != f.Pix[15] {
		t.Error("P6.2: At far out")
	}
	flat, _ := plane.New(8, 8, 7)
	if plane.At(flat, -5, 99) != 7 {
		t.Error("P6.2: the example")
	}
	f.Pix[5] = -1
	if plane.At(f, 1, 1) != 0 || plane.At(api.Frame{}, 0, 0) != 0 {
		t.Error("P6.2: At of a frame that is not valid")
	}
}

func TestPeakAndSum(t *testing.T) {
	a, b := ramp(16, 16, 0), ramp(16, 16, 0)
	b.Pix[0], a.Pix[0] = 9, 4
	b.Pix[255], a.Pix[255] = 1, 12
	peak, err := plane.Peak(a, b)
	sum, err2 := plane.Sum(a, b)
	if peak != 11 || sum != 16 || err != nil || err2 != nil {
		t.Errorf("P6.3: Peak %d, Sum %d", peak, sum)
	}
	black, _ := plane.New(32, 32, 0)
	white, _ := plane.New(32, 32, 255)
	peak, _ = plane.Peak(black, white)
	sum, _ = plane.Sum(white, black)
	if peak != 255 || sum != 255*1024 {
		t.Errorf("P6.3: Peak %d, Sum %d", peak, sum)
	}
	for i, c := range []struct {
		a, b api.Frame
		want api.Code
	}{
		{api.Frame{}, ramp(8, 8, 0), api.ErrForm}, {ramp(8, 8, 0), api.Frame{}, api.ErrForm}, {api.Frame{}, api.Frame{}, api.ErrForm},
		{ramp(8, 8, 0), ramp(16, 8, 0), api.ErrFit}, {ramp(16, 8, 0), ramp(8, 16, 0), api.ErrFit}, {ramp(8, 16, 0), ramp(8, 8, 0), api.ErrFit},
	} {
		peak, err := plane.Peak(c.a, c.b)
		sum, err2 := plane.Sum(c.a, c.b)
		if err != error(c.want) || err2 != error(c.want) || peak != 0 || sum != 0 {
			t.Errorf("P6.3: case %d: %v, %v", i, err, err2)
		}
	}
}

func TestGet(t *testing.T) {
	f := ramp(16, 8, 2)
	for n := 1; n <= 8; n++ {
		for _, y := range []int{-3, 0, 2, 7, 65536, -65536} {
			for _, x := range []int{-9, 0, 5, 14, 65536, -65536} {
				var want []int
				for j := range n {
					for i := range n {
						want = append(want, plane.At(f, x+i, y+j))
					}
				}
				if got := plane.Get(f, x, y, n); !slices.Equal(got, want) {
					t.Fatalf("P6.4: Get(%d, %d, %d) is %v", x, y, n, got)
				}
			}
		}
	}
	for _, c := range [][3]int{{0, 0, 0}, {0, 0, 9}, {0, 0, -1}, {65537, 0, 4}, {0, -65537, 4}, {-1 << 63, 0, 4}, {0, 1<<63 - 1, 4}, {0, -1 << 63, 4}} {
		if len(plane.Get(f, c[0], c[1], c[2])) > 0 {
			t.Errorf("P6.4: Get%v", c)
		}
	}
	f.Pix[0] = 256
	if len(plane.Get(f, 4, 4, 2)) > 0 {
		t.Error("P6.4: Get of a frame that is not valid")
	}
}

func TestPut(t *testing.T) {
	f := ramp(16, 8, 2)
	before := slices.Clone(f.Pix)
	for n := 1; n <= 8; n++ {
		for y := 0; y <= 8-n; y++ {
			for x := 0; x <= 16-n; x++ {
				b := make([]int, n*n)
				for i := range b {
					b[i] = (i*31 + n) % 256
				}
				g, err := plane.Put(f, x, y, n, b)
				if err != nil || !plane.May(g) || !slices.Equal(plane.Get(g, x, y, n), b) {
					t.Fatalf("P6.4, P6.6: Put at %d, %d of %d: %v", x, y, n, err)
				}
				for i, v := range g.Pix {
					inside := i%16 >= x && i%16 < x+n && i/16 >= y && i/16 < y+n
					if !inside && v != f.Pix[i] {
						t.Fatalf("P6.6: Put at %d, %d of %d changes sample %d", x, y, n, i)
					}
				}
			}
		}
	}
	if !slices.Equal(f.Pix, before) {
		t.Error("P6.5: Put changes its argument")
	}
}

func TestPutErrors(t *testing.T) {
	f, b := ramp(8, 16, 2), make([]int, 16)
	high, low := slices.Clone(b), slices.Clone(b)
	high[15], low[0] = 256, -1
	for i, c := range []struct {
		f       api.Frame
		x, y, n int
		b       []int
		want    api.Code
	}{
		{api.Frame{}, 0, 0, 0, nil, api.ErrForm}, {f, 6, 6, 4, b, api.ErrRange}, {f, 0, 0, 0, nil, api.ErrRange}, {f, 0, 0, 9, nil, api.ErrRange},
		{f, -1, 0, 4, b, api.ErrRange}, {f, 0, -1, 4, b, api.ErrRange}, {f, 5, 0, 4, b, api.ErrRange}, {f, 0, 13, 4, b, api.ErrRange},
		{f, 1<<63 - 1, 0, 4, b, api.ErrRange}, {f, 0, 1<<63 - 1, 4, b, api.ErrRange}, {f, 5, 0, 4, nil, api.ErrRange}, {f, 0, 0, -4, b, api.ErrRange},
		{f, 4, 12, 4, b[:15], api.ErrFit}, {f, 0, 0, 3, b, api.ErrFit}, {f, 0, 0, 4, append(high, 0), api.ErrFit},
		{f, 4, 12, 4, high, api.ErrRange}, {f, 4, 12, 4, low, api.ErrRange},
	} {
		if g, err := plane.Put(c.f, c.x, c.y, c.n, c.b); err != error(c.want) || !isZero(g) {
			t.Errorf("P6.4: case %d: %v, not %v", i, err, c.want)
		}
	}
}

func TestNothingIsShared(t *testing.T) {
	f := ramp(8, 8, 1)
	b := []int{1, 2, 3, 4}
	g, _ := plane.Put(f, 0, 0, 2, b)
	b[0] = 77
	f.Pix[9] = 78
	got := plane.Get(g, 0, 0, 2)
	got[0] = 79
	if g.Pix[0] != 1 || g.Pix[9] != 4 {
		t.Error("P6.5: the frame shares memory")
	}
	g.Pix[1] = 80
	if f.Pix[1] == 80 || got[1] == 80 {
		t.Error("P6.5: the frame shares memory")
	}
}

func TestPeakBoundsSum(t *testing.T) {
	for seed := range 50 {
		a, b := ramp(16, 8, 0), ramp(16, 8, 0)
		for i := range seed {
			b.Pix[i*5%128] = (b.Pix[i*5%128] + i) % 256
		}
		peak, _ := plane.Peak(a, b)
		sum, _ := plane.Sum(a, b)
		if (peak == 0) != (sum == 0) || sum > peak*128 || peak > sum {
			t.Fatalf("P6.6: Peak %d, Sum %d", peak, sum)
		}
	}
}
