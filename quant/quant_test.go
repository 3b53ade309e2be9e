package quant_test

import (
	"slices"
	"testing"

	"kinescope/api"
	"kinescope/plane"
	"kinescope/quant"
	"kinescope/wht"
)

const far = 1 << 24

var steps = []int{1, 2, 4, 6, 8, 12, 16, 24, 32, 48, 64, 96, 128, 192, 256, 384}

var wrong = []int{-1, 16, 1 << 40, -1 << 63, 1<<63 - 1}

func TestStepAndBound(t *testing.T) {
	for qp, want := range steps {
		step, err := quant.Step(qp)
		bound, err2 := quant.Bound(qp)
		if step != want || bound != want/2 || err != nil || err2 != nil {
			t.Errorf("P9.1: Step(%d) is %d, Bound is %d", qp, step, bound)
		}
	}
	for _, qp := range wrong {
		step, err := quant.Step(qp)
		bound, err2 := quant.Bound(qp)
		if err != error(api.ErrRange) || err2 != error(api.ErrRange) || step != 0 || bound != 0 {
			t.Errorf("P9.1: Step(%d) is %v, Bound is %v", qp, err, err2)
		}
	}
}

func TestLevel(t *testing.T) {
	for _, c := range []struct{ c, qp, want int }{
		{8, 3, 1}, {9, 3, 2}, {-9, 3, -2}, {-8, 3, -1}, {2, 3, 0}, {3, 3, 1}, {-3, 3, -1}, {0, 7, 0},
		{far, 0, far}, {-far, 0, -far}, {far, 15, (far + 192) / 384}, {191, 15, 0}, {192, 15, 1}, {1, 1, 1}, {-1, 1, -1}, {3, 1, 2},
	} {
		if l, err := quant.Level(c.c, c.qp); l != c.want || err != nil {
			t.Errorf("P9.2: Level(%d, %d) is %d, %v", c.c, c.qp, l, err)
		}
	}
	for _, c := range []int{far + 1, -far - 1, 1<<63 - 1, -1 << 63} {
		if l, err := quant.Level(c, 5); l != 0 || err != error(api.ErrRange) {
			t.Errorf("P9.2: Level of %d", c)
		}
	}
	for _, qp := range wrong {
		if l, err := quant.Level(5, qp); l != 0 || err != error(api.ErrRange) {
			t.Errorf("P9.2: Level with %d", qp)
		}
	}
}

func TestValue(t *testing.T) {
	for qp, step := range steps {
		for _, l := range []int{0, 2, -3, api.MaxLevel, -api.MaxLevel} {
			if v, err := quant.Value(l, qp); v != l*step || err != nil {
				t.Errorf("P9.2: Value(%d, %d) is %d, %v", l, qp, v, err)
			}
		}
		for _, l := range []int{api.MaxLevel + 1, -api.MaxLevel - 1, 1<<63 - 1, -1 << 63} {
			if v, err := quant.Value(l, qp); v != 0 || err != error(api.ErrRange) {
				t.Errorf("P9.2: Value of %d", l)
			}
		}
	}
	for _, qp := range wrong {
		if v, err := quant.Value(5, qp); v != 0 || err != error(api.ErrRange) {
			t.Errorf("P9.2: Value with %d", qp)
		}
	}
}

func TestLists(t *testing.T) {
	in := []int{8, 9, -9, 0}
	l, err := quant.Levels(in, 3)
	if !slices.Equal(l, []int{1, 2, -2, 0}) || err != nil {
		t.Errorf("P9.3: Levels is %v, %v", l, err)
	}
	v, err := quant.Values(l, 3)
	if !slices.Equal(v, []int{6, 12, -12, 0}) || err != nil {
		t.Errorf("P9.3: Values is %v, %v", v, err)
	}
	l[0], v[0] = 77, 77
	if !slices.Equal(in, []int{8, 9, -9, 0}) || l[1] != 2 {
		t.Error("P9.4: the lists share memory")
	}
	for _, f := range []func([]int, int) ([]int, error){quant.Levels, quant.Values} {
		if l, err := f(nil, 15); len(l) > 0 || err != nil {
			t.Error("P9.3: an empty list")
		}
		for _, qp := range wrong {
			if l, err := f(nil, qp); len(l) > 0 || err != error(api.ErrRange) {
				t.Errorf("P9.3: an empty list with %d", qp)
			}
		}
		if l, err := f([]int{1, 2, far + 1}, 3); len(l) > 0 || err != error(api.ErrRange) {
			t.Error("P9.3: a number out of its bounds")
		}
	}
	if l, err := quant.Values([]int{1, -api.MaxLevel - 1}, 3); len(l) > 0 || err != error(api.ErrRange) {
		t.Error("P9.3: a level out of its bounds")
	}
	if _, err := quant.Levels([]int{far, -far}, 3); err != nil {
		t.Error("P9.3: the greatest numbers")
	}
}

func TestErrorBound(t *testing.T) {
	for qp := range steps {
		bound, _ := quant.Bound(qp)
		last := -1 << 40
		for c := -1 << 15; c <= 1<<15; c += 1 + c&3 {
			l, err := quant.Level(c, qp)
			if err != nil {
				t.Fatal(err)
			}
			minus, _ := quant.Level(-c, qp)
			if l < last || minus != -l {
				t.Fatalf("P9.7: Level(%d, %d) is %d", c, qp, l)
			}
			last = l
			if max(l, -l) > api.MaxLevel {
				continue
			}
			v, err := quant.Value(l, qp)
			if d := max(v-c, c-v); d > bound || err != nil {
				t.Fatalf("P9.5: %d with %d comes back as %d", c, qp, v)
			}
		}
	}
}

// blocks are blocks of n numbers from -255 to 255: the extremes, and many in between.
func blocks(n int) [][]int {
	all := [][]int{slices.Repeat([]int{255}, n), slices.Repeat([]int{-255}, n), make([]int, n)}
	for u := range n {
		b := make([]int, n)
		for i := range b {
			b[i] = 255 * wht.Sign(u%4, i%4) * wht.Sign(u/4%8, i/8)
		}
		all = append(all, b)
	}
	x := uint64(n)
	for range 60 {
		b := make([]int, n)
		for i := range b {
			x = x*6364136223846793005 + 1442695040888963407
			b[i] = int(x>>33%511) - 255
		}
		all = append(all, b)
	}
	return all
}

func TestBlockBound(t *testing.T) {
	for _, n := range []int{16, 64} {
		for _, b := range blocks(n) {
			for qp := range steps {
				bound, _ := quant.Bound(qp)
				c, err := wht.Forward(b)
				l, err2 := quant.Levels(c, qp)
				v, err3 := quant.Values(l, qp)
				back, err4 := wht.Inverse(v)
				if err != nil || err2 != nil || err3 != nil || err4 != nil {
					t.Fatalf("P9.6: %v, %v, %v, %v", err, err2, err3, err4)
				}
				for i, v := range back {
					if d := max(v-b[i], b[i]-v); d > bound {
						t.Fatalf("P9.6: an error of %d with %d", d, qp)
					}
					guess := max(0, -b[i])
					if d := plane.Clip(guess+v) - (guess + b[i]); max(d, -d) > bound {
						t.Fatalf("P9.6: an error of %d of a sample with %d", d, qp)
					}
				}
			}
		}
	}
}
