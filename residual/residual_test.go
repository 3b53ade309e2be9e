package residual_test

import (
	"errors"
	"slices"
	"testing"

	"kinescope/api"
	"kinescope/plane"
	"kinescope/quant"
	"kinescope/residual"
)

func noise(n, seed int) []int {
	l := make([]int, n)
	x := uint64(seed)
	for i := range l {
		x = x*6364136223846793005 + 1442695040888963407
		l[i] = int(x >> 40 % 256)
	}
	return l
}

func TestBoundOfError(t *testing.T) {
	for qp := range api.MaxQP + 1 {
		bound, _ := quant.Bound(qp)
		for seed := range 20 {
			n := 16 + seed%2*48
			b, p := noise(n, seed), noise(n, seed+100)
			l, err := residual.Levels(b, p, qp)
			if err != nil {
				t.Fatal(err)
			}
			got, err := residual.Add(p, l, qp)
			if err != nil {
				t.Fatal(err)
			}
			for i, v := range got {
				if v != plane.Clip(v) || max(v-b[i], b[i]-v) > bound {
					t.Fatalf("P9.6: qp %d: %d became %d", qp, b[i], v)
				}
			}
		}
	}
}

// TestGreatResidual: the greatest levels make more than a sum of block takes.
func TestGreatResidual(t *testing.T) {
	got, err := residual.Add(make([]int, 64), slices.Repeat([]int{api.MaxLevel}, 64), api.MaxQP)
	if err != nil || got[0] != 255 || got[1] != 0 {
		t.Errorf("%v, %v", got, err)
	}
}

func TestErrors(t *testing.T) {
	good := make([]int, 16)
	_, err := residual.Levels(good, good[:4], 0)
	_, err2 := residual.Levels(good[:4], good[:4], 0)
	_, err3 := residual.Levels(good, good, 16)
	_, err4 := residual.Add(good, good, -1)
	_, err5 := residual.Add(good[:4], good[:4], 0)
	if !errors.Is(err, api.ErrFit) || !errors.Is(err2, api.ErrFit) || !errors.Is(err3, api.ErrRange) || !errors.Is(err4, api.ErrRange) || !errors.Is(err5, api.ErrFit) {
		t.Errorf("%v, %v, %v, %v, %v", err, err2, err3, err4, err5)
	}
}
