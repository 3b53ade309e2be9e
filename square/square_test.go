package square_test

import (
	"testing"

	"kinescope/api"
	"kinescope/square"
)

func TestBounds(t *testing.T) {
	for m, want := range map[int]bool{-1: false, 0: true, 3: true, 4: false} {
		if square.IsMode(m) != want {
			t.Errorf("the mode %d", m)
		}
	}
	for l, want := range map[int]bool{-16321: false, -16320: true, 0: true, 16320: true, 16321: false, -1 << 63: false} {
		if square.IsLevel(l) != want {
			t.Errorf("the level %d", l)
		}
	}
	for x := -17; x <= 17; x++ {
		for y := -17; y <= 17; y++ {
			want := max(x, -x, y, -y) <= 15
			if square.IsVector(api.Vector{X: x, Y: y}) != want {
				t.Errorf("the vector %d, %d", x, y)
			}
		}
	}
}
