package alloc_test

import (
	"slices"
	"testing"

	"kinescope/alloc"
	"kinescope/api"
	"kinescope/vbv"
)

func config(rate, room, fill int) api.Config {
	return api.Config{QMax: 15, Reach: 2, Cut: 640, Gop: 4, Rate: rate, Room: room, Fill: fill}
}

func TestCaps(t *testing.T) {
	for i, c := range []struct {
		c             api.Config
		weights, want []int
	}{
		{config(10, 30, 20), []int{1, 1, 2}, []int{10, 10, 20}}, {config(10, 30, 20), []int{100, 1}, []int{20, 8}}, {config(10, 30, 20), []int{1}, []int{20}},
		{config(10, 30, 20), []int{1, 100}, []int{8, 22}}, {config(10, 30, 30), []int{1, 1, 98}, []int{8, 8, 30}},
		{config(8, 8, 8), []int{1 << 24, 1, 1 << 24}, []int{8, 8, 8}},
		{config(10, 100, 20), []int{3, 3, 3, 1}, []int{15, 15, 10, 8}},
		{config(1<<14, 1<<14, 1<<14), slices.Repeat([]int{1 << 24}, 16), slices.Repeat([]int{1 << 14}, 16)},
	} {
		if got, err := alloc.Caps(c.c, c.weights); err != nil || !slices.Equal(got, c.want) {
			t.Errorf("P19.1: case %d: %v, %v", i, got, err)
		}
	}
}

func TestErrors(t *testing.T) {
	good := config(10, 30, 20)
	for i, c := range []struct {
		c       api.Config
		weights []int
		want    api.Code
	}{
		{api.Config{}, nil, api.ErrConfig}, {config(7, 30, 20), []int{1}, api.ErrConfig}, {config(10, 30, 31), []int{0}, api.ErrConfig},
		{good, nil, api.ErrRange}, {good, slices.Repeat([]int{1}, 17), api.ErrRange}, {good, []int{1, 0}, api.ErrRange}, {good, []int{-1}, api.ErrRange},
		{good, []int{1, 1<<24 + 1}, api.ErrRange}, {good, []int{1<<63 - 1, 1}, api.ErrRange},
	} {
		if got, err := alloc.Caps(c.c, c.weights); err != error(c.want) || len(got) > 0 {
			t.Errorf("P19.1: case %d: %v, %v", i, got, err)
		}
	}
	if got, err := alloc.Caps(good, slices.Repeat([]int{1 << 24}, 16)); err != nil || len(got) != 16 {
		t.Errorf("P19.1: sixteen frames: %v", err)
	}
}

func TestConsequences(t *testing.T) {
	x := uint64(1)
	next := func(most int) int {
		x = x*6364136223846793005 + 1442695040888963407
		return int(x >> 33 % uint64(most))
	}
	for range 3000 {
		rate := 8 + next(60)
		room := rate + next(400)
		c := config(rate, room, 8+next(room-7))
		var weights, twice []int
		for range 1 + next(16) {
			w := 1 + next([]int{3, 1000, 1 << 23}[next(3)])
			weights, twice = append(weights, w), append(twice, 2*w)
		}
		caps, err := alloc.Caps(c, weights)
		if err != nil {
			t.Fatal(err)
		}
		if got, _ := alloc.Caps(c, twice); !slices.Equal(got, caps) {
			t.Fatalf("P19.3: %v, doubled %v", caps, got)
		}
		sum, total := 0, c.Fill+(len(caps)-1)*rate
		sizes := slices.Clone(caps)
		for i, v := range caps {
			if v < 8 {
				t.Fatalf("P19.2: a cap of %d", v)
			}
			sum += v
			sizes[i] -= next(v - 7)
		}
		if sum > total+8*len(caps) {
			t.Fatalf("P19.3: the sum of %v is more than %d", caps, total)
		}
		for _, sizes := range [][]int{caps, sizes, slices.Repeat([]int{8}, len(caps))} {
			fills, err := vbv.Fills(c, sizes)
			if err != nil {
				t.Fatalf("P19.2: %v: %v", sizes, err)
			}
			filled := slices.Clone(sizes)
			for i, f := range fills {
				filled[i] += f
			}
			if _, err := vbv.Play(c, filled); err != nil {
				t.Fatalf("P19.2: %v filled with %v: %v", sizes, fills, err)
			}
		}
	}
}
