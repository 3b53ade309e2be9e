package vbv_test

import (
	"slices"
	"testing"

	"kinescope/api"
	"kinescope/fault"
	"kinescope/vbv"
)

func config(rate, room, fill int) api.Config {
	return api.Config{QMax: 15, Reach: 2, Cut: 640, Gop: 4, Rate: rate, Room: room, Fill: fill}
}

func TestMay(t *testing.T) {
	good := api.Config{QMin: 3, QMax: 9, Reach: 2, Cut: 640, Gop: 4, Rate: 100, Room: 300, Fill: 200}
	for i, c := range []struct {
		change func(c *api.Config)
		want   bool
	}{
		{func(c *api.Config) {}, true},
		{func(c *api.Config) { c.QMin = -1 }, false}, {func(c *api.Config) { c.QMin = 0 }, true}, {func(c *api.Config) { c.QMin = 9 }, true}, {func(c *api.Config) { c.QMin = 10 }, false},
		{func(c *api.Config) { c.QMax = 15 }, true}, {func(c *api.Config) { c.QMax = 16 }, false}, {func(c *api.Config) { c.QMax = 2 }, false},
		{func(c *api.Config) { c.Reach = -1 }, false}, {func(c *api.Config) { c.Reach = 0 }, true}, {func(c *api.Config) { c.Reach = 7 }, true}, {func(c *api.Config) { c.Reach = 8 }, false},
		{func(c *api.Config) { c.Cut = -1 }, false}, {func(c *api.Config) { c.Cut = 0 }, true}, {func(c *api.Config) { c.Cut = 16320 }, true}, {func(c *api.Config) { c.Cut = 16321 }, false},
		{func(c *api.Config) { c.Gop = 0 }, false}, {func(c *api.Config) { c.Gop = 1 }, true}, {func(c *api.Config) { c.Gop = 16 }, true}, {func(c *api.Config) { c.Gop = 17 }, false},
		{func(c *api.Config) { c.Rate = 7 }, false}, {func(c *api.Config) { c.Rate = 8 }, true}, {func(c *api.Config) { c.Rate = 300 }, true}, {func(c *api.Config) { c.Rate = 301 }, false},
		{func(c *api.Config) { c.Room = 199 }, false}, {func(c *api.Config) { c.Room = 200 }, true}, {func(c *api.Config) { c.Room = 1 << 14 }, true}, {func(c *api.Config) { c.Room = 1<<14 + 1 }, false},
		{func(c *api.Config) { c.Fill = 7 }, false}, {func(c *api.Config) { c.Fill = 8 }, true}, {func(c *api.Config) { c.Fill = 300 }, true}, {func(c *api.Config) { c.Fill = 301 }, false},
		{func(c *api.Config) { *c = api.Config{} }, false}, {func(c *api.Config) { c.Rate = -1 << 63 }, false},
	} {
		d := good
		c.change(&d)
		if vbv.May(d) != c.want {
			t.Errorf("P18.1: case %d: May is %v", i, !c.want)
		}
		if err := vbv.Check(d); c.want && err != nil || !c.want && err != error(api.ErrConfig) {
			t.Errorf("P18.1: case %d: Check is %v", i, err)
		}
	}
}

func TestPlayAndFills(t *testing.T) {
	for i, c := range []struct {
		sizes, play []int
		playErr     string
		fills       []int
		fillsErr    string
	}{
		{[]int{10, 10, 10}, []int{20, 20, 20}, "", []int{0, 0, 0}, ""},
		{[]int{10, 25}, nil, "vbv 1: code 14", nil, "vbv 1: code 14"},
		{[]int{8, 8, 0}, nil, "vbv 2: code 5", []int{0, 0, 4}, ""},
		{nil, nil, "", nil, ""},
		{[]int{20, 10, 10}, []int{10, 10, 10}, "", []int{0, 0, 0}, ""},
		{[]int{21}, nil, "vbv 0: code 14", nil, "vbv 0: code 14"},
		{[]int{0, 0}, nil, "vbv 1: code 5", []int{0, 10}, ""},
		{[]int{0, 10, 31}, nil, "vbv 2: code 14", nil, "vbv 2: code 14"},
		{[]int{0, 0, 30, 10}, nil, "vbv 1: code 5", []int{0, 10, 0, 0}, ""},
		{[]int{0, 0, 31}, nil, "vbv 1: code 5", nil, "vbv 2: code 14"},
		{[]int{0, 1, 1 << 30}, nil, "vbv 1: code 5", nil, "vbv 2: code 14"},
		{[]int{99, -1}, nil, "code 3", nil, "code 3"}, {[]int{99, 1<<30 + 1}, nil, "code 3", nil, "code 3"},
		{slices.Repeat([]int{10}, 4096), slices.Repeat([]int{20}, 4096), "", make([]int, 4096), ""},
		{slices.Repeat([]int{99}, 4097), nil, "code 3", nil, "code 3"},
	} {
		play, err := vbv.Play(config(10, 30, 20), c.sizes)
		if !slices.Equal(play, c.play) || fault.Text(err) != c.playErr {
			t.Errorf("P18.2: case %d: Play is %v, %s", i, play, fault.Text(err))
		}
		fills, err := vbv.Fills(config(10, 30, 20), c.sizes)
		if !slices.Equal(fills, c.fills) || fault.Text(err) != c.fillsErr {
			t.Errorf("P18.3: case %d: Fills is %v, %s", i, fills, fault.Text(err))
		}
	}
	for _, c := range []api.Config{{}, config(7, 30, 20), config(31, 30, 20)} {
		play, err := vbv.Play(c, []int{-1})
		fills, err2 := vbv.Fills(c, []int{-1})
		if err != error(api.ErrConfig) || err2 != error(api.ErrConfig) || len(play) > 0 || len(fills) > 0 {
			t.Errorf("P18.2, P18.3: %v, %v", err, err2)
		}
	}
}

// befores are what is in the bucket before each size.
func befores(c api.Config, after []int) []int {
	return append([]int{c.Fill}, after...)
}

func TestConsequences(t *testing.T) {
	x := uint64(1)
	next := func(most int) int {
		x = x*6364136223846793005 + 1442695040888963407
		return int(x >> 33 % uint64(most))
	}
	for range 2000 {
		rate := 8 + next(40)
		room := rate + next(60)
		c := config(rate, room, 8+next(room-7))
		var sizes, fewer []int
		for range next(12) {
			size := next(rate * 3 / 2)
			sizes, fewer = append(sizes, size), append(fewer, size-next(size+1))
		}
		fills, err := vbv.Fills(c, sizes)
		if err != nil {
			continue
		}
		total := slices.Clone(sizes)
		for i, f := range fills {
			total[i] += f
		}
		after, err := vbv.Play(c, total)
		if err != nil || len(after) != len(sizes) || len(after) > 0 && (slices.Min(after) < rate || slices.Max(after) > room) {
			t.Fatalf("P18.4: %v filled with %v: %v, %v", sizes, fills, after, err)
		}
		plain, err := vbv.Play(c, sizes)
		if err == nil && len(fills) > 0 && slices.Max(fills) > 0 {
			t.Fatalf("P18.4: filled without need: %v with %v", sizes, fills)
		}
		fewerFills, err2 := vbv.Fills(c, fewer)
		if err2 != nil {
			t.Fatalf("P18.5: %v fits, but %v doesn't", sizes, fewer)
		}
		fewerTotal := slices.Clone(fewer)
		for i, f := range fewerFills {
			fewerTotal[i] += f
		}
		fewerAfter, _ := vbv.Play(c, fewerTotal)
		for i, v := range befores(c, after) {
			if befores(c, fewerAfter)[i] < v {
				t.Fatalf("P18.5: %v leaves more than %v", sizes, fewer)
			}
		}
		if fewerPlain, err3 := vbv.Play(c, fewer); err == nil && err3 == nil {
			for i, v := range plain {
				if fewerPlain[i] < v {
					t.Fatalf("P18.5: %v leaves more than %v without fill bytes", sizes, fewer)
				}
			}
		}
	}
}
