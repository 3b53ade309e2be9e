package scene_test

import (
	"slices"
	"testing"

	"kinescope/api"
	"kinescope/fault"
	"kinescope/plane"
	"kinescope/scene"
)

func flat(w, h, v int) api.Frame {
	f, _ := plane.New(w, h, v)
	return f
}

// video returns frames 8 by 8 of equal samples.
func video(values ...int) []api.Frame {
	var l []api.Frame
	for _, v := range values {
		l = append(l, flat(8, 8, v))
	}
	return l
}

func group(l ...int) []api.Group {
	var g []api.Group
	first := 0
	for _, n := range l {
		g = append(g, api.Group{First: first, Count: n})
		first += n
	}
	return g
}

func TestUnlike(t *testing.T) {
	if v, err := scene.Unlike(flat(8, 8, 0), flat(8, 8, 1)); v != 64 || err != nil {
		t.Errorf("P16.1: %d, %v", v, err)
	}
	if v, err := scene.Unlike(flat(32, 32, 255), flat(32, 32, 0)); v != 16320 || err != nil {
		t.Errorf("P16.1: %d, %v", v, err)
	}
	a, b := flat(16, 24, 7), flat(16, 24, 7)
	for sum := range 40 {
		b.Pix[sum*3] += 1
		want := 64 * (sum + 1) / 384
		if v, err := scene.Unlike(a, b); v != want || err != nil {
			t.Errorf("P16.1: a sum of %d is %d, %v", sum+1, v, err)
		}
		if v, _ := scene.Unlike(b, a); v != want {
			t.Errorf("P16.1: a sum of %d is %d", sum+1, v)
		}
	}
	for i, c := range []struct {
		a, b api.Frame
		want api.Code
	}{{api.Frame{}, a, api.ErrForm}, {a, api.Frame{}, api.ErrForm}, {a, flat(24, 16, 7), api.ErrFit}, {a, flat(16, 16, 7), api.ErrFit}} {
		if v, err := scene.Unlike(c.a, c.b); v != 0 || err != error(c.want) {
			t.Errorf("P16.1: case %d: %v", i, err)
		}
	}
}

func TestGroups(t *testing.T) {
	for i, c := range []struct {
		l        []api.Frame
		cut, gop int
		want     []api.Group
	}{
		{video(5, 5, 5), 0, 16, group(3)}, {video(5, 5, 5), 0, 2, group(2, 1)}, {video(5), 0, 1, group(1)},
		{video(5, 6, 7), 63, 16, group(1, 1, 1)}, {video(5, 6, 7), 64, 16, group(3)}, {video(5, 6, 5, 9, 9), 64, 16, group(3, 2)},
		{video(0, 255, 0), 16320, 16, group(3)}, {video(0, 255, 0), 16319, 16, group(1, 1, 1)},
		{video(1, 1, 1, 1, 9, 9, 9, 9, 9), 0, 3, group(3, 1, 3, 2)}, {video(1, 1, 1, 9, 9, 9), 0, 3, group(3, 3)},
		{slices.Repeat(video(3), 16), 0, 16, group(16)}, {slices.Repeat(video(3), 16), 16320, 1, group(slices.Repeat([]int{1}, 16)...)},
		{slices.Repeat(video(3), 16), 0, 5, group(5, 5, 5, 1)},
	} {
		if got, err := scene.Groups(c.l, c.cut, c.gop); err != nil || !slices.Equal(got, c.want) {
			t.Errorf("P16.2: case %d: %v, %v", i, got, err)
		}
	}
}

func TestGroupsErrors(t *testing.T) {
	bad := append(video(1, 2), api.Frame{})
	for i, c := range []struct {
		l        []api.Frame
		cut, gop int
		want     string
	}{
		{nil, -1, 1, "code 3"}, {nil, 16321, 1, "code 3"}, {nil, 0, 0, "code 3"}, {nil, 0, 17, "code 3"}, {bad, 0, -1, "code 3"}, {bad, -1 << 63, 1, "code 3"},
		{nil, 0, 1, "code 2"}, {slices.Repeat(video(3), 17), 0, 16, "code 2"}, {slices.Repeat(bad, 6), 16320, 16, "code 2"},
		{[]api.Frame{{}}, 0, 1, "scene 0: code 2"}, {append([]api.Frame{{}}, bad...), 0, 1, "scene 0: code 2"}, {bad, 0, 1, "scene 2: code 2"},
		{append(video(1, 1), flat(8, 16, 1)), 0, 1, "scene 2: code 14"}, {[]api.Frame{flat(8, 8, 1), flat(16, 8, 1), {}}, 16320, 16, "scene 1: code 14"},
		{append(video(1, 200, 1), api.Frame{}, flat(16, 16, 1)), 0, 1, "scene 3: code 2"},
	} {
		if got, err := scene.Groups(c.l, c.cut, c.gop); fault.Text(err) != c.want || len(got) > 0 {
			t.Errorf("P16.2: case %d: %v, %s", i, got, fault.Text(err))
		}
	}
}

func TestOf(t *testing.T) {
	const far = 1<<63 - 1
	l := []api.Group{{First: 0, Count: 2}, {First: 2, Count: 1}, {First: 1, Count: 5}, {First: 9, Count: 0}, {First: 9, Count: -3}, {First: 9, Count: far}, {First: 20, Count: 1}}
	for frame, want := range map[int]int{-1: -1, 0: 0, 1: 0, 2: 1, 3: 2, 5: 2, 6: -1, 8: -1, 9: 5, 20: 5, far: 5, -1 << 63: -1} {
		if got := scene.Of(l, frame); got != want {
			t.Errorf("P16.3: Of(%d) is %d, not %d", frame, got, want)
		}
	}
	if scene.Of(nil, 0) != -1 || scene.Of([]api.Group{{First: 3, Count: far}}, 2) != -1 || scene.Of([]api.Group{{First: -1 << 63, Count: far}}, far) != -1 {
		t.Error("P16.3: Of of groups that do not contain the frame")
	}
}

func TestConsequences(t *testing.T) {
	x := uint64(5)
	for range 300 {
		x = x*6364136223846793005 + 1442695040888963407
		var values []int
		for i := range 1 + x>>40%16 {
			values = append(values, int(x>>(i+8)%8))
		}
		l, gop := video(values...), 1+int(x>>50%16)
		cut := int(x >> 30 % 6 * 64)
		groups, err := scene.Groups(l, cut, gop)
		if err != nil {
			t.Fatal(err)
		}
		next := 0
		for i, g := range groups {
			if g.First != next || g.Count < 1 || g.Count > gop {
				t.Fatalf("P16.4: group %d is %v", i, g)
			}
			for frame := g.First; frame < g.First+g.Count; frame++ {
				if scene.Of(groups, frame) != i {
					t.Fatalf("P16.4: frame %d is not in group %d", frame, i)
				}
				if unlike, _ := scene.Unlike(l[max(frame-1, 0)], l[frame]); frame > g.First && unlike > cut {
					t.Fatalf("P16.2: no cut ahead of frame %d", frame)
				}
			}
			next += g.Count
		}
		if next != len(l) {
			t.Fatalf("P16.4: %d frames of %d", next, len(l))
		}
	}
}
