package walk_test

import (
	"slices"
	"testing"

	"kinescope/api"
	"kinescope/fault"
	"kinescope/unit"
	"kinescope/walk"
)

func TestUnits(t *testing.T) {
	one, _ := unit.Make(7, []byte("abc"))
	all := append(slices.Clone(one), 0, 0)
	for i, c := range []struct {
		b      []byte
		whole  bool
		refuse int
		taken  []int
		want   string
	}{
		{all, true, -1, []int{7, 0, 0}, ""}, {all, false, -1, []int{7, 0, 0}, "w 3: code 1"}, {nil, true, -1, nil, ""}, {nil, false, -1, nil, "w 0: code 1"},
		{all, true, 1, []int{7, 0}, "w 1: code 14"}, {append(slices.Clone(all), 9), false, -1, []int{7, 0, 0}, "w 3: unit 13: code 1"},
		{append(slices.Clone(all), 9), true, 0, []int{7}, "w 0: code 14"},
	} {
		var taken []int
		err := walk.Units("w", c.b, func(n int, u api.Unit) error {
			if n != len(taken) {
				t.Errorf("case %d: unit %d has the number %d", i, len(taken), n)
			}
			taken = append(taken, u.Kind)
			if n == c.refuse {
				return api.ErrFit
			}
			return nil
		}, func() bool { return c.whole })
		if fault.Text(err) != c.want || !slices.Equal(taken, c.taken) {
			t.Errorf("case %d: %v, %s", i, taken, fault.Text(err))
		}
	}
}
