package block_test

import (
	"slices"
	"testing"

	"kinescope/api"
	"kinescope/block"
)

const far = 1 << 20

func count(n int) []int {
	l := make([]int, n)
	for i := range l {
		l[i] = i
	}
	return l
}

func TestOrder(t *testing.T) {
	want4 := []int{0, 1, 4, 8, 5, 2, 3, 6, 9, 12, 13, 10, 7, 11, 14, 15}
	want8 := []int{
		0, 1, 8, 16, 9, 2, 3, 10, 17, 24, 32, 25, 18, 11, 4, 5, 12, 19, 26, 33, 40, 48, 41, 34, 27, 20, 13, 6, 7, 14, 21, 28,
		35, 42, 49, 56, 57, 50, 43, 36, 29, 22, 15, 23, 30, 37, 44, 51, 58, 59, 52, 45, 38, 31, 39, 46, 53, 60, 61, 54, 47, 55, 62, 63,
	}
	if got := block.Order(4); !slices.Equal(got, want4) {
		t.Errorf("P7.1: Order(4) is %v", got)
	}
	if got := block.Order(8); !slices.Equal(got, want8) {
		t.Errorf("P7.1: Order(8) is %v", got)
	}
	for _, n := range []int{-4, 0, 1, 2, 3, 5, 6, 7, 9, 16, 1 << 40, -1 << 63} {
		if len(block.Order(n)) > 0 {
			t.Errorf("P7.1: Order(%d)", n)
		}
	}
	for _, n := range []int{4, 8} {
		got := block.Order(n)
		slices.Sort(got)
		if !slices.Equal(got, count(n*n)) {
			t.Errorf("P7.5: Order(%d) does not contain every index once", n)
		}
	}
}

func TestTwoLists(t *testing.T) {
	for i, c := range []struct {
		a, b, sub, add []int
		sad            int
	}{
		{[]int{5, 1}, []int{7, 0}, []int{-2, 1}, []int{12, 1}, 3},
		{[]int{250, 3}, []int{9, -9}, []int{241, 12}, []int{255, 0}, 253},
		{[]int{1, 2}, []int{4, 0}, []int{-3, 2}, []int{5, 2}, 5},
		{nil, nil, nil, nil, 0},
		{[]int{far, -far, -far}, []int{far, far, -far}, []int{0, -2 * far, 0}, []int{255, 0, 0}, 2 * far},
		{[]int{255, 0, 128}, []int{0, 0, 128}, []int{255, 0, 0}, []int{255, 0, 255}, 255},
	} {
		sub, err := block.Sub(c.a, c.b)
		if err != nil || !slices.Equal(sub, c.sub) {
			t.Errorf("P7.2: case %d: Sub is %v, %v", i, sub, err)
		}
		add, err := block.Add(c.a, c.b)
		if err != nil || !slices.Equal(add, c.add) {
			t.Errorf("P7.2: case %d: Add is %v, %v", i, add, err)
		}
		sad, err := block.Sad(c.a, c.b)
		if err != nil || sad != c.sad {
			t.Errorf("P7.2: case %d: Sad is %d, %v", i, sad, err)
		}
	}
}

func TestTwoListsErrors(t *testing.T) {
	for i, c := range []struct {
		a, b []int
		want api.Code
	}{
		{[]int{1}, nil, api.ErrFit}, {nil, []int{1}, api.ErrFit}, {[]int{far + 1, 0}, []int{0}, api.ErrFit},
		{[]int{far + 1}, []int{0}, api.ErrRange}, {[]int{0}, []int{far + 1}, api.ErrRange},
		{[]int{-far - 1}, []int{0}, api.ErrRange}, {[]int{0, 0}, []int{0, -far - 1}, api.ErrRange},
		{[]int{1<<63 - 1}, []int{-1 << 63}, api.ErrRange}, {[]int{0}, []int{-1 << 63}, api.ErrRange},
	} {
		sub, err := block.Sub(c.a, c.b)
		add, err2 := block.Add(c.a, c.b)
		sad, err3 := block.Sad(c.a, c.b)
		if err != error(c.want) || err2 != error(c.want) || err3 != error(c.want) {
			t.Errorf("P7.2: case %d: %v, %v, %v", i, err, err2, err3)
		}
		if len(sub) > 0 || len(add) > 0 || sad != 0 {
			t.Errorf("P7.2: case %d: a result beside an error", i)
		}
	}
}

func TestQuarter(t *testing.T) {
	l, err := block.Quarter(count(64))
	if err != nil || len(l) != 4 {
		t.Fatalf("P7.3: %v, %v", l, err)
	}
	if want := []int{4, 5, 6, 7, 12, 13, 14, 15, 20, 21, 22, 23, 28, 29, 30, 31}; !slices.Equal(l[1], want) {
		t.Errorf("P7.3: the second block is %v", l[1])
	}
	for q, first := range []int{0, 4, 32, 36} {
		for i, v := range l[q] {
			if v != first+i/4*8+i%4 {
				t.Fatalf("P7.3: block %d is %v", q, l[q])
			}
		}
	}
	for _, n := range []int{0, 16, 63, 65} {
		if l, err := block.Quarter(count(n)); len(l) > 0 || err != error(api.ErrFit) {
			t.Errorf("P7.3: Quarter of %d numbers is %v", n, err)
		}
	}
}

func TestWhole(t *testing.T) {
	l, _ := block.Quarter(count(64))
	b, err := block.Whole(l)
	if err != nil || !slices.Equal(b, count(64)) {
		t.Errorf("P7.3, P7.5: Whole of Quarter is %v, %v", b, err)
	}
	for i, l := range [][][]int{
		nil, l[:3], append(slices.Clone(l), count(16)), {l[0], l[1], l[2], nil}, {count(15), l[1], l[2], l[3]}, {l[0], count(17), l[2], l[3]},
	} {
		if b, err := block.Whole(l); len(b) > 0 || err != error(api.ErrFit) {
			t.Errorf("P7.3: case %d: %v", i, err)
		}
	}
}

func TestZero(t *testing.T) {
	b := make([]int, 64)
	if !block.Zero(b) || !block.Zero(nil) {
		t.Error("P7.3: Zero")
	}
	for i := range b {
		b[i] = -1 - i
		if block.Zero(b) {
			t.Errorf("P7.3: Zero with a number at %d", i)
		}
		b[i] = 0
	}
}

func TestNothingIsShared(t *testing.T) {
	in := count(64)
	l, _ := block.Quarter(in)
	for i := range l {
		_ = append(l[i], 1000, 1000, 1000, 1000)
	}
	l[0][0] = 99
	if in[0] != 0 || l[1][0] != 4 || l[3][0] != 36 {
		t.Error("P7.4: the blocks share memory")
	}
	whole, _ := block.Whole(l)
	whole[1] = 98
	if l[0][1] != 1 {
		t.Error("P7.4: Whole shares memory")
	}
	a, b := []int{1, 2}, []int{3, 4}
	sub, _ := block.Sub(a, b)
	add, _ := block.Add(a, b)
	sub[0], add[0] = 9, 9
	if !slices.Equal(a, []int{1, 2}) || !slices.Equal(b, []int{3, 4}) {
		t.Error("P7.4: an argument was changed")
	}
	o := block.Order(4)
	o[0] = 5
	if block.Order(4)[0] != 0 {
		t.Error("P7.4: Order is shared")
	}
}

func TestAddOfSub(t *testing.T) {
	for seed := range 100 {
		a, b := make([]int, 16), make([]int, 16)
		for i := range a {
			a[i], b[i] = (seed*31+i*i*17)%256, (seed*1009+i*7919)%(2*far)-far/2
		}
		d, err := block.Sub(a, b)
		if err != nil {
			t.Fatal("P7.5: Sub")
		}
		if got, err := block.Add(b, d); err == nil && !slices.Equal(got, a) {
			t.Fatalf("P7.5: Add of Sub is %v, not %v", got, a)
		}
	}
}
