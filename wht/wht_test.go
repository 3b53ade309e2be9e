package wht_test

import (
	"slices"
	"testing"

	"kinescope/api"
	"kinescope/wht"
)

// noise returns n numbers from -most to most.
func noise(n, most, seed int) []int {
	l := make([]int, n)
	x := uint64(seed)
	for i := range l {
		x = x*6364136223846793005 + 1442695040888963407
		l[i] = int(x>>20%uint64(2*most+1)) - most
	}
	return l
}

func side(n int) int {
	if n == 16 {
		return 4
	}
	return 8
}

// sums are the sums of the document, one by one.
func sums(b []int) []int {
	n := side(len(b))
	c := make([]int, len(b))
	for v := range n {
		for u := range n {
			for y := range n {
				for x := range n {
					c[v*n+u] += b[y*n+x] * wht.Sign(u, x) * wht.Sign(v, y)
				}
			}
		}
	}
	return c
}

func floor(a, b int) int {
	q := a / b
	if a%b < 0 {
		q--
	}
	return q
}

func TestSign(t *testing.T) {
	want := []string{
		"++++++++", "+-+-+-+-", "++--++--", "+--++--+", "++++----", "+-+--+-+", "++----++", "+--+-++-",
	}
	for u, row := range want {
		for x, c := range row {
			if s := wht.Sign(u, x); s != 1 && c == '+' || s != -1 && c == '-' {
				t.Errorf("P8.1: Sign(%d, %d) is %d", u, x, s)
			}
		}
	}
	for _, c := range [][2]int{{-1, 0}, {0, -1}, {8, 0}, {0, 8}, {1 << 40, 1}, {-1 << 63, 3}} {
		if wht.Sign(c[0], c[1]) != 0 {
			t.Errorf("P8.1: Sign%v", c)
		}
	}
}

func TestExamples(t *testing.T) {
	c, err := wht.Forward(slices.Repeat([]int{3}, 16))
	if err != nil || c[0] != 48 || slices.Max(c[1:]) != 0 || slices.Min(c[1:]) != 0 {
		t.Errorf("P8.2: %v, %v", c, err)
	}
	for _, c := range []struct{ in, want int }{{8, 1}, {7, 0}, {-8, 0}, {-9, -1}, {24, 2}, {-24, -1}, {-25, -2}} {
		in := make([]int, 16)
		in[0] = c.in
		b, err := wht.Inverse(in)
		if err != nil || !slices.Equal(b, slices.Repeat([]int{c.want}, 16)) {
			t.Errorf("P8.3: Inverse of %d is %v, %v", c.in, b, err)
		}
	}
	for _, c := range []struct{ in, want int }{{31, 0}, {32, 1}, {-32, 0}, {-33, -1}} {
		in := make([]int, 64)
		in[0] = c.in
		if b, err := wht.Inverse(in); err != nil || !slices.Equal(b, slices.Repeat([]int{c.want}, 64)) {
			t.Errorf("P8.3: Inverse of %d is %v, %v", c.in, b, err)
		}
	}
}

func TestErrors(t *testing.T) {
	for _, n := range []int{0, 1, 3, 15, 17, 63, 65, 256} {
		b, err := wht.Forward(slices.Repeat([]int{1 << 40}, n))
		c, err2 := wht.Inverse(slices.Repeat([]int{1 << 40}, n))
		if err != error(api.ErrFit) || err2 != error(api.ErrFit) || len(b) > 0 || len(c) > 0 {
			t.Errorf("P8.2, P8.3: %d numbers: %v, %v", n, err, err2)
		}
	}
	for _, n := range []int{16, 64} {
		for _, i := range []int{0, n / 2, n - 1} {
			for _, sign := range []int{1, -1} {
				b := make([]int, n)
				b[i] = sign * (1<<16 + 1)
				if l, err := wht.Forward(b); err != error(api.ErrRange) || len(l) > 0 {
					t.Errorf("P8.2: Forward of %d: %v", b[i], err)
				}
				b[i] = sign << 16
				if _, err := wht.Forward(b); err != nil {
					t.Errorf("P8.2: Forward of %d: %v", b[i], err)
				}
				b[i] = sign * (1<<24 + 1)
				if l, err := wht.Inverse(b); err != error(api.ErrRange) || len(l) > 0 {
					t.Errorf("P8.3: Inverse of %d: %v", b[i], err)
				}
				b[i] = sign << 24
				if _, err := wht.Inverse(b); err != nil {
					t.Errorf("P8.3: Inverse of %d: %v", b[i], err)
				}
			}
		}
	}
	b := make([]int, 16)
	b[3] = -1 << 63
	if _, err := wht.Forward(b); err != error(api.ErrRange) {
		t.Error("P8.2: Forward of the least number")
	}
}

func TestSums(t *testing.T) {
	for seed := range 40 {
		for _, n := range []int{16, 64} {
			b := noise(n, 1<<16, seed)
			if got, err := wht.Forward(b); err != nil || !slices.Equal(got, sums(b)) {
				t.Fatalf("P8.2: Forward of %v is %v, %v", b, got, err)
			}
			c := noise(n, 1<<24, seed)
			want := sums(c)
			for i := range want {
				want[i] = floor(want[i]+n/2, n)
			}
			if got, err := wht.Inverse(c); err != nil || !slices.Equal(got, want) {
				t.Fatalf("P8.3: Inverse of %v is %v, %v", c, got, err)
			}
		}
	}
	most := slices.Repeat([]int{1 << 24}, 64)
	if b, err := wht.Inverse(most); err != nil || b[0] != 1<<24 || b[1] != 0 {
		t.Error("P8.3: the greatest numbers")
	}
}

func TestNothingIsShared(t *testing.T) {
	b := noise(16, 99, 1)
	before := slices.Clone(b)
	c, _ := wht.Forward(b)
	d, _ := wht.Inverse(b)
	c[0], d[0] = 12345, 12345
	if !slices.Equal(b, before) {
		t.Error("P8.4: an argument was changed, or is shared")
	}
}

func TestConsequences(t *testing.T) {
	for seed := range 40 {
		for _, n := range []int{16, 64} {
			b := noise(n, 1<<16/2, seed)
			c, _ := wht.Forward(b)
			if back, err := wht.Inverse(c); err != nil || !slices.Equal(back, b) {
				t.Fatal("P8.5: Inverse of Forward")
			}
			const most = 37
			change := noise(n, most, seed+100)
			moved := slices.Clone(c)
			for i := range moved {
				moved[i] += change[i]
			}
			back, _ := wht.Inverse(moved)
			for i := range back {
				if d := back[i] - b[i]; d > most || d < -most {
					t.Fatalf("P8.6: an error of %d became %d", most, d)
				}
			}
			other := noise(n, 1<<16/2, seed+200)
			sum, total := slices.Clone(b), 0
			for i := range sum {
				sum[i] += other[i]
				total += b[i]
			}
			fs, _ := wht.Forward(sum)
			fo, _ := wht.Forward(other)
			for i := range fs {
				if fs[i] != c[i]+fo[i] {
					t.Fatal("P8.7: Forward of a sum")
				}
			}
			little := noise(n, 1<<16/n, seed)
			f, _ := wht.Forward(little)
			ff, err := wht.Forward(f)
			for i := range ff {
				if err != nil || ff[i] != n*little[i] {
					t.Fatalf("P8.7: Forward of Forward: %v", err)
				}
			}
			if c[0] != total {
				t.Fatal("P8.7: the first number is the sum")
			}
		}
	}
}
