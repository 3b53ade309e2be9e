package codes_test

import (
	"testing"

	"kinescope/api"
	"kinescope/bits"
	"kinescope/codes"
	"kinescope/fault"
)

const top = 1 << 30

// told returns the bits of a writer as a text.
func told(w *bits.Writer) string {
	s, r := "", bits.NewReader(w.Bytes())
	for range w.Len() {
		if b, _ := r.Flag(); b {
			s += "1"
		} else {
			s += "0"
		}
	}
	return s
}

// reader returns a reader of exactly whole bytes that begin with the bits of s.
func reader(s string) *bits.Reader {
	w := bits.NewWriter()
	for _, c := range s {
		w.Flag(c == '1')
	}
	return bits.NewReader(w.Bytes())
}

func repeat(s string, n int) string {
	all := ""
	for range n {
		all += s
	}
	return all
}

func TestFold(t *testing.T) {
	const far = 1 << 61
	for u, v := range []int{0, 1, -1, 2, -2, 3, -3} {
		if codes.Fold(v) != u || codes.Unfold(u) != v {
			t.Errorf("P3.1: Fold(%d) is %d, Unfold(%d) is %d", v, codes.Fold(v), u, codes.Unfold(u))
		}
	}
	for _, c := range []struct{ v, u int }{
		{far, 2*far - 1}, {-far, 2 * far}, {far + 1, 0}, {-far - 1, 0}, {1<<63 - 1, 0}, {-1 << 63, 0}, {far - 1, 2*far - 3},
	} {
		if codes.Fold(c.v) != c.u {
			t.Errorf("P3.1: Fold(%d) is %d", c.v, codes.Fold(c.v))
		}
	}
	for _, c := range []struct{ u, v int }{
		{2*far - 1, far}, {2 * far, -far}, {2*far + 1, 0}, {2*far + 2, 0}, {1<<63 - 1, 0}, {1<<63 - 2, 0}, {-1, 0}, {-2, 0}, {-1 << 63, 0},
	} {
		if codes.Unfold(c.u) != c.v {
			t.Errorf("P3.1: Unfold(%d) is %d", c.u, codes.Unfold(c.u))
		}
	}
}

func TestPut(t *testing.T) {
	for i, c := range []struct {
		put  func(w *bits.Writer) error
		want string
	}{
		{func(w *bits.Writer) error { return codes.PutUe(w, 0) }, "1"},
		{func(w *bits.Writer) error { return codes.PutUe(w, 1) }, "010"},
		{func(w *bits.Writer) error { return codes.PutUe(w, 2) }, "011"},
		{func(w *bits.Writer) error { return codes.PutUe(w, 6) }, "00111"},
		{func(w *bits.Writer) error { return codes.PutUe(w, 7) }, "0001000"},
		{func(w *bits.Writer) error { return codes.PutUe(w, top) }, repeat("0", 30) + "1" + repeat("0", 29) + "1"},
		{func(w *bits.Writer) error { return codes.PutSe(w, 0) }, "1"},
		{func(w *bits.Writer) error { return codes.PutSe(w, 1) }, "010"},
		{func(w *bits.Writer) error { return codes.PutSe(w, -1) }, "011"},
		{func(w *bits.Writer) error { return codes.PutSe(w, -3) }, "00111"},
		{func(w *bits.Writer) error { return codes.PutSe(w, 1<<29) }, repeat("0", 30) + "1" + repeat("0", 30)},
		{func(w *bits.Writer) error { return codes.PutSe(w, -1<<29) }, repeat("0", 30) + "1" + repeat("0", 29) + "1"},
		{func(w *bits.Writer) error { return codes.PutRice(w, 9, 2) }, "11001"},
		{func(w *bits.Writer) error { return codes.PutRice(w, 0, 0) }, "0"},
		{func(w *bits.Writer) error { return codes.PutRice(w, 23, 0) }, repeat("1", 23) + "0"},
		{func(w *bits.Writer) error { return codes.PutRice(w, 24, 0) }, repeat("1", 24) + repeat("0", 26) + "11000"},
		{func(w *bits.Writer) error { return codes.PutRice(w, 1<<15-1, 15) }, "0" + repeat("1", 15)},
		{func(w *bits.Writer) error { return codes.PutRice(w, top, 15) }, repeat("1", 24) + "1" + repeat("0", 30)},
	} {
		w := bits.NewWriter()
		if err := c.put(w); err != nil || told(w) != c.want {
			t.Errorf("P3.2: case %d: %s, %v", i, told(w), err)
		}
	}
}

func TestPutErrors(t *testing.T) {
	w := bits.NewWriter()
	for i, err := range []error{
		codes.PutUe(w, -1), codes.PutUe(w, top+1), codes.PutUe(w, 1<<63-1), codes.PutUe(w, -1<<63),
		codes.PutSe(w, 1<<29+1), codes.PutSe(w, -1<<29-1), codes.PutSe(w, -1<<63),
		codes.PutRice(w, -1, 0), codes.PutRice(w, top+1, 15), codes.PutRice(w, 0, -1), codes.PutRice(w, 0, 16), codes.PutRice(w, 0, 64),
	} {
		if err != error(api.ErrRange) {
			t.Errorf("P3.2: case %d: %v", i, err)
		}
	}
	if w.Len() != 0 {
		t.Error("P3.2: something was written beside an error")
	}
}

func TestGetUe(t *testing.T) {
	for i, c := range []struct {
		in    string
		most  int
		want  int
		text  string
		place int
	}{
		{"00111000", 6, 6, "", 5},
		{"00111000", 5, 0, "codes 5: code 3", 5},
		{"10000000", 0, 0, "", 1},
		{"10000000", -1, 0, "codes 1: code 3", 1},
		{"", 9, 0, "bits 0: code 1", 0},
		{"00000000", 9, 0, "bits 8: code 1", 8},
		{"00000100", 9, 0, "bits 6: code 1", 6},
		{repeat("0", 31) + "1", 1 << 40, 0, "codes 31: code 3", 31},
		{repeat("0", 30) + "1" + repeat("0", 29) + "1000", 1 << 40, top, "", 61},
		{repeat("0", 30) + "1" + repeat("0", 28) + "10000", 1 << 40, 0, "codes 61: code 3", 61},
		{repeat("0", 30) + "1" + repeat("1", 30) + "000", 1 << 40, 0, "codes 61: code 3", 61},
	} {
		r := reader(c.in)
		v, err := codes.GetUe(r, c.most)
		if v != c.want || fault.Text(err) != c.text || r.Place() != c.place {
			t.Errorf("P3.3: case %d: %d, %q, at %d", i, v, fault.Text(err), r.Place())
		}
	}
}

func TestGetSe(t *testing.T) {
	for i, c := range []struct {
		in    string
		most  int
		want  int
		text  string
		place int
	}{
		{"00111000", 3, -3, "", 5},
		{"00111000", 2, 0, "codes 5: code 3", 5},
		{"00110000", 3, 3, "", 5},
		{"00110000", 2, 0, "codes 5: code 3", 5},
		{"10000000", -1, 0, "codes 1: code 3", 1},
		{"00000100", 9, 0, "bits 6: code 1", 6},
		{repeat("0", 32), 1 << 40, 0, "codes 31: code 3", 31},
		{repeat("0", 30) + "1" + repeat("0", 29) + "1000", 1 << 40, -1 << 29, "", 61},
		{repeat("0", 30) + "1" + repeat("0", 28) + "10000", 1 << 40, 0, "codes 61: code 3", 61},
		{repeat("0", 30) + "1" + repeat("0", 30) + "000", 1 << 40, 1 << 29, "", 61},
	} {
		r := reader(c.in)
		v, err := codes.GetSe(r, c.most)
		if v != c.want || fault.Text(err) != c.text || r.Place() != c.place {
			t.Errorf("P3.3: case %d: %d, %q, at %d", i, v, fault.Text(err), r.Place())
		}
	}
}

func TestGetRice(t *testing.T) {
	ones := repeat("1", 24)
	for i, c := range []struct {
		in      string
		k, most int
		want    int
		text    string
		place   int
	}{
		{"11001000", 2, 9, 9, "", 5},
		{"11001000", 2, 8, 0, "codes 5: code 3", 5},
		{"11001000", -1, 9, 0, "code 3", 0},
		{"11001000", 16, 9, 0, "code 3", 0},
		{"11001000", 0, 2, 2, "", 3},
		{"11111111", 0, 99, 0, "bits 8: code 1", 8},
		{"11111100", 3, 99, 0, "bits 7: code 1", 7},
		{ones, 3, 99, 0, "bits 24: code 1", 24},
		{ones + repeat("0", 26) + "11000" + "0", 0, 24, 24, "", 55},
		{ones + repeat("0", 26) + "10111" + "0", 0, 24, 0, "codes 55: code 3", 55},
		{ones + repeat("0", 25) + "101111" + "0", 1, 99, 0, "codes 55: code 3", 55},
		{ones + repeat("0", 25) + "110000" + "0", 1, 99, 48, "", 55},
		{ones + "1" + repeat("0", 30) + "0", 15, 1 << 40, top, "", 55},
		{ones + "1" + repeat("0", 29) + "10", 15, 1 << 40, 0, "codes 55: code 3", 55},
		{repeat("1", 23) + "0", 0, 23, 23, "", 24},
		{repeat("1", 23) + "0" + repeat("1", 15) + "0", 15, 1 << 40, 24<<15 - 1, "", 39},
		{"00000000", 0, -1, 0, "codes 1: code 3", 1},
	} {
		r := reader(c.in)
		v, err := codes.GetRice(r, c.k, c.most)
		if v != c.want || fault.Text(err) != c.text || r.Place() != c.place {
			t.Errorf("P3.3: case %d: %d, %q, at %d", i, v, fault.Text(err), r.Place())
		}
	}
}

func TestSizes(t *testing.T) {
	for i, c := range []struct{ got, want int }{
		{codes.SizeUe(0), 1}, {codes.SizeUe(1), 3}, {codes.SizeUe(2), 3}, {codes.SizeUe(3), 5}, {codes.SizeUe(top), 61},
		{codes.SizeUe(top - 2), 59}, {codes.SizeUe(-1), 0}, {codes.SizeUe(top + 1), 0}, {codes.SizeUe(1<<63 - 1), 0},
		{codes.SizeRice(9, 2), 5}, {codes.SizeRice(0, 0), 1}, {codes.SizeRice(23, 0), 24}, {codes.SizeRice(24, 0), 55},
		{codes.SizeRice(24<<15-1, 15), 39}, {codes.SizeRice(24<<15, 15), 55}, {codes.SizeRice(top, 15), 55},
		{codes.SizeRice(-1, 0), 0}, {codes.SizeRice(top+1, 0), 0}, {codes.SizeRice(0, -1), 0}, {codes.SizeRice(0, 16), 0},
	} {
		if c.got != c.want {
			t.Errorf("P3.4: case %d: %d, not %d", i, c.got, c.want)
		}
	}
}

// numbers are small ones, and the neighbours of the powers of two.
func numbers() []int {
	var all []int
	for v := range 600 {
		all = append(all, v)
	}
	for n := 10; n <= 30; n++ {
		all = append(all, 1<<n-2, 1<<n-1, 1<<n)
	}
	return all
}

func TestRoundTrip(t *testing.T) {
	for _, v := range numbers() {
		w := bits.NewWriter()
		codes.PutUe(w, v)
		if w.Len() != codes.SizeUe(v) {
			t.Fatalf("P3.5: SizeUe(%d)", v)
		}
		if got, err := codes.GetUe(bits.NewReader(w.Bytes()), v); got != v || err != nil {
			t.Fatalf("P3.5: Ue of %d is %d, %v", v, got, err)
		}
		for k := range 16 {
			w := bits.NewWriter()
			codes.PutRice(w, v, k)
			if w.Len() != codes.SizeRice(v, k) {
				t.Fatalf("P3.5: SizeRice(%d, %d)", v, k)
			}
			if got, err := codes.GetRice(bits.NewReader(w.Bytes()), k, v); got != v || err != nil {
				t.Fatalf("P3.5: Rice of %d, %d is %d, %v", v, k, got, err)
			}
		}
		for _, s := range []int{v / 2, -v / 2} {
			w := bits.NewWriter()
			codes.PutSe(w, s)
			if got, err := codes.GetSe(bits.NewReader(w.Bytes()), v/2); got != s || err != nil {
				t.Fatalf("P3.5: Se of %d is %d, %v", s, got, err)
			}
		}
	}
	for n := range 62 {
		for _, v := range []int{1 << n, 1<<n - 1, -1 << n} {
			if codes.Unfold(codes.Fold(v)) != v {
				t.Errorf("P3.5: Unfold(Fold(%d))", v)
			}
		}
	}
}

// TestOneCode reads all strings of 16 bits: what is read twice was read from the same bits.
func TestOneCode(t *testing.T) {
	for k := -1; k < 4; k++ {
		var seen [1 << 16]string
		for x := range 1 << 16 {
			b := []byte{byte(x >> 8), byte(x)}
			r := bits.NewReader(b)
			var v int
			var err error
			if k < 0 {
				v, err = codes.GetUe(r, 1<<16-1)
			} else {
				v, err = codes.GetRice(r, k, 1<<16-1)
			}
			if err != nil {
				continue
			}
			code := told16(x)[:r.Place()]
			if seen[v] != "" && seen[v] != code {
				t.Fatalf("P3.6: %d is read from %s and %s", v, seen[v], code)
			}
			seen[v] = code
		}
	}
}

func told16(x int) string {
	w := bits.NewWriter()
	w.Put(x, 16)
	return told(w)
}
