package model_test

import (
	"bytes"
	"slices"
	"strconv"
	"testing"

	"kinescope/model"
	"kinescope/rac"
)

type noise uint64

func (n *noise) next(most int) int {
	*n = *n*6364136223846793005 + 1442695040888963407
	return int(uint64(*n) >> 33 % uint64(most))
}

// teller is a coder that tells the calls, and answers what it is told to; beyond that, what it is given.
type teller struct {
	calls   []string
	answers []bool
}

func (c *teller) answer(call string, b bool) bool {
	if b {
		call += "+"
	} else {
		call += "-"
	}
	c.calls = append(c.calls, call)
	if len(c.answers) > 0 {
		b = c.answers[0]
		c.answers = c.answers[1:]
	}
	return b
}

func (c *teller) Bit(ctx int, b bool) bool { return c.answer(strconv.Itoa(ctx), b) }
func (c *teller) Flat(b bool) bool         { return c.answer("f", b) }

func TestExamples(t *testing.T) {
	w := model.NewWriter()
	if w.Bit(0, false) || w.Chance(0) != 1056 || !w.Bit(0, true) || w.Chance(0) != 1023 {
		t.Errorf("P13.1: the chance is %d", w.Chance(0))
	}
	if model.Kind(w, 7) != 3 || model.Mode(w, -1) != 0 || model.Part(w, -20) != -15 {
		t.Error("P13.3: the examples")
	}
	r := model.NewReader(nil)
	if model.Kind(r, 3) != 0 || model.Part(r, 9) != 0 || r.Over() != 4 {
		t.Error("P13.2, P13.3: a reader of no bytes")
	}
}

func TestChances(t *testing.T) {
	w := model.NewWriter()
	for ctx := -3; ctx < 70; ctx++ {
		want := 1024
		if ctx < 0 || ctx > 63 {
			want = 0
		}
		if w.Chance(ctx) != want || model.NewReader(nil).Chance(ctx) != want {
			t.Errorf("P13.1: the chance of %d", ctx)
		}
	}
	for _, ctx := range []int{0, 17, 63} {
		p := 1024
		for i := range 600 {
			b := i < 300
			w.Bit(ctx, b)
			if b {
				p -= p / 32
			} else {
				p += (2048 - p) / 32
			}
			if w.Chance(ctx) != p {
				t.Fatalf("P13.1: after bit %d the chance is %d", i, w.Chance(ctx))
			}
			if i == 299 && p != 31 || i == 599 && p != 2017 {
				t.Fatalf("P13.5: the chance is %d", p)
			}
		}
	}
	if w.Chance(1) != 1024 || w.Chance(62) != 1024 {
		t.Error("P13.1: a context learns from another one")
	}
}

// TestWriter holds the writer against a rac.Encoder that gets the chances.
func TestWriter(t *testing.T) {
	for seed := range 20 {
		x := noise(seed)
		w, e := model.NewWriter(), rac.NewEncoder()
		for range 500 {
			ctx, b := x.next(70)-3, x.next(5) == 0
			if x.next(4) == 0 {
				w.Flat(b)
				e.Flat(b)
				continue
			}
			if p := w.Chance(ctx); p > 0 {
				e.Code(p, b)
			} else {
				e.Flat(b)
			}
			if w.Bit(ctx, b) != b {
				t.Fatal("P13.1: Bit returns another bit")
			}
		}
		if w.Flat(true) != true || w.Flat(false) != false {
			t.Fatal("P13.1: Flat returns another bit")
		}
		e.Flat(true)
		e.Flat(false)
		if !bytes.Equal(w.End(), e.End()) {
			t.Fatalf("P13.1: seed %d: End is %X", seed, w.End())
		}
	}
}

// TestReader holds the reader against a rac.Decoder that gets the chances, for any bytes.
func TestReader(t *testing.T) {
	for seed := range 30 {
		x := noise(seed)
		in := make([]byte, x.next(40))
		for i := range in {
			in[i] = byte(x.next(256))
			if seed%5 == 0 {
				in[i] = 255
			}
		}
		r, d := model.NewReader(in), rac.NewDecoder(bytes.Clone(in))
		// The reader keeps a copy.
		clear(in)
		for i := range 400 {
			ctx, b := x.next(70)-3, x.next(2) == 0
			p := r.Chance(ctx)
			if p > 0 && (p < 31 || p > 2017) {
				t.Fatalf("P13.5: the chance is %d", p)
			}
			if x.next(4) == 0 {
				if r.Flat(b) != d.Flat() {
					t.Fatalf("P13.2: bit %d", i)
				}
				continue
			}
			want := false
			if p > 0 {
				want, _ = d.Code(p)
			} else {
				want = d.Flat()
			}
			if r.Bit(ctx, b) != want {
				t.Fatalf("P13.2: bit %d", i)
			}
			if p > 0 && want {
				p -= p / 32
			} else if p > 0 {
				p += (2048 - p) / 32
			}
			if r.Chance(ctx) != p || r.Over() != d.Over() {
				t.Fatalf("P13.2: bit %d: the chance is %d, not %d", i, r.Chance(ctx), p)
			}
		}
	}
}

func TestCalls(t *testing.T) {
	kind := func(v int) func(c model.Coder) int { return func(c model.Coder) int { return model.Kind(c, v) } }
	mode := func(v int) func(c model.Coder) int { return func(c model.Coder) int { return model.Mode(c, v) } }
	part := func(v int) func(c model.Coder) int { return func(c model.Coder) int { return model.Part(c, v) } }
	all := []string{"7+", "8+", "9+", "10+", "11+", "12+", "13+", "13+", "13+", "13+", "13+", "13+", "13+", "13+"}
	for i, c := range []struct {
		f     func(c model.Coder) int
		want  int
		calls []string
	}{
		{kind(0), 0, []string{"0-"}}, {kind(-5), 0, []string{"0-"}}, {kind(1), 1, []string{"0+", "1-"}},
		{kind(2), 2, []string{"0+", "1+", "2-"}}, {kind(3), 3, []string{"0+", "1+", "2+"}}, {kind(1 << 40), 3, []string{"0+", "1+", "2+"}},
		{mode(0), 0, []string{"3-", "4-"}}, {mode(1), 1, []string{"3-", "4+"}}, {mode(2), 2, []string{"3+", "5-"}}, {mode(3), 3, []string{"3+", "5+"}},
		{mode(-1), 0, []string{"3-", "4-"}}, {mode(4), 3, []string{"3+", "5+"}}, {mode(-1 << 63), 0, []string{"3-", "4-"}},
		{part(0), 0, []string{"6-"}}, {part(1), 1, []string{"6+", "f-", "7-"}}, {part(-1), -1, []string{"6+", "f+", "7-"}},
		{part(-3), -3, []string{"6+", "f+", "7+", "8+", "9-"}},
		{part(8), 8, append([]string{"6+", "f-"}, append(slices.Clone(all[:7]), "13-")...)},
		{part(14), 14, append([]string{"6+", "f-"}, append(slices.Clone(all[:13]), "13-")...)},
		{part(15), 15, append([]string{"6+", "f-"}, all...)}, {part(-16), -15, append([]string{"6+", "f+"}, all...)},
		{part(1<<63 - 1), 15, append([]string{"6+", "f-"}, all...)}, {part(-1 << 63), -15, append([]string{"6+", "f+"}, all...)},
	} {
		c0 := &teller{}
		if got := c.f(c0); got != c.want || !slices.Equal(c0.calls, c.calls) {
			t.Errorf("P13.3: case %d: %d, by %v", i, got, c0.calls)
		}
	}
}

func TestAnswersDecide(t *testing.T) {
	kind := func(v int) func(c model.Coder) int { return func(c model.Coder) int { return model.Kind(c, v) } }
	mode := func(v int) func(c model.Coder) int { return func(c model.Coder) int { return model.Mode(c, v) } }
	part := func(v int) func(c model.Coder) int { return func(c model.Coder) int { return model.Part(c, v) } }
	for i, c := range []struct {
		f       func(c model.Coder) int
		answers []bool
		want    int
		calls   []string
	}{
		{kind(3), []bool{false}, 0, []string{"0+"}}, {kind(0), []bool{true, true, true}, 3, []string{"0-", "1-", "2-"}},
		{kind(1), []bool{true, true, false}, 2, []string{"0+", "1-", "2-"}}, {kind(3), []bool{true, false}, 1, []string{"0+", "1+"}},
		{mode(0), []bool{true, true}, 3, []string{"3-", "5-"}}, {mode(3), []bool{false, false}, 0, []string{"3+", "4+"}},
		{mode(3), []bool{false, true}, 1, []string{"3+", "4+"}}, {mode(1), []bool{true, false}, 2, []string{"3-", "5+"}},
		{part(9), []bool{false}, 0, []string{"6+"}}, {part(-9), []bool{true, false, true, false}, 2, []string{"6+", "f+", "7+", "8+"}},
		{part(2), []bool{true, true, true, true, true, false}, -4, []string{"6+", "f-", "7+", "8-", "9-", "10-"}},
		{part(1), []bool{true, true, false}, -1, []string{"6+", "f-", "7-"}},
		{part(0), []bool{true, false, false}, 1, []string{"6-", "f-", "7-"}},
		{part(0), []bool{true, true, true, false}, -2, []string{"6-", "f-", "7-", "8-"}},
	} {
		c0 := &teller{answers: c.answers}
		if got := c.f(c0); got != c.want || !slices.Equal(c0.calls, c.calls) {
			t.Errorf("P13.3: case %d: %d, by %v", i, got, c0.calls)
		}
	}
}

// play makes calls of all kinds, and returns what they return.
func play(c model.Coder, seed int, reads bool) []int {
	x := noise(seed)
	var got []int
	told := func(b bool) int {
		if b {
			return 1
		}
		return 0
	}
	for range 400 {
		what, v := x.next(5), x.next(41)-20
		if reads {
			v = -v / 2
		}
		switch what {
		case 0:
			got = append(got, told(c.Bit(seed%80, v > 10)))
		case 1:
			got = append(got, told(c.Flat(v > 0)))
		case 2:
			got = append(got, model.Kind(c, v))
		case 3:
			got = append(got, model.Mode(c, v))
		case 4:
			got = append(got, model.Part(c, v))
		}
	}
	return got
}

func TestRoundTrip(t *testing.T) {
	for seed := range 90 {
		w := model.NewWriter()
		want := play(w, seed, false)
		r := model.NewReader(w.End())
		if got := play(r, seed, true); !slices.Equal(got, want) {
			t.Fatalf("P13.4: seed %d: %v, not %v", seed, got, want)
		}
		for ctx := range 64 {
			if r.Chance(ctx) != w.Chance(ctx) {
				t.Fatalf("P13.4: seed %d: the chances differ", seed)
			}
		}
	}
}

func TestAnyInput(t *testing.T) {
	for seed := range 200 {
		x := noise(seed)
		in := make([]byte, seed%30)
		for i := range in {
			in[i] = byte(x.next(256)) | byte(seed%3*127)
		}
		r := model.NewReader(in)
		for range 100 {
			if k := model.Kind(r, x.next(9)); k < 0 || k > 3 {
				t.Fatalf("P13.5: a kind %d", k)
			}
			if m := model.Mode(r, x.next(9)); m < 0 || m > 3 {
				t.Fatalf("P13.5: a mode %d", m)
			}
			if p := model.Part(r, x.next(9)); p < -15 || p > 15 {
				t.Fatalf("P13.5: a part %d", p)
			}
		}
	}
}
