package coef_test

import (
	"slices"
	"strconv"
	"testing"

	"kinescope/api"
	"kinescope/block"
	"kinescope/coef"
	"kinescope/fault"
	"kinescope/model"
)

type noise uint64

func (n *noise) next(most int) int {
	*n = *n*6364136223846793005 + 1442695040888963407
	return int(uint64(*n) >> 33 % uint64(most))
}

// teller is a coder that tells the calls, and answers what it is told to; beyond that, what it is given.
type teller struct {
	calls   []string
	answers []bool
}

func (c *teller) answer(call string, b bool) bool {
	if b {
		call += "+"
	} else {
		call += "-"
	}
	c.calls = append(c.calls, call)
	if len(c.answers) > 0 {
		b = c.answers[0]
		c.answers = c.answers[1:]
	}
	return b
}

func (c *teller) Bit(ctx int, b bool) bool { return c.answer(strconv.Itoa(ctx), b) }
func (c *teller) Flat(b bool) bool         { return c.answer("f", b) }

func bit(ctx int, b bool) string {
	if b {
		return strconv.Itoa(ctx) + "+"
	}
	return strconv.Itoa(ctx) + "-"
}

func flat(b bool) string { return "f" + bit(0, b)[1:] }

// calls are the calls that the document says for these levels.
func calls(l []int) []string {
	n, B := 4, 14
	if len(l) == 64 {
		n, B = 8, 39
	}
	some := !block.Zero(l)
	all := []string{bit(B, some)}
	if !some {
		return all
	}
	order := block.Order(n)
	for i, at := range order {
		if i < len(l)-1 {
			all = append(all, bit(B+1+min(i, 7), l[at] != 0))
			if l[at] == 0 {
				continue
			}
		}
		all = append(all, flat(l[at] < 0))
		s := max(l[at], -l[at]) - 1
		j := 0
		for ; j < 14; j++ {
			all = append(all, bit(B+17+min(j, 7), s > j))
			if s <= j {
				break
			}
		}
		if j == 14 {
			u := strconv.FormatInt(int64(s-13), 2)
			for range len(u) - 1 {
				all = append(all, flat(true))
			}
			if len(u) < 14 {
				all = append(all, flat(false))
			}
			for _, c := range u[1:] {
				all = append(all, flat(c == '1'))
			}
		}
		if i < len(l)-1 {
			last := true
			for _, k := range order[i+1:] {
				last = last && l[k] == 0
			}
			all = append(all, bit(B+9+min(i, 7), last))
			if last {
				break
			}
		}
	}
	return all
}

func side(n int) int {
	if n == 16 {
		return 4
	}
	return 8
}

// blocks are blocks of levels: one level at each place and of each size, few and many of them.
func blocks(n int) [][]int {
	all := [][]int{make([]int, n)}
	for _, size := range []int{1, 2, 7, 8, 13, 14, 15, 16, 17, 18, 29, 30, 255, 4109, 4110, 8204, 8205, 16319, 16320} {
		for _, at := range []int{0, n - 1, size % n} {
			b := make([]int, n)
			b[at] = size
			all = append(all, b)
			b = slices.Clone(b)
			b[at] = -size
			all = append(all, b)
		}
	}
	order := block.Order(side(n))
	for last := range n {
		// All levels up to one place, and only the first one and that one.
		whole, ends := make([]int, n), make([]int, n)
		for _, at := range order[:last+1] {
			whole[at] = 1
		}
		ends[order[0]], ends[order[last]] = 3, -2
		all = append(all, whole, ends)
	}
	x := noise(n)
	for seed := range 60 {
		b := make([]int, n)
		for i := range b {
			if x.next(10) <= seed%10 {
				b[i] = x.next(seed*seed+2) - x.next(20)
			}
		}
		all = append(all, b)
	}
	return append(all, slices.Repeat([]int{16320}, n), slices.Repeat([]int{-16320}, n))
}

func TestBase(t *testing.T) {
	for n, want := range map[int]int{4: 14, 8: 39, 0: 0, 16: 0, 64: 0, -4: 0, 5: 0, -1 << 63: 0} {
		if coef.Base(n) != want {
			t.Errorf("P14.1: Base(%d) is %d", n, coef.Base(n))
		}
	}
}

func TestExamples(t *testing.T) {
	w := model.NewWriter()
	if l, err := coef.Code(w, make([]int, 16)); err != nil || !slices.Equal(l, make([]int, 16)) || len(w.End()) > 0 {
		t.Errorf("P14.2: %v, %v, %X", l, err, w.End())
	}
	if l, err := coef.Code(model.NewReader(nil), slices.Repeat([]int{9}, 64)); err != nil || !slices.Equal(l, make([]int, 64)) {
		t.Errorf("P14.2: a reader of no bytes: %v, %v", l, err)
	}
}

func TestErrors(t *testing.T) {
	for _, n := range []int{0, 1, 3, 15, 17, 63, 65, 256} {
		c := &teller{}
		if l, err := coef.Code(c, slices.Repeat([]int{99999}, n)); err != error(api.ErrFit) || len(l) > 0 || len(c.calls) > 0 {
			t.Errorf("P14.2: %d numbers: %v", n, err)
		}
	}
	for _, v := range []int{16321, -16321, 1<<63 - 1, -1 << 63} {
		for _, n := range []int{16, 64} {
			for _, at := range []int{0, n - 1} {
				b := make([]int, n)
				b[at] = v
				c := &teller{}
				if l, err := coef.Code(c, b); err != error(api.ErrRange) || len(l) > 0 || len(c.calls) > 0 {
					t.Errorf("P14.2: a level %d: %v", v, err)
				}
				if l, err := coef.Code(model.NewReader(nil), b); err != error(api.ErrRange) || len(l) > 0 {
					t.Errorf("P14.2: a level %d with a reader: %v", v, err)
				}
			}
		}
	}
}

func TestCalls(t *testing.T) {
	for _, n := range []int{16, 64} {
		for i, b := range blocks(n) {
			c := &teller{}
			before := slices.Clone(b)
			got, err := coef.Code(c, b)
			if err != nil || !slices.Equal(got, b) {
				t.Fatalf("P14.2: block %d of %d: %v, %v", i, n, got, err)
			}
			if !slices.Equal(c.calls, calls(b)) {
				t.Fatalf("P14.2: block %d of %d: %v, not %v", i, n, c.calls, calls(b))
			}
			if i == 0 && len(c.calls) != 1 {
				t.Error("P14.5: a block without a level takes one bit")
			}
			got[n-1]++
			if !slices.Equal(b, before) {
				t.Fatal("P14.3: the result is shared with the argument, or this is changed")
			}
		}
	}
}

func TestRoundTrip(t *testing.T) {
	w := model.NewWriter()
	var all [][]int
	for i, b := range blocks(16) {
		all = append(all, b, blocks(64)[i])
	}
	for _, b := range all {
		if _, err := coef.Code(w, b); err != nil {
			t.Fatal(err)
		}
	}
	r := model.NewReader(w.End())
	for i, b := range all {
		got, err := coef.Code(r, slices.Repeat([]int{i % 3}, len(b)))
		if err != nil || !slices.Equal(got, b) {
			t.Fatalf("P14.4: block %d: %v, not %v (%v)", i, got, b, err)
		}
	}
}

// coded returns the bytes of a level of any size at a place of the order, after levels 1.
func coded(B, n, place, size int) []byte {
	w := model.NewWriter()
	w.Bit(B, true)
	for i := 0; ; i++ {
		s := 0
		if i == place {
			s = size - 1
		}
		if i < n-1 {
			w.Bit(B+1+min(i, 7), true)
		}
		w.Flat(i%2 == 0)
		for j := 0; j < 14 && w.Bit(B+17+min(j, 7), s > j); j++ {
		}
		if s >= 14 {
			u := strconv.FormatInt(int64(s-13), 2)
			for range len(u) - 1 {
				w.Flat(true)
			}
			if len(u) < 14 {
				w.Flat(false)
			}
			for _, c := range u[1:] {
				w.Flat(c == '1')
			}
		}
		if i == place {
			break
		}
		w.Bit(B+9+min(i, 7), false)
	}
	return w.End()
}

func TestTooGreat(t *testing.T) {
	for _, n := range []int{16, 64} {
		B := map[int]int{16: 14, 64: 39}[n]
		for _, place := range []int{0, 1, 9, n - 2, n - 1} {
			for _, size := range []int{16320, 16321, 16397} {
				l, err := coef.Code(model.NewReader(coded(B, n, place, size)), make([]int, n))
				if size == 16320 && (err != nil || len(l) != n) {
					t.Errorf("P14.2: size %d: %v", size, err)
				}
				if want := "coef " + strconv.Itoa(place) + ": code 3"; size > 16320 && (fault.Text(err) != want || len(l) > 0) {
					t.Errorf("P14.2: size %d at %d: %s", size, place, fault.Text(err))
				}
			}
		}
	}
}

func TestAnswersDecide(t *testing.T) {
	c := &teller{answers: []bool{true, false, true, true, false, true}}
	got, err := coef.Code(c, make([]int, 16))
	want := make([]int, 16)
	want[1] = -1
	if err != nil || !slices.Equal(got, want) || !slices.Equal(c.calls, []string{"14-", "15-", "16-", "f-", "31-", "24+"}) {
		t.Errorf("P14.2: %v, %v, by %v", got, err, c.calls)
	}
	// A coder that says that there are levels where there are none: what it answers counts.
	c = &teller{answers: slices.Concat([]bool{true}, slices.Repeat([]bool{false}, 15), []bool{true, false})}
	got, err = coef.Code(c, make([]int, 16))
	want = make([]int, 16)
	want[15] = -1
	if err != nil || !slices.Equal(got, want) || len(c.calls) != 18 || c.calls[16] != "f-" || c.calls[17] != "31-" {
		t.Errorf("P14.2: %v, %v, by %v", got, err, c.calls)
	}
	c = &teller{answers: []bool{false}}
	if got, err := coef.Code(c, slices.Repeat([]int{5}, 64)); err != nil || !block.Zero(got) || len(c.calls) != 1 {
		t.Errorf("P14.2: %v, %v, by %v", got, err, c.calls)
	}
}

func TestAnyInput(t *testing.T) {
	for seed := range 400 {
		x := noise(seed)
		in := make([]byte, seed%60)
		for i := range in {
			in[i] = byte(x.next(256)) | byte(seed%4*85)
		}
		r := model.NewReader(in)
		for i := range 20 {
			n := 16 + i%2*48
			l, err := coef.Code(r, make([]int, n))
			if err != nil {
				if fault.Of(err) != api.ErrRange || len(fault.Path(err)) != 1 || len(l) > 0 {
					t.Fatalf("P14.5: %s", fault.Text(err))
				}
				break
			}
			if len(l) != n || slices.Min(l) < -16320 || slices.Max(l) > 16320 {
				t.Fatalf("P14.5: %v", l)
			}
		}
	}
}
