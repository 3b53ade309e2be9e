package rac_test

import (
	"bytes"
	"math/big"
	"testing"

	"kinescope/api"
	"kinescope/rac"
)

// exact is a coder of the document, whose low has no bounds.
type exact struct {
	low    *big.Int
	width  uint64
	shifts int
}

func newExact() *exact { return &exact{low: new(big.Int), width: 1<<32 - 1} }

func (e *exact) narrow(w uint64, upper bool) {
	if upper {
		e.low.Add(e.low, new(big.Int).SetUint64(w))
		e.width -= w
	} else {
		e.width = w
	}
	for e.width < 1<<24 {
		e.low.Lsh(e.low, 8)
		e.width *= 256
		e.shifts++
	}
}

// w is the width of the lower part: p is 0 for a flat bit.
func (e *exact) w(p int) uint64 {
	if p == 0 {
		return e.width / 2
	}
	return e.width / 2048 * uint64(p)
}

func (e *exact) end() []byte {
	return bytes.TrimRight(e.low.FillBytes(make([]byte, 4+e.shifts)), "\x00")
}

// number is the number that the first bytes of b are.
func (e *exact) number(b []byte) *big.Int {
	n := make([]byte, 4+e.shifts)
	copy(n, b)
	return new(big.Int).SetBytes(n)
}

func (e *exact) read(b []byte, p int) bool {
	n := e.number(b)
	upper := n.Sub(n, e.low).Cmp(new(big.Int).SetUint64(e.w(p))) >= 0
	e.narrow(e.w(p), upper)
	return upper
}

type noise uint64

func (n *noise) next(most int) int {
	*n = *n*6364136223846793005 + 1442695040888963407
	return int(uint64(*n) >> 33 % uint64(most))
}

type call struct {
	p int
	b bool
}

// calls are calls of some kind: even chances, rare bits, bits that make long carries, and flat ones.
func calls(seed, n int) []call {
	x := noise(seed)
	l := make([]call, n)
	for i := range l {
		p, b := 1+x.next(2047), x.next(2) == 1
		switch seed % 6 {
		case 1:
			p, b = 2047, x.next(50) == 0
		case 2:
			p, b = 1, true
		case 3:
			p = 0
		case 4:
			p, b = 1, x.next(300) != 0
		case 5:
			if x.next(3) == 0 {
				p = 0
			}
			b = x.next(2048) >= p
		}
		l[i] = call{p, b}
	}
	return l
}

func code(t *testing.T, e *rac.Encoder, c call) {
	t.Helper()
	if c.p == 0 {
		e.Flat(c.b)
	} else if err := e.Code(c.p, c.b); err != nil {
		t.Fatalf("P12.1: Code(%d) is %v", c.p, err)
	}
}

func read(t *testing.T, d *rac.Decoder, p int) bool {
	t.Helper()
	if p == 0 {
		return d.Flat()
	}
	b, err := d.Code(p)
	if err != nil {
		t.Fatalf("P12.2: Code(%d) is %v", p, err)
	}
	return b
}

func TestExamples(t *testing.T) {
	e := rac.NewEncoder()
	if len(e.End()) != 0 || e.Len() != 4 {
		t.Error("P12.1: a new encoder")
	}
	e.Flat(true)
	if !bytes.Equal(e.End(), []byte{0x7F, 0xFF, 0xFF, 0xFF}) {
		t.Errorf("P12.1: Flat(true) is %X", e.End())
	}
	e = rac.NewEncoder()
	e.Code(1024, false)
	e.Code(1024, true)
	if !bytes.Equal(e.End(), []byte{0x3F, 0xFF, 0xFC}) || e.Len() != 4 {
		t.Errorf("P12.1: two bits are %X", e.End())
	}
	d := rac.NewDecoder(nil)
	if d.Flat() || d.Over() != 4 {
		t.Error("P12.2: a decoder without input")
	}
}

func TestErrors(t *testing.T) {
	e, d := rac.NewEncoder(), rac.NewDecoder([]byte{0x80, 1, 2, 3})
	for _, p := range []int{0, 2048, -1, 1 << 40, -1 << 63} {
		if err := e.Code(p, true); err != error(api.ErrRange) {
			t.Errorf("P12.1: Code(%d) is %v", p, err)
		}
		if b, err := d.Code(p); b || err != error(api.ErrRange) {
			t.Errorf("P12.2: Code(%d) is %v, %v", p, b, err)
		}
	}
	if len(e.End()) > 0 || e.Len() != 4 || d.Over() != 0 {
		t.Error("P12.1, P12.2: something changed beside an error")
	}
	if e.Code(1, true) != nil || e.Code(2047, true) != nil {
		t.Error("P12.1: the least and the greatest chance")
	}
	if _, err := d.Code(2047); err != nil {
		t.Error("P12.2: the greatest chance")
	}
	if _, err := d.Code(1); err != nil {
		t.Error("P12.2: the least chance")
	}
}

func TestEncoder(t *testing.T) {
	for seed := range 60 {
		e, x := rac.NewEncoder(), newExact()
		for i, c := range calls(seed, 400) {
			code(t, e, c)
			x.narrow(x.w(c.p), c.b)
			if e.Len() != 4+x.shifts || i%7 == 0 && !bytes.Equal(e.End(), x.end()) {
				t.Fatalf("P12.1: seed %d, bit %d: %X, not %X", seed, i, e.End(), x.end())
			}
			if x.low.BitLen() > 8*e.Len() || x.width < 1<<24 || x.width >= 1<<32 {
				t.Fatal("P12.4: the low or the width")
			}
		}
		if !bytes.Equal(e.End(), x.end()) {
			t.Fatalf("P12.1: seed %d: %X, not %X", seed, e.End(), x.end())
		}
	}
}

// TestCarry finds, bit by bit, lows that end in ever longer runs of bytes 255, and then lets them carry.
func TestCarry(t *testing.T) {
	e, x := rac.NewEncoder(), newExact()
	code(t, e, call{1, true})
	x.narrow(x.w(1), true)
	run := 0
	for range 4000 {
		// The interval stays around a number that begins with 80: its low has bytes 255.
		goal := new(big.Int).Lsh(big.NewInt(1), uint(8*(4+x.shifts)-1))
		up := new(big.Int).Add(x.low, new(big.Int).SetUint64(x.w(0)))
		b := up.Cmp(goal) < 0
		code(t, e, call{0, b})
		x.narrow(x.w(0), b)
		run = 0
		for _, v := range x.end()[1:] {
			if v != 255 {
				break
			}
			run++
		}
	}
	if run < 20 || !bytes.Equal(e.End(), x.end()) {
		t.Fatalf("P12.1: a run of %d bytes 255", run)
	}
	// Now the low goes beyond the number.
	for range 5 {
		code(t, e, call{2047, true})
		x.narrow(x.w(2047), true)
	}
	if end := x.end(); !bytes.Equal(e.End(), end) || end[0] != 0x80 || end[20] != 0 {
		t.Fatalf("P12.1: a carry through a long run: %X, not %X", e.End(), end)
	}
}

// TestExactCarry: the lowest four bytes of the low become exactly 2^32.
func TestExactCarry(t *testing.T) {
	e, x := rac.NewEncoder(), newExact()
	for _, c := range []call{{2016, true}, {14, false}, {9, true}, {1, true}, {2047, false}, {5, false}, {5, false}} {
		code(t, e, c)
		x.narrow(x.w(c.p), c.b)
		if !bytes.Equal(e.End(), x.end()) {
			t.Fatalf("P12.1: %X, not %X", e.End(), x.end())
		}
	}
}

// TestLeastWidth: after eight flat bits that are true, the width is 2^24, and nothing is shifted yet.
func TestLeastWidth(t *testing.T) {
	e := rac.NewEncoder()
	in := []byte{0xFF, 0xFF, 0xFF, 0xFE}
	d, x := rac.NewDecoder(in), newExact()
	for i := range 20 {
		e.Flat(true)
		if got := d.Flat(); got != x.read(in, 0) {
			t.Fatalf("P12.2: bit %d is %v", i, got)
		}
		if e.Len() != 4+i/8 || d.Over() != x.shifts || i == 7 && x.width != 1<<24 {
			t.Fatalf("P12.1, P12.2: bit %d: Len is %d, Over is %d", i, e.Len(), d.Over())
		}
	}
}

func TestRoundTrip(t *testing.T) {
	for seed := range 60 {
		for _, n := range []int{0, 1, 2, 9, 100, 1500} {
			e, l := rac.NewEncoder(), calls(seed, n)
			for _, c := range l {
				code(t, e, c)
				if c.p%5 == 0 {
					// To end doesn't end the coding.
					e.End()
				}
			}
			b := e.End()
			d := rac.NewDecoder(b)
			for i, c := range l {
				if got := read(t, d, c.p); got != c.b {
					t.Fatalf("P12.3: seed %d, bit %d of %d", seed, i, n)
				}
			}
			if d.Over() != e.Len()-len(b) {
				t.Fatalf("P12.3: Over is %d, with %d of %d bytes", d.Over(), len(b), e.Len())
			}
		}
	}
}

// TestAnyInput reads bytes that nobody coded, those of a number beyond the interval among them.
func TestAnyInput(t *testing.T) {
	for seed := range 60 {
		x := noise(seed)
		b := make([]byte, seed/2)
		for i := range b {
			b[i] = byte(x.next(256))
			if seed%3 == 0 || i < 4 && seed%3 == 1 {
				b[i] = 255
			}
		}
		if seed%6 == 0 && len(b) > 3 {
			b[3] = 254
		}
		d, want := rac.NewDecoder(b), newExact()
		for i := range 300 {
			p := x.next(2048)
			if got := read(t, d, p); got != want.read(b, p) {
				t.Fatalf("P12.2: seed %d, bit %d is %v", seed, i, got)
			}
			if d.Over() != max(0, 4+want.shifts-len(b)) {
				t.Fatalf("P12.2: seed %d, bit %d: Over is %d", seed, i, d.Over())
			}
		}
	}
	d := rac.NewDecoder(bytes.Repeat([]byte{255}, 4))
	for i := range 100000 {
		if !read(t, d, i%2048) {
			t.Fatalf("P12.2, P12.4: bit %d of a number beyond the interval", i)
		}
	}
}

func TestNothingIsShared(t *testing.T) {
	b := []byte{0x12, 0x34, 0x56, 0x78}
	d, same := rac.NewDecoder(b), rac.NewDecoder([]byte{0x12, 0x34, 0x56, 0x78, 0x9A})
	long := []byte{1, 2, 3, 4, 5, 6, 7, 8}
	kept, other := rac.NewDecoder(long), rac.NewDecoder([]byte{1, 2, 3, 4, 5, 6, 7, 8})
	b[0], long[6] = 0xFF, 0xFF
	for i := range 24 {
		if i < 8 && read(t, d, 0) != read(t, same, 0) {
			t.Fatal("P12.2: the decoder keeps the slice")
		}
		if read(t, kept, 0) != read(t, other, 0) {
			t.Fatal("P12.2: the decoder keeps the slice")
		}
	}
	e := rac.NewEncoder()
	for range 40 {
		e.Flat(true)
	}
	end := e.End()
	copied := bytes.Clone(end)
	end[0] = 0
	_ = append(end, 1, 2, 3)
	if !bytes.Equal(e.End(), copied) {
		t.Error("P12.1: the result of End is shared")
	}
}
