package source_test

import (
	"bytes"
	"errors"
	"slices"
	"strings"
	"testing"

	"kinescope/api"
	"kinescope/bits"
	"kinescope/codes"
	"kinescope/fault"
	"kinescope/plane"
	"kinescope/source"
)

type noise uint64

func (n *noise) next(most int) int {
	*n = *n*6364136223846793005 + 1442695040888963407
	return int(uint64(*n) >> 33 % uint64(most))
}

// frame returns a frame whose samples jump by up to most.
func frame(w, h, most, seed int) api.Frame {
	x, v := noise(seed), seed%256
	f := api.Frame{W: w, H: h}
	for range w * h {
		v = (v + x.next(2*most+1) - most + 256) % 256
		f.Pix = append(f.Pix, v)
	}
	return f
}

func flat(w, h, v int) api.Frame {
	f, _ := plane.New(w, h, v)
	return f
}

func same(a, b []api.Frame) bool { return slices.EqualFunc(a, b, plane.Same) }

// guess is Guess within a valid frame, as the document says it.
func guess(f api.Frame, x, y int) int {
	at := func(x, y int) int { return f.Pix[y*f.W+x] }
	switch {
	case x == 0 && y == 0:
		return 128
	case y == 0:
		return at(x-1, y)
	case x == 0:
		return at(x, y-1)
	}
	return plane.Clip(at(x-1, y) + at(x, y-1) - at(x-1, y-1))
}

// frameBits writes a frame with a k, whichever it is.
func frameBits(w *bits.Writer, f api.Frame, k int) {
	w.Put(k, 3)
	for y := range f.H {
		for x := range f.W {
			codes.PutRice(w, codes.Fold(f.Pix[y*f.W+x]-guess(f, x, y)), k)
		}
	}
}

// encoding is the encoding of the document, with the best k of each frame.
func encoding(l []api.Frame) []byte {
	all := bits.NewWriter()
	for _, f := range l {
		best, least := 0, 0
		for k := range 8 {
			w := bits.NewWriter()
			frameBits(w, f, k)
			if k == 0 || w.Len() < least {
				best, least = k, w.Len()
			}
		}
		frameBits(all, f, best)
	}
	return append([]byte{'K', 'S', byte(l[0].W / 8), byte(l[0].H / 8), byte(len(l))}, all.Bytes()...)
}

func TestGuess(t *testing.T) {
	f := frame(16, 8, 99, 1)
	for y := -2; y < 10; y++ {
		for x := -2; x < 18; x++ {
			want := 0
			if x >= 0 && x < 16 && y >= 0 && y < 8 {
				want = guess(f, x, y)
			}
			if got := source.Guess(f, x, y); got != want {
				t.Fatalf("P15.1: Guess at %d, %d is %d, not %d", x, y, got, want)
			}
		}
	}
	if source.Guess(f, 1<<63-1, 0) != 0 || source.Guess(f, 0, -1<<63) != 0 || source.Guess(api.Frame{}, 0, 0) != 0 {
		t.Error("P15.1: Guess of a position or of a frame that is none")
	}
	f.Pix[127] = 256
	if source.Guess(f, 0, 0) != 0 {
		t.Error("P15.1: Guess of a frame that is not valid")
	}
}

func TestEncode(t *testing.T) {
	b, err := source.Encode([]api.Frame{flat(8, 8, 128)})
	if want := append([]byte{0x4B, 0x53, 1, 1, 1}, make([]byte, 9)...); err != nil || !bytes.Equal(b, want) {
		t.Errorf("P15.1: %X, %v", b, err)
	}
	for seed := range 40 {
		var l []api.Frame
		for i := range 1 + seed%16 {
			l = append(l, frame(8+seed%4*8, 8+seed/4%4*8, []int{0, 1, 2, 5, 11, 25, 60, 128}[(seed+i)%8], seed+i))
		}
		b, err := source.Encode(l)
		if err != nil || !bytes.Equal(b, encoding(l)) {
			t.Fatalf("P15.1: seed %d: %v", seed, err)
		}
		got, err := source.Decode(b)
		if err != nil || !same(got, l) {
			t.Fatalf("P15.4: seed %d: %v", seed, err)
		}
	}
}

// TestSmallestK: all k take the same bits only if none is left out, so it counts the bits by hand.
func TestSmallestK(t *testing.T) {
	// 32 folded 1 and 32 folded 0 take 96 bits with k 0; with k 1, 128. With 64 folded 1, both take 128.
	f := flat(8, 8, 128)
	for i := range f.Pix {
		f.Pix[i] = 128 + i%8 + 1 + i/8
	}
	b, _ := source.Encode([]api.Frame{f})
	if !bytes.Equal(b, encoding([]api.Frame{f})) {
		t.Error("P15.1: a slope")
	}
	row := flat(8, 8, 128)
	for i := range row.Pix {
		// Every sample is one more than its guess as long as both neighbours were.
		x, y := i%8, i/8
		row.Pix[i] = guess(row, x, y) + 1
	}
	if b, _ := source.Encode([]api.Frame{row}); b[5]>>5 != 0 {
		t.Errorf("P15.1: k is %d where 0 and 1 are equally good", b[5]>>5)
	}
}

// TestGreatestK: with k 8, the greatest differences would take fewer bits, but there is none.
func TestGreatestK(t *testing.T) {
	f := flat(8, 8, 0)
	for i := range f.Pix {
		f.Pix[i] = 255
		if guess(f, i%8, i/8) > 127 {
			f.Pix[i] = 0
		}
	}
	b, err := source.Encode([]api.Frame{f})
	if err != nil || b[5]>>5 != 7 || !bytes.Equal(b, encoding([]api.Frame{f})) {
		t.Errorf("P15.1: k is not 7 (%v)", err)
	}
	if l, err := source.Decode(b); err != nil || !same(l, []api.Frame{f}) {
		t.Errorf("P15.4: the greatest differences: %v", err)
	}
}

func TestEncodeErrors(t *testing.T) {
	bad := flat(8, 8, 0)
	bad.Pix[9] = 300
	many := slices.Repeat([]api.Frame{flat(8, 8, 1)}, 17)
	for i, c := range []struct {
		l    []api.Frame
		want error
	}{
		{nil, api.ErrForm}, {[]api.Frame{bad}, api.ErrForm}, {[]api.Frame{flat(8, 8, 0), flat(16, 8, 0), bad}, api.ErrForm},
		{[]api.Frame{flat(8, 8, 0), flat(16, 8, 0)}, api.ErrFit}, {[]api.Frame{flat(8, 16, 0), flat(16, 8, 0)}, api.ErrFit}, {[]api.Frame{flat(8, 8, 0), flat(8, 8, 0), flat(8, 16, 0)}, api.ErrFit},
		{append(slices.Clone(many), bad), api.ErrForm}, {append(slices.Clone(many), flat(8, 16, 0)), api.ErrFit}, {many, api.ErrLong}, {many[1:], nil},
	} {
		if b, err := source.Encode(c.l); err != c.want || err != nil && len(b) > 0 {
			t.Errorf("P15.1: case %d: %v", i, err)
		}
	}
}

func TestDecodeHead(t *testing.T) {
	zeros := string(make([]byte, 9))
	for i, c := range []struct{ in, want string }{
		{"", "source -1: code 1"}, {"KS\x01\x01", "source -1: code 1"}, {"XX", "source -1: code 1"},
		{"KX\x00\x01\x01", "source -1: code 2"}, {"XS\x01\x01\x00" + zeros, "source -1: code 2"}, {"ks\x01\x01\x01" + zeros, "source -1: code 2"},
		{"KS\x00\x01\x01" + zeros, "source -1: code 3"}, {"KS\x01\x00\x01" + zeros, "source -1: code 3"}, {"KS\x05\x01\x01" + zeros, "source -1: code 3"},
		{"KS\x01\x05\x01" + zeros, "source -1: code 3"}, {"KS\x01\x01\x00" + zeros, "source -1: code 3"}, {"KS\x01\x01\x11" + zeros, "source -1: code 3"},
		{"KS\xFF\x01\x01" + zeros, "source -1: code 3"}, {"KS\x01\x01\x01", "source 0: bits 0: code 1"}, {"KS\x04\x04\x10", "source 0: bits 0: code 1"},
		{"KS\x01\x01\x01" + zeros, ""}, {"KS\x01\x01\x01" + zeros[1:], "source 0: bits 64: code 1"}, {"KS\x01\x01\x01" + zeros + "\x00", "source 1: code 5"},
		{"KS\x01\x01\x02" + zeros, "source 1: bits 72: code 1"}, {"KS\x01\x01\x01" + zeros[1:] + "\x01", "source 1: bits 71: code 2"},
		{"KS\x01\x01\x01" + zeros[1:] + "\x10\x00", "source 1: bits 67: code 2"},
	} {
		l, err := source.Decode([]byte(c.in))
		if fault.Text(err) != c.want || err != nil && len(l) > 0 {
			t.Errorf("P15.2: case %d: %s, not %s", i, fault.Text(err), c.want)
		}
	}
}

// TestDecodeFrame reads frames that no encoder writes: any k, samples and numbers out of their bounds.
func TestDecodeFrame(t *testing.T) {
	begin := func(k int, numbers ...int) *bits.Writer {
		w := bits.NewWriter()
		frameBits(w, flat(8, 8, 128), 0)
		w.Put(k, 3)
		for _, v := range numbers {
			codes.PutRice(w, v, k)
		}
		return w
	}
	for k := range 8 {
		w := bits.NewWriter()
		f := frame(8, 8, 3, k)
		frameBits(w, f, k)
		if l, err := source.Decode(append([]byte{'K', 'S', 1, 1, 1}, w.Bytes()...)); err != nil || !same(l, []api.Frame{f}) {
			t.Errorf("P15.2: k %d: %v", k, err)
		}
	}
	for i, c := range []struct {
		w    *bits.Writer
		want string
	}{
		{begin(7, codes.Fold(127), codes.Fold(1)), "source 1: code 3"},
		{begin(7, codes.Fold(-128), codes.Fold(-1)), "source 1: code 3"},
		{begin(7, codes.Fold(128)), "source 1: code 3"},
		{begin(7, codes.Fold(-128), codes.Fold(255), 0, 0, 0, 0, 0, 0, 511), "source 1: codes 150: code 3"},
		{begin(2, 511), "source 1: codes 125: code 3"},
	} {
		w := c.w
		for range 200 {
			w.Put(0, 8)
		}
		l, err := source.Decode(append([]byte{'K', 'S', 1, 1, 2}, w.Bytes()...))
		if fault.Text(err) != c.want || len(l) > 0 {
			t.Errorf("P15.2: case %d: %s, not %s", i, fault.Text(err), c.want)
		}
	}
	w := begin(6, codes.Fold(-128), codes.Fold(255), codes.Fold(-255))
	for range 61 {
		codes.PutRice(w, 0, 6)
	}
	l, err := source.Decode(append([]byte{'K', 'S', 1, 1, 2}, w.Bytes()...))
	if err != nil || l[1].Pix[0] != 0 || l[1].Pix[1] != 255 || l[1].Pix[2] != 0 {
		t.Errorf("P15.2: the greatest differences: %v", err)
	}
}

func TestNothingIsShared(t *testing.T) {
	in := []api.Frame{frame(8, 8, 9, 1), frame(8, 8, 9, 2)}
	b, _ := source.Encode(in)
	copied := bytes.Clone(b)
	l, _ := source.Decode(b)
	if !bytes.Equal(b, copied) {
		t.Error("P15.3: Decode changes its argument")
	}
	clear(b)
	l[0].Pix = append(l[0].Pix, 1, 2, 3)
	l[0].Pix[0] = 77
	if !same(l[1:], in[1:]) || !same(in, []api.Frame{frame(8, 8, 9, 1), frame(8, 8, 9, 2)}) {
		t.Error("P15.3: the frames share memory")
	}
}

func TestCutOff(t *testing.T) {
	for seed := range 4 {
		b, _ := source.Encode([]api.Frame{frame(8, 8, seed*30, seed), frame(8, 8, seed, seed)})
		for cut := range b {
			if _, err := source.Decode(b[:cut]); !errors.Is(err, api.ErrShort) && !errors.Is(err, api.ErrForm) && !errors.Is(err, api.ErrRange) {
				t.Fatalf("P15.5: cut at %d: %v", cut, err)
			}
		}
		for v := range 256 {
			if _, err := source.Decode(append(bytes.Clone(b), byte(v))); fault.Text(err) != "source 2: code 5" {
				t.Fatalf("P15.5: one more byte: %s", fault.Text(err))
			}
		}
	}
}

func TestAnyInput(t *testing.T) {
	for seed := range 3000 {
		x := noise(seed)
		in := make([]byte, x.next(120))
		for i := range in {
			in[i] = byte(x.next(256)) & byte(x.next(256))
		}
		if len(in) >= 5 && seed%8 > 0 {
			copy(in, []byte{'K', 'S', 1, 1 + byte(seed%2), 1 + byte(seed%3)})
		}
		l, err := source.Decode(in)
		if err == nil {
			if len(l) != int(in[4]) || slices.ContainsFunc(l, func(f api.Frame) bool { return !plane.May(f) || f.W != l[0].W || f.H != l[0].H }) {
				t.Fatal("P15.5: frames that are not valid")
			}
			continue
		}
		code := fault.Of(err)
		if len(l) > 0 || !strings.HasPrefix(fault.Text(err), "source ") || !slices.Contains([]api.Code{api.ErrShort, api.ErrForm, api.ErrRange, api.ErrLong}, code) {
			t.Fatalf("P15.5: %s", fault.Text(err))
		}
	}
}
