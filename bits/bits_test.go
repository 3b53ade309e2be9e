package bits_test

import (
	"bytes"
	"testing"

	"kinescope/api"
	"kinescope/bits"
	"kinescope/fault"
)

func TestExamples(t *testing.T) {
	w := bits.NewWriter()
	if w.Len() != 0 || len(w.Bytes()) != 0 {
		t.Error("P2.1: a new writer has bits")
	}
	if err := w.Put(5, 3); err != nil {
		t.Error("P2.1: Put(5, 3)")
	}
	w.Flag(true)
	if !bytes.Equal(w.Bytes(), []byte{0xB0}) || w.Len() != 4 {
		t.Errorf("P2.1: %X, %d", w.Bytes(), w.Len())
	}
	r := bits.NewReader([]byte{0xB0})
	if v, err := r.Get(3); v != 5 || err != nil {
		t.Errorf("P2.2: Get(3) is %d, %v", v, err)
	}
	if v, err := r.Get(6); v != 0 || fault.Text(err) != "bits 3: code 1" || r.Place() != 3 {
		t.Errorf("P2.2: Get(6) is %d, %s", v, fault.Text(err))
	}
	if v, err := r.Get(1); v != 1 || err != nil {
		t.Errorf("P2.2: Get(1) is %d, %v", v, err)
	}
	if r.Left() != 4 || r.Align() != nil || r.Left() != 0 || r.Place() != 8 {
		t.Error("P2.2: Align, Left, Place")
	}
}

func TestPutBounds(t *testing.T) {
	for i, c := range []struct {
		v, n int
		ok   bool
	}{
		{0, 0, true}, {1, 0, false}, {0, 1, true}, {1, 1, true}, {2, 1, false}, {7, 3, true}, {8, 3, false},
		{1<<32 - 1, 32, true}, {1 << 32, 32, false}, {0, 33, false}, {0, -1, false}, {-1, 8, false}, {-1, 0, false},
		{1<<31 - 1, 31, true}, {1 << 31, 31, false}, {1<<63 - 1, 32, false}, {-1 << 63, 32, false}, {0, 64, false},
	} {
		w := bits.NewWriter()
		w.Flag(true)
		err := w.Put(c.v, c.n)
		if (err == nil) != c.ok || !c.ok && err != error(api.ErrRange) {
			t.Errorf("P2.1: case %d: Put is %v", i, err)
		}
		want := 1
		if c.ok {
			want += c.n
		}
		if w.Len() != want {
			t.Errorf("P2.1: case %d: %d bits", i, w.Len())
		}
	}
}

func TestPutOverBytes(t *testing.T) {
	w := bits.NewWriter()
	w.Flag(false)
	w.Put(0xDEADBEEF, 32)
	w.Put(3, 5)
	if want := []byte{0x6F, 0x56, 0xDF, 0x77, 0x8C}; !bytes.Equal(w.Bytes(), want) || w.Len() != 38 {
		t.Errorf("P2.1: %X, %d bits", w.Bytes(), w.Len())
	}
	w.Align()
	if w.Len() != 40 {
		t.Errorf("P2.1: %d bits after Align", w.Len())
	}
	w.Align()
	w.Flag(true)
	if w.Len() != 41 || w.Bytes()[5] != 0x80 {
		t.Error("P2.1: Align of whole bytes")
	}
	r := bits.NewReader(w.Bytes())
	r.Flag()
	if v, _ := r.Get(32); v != 0xDEADBEEF {
		t.Errorf("P2.2: Get(32) is %X", v)
	}
}

func TestGetErrors(t *testing.T) {
	r := bits.NewReader(nil)
	for _, n := range []int{-1, 33, 1 << 40, -1 << 63} {
		if v, err := r.Get(n); v != 0 || err != error(api.ErrRange) {
			t.Errorf("P2.2: Get(%d) is %d, %v", n, v, err)
		}
	}
	if v, err := r.Get(0); v != 0 || err != nil {
		t.Error("P2.2: Get(0) of nothing")
	}
	if b, err := r.Flag(); b || fault.Text(err) != "bits 0: code 1" {
		t.Error("P2.2: Flag of nothing")
	}
	if r.Align() != nil || r.Place() != 0 || r.Left() != 0 {
		t.Error("P2.2: Align of nothing")
	}
	r = bits.NewReader([]byte{0xFF, 0x01})
	r.Get(9)
	if v, err := r.Get(8); v != 0 || fault.Text(err) != "bits 9: code 1" || r.Place() != 9 || r.Left() != 7 {
		t.Error("P2.2: Get beyond the end reads nothing")
	}
	if v, err := r.Get(7); v != 1 || err != nil {
		t.Error("P2.2: Get up to the end")
	}
	if b, err := bits.NewReader([]byte{0x80}).Flag(); !b || err != nil {
		t.Error("P2.2: Flag of a bit 1")
	}
}

func TestReaderAlign(t *testing.T) {
	for i, c := range []struct {
		b    byte
		read int
		want string
	}{
		{0xB1, 4, "bits 7: code 2"}, {0xB6, 4, "bits 5: code 2"}, {0x7F, 1, "bits 1: code 2"}, {0xF0, 4, ""},
		{0xFF, 8, ""}, {0xFF, 0, ""}, {0x01, 7, "bits 7: code 2"},
	} {
		r := bits.NewReader([]byte{c.b, 0xFF})
		r.Get(c.read)
		if err := r.Align(); fault.Text(err) != c.want {
			t.Errorf("P2.2: case %d: Align is %s", i, fault.Text(err))
		}
		if want := (c.read + 7) / 8 * 8; r.Place() != want || r.Left() != 16-want {
			t.Errorf("P2.2: case %d: at %d", i, r.Place())
		}
	}
}

func TestNothingIsShared(t *testing.T) {
	b := []byte{0xA5}
	r := bits.NewReader(b)
	b[0] = 0
	if v, _ := r.Get(8); v != 0xA5 {
		t.Error("P2.3: the reader keeps the slice")
	}
	w := bits.NewWriter()
	w.Put(0xA5, 8)
	got := w.Bytes()
	got[0] = 0
	_ = append(got, 0xFF)
	w.Put(1, 8)
	if !bytes.Equal(w.Bytes(), []byte{0xA5, 1}) {
		t.Error("P2.3: the bytes that were returned are shared")
	}
}

func TestRoundTrip(t *testing.T) {
	type piece struct{ v, n int }
	for seed := 1; seed < 200; seed++ {
		w, x := bits.NewWriter(), seed
		var all []piece
		for range 50 {
			x = x*1103515245 + 12345
			n := x >> 16 & 63
			if n > 40 {
				w.Align()
				all = append(all, piece{n: -1})
				continue
			}
			n %= 33
			p := piece{x >> 8 & (1<<n - 1), n}
			if w.Put(p.v, p.n) != nil {
				t.Fatal("P2.4: Put")
			}
			all = append(all, p)
		}
		r := bits.NewReader(w.Bytes())
		for _, p := range all {
			if p.n < 0 {
				if r.Align() != nil {
					t.Fatal("P2.4: Align")
				}
				continue
			}
			if v, err := r.Get(p.n); v != p.v || err != nil {
				t.Fatalf("P2.4: %d is read as %d", p.v, v)
			}
		}
		if r.Place() != w.Len() || r.Left() >= 8 {
			t.Fatalf("P2.4: %d bits are left", r.Left())
		}
		if rest, _ := r.Get(r.Left()); rest != 0 {
			t.Fatal("P2.4: the bits that are left")
		}
	}
}
