package unit_test

import (
	"bytes"
	"hash/crc32"
	"slices"
	"testing"

	"kinescope/api"
	"kinescope/fault"
	"kinescope/unit"
)

func made(t *testing.T, kind int, data []byte) []byte {
	t.Helper()
	b, err := unit.Make(kind, data)
	if err != nil {
		t.Fatalf("P4.1: Make(%d) is %v", kind, err)
	}
	return b
}

// noise returns n bytes that look like any others.
func noise(n, seed int) []byte {
	b := make([]byte, n)
	x := uint32(seed)
	for i := range b {
		x = x*1664525 + 1013904223
		b[i] = byte(x >> 24)
	}
	return b
}

func TestSum(t *testing.T) {
	if unit.Sum(nil) != 0 || unit.Sum([]byte("123456789")) != 0xCBF43926 {
		t.Error("P4.1: Sum of the examples")
	}
	for n := range 300 {
		b := noise(n, n)
		if unit.Sum(b) != crc32.ChecksumIEEE(b) {
			t.Fatalf("P4.1: Sum of %d bytes", n)
		}
	}
}

func TestMake(t *testing.T) {
	if b := made(t, 1, nil); len(b) != 8 || !bytes.Equal(b[:4], []byte{1, 0, 0, 0}) {
		t.Errorf("P4.1: Make without data is %X", b)
	}
	if b := made(t, 0, nil); !bytes.Equal(b, []byte{0}) {
		t.Errorf("P4.1: Make of a UFill is %X", b)
	}
	for _, n := range []int{1, 255, 256, 65535, api.MaxUnit} {
		data := noise(n, 7)
		b := made(t, 255, data)
		sum := crc32.ChecksumIEEE(b[:4+n])
		tail := []byte{byte(sum >> 24), byte(sum >> 16), byte(sum >> 8), byte(sum)}
		head := []byte{255, byte(n >> 16), byte(n >> 8), byte(n)}
		if !bytes.Equal(b[:4], head) || !bytes.Equal(b[4:4+n], data) || !bytes.Equal(b[4+n:], tail) {
			t.Errorf("P4.1: Make of %d bytes", n)
		}
		if len(b) != unit.Size(n) {
			t.Errorf("P4.1: Size(%d) is %d", n, unit.Size(n))
		}
	}
	for i, c := range []struct {
		kind, n int
		want    error
	}{
		{0, 1, api.ErrKind}, {256, 0, api.ErrKind}, {-1, 0, api.ErrKind}, {1 << 40, 0, api.ErrKind},
		{0, api.MaxUnit + 1, api.ErrKind}, {256, api.MaxUnit + 1, api.ErrKind}, {1, api.MaxUnit + 1, api.ErrLong},
	} {
		if b, err := unit.Make(c.kind, make([]byte, c.n)); len(b) > 0 || err != c.want {
			t.Errorf("P4.1: case %d: %d bytes, %v", i, len(b), err)
		}
	}
}

func TestFill(t *testing.T) {
	for _, c := range []struct{ n, want int }{
		{0, 0}, {-1, 0}, {-1 << 63, 0}, {1, 1}, {65535, 65535}, {65536, 65536}, {65537, 65536}, {1<<63 - 1, 65536},
	} {
		b := unit.Fill(c.n)
		if len(b) != c.want || !bytes.Equal(b, make([]byte, c.want)) {
			t.Errorf("P4.1: Fill(%d) has %d bytes", c.n, len(b))
		}
	}
	if unit.Size(0) != 8 || unit.Size(5) != 13 {
		t.Error("P4.1: Size")
	}
}

func TestNext(t *testing.T) {
	b := []byte{0, 1, 0}
	if u, err := unit.Next(b, 0); err != nil || u.Kind != api.UFill || len(u.Data) > 0 || u.At != 0 || u.End != 1 {
		t.Errorf("P4.2: a UFill is %v, %v", u, err)
	}
	long := append([]byte{9, 1, 0, 1}, make([]byte, api.MaxUnit+5)...)
	whole := made(t, 7, []byte("abc"))
	bad := slices.Clone(whole)
	bad[5]++
	for i, c := range []struct {
		b    []byte
		at   int
		want string
	}{
		{b, 1, "unit 1: code 1"}, {b, 2, ""}, {b, 3, "code 7"}, {b, -1, "code 7"}, {nil, 0, "code 7"}, {b, 1<<63 - 1, "code 7"},
		{[]byte{1}, 0, "unit 0: code 1"}, {[]byte{0, 1, 0, 0}, 1, "unit 1: code 1"},
		{long, 0, "unit 0: code 5"}, {[]byte{9, 1, 0, 1}, 0, "unit 0: code 5"}, {[]byte{9, 1, 0, 0}, 0, "unit 0: code 1"},
		{whole[:10], 0, "unit 0: code 1"}, {whole[:7], 0, "unit 0: code 1"}, {bad, 0, "unit 0: code 4"}, {bad[:10], 0, "unit 0: code 1"},
		{append(noise(3, 1), bad...), 3, "unit 3: code 4"},
	} {
		u, err := unit.Next(c.b, c.at)
		if fault.Text(err) != c.want {
			t.Errorf("P4.2: case %d: %s", i, fault.Text(err))
		}
		if err != nil && (u.Kind != 0 || len(u.Data) > 0 || u.At != 0 || u.End != 0) {
			t.Errorf("P4.2: case %d: a unit beside an error: %v", i, u)
		}
	}
	u, err := unit.Next(append([]byte{5, 5}, append(whole, 1)...), 2)
	if err != nil || u.Kind != 7 || string(u.Data) != "abc" || u.At != 2 || u.End != 13 {
		t.Errorf("P4.2: %v, %v", u, err)
	}
	for _, n := range []int{255, 256, 257, 4660, 65535, api.MaxUnit} {
		data := noise(n, 3)
		long := made(t, 200, data)
		if u, err := unit.Next(append(slices.Clone(long), 7), 0); err != nil || !bytes.Equal(u.Data, data) || u.End != len(long) {
			t.Errorf("P4.2: a unit of %d bytes", n)
		}
	}
}

func TestSplit(t *testing.T) {
	if l, err := unit.Split(nil); len(l) > 0 || err != nil {
		t.Error("P4.3: Split of nothing")
	}
	b := append(append(made(t, 3, []byte("xy")), 0), made(t, 255, nil)...)
	l, err := unit.Split(b)
	if err != nil || len(l) != 3 || l[0].End != 10 || l[1].Kind != 0 || l[1].At != 10 || l[2].At != 11 || l[2].End != 19 || string(l[0].Data) != "xy" {
		t.Errorf("P4.3: %v, %v", l, err)
	}
	l, err = unit.Split(append(b, 9))
	if len(l) != 3 || fault.Text(err) != "unit 19: code 1" {
		t.Errorf("P4.3: %d units, %s", len(l), fault.Text(err))
	}
	b[12] = 1
	l, err = unit.Split(b)
	if len(l) != 2 || fault.Text(err) != "unit 11: code 1" {
		t.Errorf("P4.3: %d units, %s", len(l), fault.Text(err))
	}
}

func TestNothingIsShared(t *testing.T) {
	data := []byte("abc")
	b := made(t, 1, data)
	data[0] = 'x'
	twice := append(slices.Clone(b), b...)
	l, err := unit.Split(twice)
	if err != nil || len(l) != 2 {
		t.Fatal("P4.4: Split")
	}
	for i := range twice {
		twice[i] = 0xEE
	}
	if string(l[0].Data) != "abc" || string(l[1].Data) != "abc" {
		t.Error("P4.4: the data is shared with the bytes")
	}
	_ = append(l[0].Data, "zzzzzzzzzzzz"...)
	l[0].Data[1] = 'q'
	if string(l[1].Data) != "abc" {
		t.Error("P4.4: the data of two units is shared")
	}
	f := unit.Fill(3)
	f[0] = 9
	if unit.Fill(3)[0] != 0 {
		t.Error("P4.4: the fill bytes are shared")
	}
}

func TestRoundTrip(t *testing.T) {
	var b []byte
	var ends []int
	for i := range 40 {
		kind := i * 7 % 256
		data := noise(i*i%97, i)
		if kind == 0 {
			data = nil
		}
		b = append(b, made(t, kind, data)...)
		ends = append(ends, len(b))
	}
	whole, err := unit.Split(b)
	if err != nil || len(whole) != 40 {
		t.Fatalf("P4.5: %d units, %v", len(whole), err)
	}
	at := 0
	for i, u := range whole {
		if u.Kind != i*7%256 || u.At != at || u.End != ends[i] || u.Kind != 0 && !bytes.Equal(u.Data, noise(i*i%97, i)) {
			t.Fatalf("P4.5: unit %d is %v", i, u)
		}
		at = u.End
	}
	for cut := range b {
		l, _ := unit.Split(b[:cut])
		complete := 0
		for complete < len(ends) && ends[complete] <= cut {
			complete++
		}
		if len(l) != complete {
			t.Fatalf("P4.6: cut at %d: %d units, not %d", cut, len(l), complete)
		}
		for i, u := range l {
			if u.At != whole[i].At || u.Kind != whole[i].Kind || !bytes.Equal(u.Data, whole[i].Data) {
				t.Fatalf("P4.6: cut at %d: unit %d", cut, i)
			}
		}
	}
}

func TestChangedByte(t *testing.T) {
	b := made(t, 5, noise(20, 5))
	for i := range b {
		if i >= 1 && i < 4 {
			continue
		}
		for x := range 256 {
			c := slices.Clone(b)
			c[i] = byte(x)
			_, err := unit.Next(c, 0)
			if kept := byte(x) == b[i] || i == 0 && x == 0; kept != (err == nil) {
				t.Fatalf("P4.5: byte %d changed to %d: %v", i, x, err)
			}
		}
	}
}
