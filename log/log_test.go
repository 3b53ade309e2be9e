package log_test

import (
	"bytes"
	"hash/crc32"
	"slices"
	"testing"

	"kinescope/api"
	"kinescope/log"
	"kinescope/unit"
)

const sum = 1<<32 - 1

func start(sum, number int) log.Rec { return log.Rec{Kind: api.UStart, Sum: sum, Number: number} }
func done(number, length, sum int) log.Rec {
	return log.Rec{Kind: api.UDone, Number: number, Length: length, Sum: sum}
}
func failed(code api.Code) log.Rec    { return log.Rec{Kind: api.UFail, Code: code} }
func ended(length, sum int) log.Rec   { return log.Rec{Kind: api.UEnd, Length: length, Sum: sum} }
func made(kind int, b ...byte) []byte { u, _ := unit.Make(kind, b); return u }

func TestPack(t *testing.T) {
	for i, c := range []struct {
		r    log.Rec
		want error
		data []byte
	}{
		{start(0, 0), nil, []byte{0, 0, 0, 0, 0}}, {start(sum, 16), nil, []byte{255, 255, 255, 255, 16}}, {start(0x12345678, 3), nil, []byte{0x12, 0x34, 0x56, 0x78, 3}},
		{start(-1, 0), api.ErrRange, nil}, {start(sum+1, 0), api.ErrRange, nil}, {start(0, -1), api.ErrRange, nil}, {start(0, 17), api.ErrRange, nil},
		{log.Rec{Kind: api.UStart, Length: 1}, api.ErrRange, nil}, {log.Rec{Kind: api.UStart, Code: 1}, api.ErrRange, nil},
		{done(0, 0, 0), nil, make([]byte, 9)}, {done(15, 1<<24, sum), nil, []byte{15, 1, 0, 0, 0, 255, 255, 255, 255}}, {done(2, 0x123456, 0x9ABCDEF0), nil, []byte{2, 0, 0x12, 0x34, 0x56, 0x9A, 0xBC, 0xDE, 0xF0}},
		{done(-1, 0, 0), api.ErrRange, nil}, {done(16, 0, 0), api.ErrRange, nil}, {done(0, -1, 0), api.ErrRange, nil}, {done(0, 1<<24+1, 0), api.ErrRange, nil}, {done(0, 0, -1), api.ErrRange, nil}, {done(0, 0, sum+1), api.ErrRange, nil},
		{log.Rec{Kind: api.UDone, Code: 1}, api.ErrRange, nil}, {log.Rec{Kind: api.UDone, Code: -1}, api.ErrRange, nil},
		{failed(2), nil, []byte{2}}, {failed(1), nil, []byte{1}}, {failed(15), nil, []byte{15}}, {failed(0), api.ErrRange, nil}, {failed(16), api.ErrRange, nil}, {failed(-1), api.ErrRange, nil},
		{log.Rec{Kind: api.UFail, Code: 1, Sum: 1}, api.ErrRange, nil}, {log.Rec{Kind: api.UFail, Code: 1, Number: 1}, api.ErrRange, nil}, {log.Rec{Kind: api.UFail, Code: 1, Length: -1}, api.ErrRange, nil},
		{ended(0, 0), nil, make([]byte, 8)}, {ended(1<<24, sum), nil, []byte{1, 0, 0, 0, 255, 255, 255, 255}}, {ended(1<<24+1, 0), api.ErrRange, nil}, {ended(-1, 0), api.ErrRange, nil}, {ended(0, sum+1), api.ErrRange, nil}, {ended(0, -1), api.ErrRange, nil},
		{log.Rec{Kind: api.UEnd, Number: 1}, api.ErrRange, nil}, {log.Rec{Kind: api.UEnd, Code: 1}, api.ErrRange, nil},
		{log.Rec{Kind: 7}, api.ErrKind, nil}, {log.Rec{}, api.ErrKind, nil}, {log.Rec{Kind: 47, Sum: -1}, api.ErrKind, nil}, {log.Rec{Kind: 52}, api.ErrKind, nil}, {log.Rec{Kind: -1 << 63}, api.ErrKind, nil},
	} {
		if log.May(c.r) != (c.want == nil) {
			t.Errorf("P26.1: case %d: May is %v", i, log.May(c.r))
		}
		b, err := log.Pack(c.r)
		if err != c.want {
			t.Errorf("P26.1: case %d: Pack is %v, not %v", i, err, c.want)
		}
		if err != nil {
			if len(b) > 0 {
				t.Errorf("P26.1: case %d: bytes beside an error", i)
			}
			continue
		}
		if !bytes.Equal(b, made(c.r.Kind, c.data...)) {
			t.Errorf("P26.1: case %d: Pack is %X", i, b)
		}
		u, _ := unit.Next(b, 0)
		u.At, u.End = 77, -5
		if r, err := log.Parse(u); err != nil || r != c.r {
			t.Errorf("P26.1: case %d: Parse is %v, %v", i, r, err)
		}
	}
	if b, _ := log.Pack(failed(2)); !bytes.Equal(b[:5], []byte{0x32, 0, 0, 1, 2}) || len(b) != 9 {
		t.Errorf("P26.1: the example is %X", b)
	}
}

func TestParseErrors(t *testing.T) {
	for i, c := range []struct {
		kind int
		data []byte
		want api.Code
	}{
		{0, nil, api.ErrKind}, {47, make([]byte, 5), api.ErrKind}, {52, make([]byte, 8), api.ErrKind}, {-48, nil, api.ErrKind},
		{api.UStart, nil, api.ErrForm}, {api.UStart, make([]byte, 4), api.ErrForm}, {api.UStart, make([]byte, 6), api.ErrForm}, {api.UStart, []byte{0, 0, 0, 0, 17}, api.ErrForm},
		{api.UDone, make([]byte, 8), api.ErrForm}, {api.UDone, make([]byte, 10), api.ErrForm}, {api.UDone, []byte{16, 0, 0, 0, 0, 0, 0, 0, 0}, api.ErrForm}, {api.UDone, []byte{0, 1, 0, 0, 1, 0, 0, 0, 0}, api.ErrForm},
		{api.UFail, nil, api.ErrForm}, {api.UFail, []byte{0}, api.ErrForm}, {api.UFail, []byte{16}, api.ErrForm}, {api.UFail, []byte{255}, api.ErrForm}, {api.UFail, []byte{1, 0}, api.ErrForm},
		{api.UEnd, nil, api.ErrForm}, {api.UEnd, make([]byte, 7), api.ErrForm}, {api.UEnd, make([]byte, 9), api.ErrForm}, {api.UEnd, []byte{2, 0, 0, 0, 0, 0, 0, 0}, api.ErrForm},
	} {
		if r, err := log.Parse(api.Unit{Kind: c.kind, Data: c.data}); err != error(c.want) || r != (log.Rec{}) {
			t.Errorf("P26.1: case %d: %v, %v", i, r, err)
		}
	}
}

func TestScan(t *testing.T) {
	if l, n := log.Scan(nil); len(l) > 0 || n != 0 {
		t.Error("P26.2: Scan of no bytes")
	}
	if l, n := log.Scan([]byte{0}); len(l) > 0 || n != 0 {
		t.Error("P26.2: Scan of a UFill")
	}
	all := []log.Rec{start(9, 2), done(1, 7, 8), done(0, 1, sum), start(0, 0), ended(5, 6), failed(3), done(0, 1, sum)}
	var b []byte
	ends := []int{0}
	for _, r := range all {
		u, _ := log.Pack(r)
		b = append(b, u...)
		ends = append(ends, len(b))
	}
	for cut := 0; cut <= len(b); cut++ {
		complete := 0
		for complete < len(all) && ends[complete+1] <= cut {
			complete++
		}
		l, n := log.Scan(b[:cut])
		if !slices.Equal(l, all[:complete]) || n != ends[complete] {
			t.Fatalf("P26.5: cut off at %d: %v, %d", cut, l, n)
		}
	}
	for i, more := range [][]byte{{0}, {1}, made(api.UKey, 1), made(api.UFail, 0), made(api.UStart), {49, 1, 0, 1, 0}, append([]byte{0}, b...)} {
		whole := slices.Concat(b, more, b)
		l, n := log.Scan(whole)
		if !slices.Equal(l, all) || n != len(b) {
			t.Errorf("P26.2: case %d: %d records, %d", i, len(l), n)
		}
	}
	for i := range b {
		c := slices.Clone(b)
		c[i] ^= 0x10
		l, n := log.Scan(c)
		var again []byte
		for _, r := range l {
			u, _ := log.Pack(r)
			again = append(again, u...)
		}
		if !bytes.Equal(again, c[:n]) || n > i {
			t.Fatalf("P26.5: byte %d changed: %d of %d bytes", i, len(again), n)
		}
	}
}

func TestKey(t *testing.T) {
	c := api.Config{QMin: 1, QMax: 14, Reach: 3, Cut: 0x1234, Gop: 5, Rate: 0x1122, Room: 0x3344, Fill: 0x2233}
	src := []byte("a source")
	want := slices.Concat([]byte{1, 14, 3, 5, 0x12, 0x34, 0, 0, 0x11, 0x22, 0, 0, 0x33, 0x44, 0, 0, 0x22, 0x33}, src)
	got, err := log.Key(c, src[:8:8])
	if err != nil || got != int(crc32.ChecksumIEEE(want)) {
		t.Errorf("P26.3: Key is %X, %v", got, err)
	}
	if got, err := log.Key(c, nil); err != nil || got != int(crc32.ChecksumIEEE(want[:18])) {
		t.Errorf("P26.3: Key of no source is %X, %v", got, err)
	}
	c.Room = 1 << 14
	if other, _ := log.Key(c, src); other == got {
		t.Error("P26.3: Key does not depend on the room")
	}
	c.QMax = 16
	if got, err := log.Key(c, src); got != 0 || err != error(api.ErrConfig) {
		t.Errorf("P26.3: %d, %v", got, err)
	}
	if string(src) != "a source" {
		t.Error("P26.4: the source was changed")
	}
}

func TestNothingIsShared(t *testing.T) {
	b := made(api.UDone, 1, 0, 0, 0, 7, 0, 0, 0, 9)
	l, _ := log.Scan(b)
	u, _ := unit.Next(b, 0)
	before := slices.Clone(u.Data)
	r, _ := log.Parse(u)
	p, _ := log.Pack(r)
	p[5] = 99
	if !bytes.Equal(u.Data, before) || l[0] != done(1, 7, 9) {
		t.Error("P26.4: memory is shared")
	}
}
