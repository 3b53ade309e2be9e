package box_test

import (
	"bytes"
	"errors"
	"hash/crc32"
	"slices"
	"testing"

	"kinescope/api"
	"kinescope/box"
	"kinescope/decode"
	"kinescope/fault"
	"kinescope/gop"
	"kinescope/plane"
	"kinescope/syntax"
	"kinescope/unit"
	"kinescope/vbv"
)

var (
	key  = api.Coded{Kind: api.UKey, Data: []byte{3, 1, 2}}
	pred = api.Coded{Kind: api.UPred, Data: []byte{0}}
	skip = api.Coded{Kind: api.USkip}
	grey = api.Coded{Kind: api.UFlat}
	fill = api.Coded{}
)

func config(rate, room, fill int) api.Config {
	return api.Config{QMin: 1, QMax: 14, Reach: 7, Cut: 16000, Gop: 16, Rate: rate, Room: room, Fill: fill}
}

// chunks returns chunks with these numbers of frames.
func chunks(counts ...int) []gop.Chunk {
	var l []gop.Chunk
	first := 0
	for i, n := range counts {
		k := gop.Chunk{Number: i, Group: api.Group{First: first, Count: n}}
		for f := range n {
			k.Coded = append(k.Coded, []api.Coded{key, skip, pred, grey}[(f+f/4+i%2*3*f)%4])
		}
		k.Coded[0] = []api.Coded{key, grey}[i%2]
		l = append(l, k)
		first += n
	}
	return l
}

func made(c api.Coded) []byte {
	b, _ := unit.Make(c.Kind, c.Data)
	return b
}

func number(v, n int) []byte {
	var b []byte
	for i := n - 1; i >= 0; i-- {
		b = append(b, byte(v>>(8*i)))
	}
	return b
}

func headData(c api.Config, w, h, frames, parts int) []byte {
	b := []byte{byte(w / 8), byte(h / 8), byte(frames), byte(parts), byte(c.QMin), byte(c.QMax), byte(c.Reach), byte(c.Gop)}
	return slices.Concat(b, number(c.Cut, 2), number(c.Rate, 4), number(c.Room, 4), number(c.Fill, 4))
}

// container is the container of the document.
func container(c api.Config, w, h int, l []gop.Chunk, fills []int) []byte {
	frames := 0
	for _, k := range l {
		frames += k.Group.Count
	}
	b := made(api.Coded{Kind: api.UHead, Data: headData(c, w, h, frames, len(l))})
	var index []byte
	for i, k := range l {
		at := len(b)
		b = append(b, made(api.Coded{Kind: api.UPart, Data: []byte{byte(i), byte(k.Group.First), byte(k.Group.Count)}})...)
		for n, one := range k.Coded {
			b = append(b, made(one)...)
			b = append(b, make([]byte, fills[k.Group.First+n])...)
		}
		index = slices.Concat(index, []byte{byte(k.Group.First), byte(k.Group.Count)}, number(at, 4), number(len(b)-at, 4))
	}
	at := len(b)
	b = append(b, made(api.Coded{Kind: api.UIndex, Data: index})...)
	return append(b, made(api.Coded{Kind: api.UTail, Data: append(number(at, 4), number(int(crc32.ChecksumIEEE(b)), 4)...)})...)
}

func isZero(i box.Info) bool {
	return i.W == 0 && i.H == 0 && i.Frames == 0 && i.Config == api.Config{} && len(i.Parts) == 0
}

func sameCoded(a, b api.Coded) bool { return a.Kind == b.Kind && bytes.Equal(a.Data, b.Data) }

func TestExample(t *testing.T) {
	one := chunks(1)
	one[0].Coded[0] = grey
	b, err := box.Mux(config(8, 64, 64), 8, 8, one)
	if err != nil || len(b) != 83 || !bytes.Equal(b, container(config(8, 64, 64), 8, 8, one, []int{0})) {
		t.Errorf("P24.1: %d bytes, %v", len(b), err)
	}
	info, err := box.Open(b)
	if err != nil || info.W != 8 || info.H != 8 || info.Frames != 1 || info.Config != config(8, 64, 64) || !slices.Equal(info.Parts, []api.Entry{{First: 0, Count: 1, Offset: 30, Length: 19}}) {
		t.Errorf("P24.2: %v, %v", info, err)
	}
}

func TestMux(t *testing.T) {
	for i, c := range []struct {
		c      api.Config
		counts []int
	}{
		{config(20, 40, 40), []int{1}}, {config(8, 64, 64), []int{2, 1, 3}}, {config(300, 16384, 16384), []int{16}}, {config(12, 12, 12), slices.Repeat([]int{1}, 16)},
		{config(70, 300, 8), []int{1, 4}}, {config(16384, 16384, 16384), []int{5, 1, 1}}, {config(9, 100, 100), []int{3, 3}},
	} {
		l := chunks(c.counts...)
		if i == 4 {
			l[0].Coded[0] = grey
		}
		var sizes []int
		for _, k := range l {
			sizes = append(sizes, gop.Sizes(k.Coded)...)
		}
		fills, err := vbv.Fills(c.c, sizes)
		if err != nil {
			t.Fatalf("case %d: %v", i, err)
		}
		w, h := 8+i%4*8, 32-i%3*8
		b, err := box.Mux(c.c, w, h, l)
		if err != nil || !bytes.Equal(b, container(c.c, w, h, l, fills)) {
			t.Fatalf("P24.1: case %d: %v", i, err)
		}
		info, err := box.Open(b)
		if err != nil || info.W != w || info.H != h || info.Frames != len(sizes) || info.Config != c.c || len(info.Parts) != len(l) {
			t.Fatalf("P24.2, P24.6: case %d: %v, %v", i, info, err)
		}
		got, err := box.Sizes(b)
		for n := range sizes {
			sizes[n] += fills[n]
		}
		if err != nil || !slices.Equal(got, sizes) {
			t.Fatalf("P24.4: case %d: Sizes is %v, not %v (%v)", i, got, sizes, err)
		}
		if after, err := vbv.Play(c.c, got); err != nil || slices.Min(after) < 0 || slices.Max(after) > c.c.Room {
			t.Fatalf("P24.6: case %d: the bucket: %v, %v", i, after, err)
		}
		for n, e := range info.Parts {
			coded, partFills, err := box.Part(b, e)
			first := l[n].Group.First
			if err != nil || e.First != first || e.Count != l[n].Group.Count || !slices.EqualFunc(coded, l[n].Coded, sameCoded) || !slices.Equal(partFills, fills[first:first+e.Count]) {
				t.Fatalf("P24.3, P24.6: case %d, part %d: %v, %v", i, n, partFills, err)
			}
		}
	}
}

func TestMuxErrors(t *testing.T) {
	good := config(20, 60, 60)
	change := func(f func(l []gop.Chunk)) []gop.Chunk {
		l := chunks(2, 3, 1)
		f(l)
		return l
	}
	bad := change(func(l []gop.Chunk) { l[2].Coded[0] = skip })
	for i, c := range []struct {
		c    api.Config
		w, h int
		l    []gop.Chunk
		want string
	}{
		{api.Config{}, 9, 8, nil, "code 11"}, {good, 9, 8, nil, "code 3"}, {good, 8, 40, nil, "code 3"}, {good, 0, 8, bad, "code 3"}, {good, 8, 8, nil, "code 2"},
		{good, 8, 8, bad, "code 2"}, {good, 8, 8, change(func(l []gop.Chunk) { l[0].Number, l[2].Group.Count = 1, 2 }), "code 2"},
		{good, 8, 8, change(func(l []gop.Chunk) { l[0].Number = 1 }), "code 14"}, {good, 8, 8, change(func(l []gop.Chunk) { l[2].Number = 1 }), "code 14"},
		{good, 8, 8, change(func(l []gop.Chunk) { l[0].Group.First = 1 }), "code 14"}, {good, 8, 8, change(func(l []gop.Chunk) { l[2].Group.First = 4 }), "code 14"},
		{good, 8, 8, change(func(l []gop.Chunk) { l[2].Group.First = 6 }), "code 14"}, {good, 8, 8, chunks(16, 1), "code 2"}, {good, 8, 8, chunks(15, 2), "code 14"}, {good, 8, 8, chunks(9, 8), "code 14"},
		{config(8, 60, 8), 8, 8, chunks(2), "vbv 0: code 14"}, {config(8, 60, 11), 8, 8, chunks(2, 2, 4), "vbv 3: code 14"}, {good, 8, 8, chunks(2, 3, 1), ""},
	} {
		if b, err := box.Mux(c.c, c.w, c.h, c.l); fault.Text(err) != c.want || err != nil && len(b) > 0 {
			t.Errorf("P24.1: case %d: %s, not %s", i, fault.Text(err), c.want)
		}
	}
}

// units are the units of a container of parts with 2 and 1 frames, with fill bytes behind the frames 1 and 2.
func units(t *testing.T) []api.Coded {
	t.Helper()
	l := chunks(2, 1)
	b := container(config(20, 60, 60), 16, 8, l, []int{0, 2, 1})
	us, err := unit.Split(b)
	if err != nil {
		t.Fatal(err)
	}
	var all []api.Coded
	for _, u := range us {
		all = append(all, api.Coded{Kind: u.Kind, Data: u.Data})
	}
	// UHead, UPart, UKey, USkip, fill, fill, UPart, UFlat, fill, UIndex, UTail
	if len(all) != 11 {
		t.Fatalf("%d units", len(all))
	}
	return all
}

func joined(l []api.Coded) []byte {
	var b []byte
	for _, c := range l {
		b = append(b, made(c)...)
	}
	return b
}

// sound puts the right index and the right tail behind units that may be wrong.
func sound(l []api.Coded) []byte {
	var b, index []byte
	at, entry := 0, []byte(nil)
	for _, c := range l {
		switch c.Kind {
		case api.UPart, api.UIndex:
			if entry != nil {
				index = slices.Concat(index, entry, number(at, 4), number(len(b)-at, 4))
			}
			at = len(b)
			if c.Kind == api.UPart {
				entry = c.Data[1:3]
			} else {
				c.Data = index
			}
		case api.UTail:
			c.Data = append(number(at, 4), number(int(crc32.ChecksumIEEE(b)), 4)...)
		}
		b = append(b, made(c)...)
	}
	return b
}

func TestOpenErrors(t *testing.T) {
	at := func(i int, c api.Coded) []api.Coded { l := units(t); l[i] = c; return l }
	insert := func(i int, c ...api.Coded) []api.Coded { return slices.Insert(units(t), i, c...) }
	without := func(i int) []api.Coded { return slices.Delete(units(t), i, i+1) }
	head := func(i int, v byte) []api.Coded { l := units(t); l[0].Data[i] = v; return l }
	part := func(n int, b ...byte) []api.Coded { return at(n, api.Coded{Kind: api.UPart, Data: b}) }
	data := func(i int, b ...byte) []api.Coded { l := units(t); l[i].Data = b; return l }
	for i, c := range []struct {
		b    []byte
		want string
	}{
		{sound(units(t)), ""}, {nil, "box 0: code 1"}, {joined([]api.Coded{fill}), "box 0: code 2"}, {[]byte{5}, "box 0: unit 0: code 1"},
		{joined(units(t)[:1]), "box 1: code 1"}, {joined(units(t)[:2]), "box 2: code 1"}, {joined(units(t)[:3]), "box 3: code 1"}, {joined(units(t)[:6]), "box 6: code 1"}, {joined(units(t)[:9]), "box 9: code 1"}, {joined(units(t)[:10]), "box 10: code 1"},
		{sound(at(0, api.Coded{Kind: api.UPart, Data: units(t)[0].Data})), "box 0: code 2"}, {sound(data(0, units(t)[0].Data[:21]...)), "box 0: code 2"}, {sound(data(0, append(units(t)[0].Data, 0)...)), "box 0: code 2"},
		{sound(head(0, 0)), "box 0: code 2"}, {sound(head(0, 5)), "box 0: code 2"}, {sound(head(1, 0)), "box 0: code 2"}, {sound(head(1, 5)), "box 0: code 2"}, {sound(head(2, 0)), "box 0: code 2"}, {sound(head(2, 17)), "box 0: code 2"},
		{sound(head(3, 0)), "box 0: code 2"}, {sound(head(3, 4)), "box 0: code 2"}, {sound(head(4, 15)), "box 0: code 2"}, {sound(head(5, 16)), "box 0: code 2"}, {sound(head(6, 8)), "box 0: code 2"}, {sound(head(7, 0)), "box 0: code 2"},
		{sound(head(8, 64)), "box 0: code 2"}, {sound(head(10, 1)), "box 0: code 2"}, {sound(head(14, 1)), "box 0: code 2"}, {sound(head(18, 1)), "box 0: code 2"}, {sound(head(13, 7)), "box 0: code 2"}, {sound(head(17, 19)), "box 0: code 2"}, {sound(head(21, 61)), "box 0: code 2"},
		{sound(head(2, 2)), "box 1: code 2"}, {sound(head(2, 4)), "box 6: code 2"}, {sound(head(3, 1)), "box 1: code 2"}, {sound(head(3, 3)), "box 1: code 2"},
		{sound(at(1, key)), "box 1: code 2"}, {sound(insert(1, fill)), "box 1: code 2"}, {sound(part(1, 1, 0, 2)), "box 1: code 2"}, {sound(part(1, 0, 1, 2)), "box 1: code 2"}, {sound(part(1, 0, 0, 0)), "box 1: code 2"},
		{sound(part(1, 0, 0, 3)), "box 1: code 2"}, {sound(part(1, 0, 0, 2, 0)), "box 1: code 2"}, {joined(part(1, 0, 0)), "box 1: code 2"}, {sound(part(1, 0, 0, 1)), "box 3: code 2"},
		{sound(insert(2, fill)), "box 2: code 2"}, {sound(at(2, pred)), "box 2: code 2"}, {sound(at(2, skip)), "box 2: code 2"}, {sound(at(2, api.Coded{Kind: api.UPred})), "box 2: code 2"}, {sound(at(2, grey)), ""},
		{sound(at(2, api.Coded{Kind: api.UKey})), "box 2: code 1"}, {sound(at(2, api.Coded{Kind: api.UKey, Data: []byte{16}})), "box 2: code 3"}, {sound(at(2, api.Coded{Kind: api.UFlat, Data: []byte{1}})), "box 2: code 2"},
		{sound(at(3, api.Coded{Kind: api.UHead})), "box 3: code 2"}, {sound(at(3, api.Coded{Kind: api.UIndex})), "box 3: code 2"}, {sound(at(3, api.Coded{Kind: 5})), "box 3: code 2"}, {sound(at(3, pred)), ""}, {sound(at(3, key)), ""},
		{sound(at(3, api.Coded{Kind: api.UPred})), "box 3: code 1"}, {sound(at(3, api.Coded{Kind: api.UPred, Data: []byte{99}})), "box 3: code 3"}, {sound(at(3, api.Coded{Kind: api.USkip, Data: []byte{99}})), "box 3: code 2"},
		{sound(insert(3, fill, fill, fill)), ""}, {sound(without(4)), ""}, {sound(insert(4, skip)), "box 4: code 2"}, {sound(without(6)), "box 6: code 2"}, {sound(part(6, 0, 2, 1)), "box 6: code 2"}, {sound(part(6, 1, 1, 1)), "box 6: code 2"},
		{sound(part(6, 1, 2, 2)), "box 6: code 2"}, {sound(part(6, 1, 2, 0)), "box 6: code 2"}, {sound(insert(7, fill)), "box 7: code 2"}, {sound(at(7, skip)), "box 7: code 2"}, {sound(without(3)), "box 5: code 2"},
		{sound(insert(9, api.Coded{Kind: api.UPart, Data: []byte{2, 3, 1}})), "box 9: code 2"}, {sound(insert(9, grey)), "box 9: code 2"}, {sound(at(9, api.Coded{Kind: api.UTail})), "box 9: code 2"}, {sound(without(9)), "box 9: code 2"},
		{sound(insert(10, fill)), "box 10: code 2"}, {sound(at(10, grey)), "box 10: code 2"}, {sound(insert(10, api.Coded{Kind: api.UIndex})), "box 10: code 2"},
		{sound(insert(11, fill)), "box 11: code 5"}, {append(sound(insert(11, fill)), 9), "box 11: code 5"}, {append(sound(units(t)), 9), "box 11: unit 126: code 1"}, {append(sound(units(t)[:3]), 9, 1, 0, 1), "box 3: unit 52: code 5"},
		{append(sound(at(2, pred)), 9), "box 2: code 2"},
	} {
		info, err := box.Open(c.b)
		if fault.Text(err) != c.want || err != nil && !isZero(info) {
			t.Errorf("P24.2: case %d: %s, not %s", i, fault.Text(err), c.want)
		}
		var f *fault.Fault
		if err != nil && (!errors.As(err, &f) || f.Where != "box") {
			t.Errorf("P24.2: case %d: errors.As", i)
		}
		frames, err2 := box.Frames(c.b)
		sizes, err3 := box.Sizes(c.b)
		if err != nil && (!fault.Same(err, err2) || !fault.Same(err, err3) || len(frames) > 0 || len(sizes) > 0) {
			t.Errorf("P24.4: case %d: %v, %v", i, err2, err3)
		}
	}
	// Every byte of the index and of the tail is as it must be.
	for _, i := range []int{9, 10} {
		for n := range units(t)[i].Data {
			l := units(t)
			l[i].Data[n] ^= 1
			if _, err := box.Open(joined(l)); fault.Text(err) != "box "+[]string{"9", "10"}[i-9]+": code 2" {
				t.Errorf("P24.2: byte %d of unit %d: %s", n, i, fault.Text(err))
			}
		}
		for _, more := range [][]byte{append(units(t)[i].Data, 0), units(t)[i].Data[:7]} {
			if _, err := box.Open(joined(data(i, more...))); fault.Of(err) != api.ErrForm {
				t.Errorf("P24.2: unit %d of another length: %s", i, fault.Text(err))
			}
		}
	}
}

func TestPartErrors(t *testing.T) {
	const far = 1<<63 - 1
	b := sound(units(t))
	info, _ := box.Open(b)
	e := info.Parts[0]
	for i, c := range []api.Entry{
		{Count: 0, Length: 1}, {Count: 17, Length: 1}, {Count: -1, Length: 1}, {Count: 1, First: -1}, {Count: 1, First: 16}, {Count: 1, Offset: -1}, {Count: 1, Length: -1},
		{Count: 1, Offset: len(b), Length: 1}, {Count: 1, Offset: 0, Length: len(b) + 1}, {Count: 1, Offset: len(b) + 1}, {Count: 1, Offset: far, Length: far}, {Count: 1, Offset: 1, Length: far},
	} {
		if coded, fills, err := box.Part(b, c); err != error(api.ErrRange) || len(coded) > 0 || len(fills) > 0 {
			t.Errorf("P24.3: case %d: %v", i, err)
		}
	}
	if _, _, err := box.Part(b, api.Entry{Count: 1, Offset: len(b)}); fault.Text(err) != "part 0: code 1" {
		t.Errorf("P24.3: no bytes: %s", fault.Text(err))
	}
	head := func(b ...byte) api.Coded { return api.Coded{Kind: api.UPart, Data: b} }
	for i, c := range []struct {
		l    []api.Coded
		more []byte
		want string
	}{
		{[]api.Coded{head(0, 0, 2), key, skip, fill}, nil, ""}, {[]api.Coded{head(99, 0, 2), grey, fill, pred}, nil, ""},
		{[]api.Coded{head(0, 0, 2)}, nil, "part 1: code 1"}, {[]api.Coded{head(0, 0, 2), key, fill}, nil, "part 3: code 1"},
		{[]api.Coded{head(0, 0, 1), key}, nil, "part 0: code 2"}, {[]api.Coded{head(0, 1, 2), key}, nil, "part 0: code 2"}, {[]api.Coded{head(0, 0, 2, 0), key}, nil, "part 0: code 2"}, {[]api.Coded{head(0, 0), key}, nil, "part 0: code 2"},
		{[]api.Coded{fill}, nil, "part 0: code 2"}, {[]api.Coded{{Kind: api.UChunk, Data: []byte{0, 0, 2}}}, nil, "part 0: code 2"},
		{[]api.Coded{head(0, 0, 2), fill}, nil, "part 1: code 2"}, {[]api.Coded{head(0, 0, 2), pred}, nil, "part 1: code 2"}, {[]api.Coded{head(0, 0, 2), skip}, nil, "part 1: code 2"},
		{[]api.Coded{head(0, 0, 2), {Kind: api.UKey}}, nil, "part 1: code 1"}, {[]api.Coded{head(0, 0, 2), key, {Kind: api.UIndex}}, nil, "part 2: code 2"}, {[]api.Coded{head(0, 0, 2), key, {Kind: api.UPred, Data: []byte{16}}}, nil, "part 2: code 3"},
		{[]api.Coded{head(0, 0, 2), key, skip, fill, skip}, nil, "part 4: code 5"}, {[]api.Coded{head(0, 0, 2), key, skip, {Kind: api.UIndex}}, nil, "part 3: code 5"},
		{[]api.Coded{head(0, 0, 2), key, skip, fill}, []byte{9}, "part 4: unit 31: code 1"}, {[]api.Coded{head(0, 0, 2), key}, []byte{9}, "part 2: unit 22: code 1"}, {nil, []byte{9}, "part 0: unit 0: code 1"},
	} {
		ahead := []byte("anything at all")
		b := slices.Concat(ahead, joined(c.l), c.more)
		e := api.Entry{First: 0, Count: 2, Offset: len(ahead), Length: len(b) - len(ahead)}
		coded, fills, err := box.Part(append(b, "behind it"...), e)
		if fault.Text(err) != c.want || err != nil && (len(coded) > 0 || len(fills) > 0) {
			t.Errorf("P24.3: case %d: %s, not %s", i, fault.Text(err), c.want)
		}
		if err == nil && (len(coded) != 2 || !sameCoded(coded[0], c.l[1]) || len(fills) != 2 || fills[0] != i || fills[1] != 1-i) {
			t.Errorf("P24.3: case %d: %v, %v", i, coded, fills)
		}
	}
	alone := b[e.Offset : e.Offset+e.Length]
	if coded, fills, err := box.Part(alone, api.Entry{First: e.First, Count: e.Count, Length: e.Length}); err != nil || len(coded) != 2 || !slices.Equal(fills, []int{0, 2}) {
		t.Errorf("P24.3: a part at the beginning: %v, %v", fills, err)
	}
	e.First = 1
	if _, _, err := box.Part(b, e); fault.Text(err) != "part 0: code 2" {
		t.Error("P24.3: another first frame")
	}
}

// real is a container of two groups of real frames.
func real(t *testing.T) ([]byte, []api.Frame) {
	t.Helper()
	c := config(60, 200, 200)
	var l []gop.Chunk
	var all []api.Frame
	for n := range 2 {
		var frames []api.Frame
		for i := range 3 {
			f, _ := plane.New(16, 8, 10)
			for k := range f.Pix {
				f.Pix[k] = (k%16*(n*9+3) + i*5 + k/16*11) % 256
			}
			frames = append(frames, f)
		}
		coded, built, err := gop.Encode(c, frames, []int{120, 60, 60})
		if err != nil {
			t.Fatal(err)
		}
		l = append(l, gop.Chunk{Number: n, Group: api.Group{First: 3 * n, Count: 3}, Coded: coded})
		all = append(all, built...)
	}
	b, err := box.Mux(c, 16, 8, l)
	if err != nil {
		t.Fatal(err)
	}
	return b, all
}

func TestFrames(t *testing.T) {
	b, want := real(t)
	got, err := box.Frames(b)
	if err != nil || !slices.EqualFunc(got, want, plane.Same) {
		t.Fatalf("P24.4: %v", err)
	}
	info, _ := box.Open(b)
	for i, e := range info.Parts {
		coded, _, err := box.Part(b, e)
		frames, err2 := decode.Frames(coded, info.W, info.H)
		if err != nil || err2 != nil || !slices.EqualFunc(frames, want[e.First:e.First+e.Count], plane.Same) {
			t.Errorf("P24.7: part %d: %v, %v", i, err, err2)
		}
	}
	// A frame that Open accepts, but that the decoder doesn't: its first level is too great.
	l := units(t)
	bad := api.Coded{Kind: api.UKey, Data: append([]byte{0}, bytes.Repeat([]byte{255}, 60)...)}
	l[2] = bad
	_, want2 := decode.Frames([]api.Coded{bad}, 16, 8)
	frames, err := box.Frames(sound(l))
	if want2 == nil || !fault.Same(err, want2) || len(frames) > 0 {
		t.Errorf("P24.4: the error of the decoder: %s", fault.Text(err))
	}
}

func TestChangedBytes(t *testing.T) {
	b, _ := real(t)
	for cut := range b {
		if _, err := box.Open(b[:cut]); err == nil {
			t.Fatalf("P24.8: cut off at %d", cut)
		}
	}
	for i := range b {
		for _, v := range []byte{0, 1, 255, b[i] ^ 128, b[i] + 1, api.UPred, api.UFlat} {
			c := slices.Clone(b)
			c[i] = v
			if _, err := box.Open(c); err == nil && v != b[i] {
				t.Fatalf("P24.8: byte %d changed to %d", i, v)
			}
		}
	}
}

func TestNothingIsShared(t *testing.T) {
	l := chunks(2, 1)
	b, _ := box.Mux(config(20, 60, 60), 16, 8, l)
	before := slices.Clone(b)
	info, _ := box.Open(b)
	coded, fills, _ := box.Part(b, info.Parts[0])
	coded[0].Data[0], fills[0], info.Parts[1].First = 77, 77, 77
	if !bytes.Equal(b, before) || syntax.Cost(l[0].Coded[0]) != 11 || l[0].Coded[0].Data[0] != 3 {
		t.Error("P24.5: memory is shared")
	}
	clear(b)
	if !bytes.Equal(coded[0].Data, []byte{77, 1, 2}) {
		t.Error("P24.5: memory is shared")
	}
}
