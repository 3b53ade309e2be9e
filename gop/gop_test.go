package gop_test

import (
	"bytes"
	"slices"
	"testing"

	"kinescope/api"
	"kinescope/decode"
	"kinescope/encode"
	"kinescope/fault"
	"kinescope/gop"
	"kinescope/plane"
	"kinescope/quant"
	"kinescope/syntax"
	"kinescope/unit"
)

type noise uint64

func (n *noise) next(most int) int {
	*n = *n*6364136223846793005 + 1442695040888963407
	return int(uint64(*n) >> 33 % uint64(most))
}

// video returns frames that differ little from one to the next.
func (n *noise) video(w, h, frames int) []api.Frame {
	var l []api.Frame
	for i := range frames {
		f := api.Frame{W: w, H: h}
		for k := range w * h {
			f.Pix = append(f.Pix, plane.Clip((k%w+i)*9+k/w*5+n.next(4)))
		}
		l = append(l, f)
	}
	return l
}

func flat(w, h, v int) api.Frame {
	f, _ := plane.New(w, h, v)
	return f
}

func config() api.Config {
	return api.Config{QMin: 1, QMax: 13, Reach: 2, Cut: 640, Gop: 8, Rate: 100, Room: 300, Fill: 200}
}

func sameCoded(a, b api.Coded) bool { return a.Kind == b.Kind && bytes.Equal(a.Data, b.Data) }

func sameChunk(a, b gop.Chunk) bool {
	return a.Number == b.Number && a.Group == b.Group && slices.EqualFunc(a.Coded, b.Coded, sameCoded)
}

func TestEncode(t *testing.T) {
	c := config()
	coded, built, err := gop.Encode(c, []api.Frame{flat(8, 8, 3)}, []int{8})
	if err != nil || len(coded) != 1 || coded[0].Kind != api.UFlat || len(built) != 1 || !plane.Same(built[0], flat(8, 8, 128)) {
		t.Errorf("P23.1: the example: %v, %v", coded, err)
	}
	for seed := range 40 {
		x := noise(seed)
		l := x.video(8+x.next(2)*8, 8+x.next(2)*8, 1+x.next(6))
		var caps []int
		for range l {
			caps = append(caps, 8+x.next(90))
		}
		coded, built, err := gop.Encode(c, l, caps)
		if err != nil || len(coded) != len(l) || len(built) != len(l) {
			t.Fatalf("P23.1: seed %d: %v", seed, err)
		}
		prev := api.Frame{}
		for i, f := range l {
			one, frame, err := encode.Fit(f, prev, i == 0, c, caps[i])
			if err != nil || !sameCoded(coded[i], one) || !plane.Same(built[i], frame) {
				t.Fatalf("P23.1: seed %d, frame %d: %v", seed, i, err)
			}
			prev = frame
		}
		back, err := decode.Frames(coded, l[0].W, l[0].H)
		if err != nil || !slices.EqualFunc(back, built, plane.Same) {
			t.Fatalf("P23.5: seed %d: the decoder has other frames (%v)", seed, err)
		}
		for i, size := range gop.Sizes(coded) {
			if size < 8 || size > caps[i] || size != syntax.Cost(coded[i]) {
				t.Fatalf("P23.5: frame %d takes %d bytes of %d", i, size, caps[i])
			}
			if coded[i].Kind == api.UKey || coded[i].Kind == api.UPred {
				bound, _ := quant.Bound(int(coded[i].Data[0]))
				if peak, _ := plane.Peak(built[i], l[i]); peak > bound {
					t.Fatalf("P23.5: a peak of %d", peak)
				}
			}
		}
		for i := range built {
			built[i].Pix[0] = 300 + i
		}
		for i := range built {
			if built[i].Pix[0] != 300+i || !plane.May(l[i]) {
				t.Fatal("P23.4: the frames share memory")
			}
		}
	}
}

func TestEncodeErrors(t *testing.T) {
	f, bad := flat(8, 8, 3), flat(8, 8, 3)
	bad.Pix[0] = -1
	many := slices.Repeat([]api.Frame{f}, 17)
	for i, c := range []struct {
		c    api.Config
		l    []api.Frame
		caps []int
		want error
	}{
		{api.Config{}, nil, nil, api.ErrConfig}, {config(), nil, nil, api.ErrForm}, {config(), many, nil, api.ErrForm}, {config(), []api.Frame{f, flat(16, 8, 1), bad}, nil, api.ErrForm},
		{config(), []api.Frame{f, flat(16, 8, 1)}, []int{7, 7}, api.ErrFit}, {config(), []api.Frame{f, f, flat(8, 16, 1)}, []int{9, 9, 9}, api.ErrFit},
		{config(), []api.Frame{f, f}, []int{7}, api.ErrFit}, {config(), []api.Frame{f}, []int{9, 7}, api.ErrFit}, {config(), []api.Frame{f}, nil, api.ErrFit},
		{config(), []api.Frame{f, f}, []int{9, 7}, api.ErrRange}, {config(), []api.Frame{f}, []int{-1 << 63}, api.ErrRange}, {config(), many[1:], slices.Repeat([]int{8}, 16), nil},
	} {
		coded, built, err := gop.Encode(c.c, c.l, c.caps)
		if err != c.want || err != nil && (len(coded) > 0 || len(built) > 0) {
			t.Errorf("P23.1: case %d: %v, not %v", i, err, c.want)
		}
	}
}

// chunk returns a chunk of so many frames.
func chunk(number, first, count int) gop.Chunk {
	k := gop.Chunk{Number: number, Group: api.Group{First: first, Count: count}}
	for i := range count {
		c := []api.Coded{{Kind: api.UKey, Data: []byte{3, byte(i), 7}}, {Kind: api.USkip}, {Kind: api.UFlat}, {Kind: api.UPred, Data: []byte{15}}, {Kind: api.UKey, Data: []byte{0}}}[i%5]
		k.Coded = append(k.Coded, c)
	}
	return k
}

func TestMay(t *testing.T) {
	for i, c := range []struct {
		change func(k *gop.Chunk)
		want   bool
	}{
		{func(k *gop.Chunk) {}, true}, {func(k *gop.Chunk) { *k = chunk(0, 0, 1) }, true}, {func(k *gop.Chunk) { *k = chunk(15, 15, 16) }, true}, {func(k *gop.Chunk) { *k = chunk(0, 0, 0) }, false},
		{func(k *gop.Chunk) { *k = chunk(0, 0, 17) }, false}, {func(k *gop.Chunk) { k.Number = -1 }, false}, {func(k *gop.Chunk) { k.Number = 16 }, false},
		{func(k *gop.Chunk) { k.Group.First = -1 }, false}, {func(k *gop.Chunk) { k.Group.First = 16 }, false},
		{func(k *gop.Chunk) { k.Group.Count = 5 }, false}, {func(k *gop.Chunk) { k.Group.Count = 7 }, false}, {func(k *gop.Chunk) { k.Group.Count = -6 }, false},
		{func(k *gop.Chunk) { k.Coded[0].Kind = api.UPred }, false}, {func(k *gop.Chunk) { k.Coded[0] = api.Coded{Kind: api.USkip} }, false}, {func(k *gop.Chunk) { k.Coded[0] = api.Coded{Kind: api.UFlat} }, true},
		{func(k *gop.Chunk) { k.Coded[5].Kind = 0 }, false}, {func(k *gop.Chunk) { k.Coded[5].Data = nil }, false}, {func(k *gop.Chunk) { k.Coded[3].Data = []byte{16} }, false}, {func(k *gop.Chunk) { k.Coded[1].Data = []byte{0} }, false},
		{func(k *gop.Chunk) { k.Coded[5].Data = make([]byte, api.MaxUnit) }, true}, {func(k *gop.Chunk) { k.Coded[5].Data = make([]byte, api.MaxUnit+1) }, false},
	} {
		k := chunk(3, 4, 6)
		c.change(&k)
		if gop.May(k) != c.want {
			t.Errorf("P23.2: case %d: May is %v", i, !c.want)
		}
		b, err := gop.Pack(k)
		if c.want && err != nil || !c.want && (err != error(api.ErrForm) || len(b) > 0) {
			t.Errorf("P23.2: case %d: Pack is %v", i, err)
		}
		if err != nil {
			continue
		}
		want, _ := unit.Make(api.UChunk, []byte{byte(k.Number), byte(k.Group.First), byte(k.Group.Count)})
		for _, c := range k.Coded {
			u, _ := unit.Make(c.Kind, c.Data)
			want = append(want, u...)
		}
		if !bytes.Equal(b, want) {
			t.Errorf("P23.2: case %d: other bytes", i)
		}
		back, err := gop.Parse(b)
		if err != nil || !sameChunk(back, k) {
			t.Errorf("P23.6: case %d: %v", i, err)
		}
	}
}

func TestSizes(t *testing.T) {
	if got := gop.Sizes(chunk(0, 0, 5).Coded); !slices.Equal(got, []int{11, 8, 8, 9, 9}) {
		t.Errorf("P23.1: Sizes is %v", got)
	}
	if len(gop.Sizes(nil)) > 0 {
		t.Error("P23.1: Sizes of nothing")
	}
}

// file returns a file of units: kind and data of each.
func file(l ...api.Coded) []byte {
	var b []byte
	for _, c := range l {
		u, _ := unit.Make(c.Kind, c.Data)
		b = append(b, u...)
	}
	return b
}

func TestParseErrors(t *testing.T) {
	head := func(b ...byte) api.Coded { return api.Coded{Kind: api.UChunk, Data: b} }
	key, pred, skip, grey, fill := api.Coded{Kind: api.UKey, Data: []byte{1}}, api.Coded{Kind: api.UPred, Data: []byte{1}}, api.Coded{Kind: api.USkip}, api.Coded{Kind: api.UFlat}, api.Coded{}
	for i, c := range []struct {
		b    []byte
		want string
	}{
		{nil, "gop 0: code 1"}, {file(head(0, 0, 1)), "gop 1: code 1"}, {file(head(0, 0, 2), key), "gop 2: code 1"}, {file(head(0, 0, 2), key, pred), ""},
		{file(head(15, 15, 1), grey), ""}, {file(fill), "gop 0: code 2"}, {file(api.Coded{Kind: api.UKey, Data: []byte{0, 0, 1}}), "gop 0: code 2"},
		{file(head(0, 0)), "gop 0: code 2"}, {file(head(0, 0, 1, 0), key), "gop 0: code 2"}, {file(head()), "gop 0: code 2"},
		{file(head(16, 0, 1), key), "gop 0: code 2"}, {file(head(0, 16, 1), key), "gop 0: code 2"}, {file(head(0, 0, 0)), "gop 0: code 2"}, {file(head(0, 0, 17), key), "gop 0: code 2"},
		{file(head(0, 0, 1), pred), "gop 1: code 2"}, {file(head(0, 0, 1), skip), "gop 1: code 2"}, {file(head(0, 0, 1), fill), "gop 1: code 2"}, {file(head(0, 0, 1), head(0, 0, 1)), "gop 1: code 2"},
		{file(head(0, 0, 1), api.Coded{Kind: api.UPred}), "gop 1: code 2"}, {file(head(0, 0, 1), api.Coded{Kind: api.UKey}), "gop 1: code 1"}, {file(head(0, 0, 1), api.Coded{Kind: api.UKey, Data: []byte{16}}), "gop 1: code 3"},
		{file(head(0, 0, 1), api.Coded{Kind: api.UFlat, Data: []byte{1}}), "gop 1: code 2"}, {file(head(0, 0, 3), key, fill), "gop 2: code 13"}, {file(head(0, 0, 3), key, api.Coded{Kind: api.UHead}), "gop 2: code 13"},
		{file(head(0, 0, 3), key, skip, api.Coded{Kind: api.USkip, Data: []byte{1}}), "gop 3: code 2"}, {file(head(0, 0, 3), key, api.Coded{Kind: api.UPred}, fill), "gop 2: code 1"},
		{file(head(0, 0, 1), key, skip), "gop 2: code 5"}, {file(head(0, 0, 1), key, fill), "gop 2: code 5"}, {file(head(0, 0, 2), key, key, fill, fill), "gop 3: code 5"},
		{append(file(head(0, 0, 1), key), 9), "gop 2: unit 20: code 1"}, {append(file(head(0, 0, 2), key), 9), "gop 2: unit 20: code 1"}, {append(file(head(0, 0, 1), key, skip), 9), "gop 2: code 5"},
		{append(file(head(0, 0, 1), pred), 9), "gop 1: code 2"}, {append(file(head(0, 0, 1)), 9), "gop 1: unit 11: code 1"}, {[]byte{9}, "gop 0: unit 0: code 1"}, {append(file(fill), 9), "gop 0: code 2"},
		{append(file(head(0, 0, 2), key), 9, 1, 0, 1, 0), "gop 2: unit 20: code 5"}, {append(file(head(0, 0, 1), key), 9, 0, 0, 0, 0, 0, 0, 0), "gop 2: unit 20: code 4"},
	} {
		k, err := gop.Parse(c.b)
		if fault.Text(err) != c.want || err != nil && (k.Number != 0 || k.Group.Count != 0 || k.Group.First != 0 || len(k.Coded) > 0) {
			t.Errorf("P23.3: case %d: %s, not %s", i, fault.Text(err), c.want)
		}
	}
}

func TestCutOff(t *testing.T) {
	b, _ := gop.Pack(chunk(2, 3, 7))
	for cut := range b {
		if _, err := gop.Parse(b[:cut]); err == nil {
			t.Fatalf("P23.6: a file that is cut off at %d", cut)
		}
	}
	for _, more := range [][]byte{file(api.Coded{}), file(api.Coded{Kind: api.USkip}), {77}} {
		if _, err := gop.Parse(append(slices.Clone(b), more...)); err == nil {
			t.Fatal("P23.6: one more unit")
		}
	}
}

func TestNothingIsShared(t *testing.T) {
	k := chunk(2, 3, 7)
	b, _ := gop.Pack(k)
	before := slices.Clone(b)
	back, _ := gop.Parse(b)
	back.Coded[0].Data[0] = 9
	k.Coded[0].Data[1] = 77
	if !bytes.Equal(b, before) {
		t.Error("P23.4: the chunk shares memory with its bytes")
	}
	clear(b)
	if !bytes.Equal(back.Coded[0].Data, []byte{9, 0, 7}) {
		t.Error("P23.4: the chunk shares memory with its bytes")
	}
}

func TestOnlyItsOwnFrames(t *testing.T) {
	x := noise(4)
	l := x.video(16, 8, 6)
	caps := []int{90, 60, 50, 90, 60, 50}
	all, _, _ := gop.Encode(config(), l[3:], caps[3:])
	l[0], l[2] = flat(16, 8, 0), flat(16, 8, 255)
	again, _, err := gop.Encode(config(), l[3:], caps[3:])
	if err != nil || !slices.EqualFunc(all, again, sameCoded) {
		t.Error("P23.5: a group depends on other frames")
	}
}
