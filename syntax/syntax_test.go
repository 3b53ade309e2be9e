package syntax_test

import (
	"bytes"
	"reflect"
	"slices"
	"testing"

	"kinescope/api"
	"kinescope/coef"
	"kinescope/fault"
	"kinescope/model"
	"kinescope/syntax"
	"kinescope/unit"
)

type noise uint64

func (n *noise) next(most int) int {
	*n = *n*6364136223846793005 + 1442695040888963407
	return int(uint64(*n) >> 33 % uint64(most))
}

func (n *noise) levels(size int) []int {
	l := make([]int, size)
	if n.next(3) == 0 {
		return l
	}
	for i := range l {
		if n.next(4) == 0 {
			l[i] = n.next(41) - 20
		}
	}
	return l
}

// square returns a block of a kind, with parts that the kind has.
func (n *noise) square(kind int) syntax.Square {
	s := syntax.Square{Kind: kind}
	switch kind {
	case 1:
		s.Vector, s.Large = api.Vector{X: n.next(31) - 15, Y: n.next(31) - 15}, n.levels(64)
	case 2:
		s.Mode, s.Large = n.next(4), n.levels(64)
	case 3:
		for i := range 4 {
			s.Modes[i], s.Small[i] = n.next(4), n.levels(16)
		}
	}
	return s
}

func same(a, b syntax.Square) bool {
	for i := range 4 {
		if !slices.Equal(a.Small[i], b.Small[i]) {
			return false
		}
	}
	return a.Kind == b.Kind && a.Mode == b.Mode && a.Modes == b.Modes && a.Vector == b.Vector && slices.Equal(a.Large, b.Large)
}

// silent is a coder that counts calls.
type silent struct{ calls int }

func (c *silent) Bit(ctx int, b bool) bool { c.calls++; return b }
func (c *silent) Flat(b bool) bool         { c.calls++; return b }

func TestPack(t *testing.T) {
	for i, c := range []struct {
		h    syntax.Head
		want error
	}{
		{syntax.Head{Kind: 0, QP: -1}, api.ErrKind}, {syntax.Head{Kind: 5}, api.ErrKind}, {syntax.Head{Kind: -1}, api.ErrKind}, {syntax.Head{Kind: 16}, api.ErrKind},
		{syntax.Head{Kind: api.UKey, QP: 16}, api.ErrRange}, {syntax.Head{Kind: api.UPred, QP: -1}, api.ErrRange}, {syntax.Head{Kind: api.USkip, QP: 16}, api.ErrRange}, {syntax.Head{Kind: api.UFlat, QP: -1, Data: []byte{1}}, api.ErrRange},
		{syntax.Head{Kind: api.USkip, QP: 1}, api.ErrForm}, {syntax.Head{Kind: api.UFlat, Data: []byte{0}}, api.ErrForm}, {syntax.Head{Kind: api.USkip, Data: make([]byte, api.MaxUnit)}, api.ErrForm}, {syntax.Head{Kind: api.UFlat, QP: 15}, api.ErrForm},
		{syntax.Head{Kind: api.UKey, Data: make([]byte, api.MaxUnit)}, api.ErrLong}, {syntax.Head{Kind: api.UPred, QP: 16, Data: make([]byte, api.MaxUnit)}, api.ErrRange},
		{syntax.Head{Kind: api.UKey, Data: make([]byte, api.MaxUnit-1)}, nil}, {syntax.Head{Kind: api.UPred, QP: 15, Data: []byte{1, 2}}, nil}, {syntax.Head{Kind: api.UKey}, nil},
		{syntax.Head{Kind: api.USkip}, nil}, {syntax.Head{Kind: api.UFlat}, nil},
	} {
		got, err := syntax.Pack(c.h)
		if err != c.want {
			t.Errorf("P20.1: case %d: %v, not %v", i, err, c.want)
		}
		if err != nil {
			if got.Kind != 0 || len(got.Data) > 0 {
				t.Errorf("P20.1: case %d: a result beside an error", i)
			}
			continue
		}
		want := []byte(nil)
		if c.h.Kind <= api.UPred {
			want = append([]byte{byte(c.h.QP)}, c.h.Data...)
		}
		if got.Kind != c.h.Kind || !bytes.Equal(got.Data, want) {
			t.Errorf("P20.1: case %d: %v", i, got.Kind)
		}
		b, err := unit.Make(got.Kind, got.Data)
		if err != nil || syntax.Cost(got) != len(b) {
			t.Errorf("P20.1: case %d: Cost is %d, of a unit of %d bytes (%v)", i, syntax.Cost(got), len(b), err)
		}
		h, err := syntax.Read(got)
		if err != nil || h.Kind != c.h.Kind || h.QP != c.h.QP || !bytes.Equal(h.Data, c.h.Data) {
			t.Errorf("P20.4: case %d: Read is %d, %d, %v", i, h.Kind, h.QP, err)
		}
	}
}

func TestRead(t *testing.T) {
	for i, c := range []struct {
		c    api.Coded
		want error
	}{
		{api.Coded{Kind: 0}, api.ErrKind}, {api.Coded{Kind: 5, Data: []byte{1}}, api.ErrKind}, {api.Coded{Kind: -1}, api.ErrKind},
		{api.Coded{Kind: api.UKey}, api.ErrShort}, {api.Coded{Kind: api.UPred}, api.ErrShort},
		{api.Coded{Kind: api.UKey, Data: []byte{16}}, api.ErrRange}, {api.Coded{Kind: api.UPred, Data: []byte{255, 1}}, api.ErrRange},
		{api.Coded{Kind: api.UPred, Data: append([]byte{16}, make([]byte, api.MaxUnit)...)}, api.ErrRange},
		{api.Coded{Kind: api.UKey, Data: make([]byte, api.MaxUnit+1)}, api.ErrLong}, {api.Coded{Kind: api.UKey, Data: make([]byte, api.MaxUnit)}, nil},
		{api.Coded{Kind: api.USkip, Data: []byte{0}}, api.ErrForm}, {api.Coded{Kind: api.UFlat, Data: make([]byte, api.MaxUnit+1)}, api.ErrForm},
		{api.Coded{Kind: api.UPred, Data: []byte{15, 9}}, nil}, {api.Coded{Kind: api.UFlat}, nil}, {api.Coded{Kind: api.USkip}, nil},
	} {
		h, err := syntax.Read(c.c)
		if err != c.want || err != nil && (h.Kind != 0 || h.QP != 0 || len(h.Data) > 0) {
			t.Errorf("P20.1: case %d: %v, not %v", i, err, c.want)
		}
		if err != nil {
			continue
		}
		if back, err := syntax.Pack(h); err != nil || back.Kind != c.c.Kind || !bytes.Equal(back.Data, c.c.Data) {
			t.Errorf("P20.4: case %d: Pack of Read is %v", i, err)
		}
	}
	if syntax.Cost(api.Coded{Kind: api.USkip}) != 8 || syntax.Cost(api.Coded{Kind: 99, Data: make([]byte, 5)}) != 13 {
		t.Error("P20.1: Cost")
	}
}

// byHand codes a block by the calls that the document names.
func byHand(w *model.Writer, key bool, s syntax.Square) {
	if key {
		w.Flat(s.Kind == 3)
	} else {
		model.Kind(w, s.Kind)
	}
	switch s.Kind {
	case 1:
		model.Part(w, s.Vector.X)
		model.Part(w, s.Vector.Y)
		coef.Code(w, s.Large)
	case 2:
		model.Mode(w, s.Mode)
		coef.Code(w, s.Large)
	case 3:
		for i := range 4 {
			model.Mode(w, s.Modes[i])
			coef.Code(w, s.Small[i])
		}
	}
}

func TestCode(t *testing.T) {
	for seed := range 60 {
		x := noise(seed)
		w, hand := model.NewWriter(), model.NewWriter()
		var all []syntax.Square
		key := seed%2 == 0
		for range 20 {
			kind := x.next(4)
			if key {
				kind = 2 + x.next(2)
			}
			s := x.square(kind)
			byHand(hand, key, s)
			given := s
			if seed%3 == 0 {
				// Parts that the kind doesn't have are neither looked at nor returned.
				given = syntax.Square{Kind: kind, Mode: 77, Modes: [4]int{9, 9, 9, 9}, Vector: api.Vector{X: 99, Y: -99}, Large: []int{1 << 40}, Small: [4][]int{{5}}}
				switch kind {
				case 1:
					given.Vector, given.Large = s.Vector, s.Large
				case 2:
					given.Mode, given.Large = s.Mode, s.Large
				case 3:
					given.Modes, given.Small = s.Modes, s.Small
				}
			}
			got, err := syntax.Code(w, key, given)
			if err != nil || !same(got, s) {
				t.Fatalf("P20.2: seed %d, kind %d: %v, %v", seed, kind, got, err)
			}
			all = append(all, s)
		}
		if !bytes.Equal(w.End(), hand.End()) {
			t.Fatalf("P20.2: seed %d: other bits", seed)
		}
		r := model.NewReader(w.End())
		for i, s := range all {
			got, err := syntax.Code(r, key, x.square(i%4))
			if err != nil || !same(got, s) {
				t.Fatalf("P20.4: seed %d, block %d: %v, not %v (%v)", seed, i, got, s, err)
			}
		}
	}
}

func TestCodeErrors(t *testing.T) {
	large, small := make([]int, 64), make([]int, 16)
	four := [4][]int{small, small, small, small}
	high := slices.Clone(large)
	high[63] = 16321
	low := slices.Clone(small)
	low[0] = -16321
	for i, c := range []struct {
		key  bool
		s    syntax.Square
		want api.Code
	}{
		{false, syntax.Square{Kind: -1}, api.ErrKind}, {false, syntax.Square{Kind: 4}, api.ErrKind}, {true, syntax.Square{Kind: 0}, api.ErrKind},
		{true, syntax.Square{Kind: 1, Vector: api.Vector{X: 99}}, api.ErrKind}, {true, syntax.Square{Kind: 4}, api.ErrKind}, {true, syntax.Square{Kind: -1}, api.ErrKind},
		{false, syntax.Square{Kind: 1, Vector: api.Vector{X: 16}}, api.ErrRange}, {false, syntax.Square{Kind: 1, Vector: api.Vector{X: -16}, Large: large}, api.ErrRange},
		{false, syntax.Square{Kind: 1, Vector: api.Vector{Y: 16}, Large: large}, api.ErrRange}, {false, syntax.Square{Kind: 1, Vector: api.Vector{Y: -16}, Large: large}, api.ErrRange},
		{true, syntax.Square{Kind: 2, Mode: 4}, api.ErrRange}, {false, syntax.Square{Kind: 2, Mode: -1, Large: large}, api.ErrRange},
		{true, syntax.Square{Kind: 3, Modes: [4]int{0, 0, 0, 4}}, api.ErrRange}, {false, syntax.Square{Kind: 3, Modes: [4]int{-1, 0, 0, 0}, Small: four}, api.ErrRange},
		{false, syntax.Square{Kind: 1}, api.ErrFit}, {false, syntax.Square{Kind: 1, Large: small}, api.ErrFit}, {true, syntax.Square{Kind: 2, Large: append(high, 0)}, api.ErrFit},
		{true, syntax.Square{Kind: 3}, api.ErrFit}, {true, syntax.Square{Kind: 3, Small: [4][]int{small, small, small, large}}, api.ErrFit},
		{true, syntax.Square{Kind: 3, Small: [4][]int{low, nil, nil, nil}}, api.ErrRange}, {true, syntax.Square{Kind: 3, Small: [4][]int{small, nil, low, low}}, api.ErrFit},
		{true, syntax.Square{Kind: 3, Small: [4][]int{small, small, small, low}}, api.ErrRange},
		{true, syntax.Square{Kind: 2, Large: high}, api.ErrRange}, {false, syntax.Square{Kind: 1, Large: high}, api.ErrRange},
	} {
		w := &silent{}
		got, err := syntax.Code(w, c.key, c.s)
		if err != error(c.want) || !same(got, syntax.Square{}) || w.calls > 0 {
			t.Errorf("P20.2: case %d: %v, not %v", i, err, c.want)
		}
		if _, err := syntax.Code(model.NewWriter(), c.key, c.s); err != error(c.want) {
			t.Errorf("P20.2: case %d: %v with a writer", i, err)
		}
		// A reader does not use the block.
		if got, err := syntax.Code(model.NewReader(nil), c.key, c.s); err != nil || got.Kind != map[bool]int{true: 2, false: 0}[c.key] {
			t.Errorf("P20.2: case %d: %v with a reader", i, err)
		}
	}
	for _, v := range []int{api.MaxLevel, -api.MaxLevel} {
		s := syntax.Square{Kind: 3, Small: four}
		s.Small[2] = slices.Repeat([]int{v}, 16)
		if got, err := syntax.Code(model.NewWriter(), true, s); err != nil || !same(got, s) {
			t.Errorf("P20.2: the greatest levels: %v", err)
		}
		if _, err := syntax.Code(model.NewWriter(), true, syntax.Square{Kind: 2, Large: slices.Repeat([]int{v}, 64)}); err != nil {
			t.Errorf("P20.2: the greatest levels: %v", err)
		}
	}
	got, err := syntax.Code(model.NewWriter(), false, syntax.Square{Kind: 0, Large: high})
	if err != nil || !same(got, syntax.Square{}) {
		t.Errorf("P20.2: kind 0: %v, %v", got, err)
	}
}

// tooGreat codes a level that is too great, as the first of its list.
func tooGreat(w *model.Writer, base int) {
	w.Bit(base, true)
	w.Bit(base+1, true)
	w.Flat(false)
	for j := range 14 {
		w.Bit(base+17+min(j, 7), true)
	}
	for range 13 + 13 {
		w.Flat(true)
	}
}

func TestReaderErrors(t *testing.T) {
	begin := func(kind int) *model.Writer {
		w := model.NewWriter()
		model.Kind(w, kind)
		return w
	}
	one, two, three := begin(1), begin(2), begin(3)
	model.Part(one, 5)
	model.Part(one, -5)
	tooGreat(one, 39)
	model.Mode(two, 3)
	tooGreat(two, 39)
	model.Mode(three, 1)
	coef.Code(three, make([]int, 16))
	model.Mode(three, 2)
	tooGreat(three, 14)
	for i, c := range []struct {
		w    *model.Writer
		want string
	}{{one, "syntax 1: coef 0: code 3"}, {two, "syntax 2: coef 0: code 3"}, {three, "syntax 3: coef 0: code 3"}} {
		got, err := syntax.Code(model.NewReader(c.w.End()), false, syntax.Square{})
		if fault.Text(err) != c.want || !reflect.DeepEqual(got, syntax.Square{}) {
			t.Errorf("P20.2: case %d: %s, %v", i, fault.Text(err), got)
		}
	}
}

func TestNothingIsShared(t *testing.T) {
	x := noise(3)
	for kind := 1; kind < 4; kind++ {
		s := x.square(kind)
		for i := range s.Large {
			s.Large[i] = 1
		}
		for _, l := range s.Small {
			for i := range l {
				l[i] = 1
			}
		}
		got, _ := syntax.Code(model.NewWriter(), false, s)
		for i := range got.Large {
			got.Large[i] = 9
		}
		for i := range got.Small {
			if len(got.Small[i]) > 0 {
				got.Small[i] = append(got.Small[i], 5)
				got.Small[i][0] = 9
			}
		}
		if slices.Contains(s.Large, 9) || len(s.Small[0]) > 0 && slices.Contains(s.Small[0], 9) {
			t.Errorf("P20.3: kind %d shares memory", kind)
		}
	}
	data := []byte{1, 2, 3}
	c, _ := syntax.Pack(syntax.Head{Kind: api.UKey, Data: data})
	h, _ := syntax.Read(c)
	data[0] = 9
	h.Data[1] = 9
	if !bytes.Equal(c.Data, []byte{0, 1, 2, 3}) {
		t.Error("P20.3: the data is shared")
	}
}
