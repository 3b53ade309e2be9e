package audit_test

import (
	"bytes"
	"slices"
	"testing"

	"kinescope/api"
	"kinescope/audit"
	"kinescope/box"
	"kinescope/encode"
	"kinescope/fault"
	"kinescope/gop"
	"kinescope/plane"
	"kinescope/source"
	"kinescope/unit"
	"kinescope/whole"
)

type noise uint64

func (n *noise) next(most int) int {
	*n = *n*6364136223846793005 + 1442695040888963407
	return int(uint64(*n) >> 33 % uint64(most))
}

func (n *noise) video(w, h, frames int) []api.Frame {
	var l []api.Frame
	a, b := 1+n.next(9), n.next(9)
	for i := range frames {
		f := api.Frame{W: w, H: h}
		for k := range w * h {
			f.Pix = append(f.Pix, (a*(k%w+i)+b*(k/w)+n.next(9))%256)
		}
		l = append(l, f)
	}
	return l
}

func encoded(l []api.Frame) []byte {
	b, _ := source.Encode(l)
	return b
}

func config() api.Config {
	return api.Config{QMin: 3, QMax: 12, Reach: 1, Cut: 2000, Gop: 3, Rate: 80, Room: 300, Fill: 200}
}

func TestExamples(t *testing.T) {
	src := encoded([]api.Frame{{W: 8, H: 8, Pix: slices.Repeat([]int{77}, 64)}})
	if notes, err := audit.Check(src, nil); len(notes) > 0 || fault.Text(err) != "box 0: code 1" {
		t.Errorf("P30.2: no bytes: %s", fault.Text(err))
	}
	file, _ := whole.Run(config(), src)
	if notes, err := audit.Check(src, file); len(notes) > 0 || err != nil {
		t.Errorf("P30.2: %v, %v", notes, err)
	}
}

func TestGoodFiles(t *testing.T) {
	for seed := range 40 {
		x := noise(seed)
		c := config()
		c.Rate = 8 + x.next(150)
		c.Room = 300 + x.next(1000)
		if seed%4 == 0 {
			// Frames without loss are exactly at their bound.
			c.QMin, c.Rate, c.Room, c.Fill = 0, 9000, 9000, 9000
		}
		l := x.video(8+x.next(2)*8, 8+x.next(2)*8, 1+x.next(8))
		src := encoded(l)
		file, err := whole.Run(c, src)
		if err != nil {
			t.Fatal(err)
		}
		before := bytes.Clone(file)
		if notes, err := audit.Check(src, file); len(notes) > 0 || err != nil {
			t.Fatalf("P30.4: seed %d: %v, %v", seed, notes, err)
		}
		built, _ := whole.Built(c, src)
		peaks, err := audit.Peaks(src, file)
		if err != nil || len(peaks) != len(l) {
			t.Fatalf("P30.1: seed %d: %v", seed, err)
		}
		for i, f := range built {
			if want, _ := plane.Peak(f, l[i]); peaks[i] != want {
				t.Fatalf("P30.1: seed %d: the peaks are %v", seed, peaks)
			}
		}
		if !audit.Exact(c, src, file) || !bytes.Equal(file, before) {
			t.Fatalf("P30.3: seed %d", seed)
		}
		other := c
		other.Fill++
		if audit.Exact(other, src, file) || audit.Exact(c, src, file[:len(file)-1]) || audit.Exact(c, src, append(bytes.Clone(file), 0)) || audit.Exact(c, src[:7], file) || audit.Exact(api.Config{}, src, nil) || audit.Exact(c, nil, nil) {
			t.Fatalf("P30.3: seed %d: another file is exact", seed)
		}
	}
}

func TestErrors(t *testing.T) {
	x := noise(1)
	l := x.video(8, 8, 3)
	src := encoded(l)
	file, _ := whole.Run(config(), src)
	for i, c := range []struct {
		src, file []byte
		want      string
	}{
		{nil, nil, "source -1: code 1"}, {src[:len(src)-2], nil, ""}, {src, nil, "box 0: code 1"}, {src, append(bytes.Clone(file), 0), ""}, {append(bytes.Clone(src), 0), file, "source 3: code 5"},
	} {
		notes, err := audit.Check(c.src, c.file)
		peaks, err2 := audit.Peaks(c.src, c.file)
		if err == nil || !fault.Same(err, err2) || len(notes) > 0 || len(peaks) > 0 || c.want != "" && fault.Text(err) != c.want {
			t.Errorf("P30.1, P30.2: case %d: %s, %s", i, fault.Text(err), fault.Text(err2))
		}
	}
	for i := range file {
		bad := bytes.Clone(file)
		bad[i] ^= 4
		_, want := box.Frames(bad)
		notes, err := audit.Check(src, bad)
		peaks, err2 := audit.Peaks(src, bad)
		if want == nil || !fault.Same(err, want) || !fault.Same(err2, want) || len(notes) > 0 || len(peaks) > 0 {
			t.Fatalf("P30.4: byte %d: %s", i, fault.Text(err))
		}
	}
}

func TestOtherVideo(t *testing.T) {
	x := noise(2)
	l := x.video(16, 8, 4)
	file, _ := whole.Run(config(), encoded(l))
	for i, c := range []struct {
		l    []api.Frame
		want []audit.Note
	}{
		{l[:3], []audit.Note{{What: 1, Place: 4}}}, {append(slices.Clone(l), l[0]), []audit.Note{{What: 1, Place: 4}}}, {x.video(8, 8, 3), []audit.Note{{What: 1, Place: 4}}},
		{x.video(8, 8, 4), []audit.Note{{What: 2}}}, {x.video(16, 16, 4), []audit.Note{{What: 2}}}, {x.video(8, 16, 4), []audit.Note{{What: 2}}},
	} {
		notes, err := audit.Check(encoded(c.l), file)
		if err != nil || !slices.Equal(notes, c.want) {
			t.Errorf("P30.2: case %d: %v, %v", i, notes, err)
		}
		if peaks, err := audit.Peaks(encoded(c.l), file); err != error(api.ErrFit) || len(peaks) > 0 {
			t.Errorf("P30.1: case %d: %v", i, err)
		}
	}
}

// TestFrames joins frames of other quantizers than the file tells, and frames of other samples than the source has.
func TestFrames(t *testing.T) {
	x := noise(3)
	l := x.video(8, 8, 5)
	c := config()
	c.Rate, c.Room, c.Fill = 200, 2000, 2000
	far := l[3]
	far.Pix = slices.Clone(far.Pix)
	far.Pix[9] = (far.Pix[9] + 128) % 256
	key, built, _ := encode.Frame(l[0], api.Frame{}, true, 2, 1)
	pred, built1, _ := encode.Frame(l[1], built, false, 13, 1)
	good, _, _ := encode.Frame(l[2], built1, false, 12, 1)
	wrong, _, _ := encode.Frame(far, api.Frame{}, true, 1, 1)
	chunks := []gop.Chunk{
		{Number: 0, Group: api.Group{First: 0, Count: 3}, Coded: []api.Coded{key, pred, good}},
		{Number: 1, Group: api.Group{First: 3, Count: 2}, Coded: []api.Coded{wrong, {Kind: api.USkip}}},
	}
	file, err := box.Mux(c, 8, 8, chunks)
	if err != nil {
		t.Fatal(err)
	}
	peaks, err := audit.Peaks(encoded(l), file)
	if err != nil || peaks[3] < 120 {
		t.Fatalf("P30.1: the peaks are %v (%v)", peaks, err)
	}
	want := []audit.Note{{What: 6, Place: 0, Value: 2}, {What: 6, Place: 1, Value: 13}, {What: 6, Place: 3, Value: 1}, {What: 3, Place: 3, Value: peaks[3]}}
	if notes, err := audit.Check(encoded(l), file); err != nil || !slices.Equal(notes, want) {
		t.Errorf("P30.2: %v, not %v (%v)", notes, want, err)
	}
	// The quantizers of the file are permitted: QMin and QMax are.
	c.QMin, c.QMax = 1, 13
	file, _ = box.Mux(c, 8, 8, chunks)
	if notes, err := audit.Check(encoded(l), file); err != nil || !slices.Equal(notes, want[3:]) {
		t.Errorf("P30.2: %v (%v)", notes, err)
	}
	// Grey frames and skips have no bound.
	chunks[1].Coded[0] = api.Coded{Kind: api.UFlat}
	file, _ = box.Mux(c, 8, 8, chunks)
	if notes, err := audit.Check(encoded(l), file); err != nil || len(notes) > 0 {
		t.Errorf("P30.2: %v (%v)", notes, err)
	}
}

func number(v, n int) []byte {
	var b []byte
	for i := n - 1; i >= 0; i-- {
		b = append(b, byte(v>>(8*i)))
	}
	return b
}

// refilled returns a file of one part with other fill bytes behind its frames.
func refilled(t *testing.T, file []byte, fills []int) []byte {
	t.Helper()
	units, err := unit.Split(file)
	if err != nil {
		t.Fatal(err)
	}
	var b []byte
	add := func(kind int, data []byte) {
		u, _ := unit.Make(kind, data)
		b = append(b, u...)
	}
	part, index, n := 0, 0, 0
	for _, u := range units {
		switch u.Kind {
		case api.UFill:
			continue
		case api.UPart:
			part = len(b)
		case api.UIndex:
			index = len(b)
			u.Data = slices.Concat(u.Data[:2], number(part, 4), number(index-part, 4))
		case api.UTail:
			u.Data = append(number(index, 4), number(int(unit.Sum(b)), 4)...)
		}
		add(u.Kind, u.Data)
		if u.Kind >= api.UKey && u.Kind <= api.UFlat {
			b = append(b, unit.Fill(fills[n])...)
			n++
		}
	}
	return b
}

// firstWrong returns the first size at which a bucket of the rate 10 and the room 30 underflows or overflows.
func firstWrong(sizes []int, content int) []audit.Note {
	for i, v := range sizes {
		after := content - v + 10
		if v > content || after > 30 {
			return []audit.Note{{What: 4, Place: i}}
		}
		content = after
	}
	return nil
}

func TestBucket(t *testing.T) {
	flat, _ := plane.New(8, 8, 128)
	src := encoded([]api.Frame{flat, flat, flat})
	wrong := [3]int{}
	for content := 20; content <= 30; content += 5 {
		c := config()
		c.Rate, c.Room, c.Fill = 10, 30, content
		file, err := whole.Run(c, src)
		info, err2 := box.Open(file)
		if err != nil || err2 != nil || len(info.Parts) != 1 {
			t.Fatalf("%v, %v", err, err2)
		}
		coded, fills, _ := box.Part(file, info.Parts[0])
		bare := gop.Sizes(coded)
		if notes, err := audit.Check(src, refilled(t, file, fills)); err != nil || len(notes) > 0 {
			t.Fatalf("P30.2: as it was: %v, %v", notes, err)
		}
		for a := 0; a < 24; a += 3 {
			for b := 0; b < 24; b += 2 {
				more := []int{a, b, (a + b) % 7}
				sizes := []int{bare[0] + more[0], bare[1] + more[1], bare[2] + more[2]}
				want := firstWrong(sizes, content)
				if len(want) > 0 {
					wrong[want[0].Place]++
				}
				if notes, err := audit.Check(src, refilled(t, file, more)); err != nil || !slices.Equal(notes, want) {
					t.Fatalf("P30.2: sizes %v: %v, not %v (%v)", sizes, notes, want, err)
				}
			}
		}
	}
	if slices.Min(wrong[:]) == 0 {
		t.Errorf("the bucket was wrong %v times", wrong)
	}
}
