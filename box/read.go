package box

import (
	"slices"

	"kinescope/api"
	"kinescope/plane"
	"kinescope/syntax"
	"kinescope/unit"
	"kinescope/vbv"
	"kinescope/walk"
)

// What must stand next in a container.
const (
	atHead = iota
	atPart
	atFrames
	atTail
	atEnd
)

// parser reads a container, unit by unit.
type parser struct {
	bytes []byte
	place int
	info  Info
	parts int // parts that the head tells
	run   frames
	index int // where the UIndex begins
}

// frames are the frames of parts, each with its fill bytes.
type frames struct {
	coded []api.Coded
	fills []int
	begun bool // a frame of the part has been read
	left  int  // frames of the part that have not been read
}

// read reads a whole container.
func read(b []byte) (parser, error) {
	p := parser{bytes: b}
	isWhole := func() bool { return p.place == atEnd }
	if err := walk.Units("box", b, p.take, isWhole); err != nil {
		return parser{}, err
	}
	return p, nil
}

// take takes the next unit of a container.
func (p *parser) take(n int, u api.Unit) error {
	switch p.place {
	case atHead:
		return p.takeHead(u)
	case atPart:
		return p.takePart(u)
	case atFrames:
		// Only a look at the unit behind the frames of a part tells that there are no more fill bytes.
		if p.run.left > 0 || u.Kind == api.UFill {
			return p.run.take(u)
		}
		p.endPart(u.At)
		if len(p.info.Parts) < p.parts {
			return p.takePart(u)
		}
		return p.takeIndex(u)
	case atTail:
		if u.Kind != api.UTail || !slices.Equal(u.Data, tailBytes(p.index, p.bytes[:u.At])) {
			return api.ErrForm
		}
		p.place = atEnd
		return nil
	}
	return api.ErrLong
}

func (p *parser) takeHead(u api.Unit) error {
	if u.Kind != api.UHead || len(u.Data) != headSize {
		return api.ErrForm
	}
	p.info, p.parts = readHead(u.Data)
	_, err := plane.New(p.info.W, p.info.H, api.Grey)
	if err != nil || p.info.Frames < 1 || p.info.Frames > api.MaxFrames ||
		p.parts < 1 || p.parts > p.info.Frames || !vbv.May(p.info.Config) {
		return api.ErrForm
	}
	p.place = atPart
	return nil
}

func (p *parser) takePart(u api.Unit) error {
	number, first := len(p.info.Parts), len(p.run.coded)
	if u.Kind != api.UPart || len(u.Data) != partSize {
		return api.ErrForm
	}
	part := api.Entry{First: first, Count: int(u.Data[2]), Offset: u.At}
	// Each further part needs a frame, and the last one has all that remain.
	further := p.parts - number - 1
	most := p.info.Frames - first - further
	if !slices.Equal(u.Data, partBytes(number, part)) || part.Count < 1 || part.Count > most || further == 0 && part.Count < most {
		return api.ErrForm
	}
	p.info.Parts = append(p.info.Parts, part)
	p.run.begin(part.Count)
	p.place = atFrames
	return nil
}

// endPart notes that the last part ends at an offset.
func (p *parser) endPart(at int) {
	last := &p.info.Parts[len(p.info.Parts)-1]
	last.Length = at - last.Offset
}

func (p *parser) takeIndex(u api.Unit) error {
	if u.Kind != api.UIndex || !slices.Equal(u.Data, indexBytes(p.info.Parts)) {
		return api.ErrForm
	}
	p.index, p.place = u.At, atTail
	return nil
}

// begin begins a part of so many frames.
func (f *frames) begin(count int) { f.begun, f.left = false, count }

// take takes the unit of a frame, or a fill byte behind one.
func (f *frames) take(u api.Unit) error {
	if u.Kind == api.UFill && f.begun {
		f.fills[len(f.fills)-1]++
		return nil
	}
	switch {
	case f.left == 0:
		return api.ErrLong
	case u.Kind < api.UKey || u.Kind > api.UFlat:
		return api.ErrForm
	case !f.begun && u.Kind != api.UKey && u.Kind != api.UFlat:
		return api.ErrForm
	}
	c := api.Coded{Kind: u.Kind, Data: u.Data}
	if _, err := syntax.Read(c); err != nil {
		return err
	}
	f.coded, f.fills = append(f.coded, c), append(f.fills, 0)
	f.begun = true
	f.left--
	return nil
}

const (
	headSize = 22
	partSize = 3
)

// headBytes returns the data of a UHead.
func headBytes(info Info, parts int) []byte {
	c := info.Config
	b := []byte{byte(info.W / 8), byte(info.H / 8), byte(info.Frames), byte(parts), byte(c.QMin), byte(c.QMax), byte(c.Reach), byte(c.Gop)}
	b = appendNumber(b, c.Cut, 2)
	for _, v := range []int{c.Rate, c.Room, c.Fill} {
		b = appendNumber(b, v, 4)
	}
	return b
}

// readHead returns what the data of a UHead tells, and how many parts there are.
func readHead(b []byte) (Info, int) {
	c := api.Config{QMin: int(b[4]), QMax: int(b[5]), Reach: int(b[6]), Gop: int(b[7]), Cut: number(b[8:10])}
	c.Rate, c.Room, c.Fill = number(b[10:14]), number(b[14:18]), number(b[18:22])
	return Info{W: 8 * int(b[0]), H: 8 * int(b[1]), Frames: int(b[2]), Config: c}, int(b[3])
}

// partBytes returns the data of a UPart.
func partBytes(number int, e api.Entry) []byte {
	return []byte{byte(number), byte(e.First), byte(e.Count)}
}

// indexBytes returns the data of the UIndex.
func indexBytes(parts []api.Entry) []byte {
	var b []byte
	for _, e := range parts {
		b = append(b, byte(e.First), byte(e.Count))
		b = appendNumber(appendNumber(b, e.Offset, 4), e.Length, 4)
	}
	return b
}

// tailBytes returns the data of the UTail behind all other bytes.
func tailBytes(index int, ahead []byte) []byte {
	return appendNumber(appendNumber(nil, index, 4), int(unit.Sum(ahead)), 4)
}

// appendNumber appends a number in so many bytes, the highest first.
func appendNumber(b []byte, v, n int) []byte {
	for i := n - 1; i >= 0; i-- {
		b = append(b, byte(v>>(8*i)))
	}
	return b
}

// number returns the number that bytes are.
func number(b []byte) int {
	v := 0
	for _, x := range b {
		v = v<<8 | int(x)
	}
	return v
}
