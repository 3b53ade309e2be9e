package script_test

import (
	"bytes"
	"slices"
	"strconv"
	"strings"
	"testing"

	"kinescope/api"
	"kinescope/fault"
	"kinescope/script"
	"kinescope/site"
	"kinescope/source"
	"kinescope/vbv"
	"kinescope/whole"
)

type noise uint64

func (n *noise) next(most int) int {
	*n = *n*6364136223846793005 + 1442695040888963407
	return int(uint64(*n) >> 33 % uint64(most))
}

func (n *noise) bytes(size int) []byte {
	b := make([]byte, size)
	for i := range b {
		b[i] = byte(n.next(256))
	}
	return b
}

func same(a, b site.Act) bool {
	return a.Kind == b.Kind && a.N == b.N && slices.Equal(a.Picks, b.Picks)
}

func TestOpts(t *testing.T) {
	c, room, workers, rest := script.Opts(nil)
	if c != (api.Config{Gop: 1, Rate: 8, Room: 8, Fill: 8}) || room != 0 || workers != 1 || len(rest) > 0 {
		t.Errorf("P31.1: no bytes: %v, %d, %d", c, room, workers)
	}
	for i, w := range []struct {
		in            []byte
		c             api.Config
		room, workers int
	}{
		{[]byte{0xF5, 0x29, 0xFF, 0xFF, 0xFF, 0xFF, 0xFF, 0xFF}, api.Config{QMin: 5, QMax: 9, Reach: 3, Cut: 4032, Gop: 4, Rate: 260, Room: 1268, Fill: 15}, 61440, 16},
		{[]byte{0x1C, 0x33, 4, 64, 4, 64, 64, 0x10}, api.Config{QMin: 12, QMax: 12, Gop: 1, Rate: 8, Room: 8, Fill: 8}, 0, 2},
		{[]byte{1, 2, 3, 4, 5, 6, 7, 8}, api.Config{QMin: 1, QMax: 2, Reach: 3, Cut: 256, Gop: 2, Rate: 32, Room: 144, Fill: 15}, 32768, 1},
		{[]byte{0, 0, 0, 0, 0, 0, 67}, api.Config{Gop: 1, Rate: 8, Room: 56, Fill: 11}, 0, 1},
	} {
		for _, more := range [][]byte{nil, {7}, []byte("more bytes")} {
			if len(w.in) < 8 && len(more) > 0 {
				continue
			}
			c, room, workers, rest := script.Opts(append(bytes.Clone(w.in), more...))
			if c != w.c || room != w.room || workers != w.workers || !bytes.Equal(rest, more) {
				t.Errorf("P31.1: case %d: %v, %d, %d, %v", i, c, room, workers, rest)
			}
		}
	}
	for seed := range 300 {
		x := noise(seed)
		b := x.bytes(x.next(12))
		before := bytes.Clone(b)
		c, room, workers, rest := script.Opts(b)
		if !vbv.May(c) || room < 0 || room > api.MaxDisk || workers < 1 || workers > api.MaxWorkers || len(rest) != max(0, len(b)-8) {
			t.Fatalf("P31.6: %v of %v", c, b)
		}
		for i := range rest {
			rest[i]++
		}
		if !bytes.Equal(b, before) {
			t.Fatal("P0.4: the rest is shared")
		}
	}
}

func TestPictures(t *testing.T) {
	src, rest := script.Pictures(nil)
	if l, err := source.Decode(src); err != nil || len(l) != 1 || l[0].W != 8 || l[0].H != 8 || slices.Max(l[0].Pix) != 0 || len(rest) > 0 {
		t.Errorf("P31.2: no bytes: %v", err)
	}
	for seed := range 400 {
		x := noise(seed)
		b := x.bytes(4 + x.next(30))
		if seed%4 == 0 {
			b[3] |= 7
			b[2] %= 40
		}
		src, rest := script.Pictures(b)
		if b[3]%8 == 7 {
			n := min(int(b[2]), len(b)-4)
			if !bytes.Equal(src, b[4:4+n]) || !bytes.Equal(rest, b[4+n:]) {
				t.Fatalf("P31.2: the bytes themselves: %v, %v of %v", src, rest, b)
			}
			continue
		}
		var l []api.Frame
		y3 := int(b[3])
		for i := range 1 + int(b[2])%4 {
			f := api.Frame{W: 8 + 8*(int(b[0])%2), H: 8 + 8*(int(b[1])%2)}
			for k := range f.W * f.H {
				x, y := k%f.W, k/f.W
				f.Pix = append(f.Pix, (y3*(x+3*y)+37*i*(y3%5)+x*y*(i%3))%256)
			}
			l = append(l, f)
		}
		want, err := source.Encode(l)
		if err != nil || !bytes.Equal(src, want) || !bytes.Equal(rest, b[4:]) {
			t.Fatalf("P31.2: the frames of %v: %v", b, err)
		}
	}
	raw := []byte{0, 0, 3, 7, 1, 2, 3, 4, 5}
	src, rest = script.Pictures(raw)
	clear(raw)
	_ = append(src, 9, 9)
	if !bytes.Equal(src, []byte{1, 2, 3}) || !bytes.Equal(rest, []byte{4, 5}) {
		t.Error("P0.4: the source and the rest share memory")
	}
	for n := range 4 {
		b := []byte{1, 3, 5}[:n]
		src, rest := script.Pictures(b)
		want, _ := script.Pictures(append(bytes.Clone(b), 0, 0, 0, 0)[:4])
		if !bytes.Equal(src, want) || len(rest) > 0 {
			t.Errorf("P31.2: %d bytes", n)
		}
	}
	if src, rest := script.Pictures([]byte{0, 0, 9, 15, 1, 2}); !bytes.Equal(src, []byte{1, 2}) || len(rest) > 0 {
		t.Error("P31.2: fewer bytes than told")
	}
	if src, rest := script.Pictures([]byte{0, 0, 0, 7, 1, 2}); len(src) > 0 || !bytes.Equal(rest, []byte{1, 2}) {
		t.Error("P31.2: no source bytes")
	}
}

func TestActs(t *testing.T) {
	for k := range 256 {
		for _, z := range []int{0, 1, 3, 4, 8, 9, 15, 16, 77, 255} {
			want := site.Act{Kind: site.Pick, N: z % 16}
			switch k % 16 {
			case 8, 9:
				want = site.Act{Kind: site.Round, N: 1 + z%4}
			case 10, 11:
				want = site.Act{Kind: site.Start, N: z % 9}
			case 12:
				want = site.Act{Kind: site.Crash, Picks: []int{z % 16, z / 16}}
			case 13:
				want = site.Act{Kind: site.Crash}
			case 14:
				want = site.Act{Kind: site.Arm, N: z % 16}
			case 15:
				want = site.Act{Kind: site.Grow, N: 256 * z}
			}
			if l := script.Acts([]byte{byte(k), byte(z)}); len(l) != 1 || !same(l[0], want) {
				t.Fatalf("P31.3: %d, %d is %v", k, z, l)
			}
		}
	}
	for n, want := range map[int]int{0: 0, 1: 0, 2: 1, 3: 1, 2047: 1023, 2048: 1024, 2049: 1024, 3000: 1024} {
		if l := script.Acts(make([]byte, n)); len(l) != want {
			t.Errorf("P31.3: %d bytes are %d acts", n, len(l))
		}
	}
	l := script.Acts([]byte{0, 5, 12, 0x21, 13, 9, 8})
	if len(l) != 3 || !same(l[0], site.Act{Kind: 1, N: 5}) || !same(l[1], site.Act{Kind: 2, Picks: []int{1, 2}}) || !same(l[2], site.Act{Kind: 2}) {
		t.Errorf("P31.3: %v", l)
	}
}

func TestPrint(t *testing.T) {
	for i, c := range []struct {
		a    site.Act
		want string
	}{
		{site.Act{Kind: site.Pick, N: 3}, "pick 3"}, {site.Act{Kind: site.Pick, N: -3, Picks: []int{5}}, "pick -3"}, {site.Act{Kind: site.Crash}, "crash"}, {site.Act{Kind: site.Crash, N: 7, Picks: []int{0, -1, 22}}, "crash 0 -1 22"},
		{site.Act{Kind: site.Start}, "start 0"}, {site.Act{Kind: site.Arm, N: 10}, "arm 10"}, {site.Act{Kind: site.Grow, N: 1<<63 - 1}, "grow 9223372036854775807"}, {site.Act{Kind: site.Round, N: -1 << 63}, "round -9223372036854775808"},
		{site.Act{}, "?"}, {site.Act{Kind: 7, N: 1}, "?"}, {site.Act{Kind: -1}, "?"},
	} {
		if got := script.Print(c.a); got != c.want {
			t.Errorf("P31.4: case %d: %q, not %q", i, got, c.want)
		}
	}
}

func TestParse(t *testing.T) {
	for i, c := range []struct {
		s    string
		want site.Act
	}{
		{"pick 3", site.Act{Kind: 1, N: 3}}, {"pick 0", site.Act{Kind: 1}}, {"crash", site.Act{Kind: 2}}, {"crash 0", site.Act{Kind: 2, Picks: []int{0}}}, {"crash 5 -7 5", site.Act{Kind: 2, Picks: []int{5, -7, 5}}},
		{"start 64", site.Act{Kind: 3, N: 64}}, {"arm -1", site.Act{Kind: 4, N: -1}}, {"grow 999999999999999999", site.Act{Kind: 5, N: 999999999999999999}}, {"round -999999999999999999", site.Act{Kind: 6, N: -999999999999999999}},
	} {
		a, err := script.Parse(c.s)
		if err != nil || !same(a, c.want) || script.Print(a) != c.s {
			t.Errorf("P31.4, P31.6: case %d: %v, %v", i, a, err)
		}
	}
	for _, c := range []struct {
		s    string
		want api.Code
	}{
		{"", api.ErrKind}, {" ", api.ErrKind}, {"fly", api.ErrKind}, {"fly 3", api.ErrKind}, {"Pick 3", api.ErrKind}, {" pick 3", api.ErrKind}, {"pick3", api.ErrKind}, {"pick\t3", api.ErrKind}, {"?", api.ErrKind}, {"pick\n", api.ErrKind}, {"crash\n", api.ErrKind},
		{"pick", api.ErrShort}, {"start", api.ErrShort}, {"arm", api.ErrShort}, {"grow", api.ErrShort}, {"round", api.ErrShort},
		{"pick ", api.ErrForm}, {"pick  3", api.ErrForm}, {"pick 3 ", api.ErrForm}, {"pick 03", api.ErrForm}, {"pick +3", api.ErrForm}, {"pick -0", api.ErrForm}, {"pick -", api.ErrForm}, {"pick --3", api.ErrForm}, {"pick 3 4", api.ErrForm}, {"pick x", api.ErrForm}, {"pick 3x", api.ErrForm},
		{"pick 1_0", api.ErrForm}, {"pick 0x1", api.ErrForm}, {"pick 1.0", api.ErrForm}, {"pick 1000000000000000000", api.ErrForm}, {"pick -1000000000000000000", api.ErrForm}, {"pick 99999999999999999999999", api.ErrForm}, {"pick -00", api.ErrForm}, {"pick 3\n", api.ErrForm},
		{"crash ", api.ErrForm}, {"crash 1 ", api.ErrForm}, {"crash  1", api.ErrForm}, {"crash 1 02", api.ErrForm}, {"crash x", api.ErrForm}, {"crash 1000000000000000000", api.ErrForm}, {"pick \u0663", api.ErrForm},
	} {
		if a, err := script.Parse(c.s); err != error(c.want) || !same(a, site.Act{}) {
			t.Errorf("P31.4: %q is %v, not %v", c.s, err, c.want)
		}
	}
	words := []string{"pick", "crash", "start", "arm", "grow", "round", "fly", " ", " ", " ", "0", "7", "12", "-", "-5", "00", ""}
	accepted := 0
	for seed := range 5000 {
		x := noise(seed)
		s := ""
		for range 1 + x.next(5) {
			s += words[x.next(len(words))]
		}
		if a, err := script.Parse(s); err == nil {
			accepted++
			if script.Print(a) != s {
				t.Fatalf("P31.6: %q is accepted as %q", s, script.Print(a))
			}
		}
	}
	if accepted < 50 {
		t.Errorf("%d texts were accepted", accepted)
	}
	for k := range 16 {
		for z := range 256 {
			a := script.Acts([]byte{byte(k), byte(z)})[0]
			if b, err := script.Parse(script.Print(a)); err != nil || !same(a, b) {
				t.Fatalf("P31.4: %v", a)
			}
		}
	}
}

func TestTell(t *testing.T) {
	c := api.Config{QMax: 15, Reach: 1, Cut: 640, Gop: 2, Rate: 40, Room: 200, Fill: 60}
	src, _ := script.Pictures([]byte{0, 0, 2, 3})
	file, _ := whole.Run(c, src)
	size := strconv.Itoa(len(file))
	act := func(kind, n int, picks ...int) site.Act { return site.Act{Kind: kind, N: n, Picks: picks} }
	for i, w := range []struct {
		c             api.Config
		src           []byte
		room, workers int
		l             []site.Act
		want          string
		err           error
	}{
		{api.Config{}, src, -1, 0, nil, "", api.ErrConfig}, {c, src, -1, 1, nil, "", api.ErrRange}, {c, src, 0, 65, nil, "", api.ErrRange},
		{c, src, 0, 1, nil, "state 0\nout none\n", nil},
		{c, src, 65536, 1, []site.Act{act(site.Start, 0), act(site.Round, 99)}, "state 3\nout " + size + "\n", nil},
		{c, src, 65536, 2, []site.Act{act(site.Pick, 0), act(9, 9), act(site.Start, 0), act(site.Pick, 2), act(site.Arm, 2), act(site.Round, 5), act(site.Pick, 0), act(site.Crash, 0, 1)}, "error 0 code 12\nerror 1 code 13\nerror 3 code 3\nerror 5 farm 1: code 10\nerror 6 code 10\nstate 0\nout none\n", nil},
		{c, nil, 65536, 2, []site.Act{act(site.Start, 0), act(site.Start, 1)}, "error 1 code 12\nstate 2\nout none\n", nil},
		{c, src, 0, 1, []site.Act{act(site.Start, 0), act(site.Grow, 9000), act(site.Start, 1), act(site.Round, 99), act(site.Crash, 0)}, "error 0 farm 4: code 9\nstate 0\nout " + size + "\n", nil},
		{c, src, 0, 1, slices.Repeat([]site.Act{act(site.Grow, 1)}, 1030), "state 0\nout none\n", nil},
	} {
		got, err := script.Tell(w.c, w.src, w.room, w.workers, w.l)
		if got != w.want || err != w.err {
			t.Errorf("P31.5: case %d: %q, %v", i, got, err)
		}
	}
	late := append(slices.Repeat([]site.Act{act(site.Grow, 100)}, 1022), act(site.Start, 0), act(site.Pick, 9), act(site.Pick, 9), act(site.Round, 99))
	if got, _ := script.Tell(c, src, 0, 1, late); got != "error 1023 code 3\nstate 1\nout none\n" {
		t.Errorf("P31.5: acts after the first 1024: %q", got)
	}
}

func TestRun(t *testing.T) {
	if got := script.Run(nil); got != "state 0\nout none\n" {
		t.Errorf("P31.5: no bytes: %q", got)
	}
	published := 0
	for seed := range 400 {
		x := noise(seed)
		b := x.bytes(x.next(120))
		if len(b) > 40 && seed%2 == 0 {
			// A disk with room, and a farm that is started and goes on.
			b[7] |= 8
			b[12], b[13] = 10, 1
			copy(b[len(b)-24:], bytes.Repeat([]byte{8, 3}, 12))
		}
		c, room, workers, rest := script.Opts(b)
		src, rest := script.Pictures(rest)
		want, err := script.Tell(c, src, room, workers, script.Acts(rest))
		before := bytes.Clone(b)
		got := script.Run(b)
		if err != nil || got != want || got != script.Run(b) || !bytes.Equal(b, before) {
			t.Fatalf("P31.5, P31.6: seed %d: %q, not %q", seed, got, want)
		}
		file, failure := whole.Run(c, src)
		lines := strings.Split(got, "\n")
		if len(lines) < 3 || lines[len(lines)-1] != "" {
			t.Fatalf("P31.5: %q", got)
		}
		out := lines[len(lines)-2]
		if out != "out none" {
			published++
			if failure != nil || out != "out "+strconv.Itoa(len(file)) {
				t.Fatalf("P29.5: seed %d: %s, not %d (%s)", seed, out, len(file), fault.Text(failure))
			}
		}
	}
	if published < 20 {
		t.Errorf("%d files were published", published)
	}
}
