package site_test

import (
	"bytes"
	"slices"
	"testing"

	"kinescope/api"
	"kinescope/box"
	"kinescope/decode"
	"kinescope/fault"
	"kinescope/log"
	"kinescope/plane"
	"kinescope/site"
	"kinescope/source"
	"kinescope/vbv"
	"kinescope/whole"
)

type noise uint64

func (n *noise) next(most int) int {
	*n = *n*6364136223846793005 + 1442695040888963407
	return int(uint64(*n) >> 33 % uint64(most))
}

func config() api.Config {
	return api.Config{QMin: 2, QMax: 15, Reach: 1, Cut: 640, Gop: 2, Rate: 40, Room: 200, Fill: 60}
}

func video(frames int) []byte {
	var l []api.Frame
	for i := range frames {
		f, _ := plane.New(8, 8, 0)
		for k := range f.Pix {
			f.Pix[k] = (k%8*(i/2*7+3) + k/8*5 + i) % 256
		}
		l = append(l, f)
	}
	b, _ := source.Encode(l)
	return b
}

func made(t *testing.T, src []byte, room, workers int) *site.Site {
	t.Helper()
	s, err := site.New(config(), src, room, workers)
	if err != nil {
		t.Fatal(err)
	}
	return s
}

func pick(n int) site.Act       { return site.Act{Kind: site.Pick, N: n} }
func crash(l ...int) site.Act   { return site.Act{Kind: site.Crash, Picks: l} }
func started(n int) site.Act    { return site.Act{Kind: site.Start, N: n} }
func armed(n int) site.Act      { return site.Act{Kind: site.Arm, N: n} }
func grown(n int) site.Act      { return site.Act{Kind: site.Grow, N: n} }
func round(n int) site.Act      { return site.Act{Kind: site.Round, N: n} }
func text(err error) string     { return fault.Text(err) }
func hasOut(s *site.Site) bool  { _, ok := s.Out(); return ok }
func outOf(s *site.Site) []byte { b, _ := s.Out(); return b }
func names(s *site.Site) (l []string) {
	for _, f := range s.Files() {
		l = append(l, f.Name)
	}
	return l
}

func same(a, b []api.File) bool {
	return slices.EqualFunc(a, b, func(x, y api.File) bool {
		return x.Name == y.Name && x.Safe == y.Safe && bytes.Equal(x.Data, y.Data)
	})
}

func TestNew(t *testing.T) {
	if site.Pick != 1 || site.Crash != 2 || site.Start != 3 || site.Arm != 4 || site.Grow != 5 || site.Round != 6 {
		t.Error("P29: the kinds of acts")
	}
	for i, c := range []struct {
		c             api.Config
		room, workers int
		want          error
	}{
		{api.Config{}, -1, 0, api.ErrConfig}, {config(), -1, 1, api.ErrRange}, {config(), api.MaxDisk + 1, 1, api.ErrRange}, {config(), 0, 0, api.ErrRange}, {config(), 0, 65, api.ErrRange},
		{config(), 0, -1 << 63, api.ErrRange}, {config(), 0, 1, nil}, {config(), api.MaxDisk, 64, nil},
	} {
		if s, err := site.New(c.c, nil, c.room, c.workers); err != c.want || (s == nil) != (err != nil) {
			t.Errorf("P29.1: case %d: %v", i, err)
		}
	}
	s := made(t, video(1), 5, 7)
	if s.Up() || s.State() != 0 || s.Code() != 0 || len(s.Missing()) > 0 || len(s.Made()) > 0 || hasOut(s) || len(s.Files()) > 0 || s.Steps() != 0 || s.Workers() != 0 {
		t.Error("P29.1, P29.3: a new site")
	}
	if err := s.Do(grown(api.MaxDisk - 5)); err != nil || s.Do(grown(1)) != error(api.ErrRange) {
		t.Errorf("P29.1: the capacity: %v", err)
	}
}

func TestExamples(t *testing.T) {
	src := video(3)
	want, _ := whole.Run(config(), src)
	s := made(t, src, 65536, 2)
	if s.Do(pick(0)) != error(api.ErrState) || s.Do(started(0)) != nil || s.Do(round(99)) != nil || s.State() != 3 || !bytes.Equal(outOf(s), want) {
		t.Error("P29.2: the first example")
	}
	if s.Do(crash()) != nil || !bytes.Equal(outOf(s), want) || s.Do(started(1)) != nil || s.State() != 3 {
		t.Error("P29.2: the second example")
	}
	s = made(t, src, 0, 1)
	if err := s.Do(started(0)); text(err) != "farm 4: code 9" || hasOut(s) || s.Up() {
		t.Errorf("P29.2: the third example: %s", text(err))
	}
}

func TestActs(t *testing.T) {
	s := made(t, video(3), 65536, 2)
	for i, c := range []struct {
		a    site.Act
		want string
	}{
		{site.Act{}, "code 13"}, {site.Act{Kind: 7}, "code 13"}, {site.Act{Kind: -1 << 63, N: 5}, "code 13"},
		{pick(-1), "code 12"}, {round(1), "code 12"}, {round(0), "code 12"}, {round(-1), "code 3"}, {round(1001), "code 3"}, {started(-1), "code 3"}, {started(65), "code 3"},
		{started(0), ""}, {started(65), "code 3"}, {started(0), "code 12"}, {started(3), "code 12"}, {pick(2), "code 3"}, {pick(-1), "code 3"}, {pick(1), ""}, {round(0), ""}, {round(1001), "code 3"}, {grown(-1), "code 3"}, {grown(7), ""},
	} {
		if err := s.Do(c.a); text(err) != c.want {
			t.Errorf("P29.2: case %d: %s, not %s", i, text(err), c.want)
		}
	}
	if s.Workers() != 2 || !s.Up() || s.State() != 1 || !slices.Equal(s.Missing(), []int{0, 1}) || !slices.Equal(s.Made(), []int{0}) {
		t.Error("P29.3: a farm that has begun")
	}
	if s.Do(armed(-5)) != nil || s.Do(armed(1)) != nil || !s.Up() {
		t.Error("P29.2: Arm")
	}
	writes := s.Steps()
	if err := s.Do(pick(1)); text(err) != "farm 1: code 10" || s.Up() || s.Steps() != writes+1 || s.State() != 1 || s.Workers() != 2 {
		t.Errorf("P29.2: a pick at which the disk goes down: %s", text(err))
	}
	for i, c := range []struct {
		a    site.Act
		want string
	}{{pick(0), "code 10"}, {pick(9), "code 3"}, {round(5), "code 10"}, {started(1), "code 12"}, {grown(1), "code 10"}, {grown(-1), "code 10"}, {armed(5), ""}, {site.Act{}, "code 13"}} {
		if err := s.Do(c.a); text(err) != c.want {
			t.Errorf("P29.2: case %d of a farm that has gone down: %s, not %s", i, text(err), c.want)
		}
	}
	if !slices.Equal(names(s), []string{"job"}) || !slices.Equal(s.Made(), []int{0}) || hasOut(s) || s.Steps() != writes+1 {
		t.Error("P29.3: what works when the disk is down")
	}
	if s.Do(crash()) != nil || s.Up() || s.Workers() != 0 || s.State() != 0 || len(s.Missing()) > 0 || len(s.Made()) > 0 || s.Steps() != 0 {
		t.Error("P29.2, P29.3: after a crash there is no farm")
	}
	if s.Do(started(64)) != nil || s.Workers() != 64 || s.Do(crash()) != nil {
		t.Error("P29.2: Start with the most workers")
	}
	if s.Do(started(5)) != nil || s.Workers() != 5 || !s.Up() || s.State() != 1 {
		t.Error("P29.2: Start with a number of workers")
	}
	// A start that fails leaves no farm.
	fresh := made(t, video(3), 65536, 2)
	fresh.Do(armed(3))
	if err := fresh.Do(started(0)); text(err) != "farm 4: code 10" || fresh.Up() || fresh.Do(started(0)) != error(api.ErrDown) || fresh.Do(pick(0)) != error(api.ErrState) {
		t.Errorf("P29.2: a start at which the disk goes down: %s", text(err))
	}
}

func TestRound(t *testing.T) {
	s := made(t, video(3), 65536, 3)
	s.Do(started(0))
	if s.Do(round(1)) != nil || !slices.Equal(s.Made(), []int{0, 1}) || s.Steps() != 4 {
		t.Error("P29.2: one round is one pick of each worker")
	}
	if s.Do(round(2)) != nil || s.Steps() != 8 {
		t.Error("P29.2: two rounds")
	}
	s.Do(armed(2))
	if err := s.Do(round(9)); text(err) != "farm 1: code 10" || s.Steps() != 10 {
		t.Errorf("P29.2: ErrDown ends a round: %s", text(err))
	}
	// Other errors are ignored.
	s = made(t, video(3), 30, 2)
	s.Do(started(0))
	if s.Do(round(9)) != nil || s.State() != 1 || len(s.Made()) < 4 || s.Do(round(1000)) != nil {
		t.Errorf("P29.2: a round on a full disk: made %v", s.Made())
	}
}

func TestOut(t *testing.T) {
	src := video(1)
	want, _ := whole.Run(config(), src)
	s := made(t, src, 65536, 1)
	s.Do(started(0))
	for n := range 16 {
		b, ok := s.Out()
		if ok != (n >= 13) || ok && !bytes.Equal(b, want) || !ok && len(b) > 0 {
			t.Fatalf("P29.3: Out after %d picks", n)
		}
		s.Do(pick(0))
	}
	s.Do(crash())
	s.Do(armed(1))
	s.Do(started(0))
	b, ok := s.Out()
	if !ok || !bytes.Equal(b, want) {
		t.Error("P29.3: Out")
	}
	b[0]++
	s.Files()[0].Data[0]++
	if !bytes.Equal(outOf(s), want) {
		t.Error("P29.4: Out is shared")
	}
	src[0] = 'X'
	if s.Do(crash()) != nil || s.Do(started(0)) != nil || s.State() != 3 {
		t.Error("P29.4: the source is shared")
	}
}

func TestFailure(t *testing.T) {
	b := video(1)
	for _, src := range [][]byte{nil, b[:len(b)-1], append(bytes.Clone(b), 0), []byte("KS\x01\x01\x11")} {
		_, err := whole.Run(config(), src)
		s := made(t, src, 65536, 2)
		for n := range 4 {
			if s.Do(started(n)) != nil || s.State() != 2 || s.Code() != fault.Of(err) || hasOut(s) || len(s.Missing()) > 0 {
				t.Errorf("P29.5, P29.6: state %d, code %d", s.State(), s.Code())
			}
			s.Do(round(3))
			s.Do(crash())
		}
	}
}

// safeDone returns the chunks whose record is safe.
func safeDone(s *site.Site) []int {
	var l []int
	for _, f := range s.Files() {
		if f.Name == "job" {
			records, _ := log.Scan(f.Data[:f.Safe])
			for _, r := range records {
				if r.Kind == api.UDone {
					l = append(l, r.Number)
				}
			}
		}
	}
	return l
}

// act returns any act.
func (n *noise) act() site.Act {
	switch k := n.next(20); {
	case k < 9:
		return pick(n.next(6) - 1)
	case k < 11:
		return round(n.next(4))
	case k < 14:
		return started(n.next(5))
	case k < 17:
		return crash([]int{n.next(9) - 1, n.next(40), n.next(200), n.next(9)}[:n.next(5)]...)
	case k < 19:
		return armed(n.next(14))
	}
	return grown(n.next(300))
}

func TestAnyScript(t *testing.T) {
	for seed := range 250 {
		x := noise(seed)
		src := video(1 + x.next(6))
		if seed%9 == 0 {
			src = src[:len(src)-1-x.next(3)]
		}
		file, failure := whole.Run(config(), src)
		s := made(t, src, []int{0, 40, 100, 300, 65536}[x.next(5)], 1+x.next(4))
		var done []int
		for range x.next(90) {
			a := x.act()
			if a.Kind == site.Start && !s.Up() {
				done = safeDone(s)
			}
			s.Do(a)
			if b, ok := s.Out(); ok && (failure != nil || !bytes.Equal(b, file)) {
				t.Fatalf("P29.5: seed %d: out has %d bytes", seed, len(b))
			}
			if s.State() == 2 && (failure == nil || s.Code() != fault.Of(failure)) || s.State() == 3 && failure != nil {
				t.Fatalf("P29.5: seed %d: state %d, code %d", seed, s.State(), s.Code())
			}
			for _, n := range s.Made() {
				if slices.Contains(done, n) {
					t.Fatalf("P29.7: seed %d: chunk %d is made again", seed, n)
				}
			}
		}
		finish(t, seed, s, src, file, failure)
	}
}

// finish gives the site what it needs, and looks at what it comes to.
func finish(t *testing.T, seed int, s *site.Site, src, file []byte, failure error) {
	t.Helper()
	s.Do(crash(seed, seed*3, seed*5))
	s.Do(grown(60000))
	done := safeDone(s)
	if err := s.Do(started(seed % 5)); err != nil {
		t.Fatalf("P29.6: seed %d: %s", seed, text(err))
	}
	before := s.Files()
	for range 2 {
		s.Do(crash())
		if err := s.Do(started(0)); err != nil || !same(s.Files(), before) || s.Steps() != 0 {
			t.Fatalf("P29.7: seed %d: started again with %d writes (%v)", seed, s.Steps(), err)
		}
	}
	p, err := whole.Prepare(config(), src)
	if (err == nil) != (failure == nil) {
		t.Fatal(err)
	}
	if err := s.Do(round(whole.Steps(p))); err != nil {
		t.Fatalf("P29.6: seed %d: %s", seed, text(err))
	}
	if failure != nil {
		if s.State() != 2 || s.Code() != fault.Of(failure) || hasOut(s) {
			t.Fatalf("P29.6: seed %d: state %d, code %d", seed, s.State(), s.Code())
		}
		return
	}
	if s.State() != 3 || !bytes.Equal(outOf(s), file) {
		t.Fatalf("P29.6, P29.8: seed %d: state %d", seed, s.State())
	}
	for _, n := range s.Made() {
		if slices.Contains(done, n) {
			t.Fatalf("P29.7: seed %d: chunk %d is made again", seed, n)
		}
	}
}

// TestGoodFile looks at the file of a site as P29.9 says.
func TestGoodFile(t *testing.T) {
	for frames := 1; frames <= 8; frames += 3 {
		src := video(frames)
		s := made(t, src, 65536, 3)
		s.Do(started(0))
		s.Do(round(100))
		b := outOf(s)
		built, err := whole.Built(config(), src)
		got, err2 := box.Frames(b)
		sizes, err3 := box.Sizes(b)
		_, err4 := vbv.Play(config(), sizes)
		if err != nil || err2 != nil || err3 != nil || err4 != nil || !slices.EqualFunc(got, built, plane.Same) || len(got) != frames {
			t.Fatalf("P29.9: %v, %v, %v, %v", err, err2, err3, err4)
		}
		info, _ := box.Open(b)
		for _, e := range info.Parts {
			coded, _, _ := box.Part(b, e)
			alone, err := decode.Frames(coded, info.W, info.H)
			if err != nil || !slices.EqualFunc(alone, got[e.First:e.First+e.Count], plane.Same) {
				t.Fatalf("P29.9: a part on its own: %v", err)
			}
		}
	}
}

// TestEveryWrite lets the disk go down at every write of a whole run.
func TestEveryWrite(t *testing.T) {
	src := video(3)
	file, _ := whole.Run(config(), src)
	for at := 1; at < 40; at++ {
		for _, picks := range [][]int{nil, {1, 5}, {9, 200, 200}} {
			s := made(t, src, 65536, 2)
			s.Do(armed(at))
			s.Do(started(0))
			s.Do(round(30))
			s.Do(crash(picks...))
			if b, ok := s.Out(); ok && !bytes.Equal(b, file) {
				t.Fatalf("P29.5: write %d: a part of the file", at)
			}
			finish(t, at, s, src, file, nil)
		}
	}
}

// TestAnyRoom: however small the disk is, there is no part of a file, and with more room it goes on.
func TestAnyRoom(t *testing.T) {
	src := video(3)
	file, _ := whole.Run(config(), src)
	for room := 0; room < 600; room += 7 {
		s := made(t, src, room, 2)
		s.Do(started(0))
		s.Do(round(40))
		if b, ok := s.Out(); ok && !bytes.Equal(b, file) {
			t.Fatalf("P29.8: room %d: a part of the file", room)
		}
		if s.Up() {
			// The farm goes on as it is.
			s.Do(grown(60000))
			s.Do(round(24))
			if s.State() != 3 || !bytes.Equal(outOf(s), file) {
				t.Fatalf("P29.8: room %d: state %d", room, s.State())
			}
			continue
		}
		finish(t, room, s, src, file, nil)
	}
}
