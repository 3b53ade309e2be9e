package farm_test

import (
	"bytes"
	"slices"
	"strings"
	"testing"

	"kinescope/api"
	"kinescope/disk"
	"kinescope/farm"
	"kinescope/fault"
	"kinescope/gop"
	"kinescope/log"
	"kinescope/plane"
	"kinescope/source"
	"kinescope/unit"
	"kinescope/whole"
)

func config() api.Config {
	return api.Config{QMin: 2, QMax: 15, Reach: 1, Cut: 640, Gop: 2, Rate: 40, Room: 200, Fill: 60}
}

// video returns a source of so many frames: one group for each two of them.
func video(frames int) []byte {
	var l []api.Frame
	for i := range frames {
		f, _ := plane.New(8, 8, 0)
		for k := range f.Pix {
			f.Pix[k] = (k%8*(i/2*7+3) + k/8*5 + i) % 256
		}
		l = append(l, f)
	}
	b, _ := source.Encode(l)
	return b
}

// world is a source, and all that must come of it.
type world struct {
	src    []byte
	chunks [][]byte
	out    []byte
	key    int
}

func newWorld(t *testing.T, frames int) world {
	t.Helper()
	w := world{src: video(frames)}
	p, err := whole.Prepare(config(), w.src)
	if err != nil || len(p.Groups) != (frames+1)/2 {
		t.Fatalf("%d groups, %v", len(p.Groups), err)
	}
	for n := range p.Groups {
		k, _ := whole.Chunk(config(), p, n)
		b, _ := gop.Pack(k)
		w.chunks = append(w.chunks, b)
	}
	w.out, err = whole.Run(config(), w.src)
	if err != nil {
		t.Fatal(err)
	}
	w.key, _ = log.Key(config(), w.src)
	return w
}

func packed(l ...log.Rec) []byte {
	var b []byte
	for _, r := range l {
		u, _ := log.Pack(r)
		b = append(b, u...)
	}
	return b
}

func start(key, chunks int) log.Rec { return log.Rec{Kind: api.UStart, Sum: key, Number: chunks} }

func done(n int, b []byte) log.Rec {
	return log.Rec{Kind: api.UDone, Number: n, Length: len(b), Sum: int(unit.Sum(b))}
}

func ended(b []byte) log.Rec {
	return log.Rec{Kind: api.UEnd, Length: len(b), Sum: int(unit.Sum(b))}
}

func file(name string, b []byte) api.File { return api.File{Name: name, Data: b, Safe: len(b)} }

func loaded(t *testing.T, files ...api.File) *disk.Disk {
	t.Helper()
	d, err := disk.Load(1<<20, files)
	if err != nil {
		t.Fatal(err)
	}
	return d
}

func opened(t *testing.T, d *disk.Disk, src []byte, workers int) *farm.Farm {
	t.Helper()
	f, err := farm.Open(d, config(), src, workers)
	if err != nil {
		t.Fatalf("P28.1: %s", fault.Text(err))
	}
	return f
}

func read(d *disk.Disk, name string) []byte {
	for _, f := range d.Files() {
		if f.Name == name {
			return f.Data
		}
	}
	return nil
}

func same(a, b []api.File) bool {
	return slices.EqualFunc(a, b, func(x, y api.File) bool {
		return x.Name == y.Name && x.Safe == y.Safe && bytes.Equal(x.Data, y.Data)
	})
}

func rounds(f *farm.Farm, n int) {
	for range n {
		for w := range f.Workers() {
			f.Pick(w)
		}
	}
}

func TestNames(t *testing.T) {
	for n, want := range map[int]string{0: ".00", 7: ".07", 10: ".10", 15: ".15", 99: ".99"} {
		if farm.Chunk(n) != "c"+want || farm.Temp(n) != "t"+want {
			t.Errorf("P28: Chunk(%d) is %q, Temp is %q", n, farm.Chunk(n), farm.Temp(n))
		}
	}
	for _, n := range []int{-1, 100, 1 << 40, -1 << 63} {
		if farm.Chunk(n) != "" || farm.Temp(n) != "" {
			t.Errorf("P28: Chunk(%d) is %q", n, farm.Chunk(n))
		}
	}
}

func TestOpenArguments(t *testing.T) {
	d := loaded(t)
	d.Arm(1)
	d.SyncDir()
	for i, c := range []struct {
		c       api.Config
		workers int
		want    api.Code
	}{
		{api.Config{}, 0, api.ErrRange}, {api.Config{}, 65, api.ErrRange}, {api.Config{}, -1 << 63, api.ErrRange},
		{api.Config{}, 1, api.ErrConfig}, {api.Config{}, 64, api.ErrConfig}, {config(), 1, api.ErrDown},
	} {
		if f, err := farm.Open(d, c.c, nil, c.workers); f != nil || err != error(c.want) {
			t.Errorf("P28.1: case %d: %v", i, err)
		}
	}
	if f := opened(t, loaded(t), video(1), 64); f.Workers() != 64 || f.Down() {
		t.Error("P28.4: Workers")
	}
}

// TestSteps follows one worker step by step.
func TestSteps(t *testing.T) {
	w := newWorld(t, 3)
	d := loaded(t)
	f := opened(t, d, w.src, 1)
	first := packed(start(w.key, 2))
	if d.Steps() != 4 || !same(d.Files(), []api.File{file("job", first)}) || f.Job().State() != 1 || !slices.Equal(f.Job().Missing(), []int{0, 1}) || len(f.Made()) > 0 {
		t.Fatalf("P28.1: %d writes, %v", d.Steps(), d.Files())
	}
	journal := first
	for n, b := range [][]byte{w.chunks[0], w.chunks[1], w.out} {
		temp, final, rec := farm.Temp(n), farm.Chunk(n), done(n, b)
		if n == 2 {
			temp, final, rec = "out.tmp", "out", ended(b)
		}
		var others []api.File
		for i := range min(n, 2) {
			others = append(others, file(farm.Chunk(i), w.chunks[i]))
		}
		next := slices.Concat(journal, packed(rec))
		unsafe := api.File{Name: "job", Data: next, Safe: len(journal)}
		for step, want := range [][]api.File{
			{file("job", journal)}, {file("job", journal), file(temp, nil)}, {file("job", journal), {Name: temp, Data: b}}, {file("job", journal), file(temp, b)},
			{file("job", journal), file(final, b)}, {file("job", journal), file(final, b)}, {unsafe, file(final, b)}, {file("job", next), file(final, b)},
		} {
			if number, at, ok := f.Task(0); ok != (step > 0) || ok && (number != n || at != step) {
				t.Errorf("P28.4: task %d, step %d: Task is %d, %d, %v", n, step, number, at, ok)
			}
			writes := d.Steps()
			if err := f.Pick(0); err != nil {
				t.Fatalf("P28.2: task %d, step %d: %s", n, step, fault.Text(err))
			}
			want = append(want, others...)
			slices.SortFunc(want, func(a, b api.File) int { return strings.Compare(a.Name, b.Name) })
			if !same(d.Files(), want) || d.Steps() != writes+min(step, 1) {
				t.Errorf("P28.2: task %d, step %d: %v", n, step, d.Files())
			}
			if step == 5 {
				// The name is safe now.
				c := d.Copy()
				c.Crash(nil)
				if !bytes.Equal(read(c, final), b) {
					t.Errorf("P28.2: task %d: the name is not safe", n)
				}
			}
			if made := f.Made(); !slices.Equal(made, []int{0, 1}[:min(n+1, 2)]) {
				t.Errorf("P28.4: Made is %v", made)
			}
			if _, ok := f.Job().Done(n); n < 2 && ok != (step == 7) {
				t.Errorf("P28.2: task %d, step %d: the job", n, step)
			}
		}
		journal = next
	}
	if _, _, ok := f.Task(0); ok || f.Job().State() != 3 || f.Down() {
		t.Error("P28.2: the end")
	}
	if r, ok := f.Job().End(); !ok || r != ended(w.out) {
		t.Error("P28.2: the record of the end")
	}
	writes := d.Steps()
	if f.Pick(0) != nil || d.Steps() != writes {
		t.Error("P28.2: a pick when the job is not running")
	}
	f.Job().Forget(0)
	f.Made()[0] = 9
	if f.Made()[0] != 0 {
		t.Error("P28.4: Made is shared")
	}
}

func TestTwoWorkers(t *testing.T) {
	w := newWorld(t, 3)
	f := opened(t, loaded(t), w.src, 3)
	for _, bad := range []int{-1, 3, 1 << 40} {
		if err := f.Pick(bad); err != error(api.ErrRange) {
			t.Errorf("P28.2: Pick(%d) is %v", bad, err)
		}
		if n, s, ok := f.Task(bad); ok || n != 0 || s != 0 {
			t.Errorf("P28.4: Task(%d)", bad)
		}
	}
	f.Pick(2)
	f.Pick(0)
	f.Pick(1)
	for worker, want := range map[int]int{2: 0, 0: 1} {
		if n, s, ok := f.Task(worker); !ok || n != want || s != 1 {
			t.Errorf("P28.2: worker %d has %d, %d, %v", worker, n, s, ok)
		}
	}
	if n, s, ok := f.Task(1); ok || n != 0 || s != 0 || !slices.Equal(f.Made(), []int{0, 1}) {
		t.Error("P28.2: a worker without a task")
	}
	for range 7 {
		f.Pick(2)
	}
	// The other chunk is still missing, so there is nothing to join.
	f.Pick(2)
	if _, _, ok := f.Task(2); ok {
		t.Error("P28.2: joining too early")
	}
	for range 7 {
		f.Pick(0)
	}
	f.Pick(1)
	f.Pick(0)
	f.Pick(2)
	if n, s, ok := f.Task(1); !ok || n != 2 || s != 1 {
		t.Error("P28.2: the joining is not taken")
	}
	if _, _, ok := f.Task(0); ok {
		t.Error("P28.2: the joining is taken twice")
	}
}

func TestNoPlan(t *testing.T) {
	for _, src := range [][]byte{nil, []byte("KSxxx"), video(1)[:9], append(video(1), 0)} {
		_, want := whole.Prepare(config(), src)
		key, _ := log.Key(config(), src)
		d := loaded(t)
		f := opened(t, d, src, 2)
		if f.Job().State() != 2 || f.Job().Code() != fault.Of(want) || f.Job().Chunks() != 0 {
			t.Errorf("P28.1: state %d, code %d", f.Job().State(), f.Job().Code())
		}
		failure := log.Rec{Kind: api.UFail, Code: fault.Of(want)}
		if d.Steps() != 6 || !same(d.Files(), []api.File{file("job", packed(start(key, 0), failure))}) {
			t.Errorf("P28.1: %d writes, %v", d.Steps(), d.Files())
		}
		if f.Pick(0) != nil || d.Steps() != 6 || f.Pick(2) != error(api.ErrRange) {
			t.Error("P28.2: a pick after a failure")
		}
		if again := opened(t, d, src, 1); again.Job().Code() != fault.Of(want) || d.Steps() != 6 {
			t.Error("P28.1: Open again")
		}
		// A job that is running goes on to fail.
		d = loaded(t, file("job", packed(start(key, 0))))
		if f := opened(t, d, src, 1); f.Job().State() != 2 || d.Steps() != 2 {
			t.Error("P28.1: a job that is running")
		}
	}
}

func TestClean(t *testing.T) {
	w := newWorld(t, 1)
	keep := []api.File{file("a.tmp", []byte("1")), file("c.00x", []byte("2")), file("job", packed(start(w.key, 1))), file("out.tmp2", nil), file("t", []byte("3")), file("x.t.", nil)}
	gone := []api.File{file("job.tmp", []byte("4")), file("out.tmp", nil), file("t.", nil), file("t.00", []byte("5")), file("t.anything", nil)}
	d := loaded(t, slices.Concat(keep, gone)...)
	opened(t, d, w.src, 1)
	if !same(d.Files(), keep) || d.Steps() != 6 {
		t.Errorf("P28.1: %d writes, %v", d.Steps(), d.List())
	}
	d.Crash(nil)
	if !same(d.Files(), keep) {
		t.Error("P28.1: the names that were removed come back")
	}
	opened(t, d, w.src, 1)
	if d.Steps() != 0 {
		t.Errorf("P28.7: opened again with %d writes", d.Steps())
	}
}

func TestJournal(t *testing.T) {
	w := newWorld(t, 3)
	good := packed(start(w.key, 2), done(0, w.chunks[0]))
	for i, more := range [][]byte{{0}, {49, 0, 0}, packed(start(w.key, 2)), packed(done(2, nil)), packed(ended(nil)), slices.Concat(packed(start(1, 1)), packed(done(1, w.chunks[1]))), slices.Concat([]byte{7}, packed(done(1, w.chunks[1])))} {
		d := loaded(t, file("c.00", w.chunks[0]), api.File{Name: "job", Data: slices.Concat(good, more), Safe: 3})
		f := opened(t, d, w.src, 1)
		if !bytes.Equal(read(d, "job"), good) || d.Steps() != 5 || !slices.Equal(f.Job().Missing(), []int{1}) {
			t.Errorf("P28.1: case %d: %d writes, missing %v", i, d.Steps(), f.Job().Missing())
		}
		d.Crash(nil)
		if !bytes.Equal(read(d, "job"), good) || len(d.List()) != 2 {
			t.Errorf("P28.1: case %d: the journal is not safe", i)
		}
	}
	// A journal without a record that can be read is as none.
	for i, b := range [][]byte{nil, {0}, packed(done(0, nil)), []byte("something else")} {
		d := loaded(t, api.File{Name: "job", Data: b})
		f := opened(t, d, w.src, 1)
		if !bytes.Equal(read(d, "job"), packed(start(w.key, 2))) || d.Steps() != 2+min(i, 1)*5 || f.Job().State() != 1 {
			t.Errorf("P28.1: case %d: %d writes", i, d.Steps())
		}
	}
}

func TestNotMine(t *testing.T) {
	w := newWorld(t, 3)
	other := config()
	other.QMin++
	otherKey, _ := log.Key(other, w.src)
	all := []api.File{file("c.00", w.chunks[0]), file("c.01", w.chunks[1])}
	finished := packed(start(w.key, 2), done(0, w.chunks[0]), done(1, w.chunks[1]), ended(w.out))
	wrong := slices.Clone(w.out)
	wrong[9]++
	for i, c := range []struct {
		files []api.File
		want  string
	}{
		{[]api.File{file("job", packed(start(otherKey, 2)))}, "farm 4: code 14"}, {[]api.File{file("job", packed(start(w.key, 1)))}, "farm 4: code 14"}, {[]api.File{file("job", packed(start(w.key, 3)))}, "farm 4: code 14"},
		{[]api.File{file("job", packed(start(w.key, 0), log.Rec{Kind: api.UFail, Code: 2}))}, "farm 4: code 14"}, {[]api.File{file("job", packed(start(w.key, 2)))}, ""},
		{append(slices.Clone(all), file("job", finished)), "farm 7: code 14"}, {append(slices.Clone(all), file("job", finished), file("out", wrong)), "farm 7: code 14"}, {append(slices.Clone(all), file("job", finished), file("out", nil)), "farm 7: code 14"},
		{append(slices.Clone(all), file("job", finished), file("out", w.out)), ""}, {[]api.File{file("job", finished), file("out", w.out)}, ""},
	} {
		d := loaded(t, c.files...)
		f, err := farm.Open(d, config(), w.src, 1)
		if fault.Text(err) != c.want || (f == nil) != (err != nil) || d.Steps() > 0 {
			t.Errorf("P28.1: case %d: %s, not %s", i, fault.Text(err), c.want)
		}
	}
	if _, err := farm.Open(loaded(t, file("job", packed(start(w.key, 2)))), config(), video(2), 1); fault.Text(err) != "farm 4: code 14" {
		t.Errorf("P28.1: another source: %s", fault.Text(err))
	}
	if _, err := farm.Open(loaded(t, file("job", packed(start(w.key, 2)))), config(), nil, 1); fault.Text(err) != "farm 4: code 14" {
		t.Errorf("P28.1: no plan: %s", fault.Text(err))
	}
}

func TestForget(t *testing.T) {
	w := newWorld(t, 5)
	wrong := slices.Clone(w.chunks[1])
	wrong[5] ^= 1
	k, _ := gop.Parse(w.chunks[1])
	k.Coded = []api.Coded{{Kind: api.UFlat}, {Kind: api.UFlat}}
	other, _ := gop.Pack(k)
	for i, c := range []struct {
		name, file []byte
		rec        log.Rec
		missing    []int
	}{
		{nil, w.chunks[1], done(1, w.chunks[1]), []int{2}}, {nil, nil, done(1, nil), []int{1, 2}}, {nil, wrong, done(1, w.chunks[1]), []int{1, 2}}, {nil, wrong, done(1, wrong), []int{1, 2}},
		{nil, other, done(1, other), []int{1, 2}}, {nil, w.chunks[0], done(1, w.chunks[0]), []int{1, 2}}, {nil, w.chunks[1][:9], done(1, w.chunks[1]), []int{1, 2}},
		{nil, w.chunks[1], log.Rec{Kind: api.UDone, Number: 1, Length: len(w.chunks[1]), Sum: 5}, []int{1, 2}}, {nil, w.chunks[1], log.Rec{Kind: api.UDone, Number: 1, Length: len(w.chunks[1]) + 1, Sum: int(unit.Sum(w.chunks[1]))}, []int{1, 2}},
		{[]byte("c.77"), w.chunks[1], done(1, w.chunks[1]), []int{1, 2}},
	} {
		name := "c.01"
		if c.name != nil {
			name = string(c.name)
		}
		d := loaded(t, file("c.00", w.chunks[0]), file(name, c.file), file("c.02", w.chunks[2]), file("job", packed(start(w.key, 3), done(0, w.chunks[0]), c.rec)))
		f := opened(t, d, w.src, 1)
		if !slices.Equal(f.Job().Missing(), c.missing) || d.Steps() > 0 || len(f.Made()) > 0 {
			t.Errorf("P28.1: case %d: missing %v, %d writes, made %v", i, f.Job().Missing(), d.Steps(), f.Made())
		}
		rounds(f, 40)
		if !bytes.Equal(read(d, "out"), w.out) || !slices.Equal(f.Made(), c.missing) {
			t.Errorf("P28.1: case %d: made %v", i, f.Made())
		}
	}
}

func TestOutIsThere(t *testing.T) {
	w := newWorld(t, 3)
	files := []api.File{file("c.00", w.chunks[0]), file("c.01", w.chunks[1]), file("job", packed(start(w.key, 2), done(0, w.chunks[0]), done(1, w.chunks[1])))}
	d := loaded(t, append(slices.Clone(files), file("out", w.out))...)
	f := opened(t, d, w.src, 1)
	if r, ok := f.Job().End(); !ok || r != ended(w.out) || d.Steps() != 2 || !bytes.Equal(read(d, "job"), packed(start(w.key, 2), done(0, w.chunks[0]), done(1, w.chunks[1]), ended(w.out))) {
		t.Errorf("P28.1: %d writes, state %d", d.Steps(), f.Job().State())
	}
	for i, b := range [][]byte{nil, w.out[:9], append(slices.Clone(w.out), 1)} {
		d := loaded(t, append(slices.Clone(files), file("out", b))...)
		f := opened(t, d, w.src, 1)
		if f.Job().State() != 1 || d.Steps() != 0 {
			t.Errorf("P28.1: case %d: another file is not the joined file", i)
		}
		rounds(f, 8)
		if f.Job().State() != 3 || !bytes.Equal(read(d, "out"), w.out) || len(f.Made()) > 0 {
			t.Errorf("P28.2: case %d: state %d", i, f.Job().State())
		}
	}
	// With a chunk missing, the file of another time is left alone.
	d = loaded(t, file("job", packed(start(w.key, 2), done(0, w.chunks[0]), done(1, w.chunks[1]))), file("c.00", w.chunks[0]), file("out", w.out))
	if f := opened(t, d, w.src, 1); f.Job().State() != 1 || d.Steps() != 0 || !slices.Equal(f.Job().Missing(), []int{1}) {
		t.Error("P28.1: the end is logged although a chunk is missing")
	}
}

// TestOpenGoesDown: the part that Open tells is that of the write.
func TestOpenGoesDown(t *testing.T) {
	w := newWorld(t, 1)
	files := []api.File{file("job.tmp", nil), file("t.00", nil), api.File{Name: "job", Data: []byte("no record")}}
	for at, want := range []string{"", "farm 1: code 10", "farm 1: code 10", "farm 1: code 10", "farm 3: code 10", "farm 3: code 10", "farm 3: code 10", "farm 3: code 10", "farm 3: code 10", "farm 4: code 10", "farm 4: code 10", ""} {
		d := loaded(t, files...)
		d.Arm(at)
		f, err := farm.Open(d, config(), w.src, 1)
		if fault.Text(err) != want || (f == nil) != (err != nil) {
			t.Errorf("P28.1: write %d: %s, not %s", at, fault.Text(err), want)
		}
	}
	for at, want := range []string{"", "farm 2: code 10", "farm 2: code 10", "farm 4: code 10", "farm 4: code 10", "farm 5: code 10", "farm 5: code 10", ""} {
		d := loaded(t)
		d.Arm(at)
		if _, err := farm.Open(d, config(), nil, 1); fault.Text(err) != want {
			t.Errorf("P28.1: write %d: %s, not %s", at, fault.Text(err), want)
		}
	}
	for at, want := range []string{"", "farm 7: code 10", "farm 7: code 10", ""} {
		d := loaded(t, file("c.00", w.chunks[0]), file("out", w.out), file("job", packed(start(w.key, 1), done(0, w.chunks[0]))))
		d.Arm(at)
		if _, err := farm.Open(d, config(), w.src, 1); fault.Text(err) != want {
			t.Errorf("P28.1: write %d: %s, not %s", at, fault.Text(err), want)
		}
	}
	d, _ := disk.New(0)
	if _, err := farm.Open(d, config(), w.src, 1); fault.Text(err) != "farm 4: code 9" || !slices.Equal(d.List(), []string{"job"}) {
		t.Errorf("P28.1: no room: %s", fault.Text(err))
	}
}

func TestGoesDown(t *testing.T) {
	w := newWorld(t, 2)
	for step := 1; step < 8; step++ {
		for n := range 2 {
			d := loaded(t)
			f := opened(t, d, w.src, 3)
			for range 8*n + step {
				f.Pick(2)
			}
			d.Arm(1)
			if err := f.Pick(2); fault.Text(err) != "farm 2: code 10" || !f.Down() {
				t.Fatalf("P28.3: step %d: %s", step, fault.Text(err))
			}
			if at, s, ok := f.Task(2); !ok || at != n || s != step {
				t.Errorf("P28.3: step %d: Task is %d, %d, %v", step, at, s, ok)
			}
			for worker := range 3 {
				if f.Pick(worker) != error(api.ErrDown) {
					t.Errorf("P28.3: a farm that has gone down")
				}
			}
			if f.Pick(3) != error(api.ErrRange) {
				t.Error("P28.2: ErrRange comes first")
			}
			if _, err := farm.Open(d, config(), w.src, 1); err != error(api.ErrDown) {
				t.Errorf("P28.1: a disk that is down: %v", err)
			}
		}
	}
}

// TestFullDisk gives the disk more room behind the back of the farm, which retains it (P28.5).
func TestFullDisk(t *testing.T) {
	w := newWorld(t, 2)
	head := len(packed(start(w.key, 1)))
	chunk, rec, end := len(w.chunks[0]), len(packed(done(0, nil))), len(packed(ended(nil)))
	for i, c := range []struct {
		room, picks int
		kept        []string
	}{
		{head + chunk - 1, 2, []string{"job"}},
		{head + chunk, 6, []string{"c.00", "job"}}, {head + chunk + rec - 1, 6, []string{"c.00", "job"}},
		{head + chunk + rec, 8 + 2, []string{"c.00", "job"}}, {head + chunk + rec + len(w.out) - 1, 8 + 2, []string{"c.00", "job"}},
		{head + chunk + rec + len(w.out), 8 + 6, []string{"c.00", "job", "out"}}, {head + chunk + rec + len(w.out) + end - 1, 8 + 6, []string{"c.00", "job", "out"}},
	} {
		d, _ := disk.New(c.room)
		f := opened(t, d, w.src, 2)
		for again := range 3 {
			picks := 0
			err := f.Pick(1)
			for ; err == nil && picks < 20; picks++ {
				err = f.Pick(1)
			}
			// A file that is there already leaves less room for the temporary one.
			if again == 0 && picks != c.picks || again > 0 && picks > c.picks || fault.Text(err) != "farm 1: code 9" || f.Down() {
				t.Fatalf("P28.3: case %d: %s at pick %d", i, fault.Text(err), picks)
			}
			if _, _, ok := f.Task(1); ok || !slices.Equal(d.List(), c.kept) || f.Job().State() != 1 {
				t.Errorf("P28.3: case %d: %v", i, d.List())
			}
			if got := read(d, "out"); got != nil && !bytes.Equal(got, w.out) {
				t.Errorf("P28.9: case %d: a part of the file", i)
			}
		}
		d.Grow(5000)
		rounds(f, 16)
		if f.Job().State() != 3 || !bytes.Equal(read(d, "out"), w.out) {
			t.Errorf("P28.9: case %d: state %d with more room", i, f.Job().State())
		}
	}
	// The disk goes down while the temporary file is removed.
	d, _ := disk.New(head)
	f := opened(t, d, w.src, 1)
	f.Pick(0)
	f.Pick(0)
	d.Arm(1)
	if err := f.Pick(0); fault.Text(err) != "farm 0: code 10" || !f.Down() || f.Pick(0) != error(api.ErrDown) {
		t.Errorf("P28.3: the disk goes down at Remove: %s", fault.Text(err))
	}
}

func TestManyNames(t *testing.T) {
	w := newWorld(t, 2)
	var files []api.File
	for i := range api.MaxFiles - 1 {
		files = append(files, file("f"+strings.Repeat("x", i/10)+string([]byte{byte('0' + i%10)}), nil))
	}
	d := loaded(t, files...)
	f := opened(t, d, w.src, 1)
	for range 3 {
		if err := f.Pick(0); err != nil {
			t.Fatal(err)
		}
		writes := d.Steps()
		if err := f.Pick(0); fault.Text(err) != "farm 0: code 5" || d.Steps() != writes {
			t.Errorf("P28.3: no name is left: %s", fault.Text(err))
		}
		if _, _, ok := f.Task(0); ok {
			t.Error("P28.3: the task remains")
		}
	}
	if !slices.Equal(f.Made(), []int{0, 0, 0}) {
		t.Errorf("P28.4: Made is %v", f.Made())
	}
	d.Remove("f0")
	rounds(f, 16)
	if f.Job().State() != 1 || !slices.Contains(d.List(), "c.00") {
		t.Error("P28.3: the chunk is taken again")
	}
}

// TestCrashes lets the disk go down at every write, keeps parts, and opens again with other workers.
func TestCrashes(t *testing.T) {
	w := newWorld(t, 5)
	total := 0
	{
		d := loaded(t)
		f := opened(t, d, w.src, 2)
		rounds(f, 99)
		total = d.Steps()
	}
	for at := 1; at <= total; at++ {
		for _, picks := range [][]int{nil, {1}, {9, 99, 99, 99}, {at, at * 3, at * 7, at}, {0, 5, 1}} {
			d := loaded(t)
			d.Arm(at)
			if f, err := farm.Open(d, config(), w.src, 2); err == nil {
				for k := range 200 {
					f.Pick(k * 7 % 5 % 2)
				}
			}
			check := func(when string) {
				if b := read(d, "out"); slices.Contains(d.List(), "out") && !bytes.Equal(b, w.out) {
					t.Fatalf("P28.6: %s, write %d, picks %v: out has %d bytes", when, at, picks, len(b))
				}
			}
			check("down")
			safe := []byte(nil)
			for _, f := range d.Files() {
				if f.Name == "job" {
					safe = f.Data[:f.Safe]
				}
			}
			d.Crash(picks)
			check("crashed")
			f := opened(t, d, w.src, 1+at%4)
			writes := d.Steps()
			opened(t, d, w.src, 1)
			if d.Steps() != writes {
				t.Fatalf("P28.7: write %d: opened again with %d writes", at, d.Steps()-writes)
			}
			f = opened(t, d, w.src, 1+at%4)
			rounds(f, 8*4)
			if f.Job().State() != 3 || !bytes.Equal(read(d, "out"), w.out) {
				t.Fatalf("P28.8: write %d, picks %v: state %d", at, picks, f.Job().State())
			}
			l, _ := log.Scan(safe)
			for _, r := range l {
				if r.Kind == api.UDone && slices.Contains(f.Made(), r.Number) {
					t.Fatalf("P28.7: write %d: chunk %d is made again", at, r.Number)
				}
			}
		}
	}
}

func TestTermination(t *testing.T) {
	for frames := 1; frames <= 7; frames += 2 {
		w := newWorld(t, frames)
		p, _ := whole.Prepare(config(), w.src)
		for workers := 1; workers < 6; workers++ {
			d := loaded(t)
			f := opened(t, d, w.src, workers)
			rounds(f, whole.Steps(p))
			if f.Job().State() != 3 || !bytes.Equal(read(d, "out"), w.out) {
				t.Errorf("P28.8: %d workers: state %d", workers, f.Job().State())
			}
		}
	}
}
