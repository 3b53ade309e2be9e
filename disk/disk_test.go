package disk_test

import (
	"bytes"
	"slices"
	"strconv"
	"strings"
	"testing"

	"kinescope/api"
	"kinescope/disk"
)

func empty(t *testing.T, room int) *disk.Disk {
	t.Helper()
	d, err := disk.New(room)
	if err != nil {
		t.Fatalf("P5.1: New(%d) is %v", room, err)
	}
	return d
}

// told tells the files: name, bytes, how many are safe.
func told(d *disk.Disk) string {
	var all []string
	for _, f := range d.Files() {
		all = append(all, f.Name+"="+string(f.Data)+"/"+strconv.Itoa(f.Safe))
	}
	return strings.Join(all, " ")
}

func must(t *testing.T, errs ...error) {
	t.Helper()
	for i, err := range errs {
		if err != nil {
			t.Fatalf("call %d: %v", i, err)
		}
	}
}

func wants(t *testing.T, promise string, d *disk.Disk, want string) {
	t.Helper()
	if got := told(d); got != want {
		t.Errorf("%s: the files are %q, not %q", promise, got, want)
	}
}

func TestExamples(t *testing.T) {
	d := empty(t, 10)
	must(t, d.Create("a"), d.Append("a", []byte("xyz")))
	wants(t, "P5.3", d, "a=xyz/0")
	must(t, d.Sync("a"))
	wants(t, "P5.3", d, "a=xyz/3")
	d.Crash(nil)
	wants(t, "P5.4", d, "")
	must(t, d.Create("a"), d.SyncDir(), d.Append("a", []byte("xyz")))
	d.Crash([]int{0, 2})
	wants(t, "P5.4", d, "a=xy/2")
	if err := d.Append("a", make([]byte, 9)); err != error(api.ErrFull) {
		t.Errorf("P5.2: nine bytes: %v", err)
	}
	must(t, d.Append("a", []byte("12345678")))
	d.Arm(1)
	if err := d.Append("a", nil); err != error(api.ErrDown) || !d.Down() {
		t.Errorf("P5.2: armed: %v, %v", err, d.Down())
	}
	d.Crash([]int{0, 8})
	must(t, d.Create("b"), d.Rename("a", "b"))
	d.Crash([]int{1})
	wants(t, "P5.4", d, "a=xy12345678/10 b=/0")
}

func TestNewAndLoad(t *testing.T) {
	for _, room := range []int{-1, api.MaxDisk + 1, -1 << 63, 1<<63 - 1} {
		if d, err := disk.New(room); d != nil || err != error(api.ErrRange) {
			t.Errorf("P5.1: New(%d) is %v", room, err)
		}
		if d, err := disk.Load(room, []api.File{{}}); d != nil || err != error(api.ErrRange) {
			t.Errorf("P5.1: Load(%d) is %v", room, err)
		}
	}
	if d := empty(t, api.MaxDisk); d.Room() != api.MaxDisk || d.Down() || d.Steps() != 0 || d.Used() != 0 || len(d.List()) > 0 {
		t.Error("P5.1: a new disk")
	}
	var many []api.File
	for i := range api.MaxFiles + 1 {
		many = append(many, api.File{Name: "f" + strconv.Itoa(i), Data: []byte("1")})
	}
	long := strings.Repeat("n", api.MaxFile)
	for i, c := range []struct {
		room  int
		files []api.File
		want  error
	}{
		{0, nil, nil},
		{3, []api.File{{Name: "a", Data: []byte("12"), Safe: 1}, {Name: "b", Data: []byte("3")}}, nil},
		{2, []api.File{{Name: "a", Data: []byte("12"), Safe: 1}, {Name: "b", Data: []byte("3")}}, api.ErrFull},
		{9, []api.File{{Name: long}}, nil},
		{9, []api.File{{Name: long + "n"}}, api.ErrName},
		{9, []api.File{{Name: "a", Safe: 1}, {Name: ""}}, api.ErrRange},
		{9, []api.File{{Name: "a"}, {Name: ""}, {Name: "a"}}, api.ErrName},
		{9, []api.File{{Name: "a"}, {Name: "a", Safe: 9}, {Name: ""}}, api.ErrThere},
		{9, []api.File{{Name: "a", Safe: -1}}, api.ErrRange},
		{99, many[:64], nil},
		{99, many, api.ErrLong},
		{9, many, api.ErrLong},
		{99, append(slices.Clone(many), api.File{Name: "f1"}), api.ErrThere},
	} {
		d, err := disk.Load(c.room, c.files)
		if err != c.want || (d == nil) != (err != nil) {
			t.Errorf("P5.1: case %d: %v", i, err)
		}
	}
	data := []byte("1234")
	d, _ := disk.Load(9, []api.File{{Name: "b", Data: data, Safe: 1}, {Name: "a", Data: []byte("xy"), Safe: 0}})
	data[0] = 'q'
	wants(t, "P5.1", d, "a=xy/0 b=1234/1")
	if d.Room() != 9 || d.Used() != 6 || d.Steps() != 0 {
		t.Error("P5.1: room, bytes and writes after Load")
	}
	// The files are numbered in their order: b takes the first pick, and no step takes one.
	d.Crash([]int{5, 2, 1})
	wants(t, "P5.1", d, "a=x/1 b=123/3")
}

func TestErrors(t *testing.T) {
	d, _ := disk.Load(4, []api.File{{Name: "a", Data: []byte("12"), Safe: 2}})
	long := strings.Repeat("n", api.MaxFile+1)
	read := func(name string) error { _, err := d.Read(name); return err }
	for i, c := range []struct {
		got  error
		want api.Code
	}{
		{d.Create(""), api.ErrName}, {d.Create(long), api.ErrName}, {d.Create("a"), api.ErrThere},
		{d.Append("", nil), api.ErrName}, {d.Append(long, nil), api.ErrName}, {d.Append("b", make([]byte, 9)), api.ErrNone},
		{d.Append("a", make([]byte, 3)), api.ErrFull},
		{d.Sync(""), api.ErrName}, {d.Sync("b"), api.ErrNone},
		{d.Rename("", "b"), api.ErrName}, {d.Rename("b", ""), api.ErrName}, {d.Rename("a", long), api.ErrName}, {d.Rename("b", "a"), api.ErrNone},
		{d.Remove(""), api.ErrName}, {d.Remove("b"), api.ErrNone},
		{read(""), api.ErrName}, {read(long), api.ErrName}, {read("b"), api.ErrNone},
		{d.Grow(-1), api.ErrRange}, {d.Grow(api.MaxDisk - 3), api.ErrRange}, {d.Grow(1<<63 - 1), api.ErrRange},
	} {
		if c.got != error(c.want) {
			t.Errorf("P5.2, P5.3: case %d: %v, not %v", i, c.got, c.want)
		}
	}
	if d.Steps() != 0 || d.Room() != 4 {
		t.Error("P5.8: a call that returned an error is a write, or changed the capacity")
	}
	wants(t, "P5.8", d, "a=12/2")
}

func TestManyNames(t *testing.T) {
	d := empty(t, 0)
	for i := range api.MaxFiles {
		must(t, d.Create(strconv.Itoa(i)))
	}
	if err := d.Create("x"); err != error(api.ErrLong) {
		t.Errorf("P5.2: name %d: %v", api.MaxFiles+1, err)
	}
	if err := d.Create("5"); err != error(api.ErrThere) {
		t.Errorf("P5.2: a name that exists comes first: %v", err)
	}
	must(t, d.Rename("5", "6"), d.Create("x"))
	if err := d.Create("y"); err != error(api.ErrLong) {
		t.Error("P5.2: ErrLong")
	}
	must(t, d.Remove("x"), d.Create("y"))
	list := d.List()
	if len(list) != api.MaxFiles || !slices.IsSorted(list) || slices.Contains(list, "x") || slices.Contains(list, "5") {
		t.Errorf("P5.3: List is %v", list)
	}
}

func TestRenameAndRemove(t *testing.T) {
	d := empty(t, 100)
	must(t, d.Create("b"), d.Append("b", []byte("B")), d.Create("a"), d.Append("a", []byte("AA")))
	wants(t, "P5.3", d, "a=AA/0 b=B/0")
	must(t, d.Rename("a", "a"))
	wants(t, "P5.2", d, "a=AA/0 b=B/0")
	must(t, d.Rename("a", "b"))
	wants(t, "P5.2", d, "b=AA/0")
	if d.Used() != 2 {
		t.Errorf("P5.3: Used is %d", d.Used())
	}
	must(t, d.Append("b", []byte("C")), d.Sync("b"), d.Remove("b"))
	wants(t, "P5.2", d, "")
	if d.Used() != 0 || d.Steps() != 9 {
		t.Errorf("P5.3: Used is %d, Steps is %d", d.Used(), d.Steps())
	}
	must(t, d.Create("b"))
	wants(t, "P5.2", d, "b=/0")
}

func TestRoomAndGrow(t *testing.T) {
	d := empty(t, 0)
	must(t, d.Create("a"), d.Append("a", nil))
	if err := d.Append("a", []byte("1")); err != error(api.ErrFull) {
		t.Errorf("P5.2: %v", err)
	}
	must(t, d.Grow(0), d.Grow(3), d.Append("a", []byte("123")), d.Append("a", nil))
	if d.Room() != 3 || d.Used() != 3 || d.Append("a", []byte("4")) != error(api.ErrFull) {
		t.Error("P5.3: Grow")
	}
	must(t, d.Grow(api.MaxDisk-3))
	if d.Room() != api.MaxDisk || d.Grow(1) != error(api.ErrRange) {
		t.Error("P5.3: Grow up to MaxDisk")
	}
	// A file that comes back by a crash may exceed the capacity.
	d, _ = disk.Load(2, []api.File{{Name: "a", Data: []byte("12"), Safe: 2}})
	must(t, d.Create("b"), d.SyncDir(), d.Remove("a"), d.Append("b", []byte("34")), d.Sync("b"))
	d.Crash(nil)
	wants(t, "P5.4", d, "a=12/2 b=34/2")
	if d.Used() != 4 || d.Append("b", []byte("5")) != error(api.ErrFull) || d.Append("b", nil) != nil {
		t.Error("P5.2: more bytes than the capacity")
	}
}

func TestDown(t *testing.T) {
	ops := []func(d *disk.Disk) error{
		func(d *disk.Disk) error { return d.Create("c") },
		func(d *disk.Disk) error { return d.Append("a", []byte("34567")) },
		func(d *disk.Disk) error { return d.Sync("a") },
		func(d *disk.Disk) error { return d.Rename("a", "b") },
		func(d *disk.Disk) error { return d.Remove("a") },
		func(d *disk.Disk) error { return d.SyncDir() },
	}
	for i, op := range ops {
		d, _ := disk.Load(50, []api.File{{Name: "a", Data: []byte("12"), Safe: 1}})
		d.Arm(2)
		must(t, d.Append("a", nil))
		if d.Append("nope", nil) != error(api.ErrNone) || d.Down() {
			t.Error("P5.2: an error counts as a write")
		}
		if err := op(d); err != error(api.ErrDown) || !d.Down() || d.Steps() != 2 {
			t.Errorf("P5.2: write %d: %v", i, err)
		}
		want := "a=12/1"
		if i == 1 {
			want = "a=1234/1"
		}
		wants(t, "P5.2", d, want)
		_, readErr := d.Read("")
		for k, err := range []error{
			d.Create(""), d.Append("", nil), d.Sync(""), d.Rename("", ""), d.Remove(""), d.SyncDir(), d.Grow(-1), readErr,
		} {
			if err != error(api.ErrDown) {
				t.Errorf("P5.2: call %d of a disk that is down: %v", k, err)
			}
		}
		d.Arm(0)
		if !d.Down() || d.Steps() != 2 || d.Room() != 50 || d.Used() != len(want)-4 || !slices.Equal(d.List(), []string{"a"}) {
			t.Error("P5.3: what works when the disk is down")
		}
		d.Crash([]int{0, 1})
		if d.Down() || d.Steps() != 0 || d.Create("new") != nil || d.Steps() != 1 {
			t.Error("P5.4: the disk is up after a crash")
		}
	}
}

func TestArm(t *testing.T) {
	d := empty(t, 50)
	d.Arm(3)
	d.Arm(-1)
	must(t, d.Create("a"), d.SyncDir(), d.SyncDir(), d.SyncDir())
	d.Arm(2)
	d.Arm(0)
	must(t, d.SyncDir(), d.SyncDir())
	d.Arm(9)
	d.Arm(2)
	must(t, d.SyncDir())
	d.Crash(nil)
	must(t, d.SyncDir(), d.SyncDir())
	if d.Steps() != 2 {
		t.Error("P5.3: Steps after a crash")
	}
	d.Arm(1)
	d.SyncDir()
	d.Arm(5)
	d.Crash(nil)
	must(t, d.SyncDir(), d.SyncDir(), d.SyncDir(), d.SyncDir(), d.SyncDir(), d.SyncDir())
}

func TestCrashSteps(t *testing.T) {
	want := []string{"a=1/1", "a=1/1 b=/0", "b=1/1", "c=1/1", "c=1/1 d=/0", "d=/0", "d=/0", ""}
	for kept := range 20 {
		d, _ := disk.Load(50, []api.File{{Name: "a", Data: []byte("1"), Safe: 1}})
		must(t, d.Create("b"), d.Rename("a", "b"), d.Rename("b", "c"), d.Create("d"), d.Remove("c"), d.Rename("d", "d"), d.Remove("d"))
		d.Crash([]int{kept})
		wants(t, "P5.4", d, want[kept%8])
		d.Crash(nil)
		wants(t, "P5.4", d, want[kept%8])
	}
}

func TestCrashBytes(t *testing.T) {
	d := empty(t, 99)
	must(t, d.Create("z"), d.Create("y"), d.Create("x"), d.Create("w"), d.SyncDir())
	must(t, d.Append("z", []byte("12345")), d.Append("y", []byte("12345")), d.Append("x", []byte("12345")), d.Append("w", []byte("12345")))
	must(t, d.Sync("y"), d.Sync("x"), d.Append("x", []byte("678")), d.Rename("w", "a"))
	all := d.Copy()
	d.Crash([]int{3, 4, 6, -1})
	wants(t, "P5.4", d, "a=/0 x=1234567/7 y=12345/5 z=1234/4")
	d = all.Copy()
	d.Crash([]int{-1, 6, 3, 5, 9})
	wants(t, "P5.4", d, "w=12345/5 x=12345678/8 y=12345/5 z=/0")
	d = all.Copy()
	d.Crash([]int{1, 1<<63 - 1, -1 << 63})
	wants(t, "P5.4", d, "a=/0 x=12345/5 y=12345/5 z=1/1")
	d = all.Copy()
	d.Crash(nil)
	wants(t, "P5.4", d, "w=/0 x=12345/5 y=12345/5 z=/0")
}

// TestCrashPicksOfLostFiles: files that exist by a step or the safe directory only take a pick as well.
func TestCrashPicksOfLostFiles(t *testing.T) {
	d, _ := disk.Load(99, []api.File{{Name: "a", Data: []byte("1234"), Safe: 0}})
	must(t, d.Create("b"), d.Append("b", []byte("1234")), d.Remove("b"), d.Remove("a"), d.Create("c"), d.Append("c", []byte("1234")))
	d.Crash([]int{4, 1, 2, 3})
	wants(t, "P5.4", d, "c=123/3")

	d, _ = disk.Load(99, []api.File{{Name: "a", Data: []byte("1234"), Safe: 0}})
	must(t, d.Create("b"), d.Append("b", []byte("1234")), d.Remove("b"), d.Remove("a"), d.Create("c"), d.Append("c", []byte("1234")))
	d.Crash([]int{1, 1, 2, 3})
	wants(t, "P5.4", d, "a=1/1 b=12/2")

	// The file that another one replaced has no step of its own: only the safe directory leads to it.
	d, _ = disk.Load(99, []api.File{{Name: "a", Data: []byte("1234"), Safe: 1}, {Name: "b", Data: []byte("5678"), Safe: 1}})
	must(t, d.Rename("a", "b"), d.Create("c"), d.Append("c", []byte("1234")))
	replaced := d.Copy()
	d.Crash([]int{0, 1, 2, 3})
	wants(t, "P5.4", d, "a=12/2 b=567/3")
	replaced.Crash([]int{2, 1, 2, 3})
	wants(t, "P5.5", replaced, "b=12/2 c=123/3")

	// After SyncDir, files without a name no longer exist, and take none.
	d, _ = disk.Load(99, []api.File{{Name: "a", Data: []byte("1234"), Safe: 0}})
	must(t, d.Create("b"), d.Append("b", []byte("1234")), d.Rename("b", "a"), d.SyncDir(), d.Create("c"), d.Append("c", []byte("1234")), d.SyncDir())
	d.Crash([]int{0, 2, 3})
	wants(t, "P5.4", d, "a=12/2 c=123/3")
}

func TestCopy(t *testing.T) {
	d := empty(t, 50)
	must(t, d.Create("a"), d.SyncDir(), d.Append("a", []byte("12")), d.Create("b"), d.Append("b", []byte("34")), d.Remove("b"))
	d.Arm(3)
	c := d.Copy()
	must(t, d.Append("a", []byte("xyz")), d.Create("q"))
	d.Grow(7)
	if d.SyncDir() != error(api.ErrDown) {
		t.Error("P5.5: armed")
	}
	wants(t, "P5.5", c, "a=12/0")
	if c.Steps() != 6 || c.Room() != 50 || c.Down() {
		t.Errorf("P5.5: the copy has %d steps, room %d", c.Steps(), c.Room())
	}
	must(t, c.Sync("a"), c.Create("e"))
	if c.Append("e", []byte("12")) != error(api.ErrDown) {
		t.Error("P5.5: the copy is armed")
	}
	if down := c.Copy(); !down.Down() || down.Steps() != 9 {
		t.Error("P5.5: a copy of a disk that is down")
	}
	// Three steps; b (number 1) takes the first pick of bytes, e (number 2) has one byte.
	c.Crash([]int{3, 1, 1})
	wants(t, "P5.5", c, "a=12/2 e=1/1")
	d.Crash([]int{0, 1})
	wants(t, "P5.5", d, "a=1/1")
}

func TestNothingIsShared(t *testing.T) {
	d := empty(t, 50)
	b := []byte("123")
	must(t, d.Create("a"), d.Append("a", b))
	b[0] = 'x'
	got, _ := d.Read("a")
	files := d.Files()
	got[1] = 'x'
	files[0].Data[2] = 'x'
	_ = append(got, "zzz"...)
	d.List()[0] = "q"
	picks := []int{7, 2}
	must(t, d.Append("a", []byte("4")), d.SyncDir())
	wants(t, "P5.5", d, "a=1234/0")
	d.Crash(picks)
	if !slices.Equal(picks, []int{7, 2}) {
		t.Error("P5.5: the picks were changed")
	}
	wants(t, "P5.5", d, "a=12/2")
}

func TestSyncedDataSurvives(t *testing.T) {
	for picks := range 64 {
		d := empty(t, 50)
		must(t, d.Create("a"), d.Append("a", []byte("123")), d.Sync("a"), d.SyncDir(), d.Append("a", []byte("45")), d.Create("b"), d.Rename("b", "c"))
		d.Crash([]int{picks % 4, picks / 4 % 4, picks / 16})
		got, err := d.Read("a")
		if err != nil || !bytes.HasPrefix([]byte("12345"), got) || len(got) < 3 {
			t.Errorf("P5.6: picks %d: %q, %v", picks, got, err)
		}
	}
}

func TestAllOrNothing(t *testing.T) {
	fresh := []byte("the new bytes")
	for at := 0; at <= 6; at++ {
		for picks := range 256 {
			d, _ := disk.Load(500, []api.File{{Name: "b", Data: []byte("old"), Safe: 3}})
			d.Arm(at)
			d.Create("a")
			d.Append("a", fresh)
			d.Sync("a")
			d.Rename("a", "b")
			d.SyncDir()
			if d.Down() != (at >= 1 && at <= 5) {
				t.Fatalf("P5.7: armed with %d", at)
			}
			d.Crash([]int{picks % 4, picks / 4})
			got, err := d.Read("b")
			if err != nil || string(got) != "old" && !bytes.Equal(got, fresh) {
				t.Errorf("P5.7: armed with %d, picks %d: %q", at, picks, got)
			}
			if at == 0 && !bytes.Equal(got, fresh) {
				t.Error("P5.7: after SyncDir the new bytes are lost")
			}
		}
	}
}
