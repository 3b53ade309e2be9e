package farm

import (
	"bytes"
	"slices"
	"strings"

	"kinescope/api"
	"kinescope/disk"
	"kinescope/gop"
	"kinescope/job"
	"kinescope/log"
	"kinescope/unit"
	"kinescope/whole"
)

// The files of a farm beside the chunks.
const (
	journal     = "job"
	journalTemp = "job.tmp"
	out         = "out"
	outTemp     = "out.tmp"
	tempPrefix  = "t."
	mostNumber  = 99 // the greatest number that two digits tell
)

// Chunk returns the name of a chunk's file.
func Chunk(n int) string { return numbered("c.", n) }

// Temp returns the name of a chunk's file that is not complete.
func Temp(n int) string { return numbered(tempPrefix, n) }

func numbered(prefix string, n int) string {
	if n < 0 || n > mostNumber {
		return ""
	}
	return prefix + string([]byte{byte('0' + n/10), byte('0' + n%10)})
}

// opening is what Open knows while it performs its parts.
type opening struct {
	farm *Farm
	key  int      // of the configuration and the source
	code api.Code // why there is no plan
}

// parts returns the parts of Open, in their order.
func (o opening) parts() []func() error {
	return []func() error{o.clean, o.create, o.replay, o.identify, o.fail, o.forget, o.end}
}

// hasPlan reports whether the source can be transcoded.
func (o opening) hasPlan() bool { return o.code == api.OK }

// clean removes what nobody completed.
func (o opening) clean() error {
	d := o.farm.disk
	removed := false
	for _, name := range d.List() {
		if !strings.HasPrefix(name, tempPrefix) && name != journalTemp && name != outTemp {
			continue
		}
		if err := d.Remove(name); err != nil {
			return err
		}
		removed = true
	}
	if !removed {
		return nil
	}
	return d.SyncDir()
}

// create makes the journal, if there is none.
func (o opening) create() error {
	d := o.farm.disk
	if slices.Contains(d.List(), journal) {
		return nil
	}
	if err := d.Create(journal); err != nil {
		return err
	}
	return d.SyncDir()
}

// replay reads the journal, and cuts off what can't be read.
func (o opening) replay() error {
	d := o.farm.disk
	b, err := d.Read(journal)
	if err != nil {
		return err
	}
	l, _ := log.Scan(b)
	j, applied := job.Replay(l)
	o.farm.job = j
	end := 0
	for _, r := range l[:applied] {
		packed, err := log.Pack(r)
		if err != nil {
			return err
		}
		end += len(packed)
	}
	if end == len(b) {
		return nil
	}
	if err := d.Create(journalTemp); err != nil {
		return err
	}
	if err := d.Append(journalTemp, b[:end]); err != nil {
		return err
	}
	if err := d.Sync(journalTemp); err != nil {
		return err
	}
	if err := d.Rename(journalTemp, journal); err != nil {
		return err
	}
	return d.SyncDir()
}

// identify starts a fresh job, and refuses one of another source or configuration.
func (o opening) identify() error {
	f := o.farm
	chunks := len(f.plan.Groups)
	if f.job.State() == fresh {
		return f.note(log.Rec{Kind: api.UStart, Sum: o.key, Number: chunks})
	}
	if f.job.Sum() != o.key || f.job.Chunks() != chunks {
		return api.ErrFit
	}
	return nil
}

// fail lets a job without a plan fail.
func (o opening) fail() error {
	f := o.farm
	if o.hasPlan() {
		if f.job.State() == failed {
			return api.ErrFit
		}
		return nil
	}
	if f.job.State() == running {
		return f.note(log.Rec{Kind: api.UFail, Code: o.code})
	}
	return nil
}

// forget makes the chunks missing whose files are not what they must be.
func (o opening) forget() error {
	f := o.farm
	if !o.hasPlan() || f.job.State() != running {
		return nil
	}
	for n := range f.job.Chunks() {
		r, ok := f.job.Done(n)
		if !ok {
			continue
		}
		b, err := f.disk.Read(Chunk(n))
		if err != nil || len(b) != r.Length || int(unit.Sum(b)) != r.Sum || !f.isChunk(n, b) {
			f.job.Forget(n)
		}
	}
	return nil
}

// end finishes a job whose file is there, and refuses a finished one whose file isn't.
func (o opening) end() error {
	f := o.farm
	if !o.hasPlan() {
		return nil
	}
	isComplete := f.job.State() == running && len(f.job.Missing()) == 0
	if !isComplete && f.job.State() != finished {
		return nil
	}
	b, isJoined := f.published()
	switch {
	case isComplete && isJoined:
		return f.note(log.Rec{Kind: api.UEnd, Length: len(b), Sum: int(unit.Sum(b))})
	case !isComplete && !isJoined:
		return api.ErrFit
	}
	return nil
}

// isChunk reports whether bytes are the file of a chunk.
func (f *Farm) isChunk(n int, b []byte) bool {
	want, err := f.makeChunk(n)
	return err == nil && bytes.Equal(b, want)
}

// published returns the published file, and whether it is the joined file.
func (f *Farm) published() ([]byte, bool) {
	b, err := f.disk.Read(out)
	if err != nil {
		return nil, false
	}
	want, err := f.joined()
	return b, err == nil && bytes.Equal(b, want)
}

// joined returns the joined file, whatever the disk has.
func (f *Farm) joined() ([]byte, error) {
	var l []gop.Chunk
	for n := range f.plan.Groups {
		k, err := whole.Chunk(f.config, f.plan, n)
		if err != nil {
			return nil, err
		}
		l = append(l, k)
	}
	return whole.Stitch(f.config, f.plan, l)
}

// note logs a record: it takes effect as soon as it is safe.
func (f *Farm) note(r log.Rec) error {
	if err := appendRecord(f.disk, r); err != nil {
		return err
	}
	if err := f.disk.Sync(journal); err != nil {
		return err
	}
	return f.job.Apply(r)
}

func appendRecord(d *disk.Disk, r log.Rec) error {
	b, err := log.Pack(r)
	if err != nil {
		return err
	}
	return d.Append(journal, b)
}
