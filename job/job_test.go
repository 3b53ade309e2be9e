package job_test

import (
	"slices"
	"testing"

	"kinescope/api"
	"kinescope/job"
	"kinescope/log"
)

func start(sum, number int) log.Rec { return log.Rec{Kind: api.UStart, Sum: sum, Number: number} }
func done(number, sum int) log.Rec {
	return log.Rec{Kind: api.UDone, Number: number, Length: 5, Sum: sum}
}
func failed(code api.Code) log.Rec { return log.Rec{Kind: api.UFail, Code: code} }
func ended(sum int) log.Rec        { return log.Rec{Kind: api.UEnd, Length: 9, Sum: sum} }

// same reports whether all methods of two jobs return the same.
func same(a, b *job.Job) bool {
	for n := -1; n < 18; n++ {
		ra, oka := a.Done(n)
		rb, okb := b.Done(n)
		if ra != rb || oka != okb {
			return false
		}
	}
	ea, oka := a.End()
	eb, okb := b.End()
	return a.State() == b.State() && a.Sum() == b.Sum() && a.Chunks() == b.Chunks() && a.Code() == b.Code() && ea == eb && oka == okb && slices.Equal(a.Missing(), b.Missing())
}

func TestExamples(t *testing.T) {
	j := job.New()
	if j.Apply(done(0, 1)) != error(api.ErrState) || j.Apply(start(9, 2)) != nil || !slices.Equal(j.Missing(), []int{0, 1}) {
		t.Error("P27.1: the first example")
	}
	if j.Apply(done(2, 1)) != error(api.ErrRange) || j.Apply(done(1, 1)) != nil || !slices.Equal(j.Missing(), []int{0}) || j.Apply(ended(3)) != error(api.ErrFit) {
		t.Error("P27.1: the second example")
	}
}

func TestFresh(t *testing.T) {
	j := job.New()
	if j.State() != 0 || j.Sum() != 0 || j.Chunks() != 0 || j.Code() != 0 || len(j.Missing()) > 0 {
		t.Error("P27.1: a new job")
	}
	for _, r := range []log.Rec{done(0, 1), failed(3), ended(3)} {
		if err := j.Apply(r); err != error(api.ErrState) {
			t.Errorf("P27.1: kind %d is %v", r.Kind, err)
		}
	}
	j.Forget(0)
	if !same(j, job.New()) {
		t.Error("P27.4: a record that was refused changed something")
	}
	for number := range 17 {
		j := job.New()
		if err := j.Apply(start(7, number)); err != nil || j.State() != 1 || j.Sum() != 7 || j.Chunks() != number || len(j.Missing()) != number {
			t.Errorf("P27.1: %d chunks: %v", number, err)
		}
	}
}

func TestForm(t *testing.T) {
	for i, j := range []*job.Job{begun(t), begun(t, start(1, 2)), begun(t, start(1, 0), failed(2)), begun(t, start(1, 1), done(0, 1), ended(1))} {
		if j.State() != i {
			t.Fatalf("P27.1: state %d is %d", i, j.State())
		}
		before := j.Copy()
		for _, r := range []log.Rec{{}, {Kind: 7}, start(-1, 0), start(0, 17), failed(0), {Kind: api.UDone, Number: 16}, {Kind: api.UDone, Code: 1}, {Kind: api.UEnd, Length: -1}} {
			if err := j.Apply(r); err != error(api.ErrForm) || !same(j, before) {
				t.Errorf("P27.1: %v in state %d: %v", r, i, err)
			}
		}
	}
}

// begun returns a job to which records have been applied.
func begun(t *testing.T, l ...log.Rec) *job.Job {
	t.Helper()
	j := job.New()
	for _, r := range l {
		if err := j.Apply(r); err != nil {
			t.Fatalf("P27.1: %v: %v", r, err)
		}
	}
	return j
}

func TestRunning(t *testing.T) {
	j := begun(t, start(5, 3))
	for i, c := range []struct {
		r       log.Rec
		want    error
		missing []int
	}{
		{start(5, 3), api.ErrState, []int{0, 1, 2}}, {failed(2), api.ErrFit, []int{0, 1, 2}}, {ended(1), api.ErrFit, []int{0, 1, 2}}, {done(3, 1), api.ErrRange, []int{0, 1, 2}}, {done(15, 1), api.ErrRange, []int{0, 1, 2}},
		{done(1, 4), nil, []int{0, 2}}, {done(1, 6), nil, []int{0, 2}}, {done(2, 7), nil, []int{0}}, {ended(1), api.ErrFit, []int{0}}, {failed(2), api.ErrFit, []int{0}}, {start(1, 0), api.ErrState, []int{0}}, {done(0, 8), nil, nil}, {done(2, 9), nil, nil}, {failed(2), api.ErrFit, nil},
	} {
		if err := j.Apply(c.r); err != c.want || !slices.Equal(j.Missing(), c.missing) || j.State() != 1 {
			t.Errorf("P27.1: case %d: %v, missing %v", i, err, j.Missing())
		}
	}
	for n, sum := range map[int]int{0: 8, 1: 6, 2: 9} {
		if r, ok := j.Done(n); !ok || r != done(n, sum) {
			t.Errorf("P27.2: Done(%d) is %v", n, r)
		}
	}
	for _, n := range []int{-1, 3, 1 << 40, -1 << 63} {
		if r, ok := j.Done(n); ok || r != (log.Rec{}) {
			t.Errorf("P27.2: Done(%d) is %v", n, r)
		}
		j.Forget(n)
	}
	if r, ok := j.End(); ok || r != (log.Rec{}) || len(j.Missing()) > 0 || j.Code() != 0 {
		t.Error("P27.2: End of a job that is running")
	}
	j.Forget(1)
	j.Forget(1)
	if r, ok := j.Done(1); ok || r != (log.Rec{}) || !slices.Equal(j.Missing(), []int{1}) || j.Apply(ended(1)) != error(api.ErrFit) {
		t.Error("P27.2: Forget")
	}
	if j.Apply(done(1, 2)) != nil || j.Apply(ended(4)) != nil || j.State() != 3 {
		t.Error("P27.1: UEnd")
	}
}

func TestNoChunks(t *testing.T) {
	j := begun(t, start(5, 0))
	if j.Apply(ended(1)) != error(api.ErrFit) || j.Apply(done(0, 1)) != error(api.ErrRange) || j.Apply(start(5, 0)) != error(api.ErrState) || j.State() != 1 || j.Code() != 0 {
		t.Error("P27.1: a job without chunks")
	}
	if j.Apply(failed(13)) != nil || j.State() != 2 || j.Code() != 13 || j.Sum() != 5 || j.Chunks() != 0 {
		t.Error("P27.1: UFail")
	}
	if r, ok := j.End(); ok || r != (log.Rec{}) {
		t.Error("P27.2: End of a job that failed")
	}
	if j := begun(t, start(5, 1)); j.Apply(failed(13)) != error(api.ErrFit) || j.State() != 1 {
		t.Error("P27.1: UFail of a job with one chunk")
	}
}

func TestRemainsSo(t *testing.T) {
	for _, j := range []*job.Job{begun(t, start(5, 0), failed(3)), begun(t, start(5, 2), done(0, 1), done(1, 2), ended(7))} {
		before := j.Copy()
		for _, r := range []log.Rec{start(5, 0), start(5, 2), done(0, 9), failed(4), ended(8)} {
			if err := j.Apply(r); err != error(api.ErrState) {
				t.Errorf("P27.1: kind %d in state %d is %v", r.Kind, j.State(), err)
			}
		}
		j.Forget(0)
		j.Forget(1)
		if !same(j, before) {
			t.Error("P27.4: a job that has ended changed")
		}
	}
	j := begun(t, start(5, 2), done(0, 1), done(1, 2), ended(7))
	if r, ok := j.End(); !ok || r != ended(7) || j.Code() != 0 || len(j.Missing()) > 0 {
		t.Error("P27.2: End")
	}
	if r, ok := j.Done(1); !ok || r != done(1, 2) {
		t.Error("P27.2: Done of a job that is finished")
	}
}

func TestCopy(t *testing.T) {
	j := begun(t, start(5, 2), done(0, 1))
	c := j.Copy()
	if !same(j, c) {
		t.Error("P27.2: a copy is not equal")
	}
	c.Apply(done(1, 3))
	c.Apply(done(0, 4))
	if r, _ := j.Done(0); r != done(0, 1) || !slices.Equal(j.Missing(), []int{1}) {
		t.Error("P27.2: a copy changes the job")
	}
	j.Forget(0)
	if r, _ := c.Done(0); r != done(0, 4) {
		t.Error("P27.2: the job changes its copy")
	}
	m := j.Missing()
	m[0] = 77
	if !slices.Equal(j.Missing(), []int{0, 1}) {
		t.Error("P0.4: Missing is shared")
	}
}

func TestReplay(t *testing.T) {
	all := []log.Rec{start(5, 2), done(0, 1), done(1, 2), done(0, 3), ended(7)}
	for n := range len(all) + 1 {
		for _, bad := range []log.Rec{{Kind: 7}, start(1, 1), failed(2)} {
			l := append(slices.Clone(all[:n]), bad)
			if n == 0 && bad.Kind == api.UStart {
				continue
			}
			l = append(l, all[n:]...)
			j, applied := job.Replay(l)
			if applied != n || !same(j, begun(t, all[:n]...)) {
				t.Errorf("P27.3: %d of %d records were applied", applied, n)
			}
		}
		j, applied := job.Replay(all[:n])
		if applied != n || !same(j, begun(t, all[:n]...)) {
			t.Errorf("P27.3, P27.4: %d of %d records were applied", applied, n)
		}
	}
	if j, n := job.Replay(nil); n != 0 || j.State() != 0 {
		t.Error("P27.3: Replay of nothing")
	}
}
