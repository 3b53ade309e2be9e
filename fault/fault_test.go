package fault_test

import (
	"errors"
	"slices"
	"strconv"
	"strings"
	"testing"

	"kinescope/api"
	"kinescope/fault"
)

// veil is an error of another type that wraps one.
type veil struct{ of error }

func (v veil) Error() string { return "veil" }
func (v veil) Unwrap() error { return v.of }

func TestIn(t *testing.T) {
	if err := fault.In("a", 1, nil); err != nil {
		t.Errorf("P1.1: In of nil is %v", err)
	}
	in := errors.New("x")
	f, ok := fault.In("a", -1, in).(*fault.Fault)
	if !ok || f.Where != "a" || f.Place != -1 || f.Err != in {
		t.Fatalf("P1.1: In is %v", f)
	}
	if f.Unwrap() != in || (&fault.Fault{}).Unwrap() != nil {
		t.Error("P1.1: Unwrap")
	}
	if _, ok := fault.In("a", 0, api.OK).(*fault.Fault); !ok {
		t.Error("P1.1: In of the code OK, which is an error that is not nil")
	}
}

func TestError(t *testing.T) {
	for _, c := range []struct {
		err  error
		want string
	}{
		{&fault.Fault{}, " 0"},
		{&fault.Fault{Where: "w", Place: -12}, "w -12"},
		{fault.In("w", 7, errors.New("x y")), "w 7: x y"},
		{fault.In("a", 1, fault.In("b", 20, api.ErrFull)), "a 1: b 20: code 9"},
		{fault.In("a", 1, &fault.Fault{Where: "b", Place: 2}), "a 1: b 2"},
		{fault.In("a", 1, veil{fault.In("b", 2, api.ErrSum)}), "a 1: veil"},
	} {
		if c.err.Error() != c.want {
			t.Errorf("P1.1: Error is %q, not %q", c.err.Error(), c.want)
		}
	}
}

func TestOf(t *testing.T) {
	for i, c := range []struct {
		err  error
		want api.Code
	}{
		{nil, api.OK},
		{api.OK, api.OK},
		{api.ErrShort, api.ErrShort},
		{api.Code(-3), -3},
		{fault.In("bits", 3, api.ErrShort), api.ErrShort},
		{errors.New("x"), api.ErrOther},
		{fault.In("a", 1, errors.New("x")), api.ErrOther},
		{&fault.Fault{Where: "a"}, api.ErrOther},
		{veil{nil}, api.ErrOther},
		{veil{fault.In("a", 1, veil{api.ErrKind})}, api.ErrKind},
		{errors.Join(errors.New("x"), api.ErrSum, api.ErrKind), api.ErrSum},
	} {
		if got := fault.Of(c.err); got != c.want {
			t.Errorf("P1.2: case %d: Of is %d, not %d", i, got, c.want)
		}
	}
}

func TestIs(t *testing.T) {
	both := errors.Join(api.ErrShort, api.ErrSum)
	for i, c := range []struct {
		err  error
		code api.Code
		want bool
	}{
		{nil, api.OK, true},
		{nil, api.ErrShort, false},
		{api.ErrSum, api.OK, false},
		{api.OK, api.OK, true},
		{api.ErrSum, api.ErrSum, true},
		{fault.In("a", 1, api.ErrSum), api.ErrSum, true},
		{fault.In("a", 1, api.ErrSum), api.ErrKind, false},
		{both, api.ErrShort, true},
		{both, api.ErrSum, true},
		{both, api.ErrKind, false},
		{errors.New("x"), api.ErrOther, false},
		{errors.New("x"), api.OK, false},
	} {
		if fault.Is(c.err, c.code) != c.want {
			t.Errorf("P1.3: case %d: Is is %v", i, !c.want)
		}
	}
}

func TestPath(t *testing.T) {
	a, b := fault.Step{Where: "a", Place: 1}, fault.Step{Where: "b", Place: 2}
	for i, c := range []struct {
		err  error
		want []fault.Step
		text string
	}{
		{nil, nil, ""},
		{api.ErrSum, nil, "code 4"},
		{errors.New("x"), nil, "code 15"},
		{&fault.Fault{Where: "a", Place: 1}, []fault.Step{a}, "a 1: code 15"},
		{fault.In("a", 1, fault.In("b", 2, api.ErrSum)), []fault.Step{a, b}, "a 1: b 2: code 4"},
		{fault.In("b", 2, fault.In("a", 1, api.Code(-1))), []fault.Step{b, a}, "b 2: a 1: code below 0"},
		{veil{fault.In("a", 1, veil{fault.In("b", 2, veil{nil})})}, []fault.Step{a, b}, "a 1: b 2: code 15"},
		{errors.Join(api.ErrSum, fault.In("a", 1, api.ErrKind), fault.In("b", 2, api.ErrKind)), []fault.Step{a}, "a 1: code 4"},
	} {
		if got := fault.Path(c.err); !slices.Equal(got, c.want) {
			t.Errorf("P1.3: case %d: Path is %v", i, got)
		}
		if got := fault.Text(c.err); got != c.text {
			t.Errorf("P1.3: case %d: Text is %q", i, got)
		}
	}
}

func TestSame(t *testing.T) {
	all := []error{
		nil, api.ErrSum, api.ErrKind, fault.In("a", 1, api.ErrSum), fault.In("a", 1, api.ErrKind),
		fault.In("a", 2, api.ErrSum), fault.In("b", 1, api.ErrSum),
		fault.In("b", 1, fault.In("a", 1, api.ErrSum)), fault.In("a", 1, fault.In("b", 1, api.ErrSum)),
	}
	for i, a := range all {
		for k, b := range all {
			if fault.Same(a, b) != (i == k) {
				t.Errorf("P1.3: Same of %d and %d", i, k)
			}
		}
	}
	if !fault.Same(veil{fault.In("a", 1, errors.New("x"))}, fault.In("a", 1, veil{errors.New("y")})) {
		t.Error("P1.3: errors of other types are no steps, and have one code")
	}
	if !fault.Same(nil, api.OK) {
		t.Error("P1.3: nil and OK have the same code and no path")
	}
}

func TestNothingIsShared(t *testing.T) {
	in := &fault.Fault{Where: "b", Place: 2, Err: api.ErrSum}
	err := fault.In("a", 1, in)
	path := fault.Path(err)
	path[0] = fault.Step{}
	_ = append(path[:1], fault.Step{})
	if got := fault.Text(err); got != "a 1: b 2: code 4" {
		t.Errorf("P1.4: the path that was returned is shared: %q", got)
	}
	in.Err = api.ErrKind
	if fault.Of(err) != api.ErrKind {
		t.Error("P1.4: a Fault retains Err itself")
	}
	if in.Where != "b" || in.Place != 2 {
		t.Error("P1.4: an argument was changed")
	}
}

func TestManyWraps(t *testing.T) {
	const many = 1 << 16
	var err error = api.ErrDown
	want := "code 10"
	var head strings.Builder
	for i := range many {
		err = fault.In("w", i, err)
	}
	for i := many - 1; i >= 0; i-- {
		head.WriteString("w " + strconv.Itoa(i) + ": ")
	}
	want = head.String() + want
	var f *fault.Fault
	if !errors.Is(err, api.ErrDown) || !errors.As(err, &f) || f.Place != many-1 || fault.Of(err) != api.ErrDown {
		t.Error("P1.5: the code or the outermost Fault")
	}
	if err.Error() != want || fault.Text(err) != want {
		t.Error("P1.5: the text of many wraps")
	}
	path := fault.Path(err)
	for i, s := range path {
		if len(path) != many || s.Where != "w" || s.Place != many-1-i {
			t.Fatalf("P1.5: step %d of %d is %v", i, len(path), s)
		}
	}
}
