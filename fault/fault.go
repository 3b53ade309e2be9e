// Package fault: errors with a code and a path (chapter 1).
package fault

import (
	"errors"
	"slices"
	"strconv"
	"strings"

	"kinescope/api"
)

// Step is a place through which an error was passed up.
type Step struct {
	Where string
	Place int
}

// Fault is an error that adds a step to the path of the error in it.
type Fault struct {
	Where string
	Place int
	Err   error
}

// Error tells the step, and then the error in it.
func (f *Fault) Error() string {
	var text strings.Builder
	// A loop, because to join the texts wrap by wrap would take the square of their length.
	for f.Err != nil {
		writeStep(&text, f.Where, f.Place)
		text.WriteString(": ")
		next, ok := asFault(f.Err)
		if !ok {
			text.WriteString(f.Err.Error())
			return text.String()
		}
		f = next
	}
	writeStep(&text, f.Where, f.Place)
	return text.String()
}

// Unwrap returns the error in it.
func (f *Fault) Unwrap() error { return f.Err }

// In wraps an error with the place through which it is passed up.
func In(where string, place int, err error) error {
	if err == nil {
		return nil
	}
	return &Fault{Where: where, Place: place, Err: err}
}

// Of returns the code of an error.
func Of(err error) api.Code {
	if err == nil {
		return api.OK
	}
	var code api.Code
	if errors.As(err, &code) {
		return code
	}
	return api.ErrOther
}

// Is reports whether an error has a code.
func Is(err error, c api.Code) bool {
	if err == nil {
		return c == api.OK
	}
	return errors.Is(err, c)
}

// Path returns the places of an error, the outermost first.
func Path(err error) []Step {
	var path []Step
	var f *Fault
	for errors.As(err, &f) && f != nil {
		path = append(path, Step{Where: f.Where, Place: f.Place})
		err = f.Err
	}
	return path
}

// Text tells the path of an error and its code.
func Text(err error) string {
	if err == nil {
		return ""
	}
	var text strings.Builder
	for _, s := range Path(err) {
		writeStep(&text, s.Where, s.Place)
		text.WriteString(": ")
	}
	text.WriteString(Of(err).Error())
	return text.String()
}

// Same reports whether two errors have the same code and the same path.
func Same(a, b error) bool {
	return Of(a) == Of(b) && slices.Equal(Path(a), Path(b))
}

func writeStep(text *strings.Builder, where string, place int) {
	text.WriteString(where)
	text.WriteByte(' ')
	text.WriteString(strconv.Itoa(place))
}

// asFault returns the Fault that err itself is, not one that it wraps.
func asFault(err error) (*Fault, bool) {
	f, ok := err.(*Fault)
	return f, ok && f != nil
}
