// Package walk: a file read unit by unit. Chunk files and containers are read the same way.
package walk

import (
	"kinescope/api"
	"kinescope/fault"
	"kinescope/unit"
)

// Units gives the units of b to take, one after the other. The first error is wrapped with
// the number of units before it; if isWhole says that a unit is missing at the end, this is one.
func Units(where string, b []byte, take func(n int, u api.Unit) error, isWhole func() bool) error {
	n := 0
	for at := 0; at < len(b); n++ {
		u, err := unit.Next(b, at)
		if err == nil {
			err = take(n, u)
		}
		if err != nil {
			return fault.In(where, n, err)
		}
		at = u.End
	}
	if !isWhole() {
		return fault.In(where, n, api.ErrShort)
	}
	return nil
}
