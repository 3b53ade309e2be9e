// Package square: the kinds of blocks of a frame, and the bounds of their parts. What codes a
// block, what builds it and what chooses it share them.
package square

import "kinescope/api"

// Kinds of blocks.
const (
	Copied = iota // from the frame ahead
	Moved         // from the frame ahead, a vector away
	InOne         // from its neighbours, in one piece
	InFour        // from its neighbours, in four pieces
)

const (
	Side  = 8 // samples of a row of a block
	Piece = 4 // samples of a row of a quarter of it
)

const mostMode = 3

// IsMode reports whether a mode of prediction is within its bounds.
func IsMode(m int) bool { return m >= 0 && m <= mostMode }

// IsVector reports whether both components of a vector are within their bounds.
func IsVector(v api.Vector) bool {
	return v.X >= -api.MaxVector && v.X <= api.MaxVector && v.Y >= -api.MaxVector && v.Y <= api.MaxVector
}

// IsLevel reports whether a level is within its bounds.
func IsLevel(v int) bool { return v >= -api.MaxLevel && v <= api.MaxLevel }
