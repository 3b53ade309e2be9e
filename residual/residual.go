// Package residual: what a prediction lacks, as levels. The decoder and the encoder share it,
// so that both build the same samples.
package residual

import (
	"kinescope/block"
	"kinescope/plane"
	"kinescope/quant"
	"kinescope/wht"
)

// Levels returns the levels of a block of samples minus its prediction.
func Levels(b, prediction []int, qp int) ([]int, error) {
	difference, err := block.Sub(b, prediction)
	if err != nil {
		return nil, err
	}
	c, err := wht.Forward(difference)
	if err != nil {
		return nil, err
	}
	return quant.Levels(c, qp)
}

// Add returns the samples of a prediction and the residual of levels.
func Add(prediction, levels []int, qp int) ([]int, error) {
	c, err := quant.Values(levels, qp)
	if err != nil {
		return nil, err
	}
	rest, err := wht.Inverse(c)
	if err != nil {
		return nil, err
	}
	// A residual may be greater than what block.Add takes.
	for i, p := range prediction {
		rest[i] = plane.Clip(p + rest[i])
	}
	return rest, nil
}
