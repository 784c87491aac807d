// Package operator says which widths the pure operators of the IR take, and what their values are. Several layers share it.
package operator

import (
	"jacquard/api"
	"jacquard/bits"
)

// Fits reports whether the shape of an operator is right: a result of width w from operands of some widths. Extensions and truncations may keep the width.
func Fits(op, w int, widths []int) bool {
	if w < 1 || w > api.MaxWidth {
		return false
	}
	for _, x := range widths {
		if x < 1 || x > api.MaxWidth {
			return false
		}
	}
	switch {
	case op == api.OpConst:
		return len(widths) == 0
	case op == api.OpSelect:
		return len(widths) == 3 && widths[0] == 1 && widths[1] == w && widths[2] == w
	case op == api.OpZExt, op == api.OpSExt:
		return len(widths) == 1 && widths[0] <= w
	case op == api.OpTrunc:
		return len(widths) == 1 && widths[0] >= w
	case bits.IsCompare(op):
		return w == 1 && len(widths) == 2 && widths[0] == widths[1]
	case bits.IsBinary(op):
		return len(widths) == 2 && widths[0] == w && widths[1] == w
	}
	return false
}

// Value returns the value of an operator whose shape is right for words of its operands; num is the word of a constant.
func Value(op, w int, widths []int, args []uint64, num uint64) uint64 {
	switch op {
	case api.OpConst:
		return bits.Fit(w, num)
	case api.OpSelect:
		if args[0] == 1 {
			return args[1]
		}
		return args[2]
	case api.OpZExt, api.OpSExt, api.OpTrunc:
		return bits.Extend(widths[0], w, args[0], op == api.OpSExt)
	}
	word, _ := bits.Binary(op, widths[0], args[0], args[1])
	return word
}
