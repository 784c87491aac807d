// Package lowered makes functions of the intermediate representation for tests.
package lowered

import (
	"jacquard/api"
	"jacquard/inline"
	"jacquard/lower"
	"jacquard/parser"
	"jacquard/sample"
	"jacquard/types"
)

// Func returns the function of the kernel with a seed and a shape.
func Func(seed uint64, s sample.Shape) api.Func { return Source(sample.Source(seed, s)) }

// Source returns the function of a source, a zero one if it has none.
func Source(s string) api.Func {
	n, _, e := parser.Parse(s)
	if e == api.OK {
		n, _, e = types.Check(n)
	}
	if e == api.OK {
		n, e = inline.Inline(n)
	}
	if e != api.OK {
		return api.Func{}
	}
	f, _ := lower.Lower(n)
	return f
}
