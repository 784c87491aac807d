// Package verify compares functions with what passes make of them, for tests.
package verify

import (
	"slices"

	"jacquard/api"
	"jacquard/ir"
	"jacquard/irexec"
	"jacquard/rewrite"
	"jacquard/sample"
)

// Outcomes reports whether two outcomes are equal, but for the path.
func Outcomes(a, b api.Outcome) bool {
	same := func(x, y []uint64) bool { return slices.Equal(x, y) }
	return a.Status == b.Status && same(a.Rets, b.Rets) && slices.EqualFunc(a.Arrays, b.Arrays, same) && slices.EqualFunc(a.Outs, b.Outs, same)
}

// Runs executes two functions with the same interface, and says what is wrong. Paths are compared if paths is true.
func Runs(f, g api.Func, seed uint64, paths bool) string {
	for i := range uint64(5) {
		env := sample.FuncEnv(seed*5+i, f)
		want, _ := irexec.Run(f, env, 800)
		if want.Status == api.Fuel {
			continue
		}
		got, e := irexec.Run(g, env, 800)
		if e != api.OK {
			return "the environment does not fit"
		}
		if !Outcomes(got, want) {
			return "another outcome"
		}
		if paths && !slices.Equal(got.Path, want.Path) {
			return "another path"
		}
	}
	return ""
}

// Pass runs a pass on a function, and says what is wrong with the result.
func Pass(f api.Func, run func(api.Func) (api.Func, api.Witness), seed uint64, paths bool) (api.Func, string) {
	before := ir.Clone(f)
	g, w := run(f)
	switch h, e := rewrite.Check(f, w); {
	case e != api.OK:
		return g, "the witness is not accepted"
	case !ir.Same(g, h):
		return g, "the witness leads to another function"
	case !ir.Valid(g):
		return g, "not valid"
	case !ir.Same(f, before):
		return g, "the argument is changed"
	}
	return g, Runs(f, g, seed, paths)
}
