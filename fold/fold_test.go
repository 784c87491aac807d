package fold

import (
	"testing"

	"jacquard/api"
	"jacquard/facts"
	"jacquard/ir"
	"jacquard/rewrite"
	"jacquard/sample"
	"jacquard/sample/lowered"
	"jacquard/sample/verify"
)

// folded says why a function is not folded, by the words of the chapter.
func folded(f api.Func) string {
	known := facts.Analyze(f)
	x := rewrite.Edit(f, known)
	for b, block := range f.Blocks {
		used := x.Used(b)
		values := x.Values(b)
		for i, v := range values {
			_, constant := x.Constant(b, v)
			if used[v] && known[v].Lo == known[v].Hi && !constant {
				return "a known value"
			}
			for _, w := range values[:i] {
				for _, ax := range []int{api.AxNeutral, api.AxIdem, api.AxSelect, api.AxCast, api.AxFactCast, api.AxFactMask, api.AxFactRem} {
					if used[v] && x.Equal(b, v, w, ax) {
						return "an equal value"
					}
				}
			}
		}
		if _, constant := x.Constant(b, block.Term.Cond); constant {
			return "a known branch"
		}
	}
	return ""
}

func TestSamples(t *testing.T) {
	for seed := range uint64(400) {
		f := lowered.Func(seed, sample.Shape{Loops: true, Nested: true, Streams: true, Arrays: true, Division: true, Directives: true, Statements: 7})
		g, wrong := verify.Pass(f, Run, seed, false)
		if wrong == "" {
			wrong = folded(g)
		}
		if wrong != "" {
			t.Fatal(seed, wrong)
		}
		h, w := Run(g)
		if !ir.Same(g, h) || len(w.Rounds) != 0 {
			t.Fatal(seed, "not the same again")
		}
	}
}

func TestExamples(t *testing.T) {
	for _, c := range []struct {
		s     string
		insts int
	}{
		{"x + (2 - 2)", 0}, {"(x & 15) & 255", 2}, {"x * 1", 0}, {"x / 1", 0}, {"x | x", 0}, {"(x as u16) as u8", 0}, {"true ? x : 3", 0}, {"(x & 7) % 8", 2}, {"(x & 0) + 5", 1}, {"((x & 15) as u4) as u8", 2},
	} {
		g, _ := Run(lowered.Source("kernel k(x: u8) -> u8 { return " + c.s + "; }"))
		// Count what the result depends on.
		x := rewrite.Edit(g, nil)
		n := 0
		for i := len(x.F.Blocks[0].Insts) - 1; i >= 0; i-- {
			if !x.Do(api.Step{Kind: api.StepRemove, At: i}) {
				n++
			}
		}
		if n != c.insts {
			t.Error(c.s, n)
		}
	}
	g, _ := Run(lowered.Source("kernel k(x: u8, o: out u8) { if (3 as u8) < 4 { send o(x); } }"))
	if g.Blocks[0].Term.Kind != api.Jump {
		t.Error("branch")
	}
}

func TestWrong(t *testing.T) {
	g, w := Run(api.Func{})
	if !ir.Same(g, api.Func{}) || w.Rounds != nil {
		t.Error("not valid")
	}
	f := lowered.Source("kernel k(x: u8) -> u8 { return x + 0; }")
	for len(f.Widths) <= 4096 {
		f.Widths = append(f.Widths, 1)
	}
	if g, w := Run(f); !ir.Same(f, g) || w.Rounds != nil {
		t.Error("too large")
	}
}
