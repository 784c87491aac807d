package cleanup

import (
	"strings"
	"testing"

	"jacquard/api"
	"jacquard/fold"
	"jacquard/ir"
	"jacquard/irtext"
	"jacquard/rewrite"
	"jacquard/sample"
	"jacquard/sample/lowered"
	"jacquard/sample/verify"
)

// clean says why a function is not clean, by the words of the chapter.
func clean(f api.Func) string {
	x := rewrite.Edit(f, nil)
	try := func(s api.Step) bool { return rewrite.Edit(f, nil).Do(s) }
	reachable := ir.Reachable(f)
	for b, block := range f.Blocks {
		if !reachable[b] {
			return "a block that is not reachable"
		}
		for i := range block.Insts {
			if try(api.Step{Kind: api.StepRemove, Block: b, At: i}) {
				return "an unused instruction"
			}
		}
		for i := range block.Params {
			if try(api.Step{Kind: api.StepDropParam, Block: b, At: i}) {
				return "an unused parameter"
			}
		}
		if try(api.Step{Kind: api.StepMerge, Block: b}) {
			return "blocks that can be merged"
		}
		used := x.Used(b)
		values := x.Values(b)
		for i, v := range values {
			for _, w := range values[:i] {
				if used[v] && (x.Equal(b, v, w, api.AxSame) || x.Equal(b, v, w, api.AxCommute) || i < len(block.Params) && x.Equal(b, v, w, api.AxParamSame)) {
					return "equal values"
				}
			}
		}
		t := block.Term
		if t.Kind == api.Branch && t.To[0].Block == t.To[1].Block && ir.Same(api.Func{Widths: t.To[0].Args}, api.Func{Widths: t.To[1].Args}) {
			return "equal edges"
		}
	}
	return ""
}

func check(t *testing.T, f api.Func, seed uint64) api.Func {
	t.Helper()
	g, wrong := verify.Pass(f, Run, seed, false)
	if wrong == "" {
		wrong = clean(g)
	}
	if wrong != "" || ir.Size(g) > ir.Size(f) || len(g.Blocks) > len(f.Blocks) {
		s, _ := irtext.Print(f)
		t.Fatal(s, wrong)
	}
	if h, w := Run(g); !ir.Same(g, h) || len(w.Rounds) != 0 {
		t.Fatal("not the same again")
	}
	return g
}

func TestSamples(t *testing.T) {
	for seed := range uint64(400) {
		f := lowered.Func(seed, sample.Shape{Loops: true, Nested: true, Streams: true, Arrays: true, Division: true, Directives: true, Statements: 7})
		g := check(t, f, seed)
		folded, _ := fold.Run(g)
		check(t, folded, seed)
	}
}

func TestExamples(t *testing.T) {
	g := check(t, lowered.Source("kernel k(x: u8, y: u8) -> u8 { return (x + y) * (y + x); }"), 1)
	if ir.Size(g) != 2 || len(g.Blocks) != 1 {
		t.Error(g)
	}
	g = check(t, lowered.Source("kernel k(x: u8, y: u8, o: out u8) { var z: u8 = x; var u: u8 = x; while z < y { send o(z + u); } }"), 1)
	for _, b := range g.Blocks {
		if len(b.Params) > 2 {
			t.Error("equal parameters", b)
		}
	}
}

func TestUnreachable(t *testing.T) {
	insts := ""
	for v := 14; v < 30; v++ {
		insts += "send o 9 8\n"
	}
	f, line, e := irtext.Parse(`func f
widths 8 8 1 8 8 1 8 1 1 8 8 8 8 8
stream o out 8
rets 8
block 0 ( 0 )
return 0
block 1 ( 1 )
2 = const 1
branch 2 1 ( 1 ) 2 ( 1 )
block 2 ( 3 )
5 = eq 3 3
branch 5 3 ( ) 4 ( 3 )
block 3 ( )
4 = const 3
jump 1 ( 4 )
block 4 ( 9 )
8 = const 1
` + insts + `6 = add 9 9
7 = ult 6 9
branch 7 4 ( 6 ) 4 ( 9 )
`)
	if e != api.OK {
		t.Fatal(line, e)
	}
	if g := check(t, f, 1); len(g.Blocks) != 1 {
		t.Error(g)
	}
	// A load, and accesses whose predicate is 0, can go; others cannot.
	f, line, e = irtext.Parse(strings.ReplaceAll(`func f
widths 8 1 1 8 8
array a 8 4 whole
stream i in 8
stream o out 8
rets
block 0 ( 0 )
1 = const 0
2 = const 1
3 = load a 0 2
4 = recv i 1
send o 0 1
store a 0 0 1
send o 0 2
return
`, "\r", ""))
	if e != api.OK {
		t.Fatal(line, e)
	}
	if g := check(t, f, 1); ir.Size(g) != 2 {
		t.Error(g)
	}
}

func TestWrong(t *testing.T) {
	if g, w := Run(api.Func{}); !ir.Same(g, api.Func{}) || w.Rounds != nil {
		t.Error("not valid")
	}
	f := lowered.Source("kernel k(x: u8) -> u8 { let y = x + 1; return x; }")
	for len(f.Widths) <= 4096 {
		f.Widths = append(f.Widths, 1)
	}
	if g, w := Run(f); !ir.Same(f, g) || w.Rounds != nil {
		t.Error("too large")
	}
}
