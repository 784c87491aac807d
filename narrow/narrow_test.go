package narrow

import (
	"testing"

	"jacquard/api"
	"jacquard/cleanup"
	"jacquard/facts"
	"jacquard/fold"
	"jacquard/ir"
	"jacquard/irtext"
	"jacquard/rewrite"
	"jacquard/sample"
	"jacquard/sample/lowered"
	"jacquard/sample/verify"
)

// wide says which condition of the chapter a function violates, 0 for none.
func wide(f api.Func) int {
	known := facts.Analyze(f)
	x := rewrite.Edit(f, known)
	bound := func(v int) int { return size(known[v].Hi) }
	for b := range f.Blocks {
		used := x.Used(b)
		for _, v := range x.Values(b) {
			d, w := x.Def(b, v), f.Widths[v]
			if !used[v] {
				continue
			}
			switch d.Op {
			case 0:
				if b != 0 && bound(v) != w {
					return 1
				}
			case api.OpAdd, api.OpSub, api.OpMul, api.OpAnd, api.OpOr, api.OpXor:
				if bound(v) != w {
					return 2
				}
			case api.OpUDiv, api.OpURem:
				if known[d.Args[1]].Lo >= 1 && max(bound(d.Args[0]), bound(d.Args[1])) != w {
					return 3
				}
			case api.OpTrunc:
				if e := x.Def(b, d.Args[0]).Op; e >= api.OpAdd && e <= api.OpMul || e >= api.OpAnd && e <= api.OpXor {
					if n, _ := x.Uses(b, d.Args[0]); n == 1 {
						return 4
					}
				}
			}
		}
	}
	return 0
}

// widest returns the greatest width of a used product, quotient or remainder.
func widest(f api.Func) int {
	m := 0
	x := rewrite.Edit(f, nil)
	for b := range f.Blocks {
		for v := range x.Used(b) {
			if op := x.Def(b, v).Op; op >= api.OpMul && op <= api.OpSRem {
				m = max(m, f.Widths[v])
			}
		}
	}
	return m
}

func check(t *testing.T, f api.Func, seed uint64) api.Func {
	t.Helper()
	g, wrong := verify.Pass(f, Run, seed, true)
	if wrong != "" || wide(g) != 0 || widest(g) > widest(f) || len(g.Blocks) != len(f.Blocks) {
		s, _ := irtext.Print(f)
		t.Fatal(seed, s, wrong, wide(g))
	}
	return g
}

func TestSamples(t *testing.T) {
	for seed := range uint64(250) {
		f := lowered.Func(seed, sample.Shape{Loops: true, Nested: true, Streams: true, Arrays: true, Division: true, Statements: 6})
		check(t, f, seed)
		f, _ = fold.Run(f)
		f, _ = cleanup.Run(f)
		check(t, f, seed)
	}
}

func TestExamples(t *testing.T) {
	g := check(t, lowered.Source("kernel k(o: out u8) { for i: u32 in 0 .. 10 { send o(i as u8); } }"), 1)
	for b, block := range g.Blocks {
		if _, loop := ir.SelfLoop(g, b); loop && g.Widths[block.Params[len(block.Params)-1]] > 4 {
			t.Error("counter", block)
		}
	}
	g = check(t, lowered.Source("kernel k(x: u32, y: u32) -> u32 { return (x & 15) * (y & 15); }"), 1)
	if widest(g) != 8 {
		t.Error("product", widest(g))
	}
	g = check(t, lowered.Source("kernel k(x: u32, y: u32) -> u8 { return (x + y) as u8; }"), 1)
	for _, in := range g.Blocks[0].Insts {
		if in.Op == api.OpAdd && g.Widths[in.Dest] != 8 {
			t.Error("sum")
		}
	}
	g = check(t, lowered.Source("kernel k(x: u32, y: u32) -> u32 { return (x & 63) / ((y & 7) + 1); }"), 1)
	if widest(g) != 6 {
		t.Error("quotient", widest(g))
	}
	check(t, lowered.Source("kernel k(x: u32, y: u32) -> u1 { return ((x * y + (x ^ y)) as u16 as s8 as s4 as u4) as u1; }"), 1)
}

func TestWrong(t *testing.T) {
	if g, w := Run(api.Func{}); !ir.Same(g, api.Func{}) || w.Rounds != nil {
		t.Error("not valid")
	}
	f := lowered.Source("kernel k(a: u8) -> u8 { return (a & 1) + 1; }")
	for len(f.Widths) <= 4096 {
		f.Widths = append(f.Widths, 1)
	}
	if g, w := Run(f); !ir.Same(f, g) || w.Rounds != nil {
		t.Error("too large")
	}
}
