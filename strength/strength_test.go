package strength

import (
	"testing"

	"jacquard/api"
	"jacquard/cleanup"
	"jacquard/fold"
	"jacquard/ir"
	"jacquard/irtext"
	"jacquard/rewrite"
	"jacquard/sample"
	"jacquard/sample/lowered"
	"jacquard/sample/verify"
)

// reducible says which condition of the chapter a function violates, 0 for none.
func reducible(f api.Func) int {
	x := rewrite.Edit(f, nil)
	for b := range f.Blocks {
		p := &pass{x: x, b: b}
		used := x.Used(b)
		for _, v := range x.Values(b) {
			d := x.Def(b, v)
			w := f.Widths[v]
			if !used[v] {
				continue
			}
			if d.Op == api.OpMul {
				a, c, ok := p.factor(d)
				if !ok {
					continue
				}
				for i := range w {
					if c == 1<<i && i > 0 {
						return 1
					}
					for j := range i {
						if c != 1 && (c == 1<<i+1<<j || c == 1<<i-1<<j) {
							return 1
						}
					}
				}
				if at, ok := x.Param(b, a); ok && b != 0 {
					if _, loops := p.steps(at, a); loops {
						return 4
					}
				}
			}
			if d.Op == api.OpUDiv || d.Op == api.OpURem {
				c, ok := x.Constant(b, d.Args[1])
				if _, both := x.Constant(b, d.Args[0]); !ok || both {
					continue
				}
				if _, _, e := rewrite.Magic(w, c); c > 1 && c&(c-1) == 0 || w <= 32 && c >= 3 && e == api.OK {
					return 2
				}
			}
		}
	}
	return 0
}

func divisions(f api.Func) int {
	n := 0
	x := rewrite.Edit(f, nil)
	for b := range f.Blocks {
		for v := range x.Used(b) {
			if op := x.Def(b, v).Op; op == api.OpUDiv || op == api.OpURem {
				n++
			}
		}
	}
	return n
}

func check(t *testing.T, f api.Func, seed uint64) api.Func {
	t.Helper()
	g, wrong := verify.Pass(f, Run, seed, true)
	if wrong != "" || reducible(g) != 0 || divisions(g) > divisions(f) {
		s, _ := irtext.Print(f)
		t.Fatal(s, wrong, reducible(g))
	}
	for b := range f.Blocks {
		if len(f.Blocks) != len(g.Blocks) || f.Blocks[b].Term.Kind != g.Blocks[b].Term.Kind {
			t.Fatal("blocks")
		}
	}
	if h, w := Run(g); !ir.Same(g, h) || len(w.Rounds) != 0 {
		t.Fatal("again")
	}
	return g
}

func TestSamples(t *testing.T) {
	for seed := range uint64(300) {
		f := lowered.Func(seed, sample.Shape{Loops: true, Nested: true, Streams: true, Arrays: true, Division: true, Statements: 7})
		check(t, f, seed)
		f, _ = fold.Run(f)
		f, _ = cleanup.Run(f)
		check(t, f, seed)
	}
}

func has(f api.Func, op int) bool {
	for _, b := range f.Blocks {
		for _, in := range b.Insts {
			if in.Op == op {
				return true
			}
		}
	}
	return false
}

func TestConstants(t *testing.T) {
	for _, w := range []string{"u8", "u5", "u1", "u16", "u32"} {
		for _, op := range []string{"*", "/", "%"} {
			for _, c := range []string{"0", "1", "2", "3", "5", "6", "7", "8", "9", "10", "11", "12", "15", "24", "28", "31", "100", "255", "641", "65535", "4294967295"} {
				f := lowered.Source("kernel k(x: " + w + ") -> " + w + " { return x " + op + " " + c + "; }")
				if ir.Valid(f) {
					check(t, f, 3)
				}
				f = lowered.Source("kernel k(x: " + w + ") -> " + w + " { return " + c + " " + op + " x; }")
				if ir.Valid(f) {
					check(t, f, 3)
				}
			}
		}
	}
	for _, c := range []struct {
		s      string
		gone   int
		expect int
	}{{"x * 8", api.OpMul, api.OpShl}, {"7 * x", api.OpMul, api.OpSub}, {"x * 10", api.OpMul, api.OpAdd}, {"x % 16", api.OpURem, api.OpAnd}, {"x / 4", api.OpUDiv, api.OpLShr}, {"x / 3", api.OpUDiv, api.OpTrunc}, {"x % 10", api.OpURem, api.OpSub}} {
		g := check(t, lowered.Source("kernel k(x: u8) -> u8 { return "+c.s+"; }"), 1)
		if has(g, c.gone) || !has(g, c.expect) {
			t.Error(c.s)
		}
	}
}

func TestCounters(t *testing.T) {
	f := lowered.Source("kernel k(n: u8, o: out u16) { var i: u16 = 3; while i < (n as u16) { send o(i * 11); i = i + 2; send o(13 * i); } }")
	f, _ = cleanup.Run(f)
	check(t, f, 1)
	// A loop with two edges to itself and different steps never ends, but has to be reduced, too.
	g, line, e := irtext.Parse(`func f
widths 8 8 8 8 8 8 8 1 8 1 8
stream o out 8
rets
block 0 ( 8 )
0 = const 3
jump 1 ( 0 )
block 1 ( 1 )
2 = const 1
3 = const 2
4 = add 1 2
5 = add 1 3
6 = const 11
7 = ult 4 5
9 = const 1
10 = mul 6 1
send o 10 9
branch 7 1 ( 4 ) 1 ( 5 )
`)
	if e != api.OK {
		t.Fatal(line, e)
	}
	check(t, g, 1)
}

func TestWrong(t *testing.T) {
	if g, w := Run(api.Func{}); !ir.Same(g, api.Func{}) || w.Rounds != nil {
		t.Error("not valid")
	}
	f := lowered.Source("kernel k(a: u8) -> u8 { return a * 8; }")
	for len(f.Widths) <= 4096 {
		f.Widths = append(f.Widths, 1)
	}
	if g, w := Run(f); !ir.Same(f, g) || w.Rounds != nil {
		t.Error("too large")
	}
}
