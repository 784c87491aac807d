package ifconvert

import (
	"testing"

	"jacquard/api"
	"jacquard/ir"
	"jacquard/irexec"
	"jacquard/irtext"
	"jacquard/sample"
	"jacquard/sample/lowered"
	"jacquard/sample/verify"
)

func same(t *testing.T, f, g api.Func, seed uint64) {
	t.Helper()
	if !ir.Valid(g) || !ir.Same(g, ir.Renumber(g)) {
		t.Fatal("not valid and canonical")
	}
	if wrong := verify.Runs(f, g, seed, false); wrong != "" {
		s, _ := irtext.Print(f)
		d, _ := irtext.Print(g)
		t.Fatal(s, d, wrong)
	}
	for i := range uint64(3) {
		env := sample.FuncEnv(seed*3+i, f)
		want, _ := irexec.Run(f, env, 500)
		if got, _ := irexec.Run(g, env, 500); want.Status != api.Fuel && len(got.Path) > len(want.Path) {
			t.Fatal("more fuel")
		}
	}
}

func TestSamples(t *testing.T) {
	flattened := 0
	for seed := range uint64(400) {
		f := lowered.Func(seed, sample.Shape{Loops: true, Nested: seed%2 == 0, Streams: true, Arrays: true, Statements: 7})
		for _, most := range []int{-1, 0, 6, 1000} {
			g, moves, e := All(f, most)
			if e != api.OK {
				t.Fatal(e)
			}
			same(t, f, g, seed)
			h, e := Apply(f, moves)
			if e != api.OK || !ir.Same(g, h) {
				t.Fatal("Apply", e)
			}
			rest := Candidates(g)
			for _, m := range rest {
				if m.Kind == api.MoveMerge || graphOf(g).cost(m.Block) <= most {
					t.Fatal("a move is possible", m)
				}
			}
		}
		for _, m := range Candidates(f) {
			one := Merge
			other := Convert
			if m.Kind == api.MoveConvert {
				one, other = Convert, Merge
			}
			g, e := one(f, m.Block)
			if e != api.OK {
				t.Fatal(e)
			}
			same(t, f, g, seed)
			if _, e := other(f, m.Block); e != api.ErrState {
				t.Fatal(e)
			}
		}
		c := ir.Renumber(f)
		for b := range c.Blocks {
			inner := 0
			for x, in := range loop(c, b) {
				if in && c.Blocks[x].Line > 0 {
					inner++
				}
			}
			if c.Blocks[b].Line == 0 || inner != 1 {
				continue
			}
			g, moves, e := Flatten(f, b)
			if e != api.OK {
				t.Fatal("Flatten", e)
			}
			flattened++
			same(t, f, g, seed)
			h, e := Apply(f, moves)
			found := false
			for x := range h.Blocks {
				_, self := ir.SelfLoop(h, x)
				found = found || self && h.Blocks[x].Line == c.Blocks[b].Line
			}
			if e != api.OK || !ir.Same(g, h) || !found {
				t.Fatal("Apply", e)
			}
		}
	}
	if flattened < 100 {
		t.Error("too few loops", flattened)
	}
}

const diamond = `func f
widths 8 1 8 8 8 1 1 8 8
array m 8 4 whole
stream i in 8
rets 8
block 0 ( 0 1 )
branch 1 1 ( ) 2 ( 0 )
block 1 ( )
2 = const 7
5 = const 1
3 = recv i 5
store m 3 2 5
jump 3 ( 3 )
block 2 ( 4 )
6 = const 1
7 = recv i 6
store m 4 7 6
jump 3 ( 7 )
block 3 ( 8 )
return 8
`

func TestDiamond(t *testing.T) {
	f, line, e := irtext.Parse(diamond)
	if e != api.OK {
		t.Fatal(line, e)
	}
	g, e := Convert(f, 0)
	if e != api.OK || len(g.Blocks) != 2 || g.Blocks[0].Term.Kind != api.Jump {
		t.Fatal(e)
	}
	for c := range uint64(2) {
		for n := range 2 {
			env := api.Env{Scalars: []uint64{2, c}, Arrays: [][]uint64{{9, 9, 9, 9}}, Ins: [][]uint64{[]uint64{1, 3}[:n]}}
			want, _ := irexec.Run(f, env, 9)
			got, _ := irexec.Run(g, env, 9)
			if !verify.Outcomes(want, got) {
				t.Error(c, n, want, got)
			}
		}
	}
	if g, moves, e := All(f, 8); e != api.OK || len(moves) != 2 || len(g.Blocks) != 1 {
		t.Error(moves, e)
	}
	if g, moves, e := All(f, 6); e != api.OK || len(moves) != 0 || !ir.Same(g, ir.Renumber(f)) {
		t.Error(moves, e)
	}
}

func TestErrors(t *testing.T) {
	f, _, _ := irtext.Parse(diamond)
	for _, b := range []int{-1, 1, 3, 9} {
		if g, e := Convert(f, b); e != api.ErrState || !ir.Same(g, api.Func{}) {
			t.Error(b, e)
		}
		if _, e := Merge(f, b); e != api.ErrState {
			t.Error(b, e)
		}
		if g, moves, e := Flatten(f, b); e != api.ErrDirective || moves != nil || !ir.Same(g, api.Func{}) {
			t.Error(b, e)
		}
	}
	if _, e := Apply(f, []api.Move{{Kind: api.MoveUnroll}}); e != api.ErrArg {
		t.Error(e)
	}
	if _, e := Merge(api.Func{}, 0); e != api.ErrForm {
		t.Error(e)
	}
	if _, _, e := All(api.Func{}, 0); e != api.ErrForm || Candidates(api.Func{}) != nil {
		t.Error(e)
	}
	if _, _, e := Flatten(api.Func{}, 0); e != api.ErrForm {
		t.Error(e)
	}
	big := api.Func{Name: "f", Widths: []int{1, 8}, Streams: []api.Stream{{Name: "o", Width: 8, Out: true}}, Blocks: []api.Block{
		{Params: []int{0}, Term: api.Term{Kind: api.Jump, Cond: -1, To: []api.Edge{{Block: 1, Args: nil}}}}, {Term: api.Term{Kind: api.Return, Cond: -1}}}}
	for b := range 2 {
		for range 2100 {
			ir.Emit(&big, b, api.Inst{Op: api.OpConst}, 8)
		}
	}
	if g, e := Merge(big, 0); e != api.ErrLimit || !ir.Same(g, api.Func{}) {
		t.Error(e)
	}
	// Heads of loops are not plain, and edges that are not the only ones hinder a merge.
	f = lowered.Source("kernel k(x: u8) -> u8 { var y: u8 = x; while y < 9 { y = y + 1; } return y; }")
	if l := Candidates(f); len(l) != 0 {
		t.Error(l)
	}
}
