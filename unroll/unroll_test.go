package unroll

import (
	"slices"
	"testing"

	"jacquard/api"
	"jacquard/ir"
	"jacquard/irexec"
	"jacquard/sample"
	"jacquard/sample/lowered"
	"jacquard/sample/verify"
)

func same(t *testing.T, f, g api.Func, seed uint64) {
	t.Helper()
	if !ir.Valid(g) || !ir.Same(g, ir.Renumber(g)) {
		t.Fatal("not valid and canonical")
	}
	if wrong := verify.Runs(f, g, seed, false); wrong != "" {
		t.Fatal(wrong)
	}
}

// visits returns the lengths of the executions of a block.
func visits(path []int, b int) []int {
	var l []int
	for i, x := range path {
		if x == b && (i == 0 || path[i-1] != b) {
			l = append(l, 0)
		}
		if x == b {
			l[len(l)-1]++
		}
	}
	return l
}

func TestSamples(t *testing.T) {
	loops, peeled := 0, 0
	for seed := range uint64(500) {
		f := ir.Renumber(lowered.Func(seed, sample.Shape{Loops: true, Nested: seed%3 == 0, Streams: true, Arrays: true, Statements: 5}))
		for b := range f.Blocks {
			if _, ok := ir.SelfLoop(f, b); !ok {
				if _, e := Unroll(f, b, 2); e != api.ErrState {
					t.Fatal(e)
				}
				continue
			}
			for _, k := range []int{1, 2, 3, 5} {
				g, e := Unroll(f, b, k)
				if e != api.OK {
					t.Fatal(e)
				}
				loops++
				same(t, f, g, seed)
				for i := range uint64(2) {
					env := sample.FuncEnv(seed*2+i, f)
					x, _ := irexec.Run(f, env, 500)
					y, _ := irexec.Run(g, env, 500)
					if x.Status != api.Done {
						continue
					}
					want := visits(x.Path, b)
					for j := range want {
						want[j] = (want[j] + k - 1) / k
					}
					if !slices.Equal(want, visits(y.Path, b)) || len(g.Blocks) != len(f.Blocks) {
						t.Fatal("visits", seed, k)
					}
				}
			}
			n, ok := Trips(f, b, 64)
			if !ok {
				continue
			}
			peeled++
			g, e := Peel(f, b, n)
			if e != api.OK {
				t.Fatal(e)
			}
			same(t, f, g, seed)
			if _, e := Peel(f, b, n+1); e != api.ErrState {
				t.Fatal(e)
			}
			for i := range uint64(2) {
				x, _ := irexec.Run(f, sample.FuncEnv(seed*2+i, f), 500)
				for _, m := range visits(x.Path, b) {
					if x.Status == api.Done && m != n {
						t.Fatal("trips", m, n)
					}
				}
			}
			if _, ok := Trips(f, b, n-1); ok {
				t.Fatal("most")
			}
		}
	}
	if loops < 100 || peeled < 50 {
		t.Error(loops, peeled)
	}
}

func head(f api.Func) int {
	return slices.IndexFunc(f.Blocks, func(b api.Block) bool { return b.Line > 0 })
}

func TestTrips(t *testing.T) {
	for _, c := range []struct {
		s    string
		want int
	}{
		{"for i: u8 in 0 .. 4 { s = s + i; }", 4}, {"for i: u8 in 0 .. n { s = s + i; }", 0}, {"var c: u8 = 3; while c != 0 { c = c - 1; s = s + recv(q); }", 3}, {"while true { s = s + 1; }", 0}, {"var c: u1; while true { c = !c; }", 0}, {"var c: u8 = 3; while c != n { c = c + 1; }", 0}, {"for i: u16 in 0 .. 1000 { s = s + 1; }", 1000}, {"var c: u8 = n; while c != n { c = 3; }", 0},
	} {
		f := ir.Renumber(lowered.Source("kernel k(n: u8, q: in u8) -> u8 { var s: u8; " + c.s + " return s; }"))
		if n, ok := Trips(f, head(f), 1000); n != c.want || ok != (c.want > 0) {
			t.Error(c.s, n, ok)
		}
	}
	f := ir.Renumber(lowered.Source("kernel k(o: out u8) { #unroll 3\nfor i: u8 in 0 .. 4 { send o(i); } }"))
	b := head(f)
	g, moves, e := All(f)
	if e != api.OK || len(moves) != 1 || moves[0] != (api.Move{Kind: api.MoveUnroll, Block: b, Count: 3}) {
		t.Fatal(moves, e)
	}
	o, _ := irexec.Run(g, api.Env{Ins: [][]uint64{nil}}, 99)
	if n := visits(o.Path, b); !slices.Equal(n, []int{2}) || !slices.Equal(o.Outs[0], []uint64{0, 1, 2, 3}) || g.Blocks[b].Unroll != 0 || g.Blocks[b].Line != f.Blocks[b].Line {
		t.Error(o)
	}
}

func TestAll(t *testing.T) {
	f := lowered.Source("kernel k(n: u8, o: out u8) { #unroll 2 #pipeline 3\nfor i: u8 in 0 .. n { send o(i); }\n#unroll\nfor i: u8 in 0 .. 4 { send o(i); } }")
	g, moves, e := All(f)
	if e != api.OK || len(moves) != 2 || slices.ContainsFunc(g.Blocks, func(b api.Block) bool { return b.Unroll != 0 }) {
		t.Fatal(moves, e)
	}
	same(t, f, g, 1)
	h, e := Apply(f, moves)
	if e != api.OK || !ir.Same(g, h) || !slices.ContainsFunc(g.Blocks, func(b api.Block) bool { return b.Pipeline == 3 }) {
		t.Error(e)
	}
	for _, s := range []string{"#unroll\nfor i: u8 in 0 .. n { }", "#unroll\nfor i: u8 in 0 .. 65 { }", "#unroll 2\nfor i: u8 in 0 .. 9 { if i == n { send o(1); } }"} {
		if g, moves, e := All(lowered.Source("kernel k(n: u8, o: out u8) {" + s + "}")); e != api.ErrDirective || moves != nil || !ir.Same(g, api.Func{}) {
			t.Error(s, e)
		}
	}
}

func TestErrors(t *testing.T) {
	f := ir.Renumber(lowered.Source("kernel k(o: out u8) { for i: u8 in 0 .. 4 { send o(i); } }"))
	b := head(f)
	for _, k := range []int{0, -1, 65} {
		if _, e := Unroll(f, b, k); e != api.ErrArg {
			t.Error(e)
		}
		if _, e := Peel(f, b, k); e != api.ErrArg {
			t.Error(e)
		}
	}
	if _, e := Apply(f, []api.Move{{Kind: api.MoveMerge, Count: 1}}); e != api.ErrArg {
		t.Error(e)
	}
	if _, e := Unroll(api.Func{}, 0, 0); e != api.ErrForm {
		t.Error(e)
	}
	if _, _, e := All(api.Func{}); e != api.ErrForm {
		t.Error(e)
	}
	if n, ok := Trips(f, 99, 9); n != 0 || ok {
		t.Error(n)
	}
	for range 100 {
		ir.Emit(&f, b, api.Inst{Op: api.OpConst}, 8)
	}
	if g, e := Unroll(f, b, 64); e != api.ErrLimit || !ir.Same(g, api.Func{}) {
		t.Error(e)
	}
}
