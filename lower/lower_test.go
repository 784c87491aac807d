package lower

import (
	"reflect"
	"strings"
	"testing"

	"jacquard/api"
	"jacquard/inline"
	"jacquard/interp"
	"jacquard/ir"
	"jacquard/irexec"
	"jacquard/parser"
	"jacquard/sample"
	"jacquard/types"
)

func program(t *testing.T, s string) api.Node {
	t.Helper()
	n, line, e := parser.Parse(s)
	if e == api.OK {
		n, line, e = types.Check(n)
	}
	if e != api.OK {
		t.Fatal(s, line, e)
	}
	return n
}

func lowered(t *testing.T, s string) (api.Node, api.Func) {
	t.Helper()
	n := program(t, s)
	f, e := Lower(n)
	if e != api.OK || !ir.Valid(f) {
		t.Fatal(s, e)
	}
	return n, f
}

func loops(n api.Node) [][3]int {
	var l [][3]int
	if n.Kind == api.NodeFor || n.Kind == api.NodeWhile {
		l = append(l, [3]int{n.Pipeline, n.Unroll, n.Line})
	}
	for _, k := range n.Kids {
		l = append(l, loops(k)...)
	}
	return l
}

// check compares a function with its program.
func check(t *testing.T, n api.Node, f api.Func, seed uint64) {
	t.Helper()
	var heads [][3]int
	for _, b := range f.Blocks {
		if b.Pipeline != 0 || b.Unroll != 0 || b.Line != 0 {
			heads = append(heads, [3]int{b.Pipeline, b.Unroll, b.Line})
		}
		for _, in := range b.Insts {
			if ir.Pure(in.Op) {
				continue
			}
			at, i, ok := ir.Def(f, in.Args[len(in.Args)-1])
			if !ok || i < 0 || f.Blocks[at].Insts[i].Op != api.OpConst || f.Blocks[at].Insts[i].Num != 1 {
				t.Fatal("predicate")
			}
		}
	}
	if !reflect.DeepEqual(heads, loops(n)) {
		t.Fatal("heads", heads, loops(n))
	}
	for i := range uint64(4) {
		env := sample.KernelEnv(seed*10+i, n.Kids[0])
		for _, fuel := range []int{4000, 20} {
			want, _ := interp.Run(n, env, fuel)
			if want.Status == api.Fuel {
				continue
			}
			got, e := irexec.Run(f, env, 3*fuel+10)
			got.Path = nil
			if e != api.OK || !reflect.DeepEqual(got, want) {
				s, _ := parser.Format(n)
				t.Fatal(s, env, want, got)
			}
		}
	}
}

func TestSamples(t *testing.T) {
	for seed := range uint64(800) {
		n := program(t, sample.Source(seed, sample.Shape{Calls: seed%3 == 0, Loops: true, Nested: true, Streams: true, Arrays: true, Division: true, Directives: true, Statements: 8}))
		n, e := inline.Inline(n)
		if e != api.OK {
			t.Fatal(e)
		}
		f, e := Lower(n)
		if e != api.OK || !ir.Valid(f) {
			t.Fatal(e)
		}
		check(t, n, f, seed)
	}
}

func TestInterface(t *testing.T) {
	_, f := lowered(t, "kernel k(a: u8[4] cyclic 2, x: s3, q: in u5, b: u1[3] complete, y: u64, o: out s9) -> u7 { return 1; }")
	if f.Name != "k" || len(f.Blocks[0].Params) != 2 || f.Widths[f.Blocks[0].Params[0]] != 3 || f.Widths[f.Blocks[0].Params[1]] != 64 || !reflect.DeepEqual(f.Rets, []int{7}) {
		t.Error(f)
	}
	if !reflect.DeepEqual(f.Arrays, []api.Array{{Name: "a", Width: 8, Len: 4, Kind: api.Cyclic, Factor: 2}, {Name: "b", Width: 1, Len: 3, Kind: api.Complete}}) || !reflect.DeepEqual(f.Streams, []api.Stream{{Name: "q", Width: 5}, {Name: "o", Width: 9, Out: true}}) {
		t.Error(f.Arrays, f.Streams)
	}
	_, f = lowered(t, "kernel k(x: u8) { }")
	if len(f.Rets) != 0 || len(f.Blocks) != 1 {
		t.Error(f)
	}
}

func TestShapes(t *testing.T) {
	_, f := lowered(t, "kernel k(n: u8, o: out u8) -> u8 { var s: u8;\n#pipeline 3 #unroll\nfor i: u8 in 0 .. n { s = s + i; send o(s); }\nwhile s > 3 { s = s - 1; } return s; }")
	heads := 0
	for b := range f.Blocks {
		if f.Blocks[b].Line > 0 {
			heads++
			if _, ok := ir.SelfLoop(f, b); !ok {
				t.Error("no self loop", b)
			}
		}
	}
	if heads != 2 || f.Blocks[1].Pipeline != 3 || f.Blocks[1].Unroll != 1 || f.Blocks[1].Line != 2 {
		t.Error(heads, f.Blocks)
	}
	_, f = lowered(t, "kernel k(x: u8, a: u8[2]) -> u8 { let y = x > 3 && x < 9 ? -x : ~x; a[y] = a[x] / y; return (y as u16 >> 2) as u8; }")
	if len(f.Blocks) != 1 {
		t.Error("straight code")
	}
}

func TestLimits(t *testing.T) {
	var b strings.Builder
	b.WriteString("kernel k() {")
	for i := range 245 {
		b.WriteString("var v" + strings.Repeat("a", i%16) + strings.Repeat("b", i/16) + ": u8;")
	}
	many := b.String()
	b.WriteString(strings.Repeat("if true { } else { }", 62))
	n, f := lowered(t, b.String()+"}")
	if parser.Count(n) > 500 {
		t.Error(parser.Count(n))
	}
	check(t, n, f, 1)
	if f, e := Lower(program(t, many+strings.Repeat("if true { } else { }", 600)+"}")); e != api.ErrLimit || !reflect.DeepEqual(f, api.Func{}) {
		t.Error(e)
	}
	if _, e := Lower(program(t, "kernel k(o: out u8) {"+strings.Repeat("send o(1 + 2);", 2000)+"}")); e != api.ErrLimit {
		t.Error(e)
	}
	for _, n := range []api.Node{{}, program(t, "fn f(a: u8) -> u8 { return a; } kernel k() { }"), program(t, "fn f(a: u8) -> u8 { return a; } kernel k() { let x = f(1); }")} {
		if f, e := Lower(n); e != api.ErrForm || !reflect.DeepEqual(f, api.Func{}) {
			t.Error(e)
		}
	}
}

func TestOperator(t *testing.T) {
	for op := -1; op < 30; op++ {
		for _, x := range []api.Type{{Width: 4}, {Width: 4, Signed: true}} {
			code, exchanged := Operator(op, x)
			if (code == 0) != (op < api.SrcAdd || op > api.SrcEither) {
				t.Error(op, code)
			}
			if code == 0 {
				continue
			}
			for a := range uint64(16) {
				env := api.Env{Scalars: []uint64{a, 11}}
				if exchanged {
					env = api.Env{Scalars: []uint64{11, a}}
				}
				w := 4
				if op == api.SrcBoth || op == api.SrcEither {
					w, env.Scalars[0] = 1, a&1
					env.Scalars[1] = 1
				}
				ret := w
				if op >= api.SrcEq && op <= api.SrcGe {
					ret = 1
				}
				f := api.Func{Name: "f", Widths: []int{w, w, ret}, Rets: []int{ret}, Blocks: []api.Block{{Params: []int{0, 1}, Insts: []api.Inst{{Op: code, Dest: 2, Args: []int{0, 1}}}, Term: api.Term{Kind: api.Return, Cond: -1, Rets: []int{2}}}}}
				o, e := irexec.Run(f, env, 1)
				if e != api.OK || o.Rets[0] != interp.Apply(op, x, a, 11) {
					t.Fatal(op, x, a, o, e)
				}
			}
		}
	}
}
