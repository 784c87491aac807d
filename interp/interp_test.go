package interp

import (
	"reflect"
	"slices"
	"testing"

	"jacquard/api"
	"jacquard/parser"
	"jacquard/types"
)

func program(t *testing.T, s string) api.Node {
	t.Helper()
	n, line, e := parser.Parse(s)
	if e != api.OK {
		t.Fatal(s, line, e)
	}
	n, line, e = types.Check(n)
	if e != api.OK {
		t.Fatal(s, line, e)
	}
	return n
}

func run(t *testing.T, s string, env api.Env) api.Outcome {
	t.Helper()
	o, e := Run(program(t, s), env, 1000)
	if e != api.OK {
		t.Fatal(s, e)
	}
	return o
}

func TestValues(t *testing.T) {
	for _, c := range []struct {
		expr string
		x    uint64
		want uint64
	}{
		{"x + 10", 250, 4}, {"(x as s8 >> 1) as u8", 250, 253}, {"x >> 1", 250, 125}, {"x / 0", 5, 255}, {"x % 0", 5, 5}, {"-x", 1, 255}, {"~x", 1, 254}, {"(!(x == 1)) as u8", 1, 0}, {"x > 3 ? x : 9", 4, 4}, {"x >= 5 ? x : 9", 4, 9}, {"((x as s8) > 3) as u8", 255, 0}, {"(x as s8 as s16 as u16 >> 8) as u8", 128, 255}, {"(x as u16 >> 8) as u8", 128, 0}, {"x << 8", 3, 0}, {"(x < 4 && x > 2 || x == 7) as u8", 7, 1}, {"(x as u4) as u8", 0xAB, 0xB}, {"(x as s8 / 2) as u8", 0xF9, 0xFD},
	} {
		o := run(t, "kernel k(x: u8) -> u8 { return "+c.expr+"; }", api.Env{Scalars: []uint64{c.x}})
		if o.Status != api.Done || !slices.Equal(o.Rets, []uint64{c.want}) {
			t.Error(c, o)
		}
	}
}

func TestStreamsAndArrays(t *testing.T) {
	k := "kernel k(q: in u8, o: out u8, a: u8[2]) -> u8 { send o(7); a[1] = 5; a[9] = 6; return recv(q) - recv(q); }"
	env := api.Env{Arrays: [][]uint64{{1, 2}}, Ins: [][]uint64{{1, 3}, nil}}
	o := run(t, k, env)
	if !reflect.DeepEqual(o, api.Outcome{Status: api.Done, Rets: []uint64{254}, Arrays: [][]uint64{{1, 5}}, Outs: [][]uint64{nil, {7}}}) || env.Arrays[0][1] != 2 {
		t.Error(o)
	}
	env.Ins[0] = []uint64{1}
	if o = run(t, k, env); o.Status != api.Starved || len(o.Rets) != 0 || len(o.Outs[1]) != 1 || o.Arrays[0][1] != 5 {
		t.Error(o)
	}
	o = run(t, "fn f(a: u8) -> u8 { return a; } kernel k(q: in u8, o: out bool, a: u8[2]) -> u8 { send o(false && f(recv(q)) == 1); let z = true ? recv(q) : recv(q); a[recv(q) as u3] = recv(q); return a[z] + a[1]; }",
		api.Env{Arrays: [][]uint64{{1, 2}}, Ins: [][]uint64{{9, 100, 9, 1, 8}, nil}})
	if o.Status != api.Done || o.Rets[0] != 8 || o.Arrays[0][1] != 8 || o.Outs[1][0] != 0 {
		t.Error(o)
	}
}

func TestLoops(t *testing.T) {
	o := run(t, "kernel k(o: out u2) { for i: u2 in 0 .. 3 { send o(i); } for i: u2 in 3 .. 1 { send o(0); } var c: u3 = 2; while c != 0 { var d: u2; send o(d + 3); c = c - 1; } }", api.Env{Ins: [][]uint64{nil}})
	if !slices.Equal(o.Outs[0], []uint64{0, 1, 2, 3, 3}) || o.Rets != nil {
		t.Error(o)
	}
	o = run(t, "kernel k(o: out s3) { for i: s3 in -2 .. 2 { if i == 0 { } else if i < 0 { send o(i); } else { send o(3); } } }", api.Env{Ins: [][]uint64{nil}})
	if !slices.Equal(o.Outs[0], []uint64{6, 7, 3}) {
		t.Error(o)
	}
}

func TestFuel(t *testing.T) {
	// Statements: var 1, while 1, its conditions 3, assignments 2, call 1 and its return 1, for 1 with 2 comparisons.
	n := program(t, "fn f(a: u8) -> u8 { return a; } kernel k(o: out u8) { var c: u8 = 2; while c != 0 { c = c - 1; } c = f(c); for i: u8 in 0 .. 1 { } send o(1); }")
	for fuel := -1; fuel < 15; fuel++ {
		o, e := Run(n, Zero(n), fuel)
		if e != api.OK || (o.Status == api.Done) != (fuel >= 13) || o.Status != api.Done && o.Status != api.Fuel {
			t.Error(fuel, o, e)
		}
	}
	m := program(t, "kernel k(q: in u8, o: out u8) { while true { send o(recv(q) + 1); } }")
	full, _ := Run(m, api.Env{Ins: [][]uint64{{1, 2, 3}, nil}}, 1000)
	for cut := range 4 {
		o, _ := Run(m, api.Env{Ins: [][]uint64{[]uint64{1, 2, 3}[:cut], nil}}, 500)
		if o.Status != api.Starved || !slices.Equal(o.Outs[1], full.Outs[1][:cut]) {
			t.Error(cut, o)
		}
	}
}

func TestErrors(t *testing.T) {
	n := program(t, "kernel k(x: u4, a: u3[2], q: in u2, o: out u2) { }")
	good := Zero(n)
	if Fits(n, good) != api.OK || len(good.Arrays[0]) != 2 || len(good.Ins) != 2 {
		t.Error(good)
	}
	for i, env := range []api.Env{
		{}, {Scalars: []uint64{16}, Arrays: good.Arrays, Ins: good.Ins}, {Scalars: good.Scalars, Arrays: [][]uint64{{0}}, Ins: good.Ins}, {Scalars: good.Scalars, Arrays: [][]uint64{{0, 8}}, Ins: good.Ins},
		{Scalars: good.Scalars, Arrays: good.Arrays, Ins: [][]uint64{{4}, nil}}, {Scalars: good.Scalars, Arrays: good.Arrays, Ins: [][]uint64{{3}, {0}}}, {Scalars: good.Scalars, Arrays: good.Arrays, Ins: [][]uint64{{3}}},
	} {
		if o, e := Run(n, env, 9); e != api.ErrArg || !reflect.DeepEqual(o, api.Outcome{}) {
			t.Error(i, e)
		}
	}
	raw, _, _ := parser.Parse("kernel k() -> u8 { return 1; }")
	if _, e := Run(raw, api.Env{}, 9); e != api.ErrForm || Fits(api.Node{}, api.Env{}) != api.ErrForm || !reflect.DeepEqual(Zero(raw), api.Env{}) {
		t.Error(e)
	}
}

func TestApply(t *testing.T) {
	s4 := api.Type{Width: 4, Signed: true}
	for _, c := range []struct {
		op   int
		t    api.Type
		a, b uint64
		want uint64
	}{
		{api.SrcDiv, s4, 9, 2, 13}, {api.SrcRem, s4, 9, 2, 15}, {api.SrcShr, s4, 9, 1, 12}, {api.SrcLt, s4, 9, 2, 1}, {api.SrcGt, s4, 9, 2, 0}, {api.SrcGe, s4, 2, 2, 1}, {api.SrcLe, s4, 2, 9, 0}, {api.SrcLt, api.Type{Width: 4}, 9, 2, 0}, {api.SrcAdd, s4, 31, 1, 0},
		{api.SrcBoth, s4, 3, 2, 0}, {api.SrcEither, s4, 2, 3, 1}, {api.SrcNeg, s4, 1, 1, 0}, {0, s4, 1, 1, 0}, {api.SrcAdd, api.Type{}, 1, 1, 0}, {api.SrcEither, api.Type{Width: 65}, 1, 1, 0}, {99, s4, 1, 1, 0}, {api.SrcMul, s4, 5, 5, 9}, {api.SrcXor, s4, 5, 6, 3},
	} {
		if got := Apply(c.op, c.t, c.a, c.b); got != c.want {
			t.Error(c, got)
		}
	}
	if Convert(s4, api.Type{Width: 8}, 9) != 249 || Convert(api.Type{Width: 8}, s4, 0xFF) != 15 {
		t.Error("Convert")
	}
}
