package counterexample

import (
	"reflect"
	"slices"
	"testing"

	"jacquard/api"
	"jacquard/binding"
	"jacquard/circuit"
	"jacquard/irtext"
	"jacquard/netlist"
	"jacquard/sample"
	"jacquard/sample/scheduled"
)

func TestSamples(t *testing.T) {
	none := 0
	for seed := range uint64(80) {
		k, ok := scheduled.Make(seed, sample.Shape{Loops: true, Streams: seed%2 == 0, Arrays: true, Directives: true, Statements: 4}, 700, nil)
		if !ok {
			continue
		}
		b, _ := binding.Bind(k.Func, k.Scheds)
		n, _, _ := circuit.Build(k.Func, k.Scheds, b)
		for _, cycles := range []int{0, 5, 20000} {
			x := Trial{Env: sample.FuncEnv(seed, k.Func), Pattern: api.Pattern{Open: [][]bool{{false, true, true}, {true, false}}}, Fuel: 500, Cycles: cycles}
			if d, e := Compare(k.Func, k.Scheds, n, x); e != api.ErrNone && e != api.ErrFuel {
				t.Fatal(seed, d, e)
			} else if e == api.ErrNone {
				none++
			}
		}
	}
	if none < 60 {
		t.Error(none)
	}
}

func pair(t *testing.T, text string, op int) (api.Func, []api.Sched, api.Netlist) {
	t.Helper()
	f, line, e := irtext.Parse(text)
	if e != api.OK {
		t.Fatal(line, e)
	}
	g := f
	if op > 0 {
		g, _, _ = irtext.Parse(text)
		for i := range g.Blocks[0].Insts {
			if g.Blocks[0].Insts[i].Op == api.OpSub {
				g.Blocks[0].Insts[i].Op = op
			}
		}
	}
	n, _, ce := circuit.Simple(g)
	if ce != api.OK {
		t.Fatal(ce)
	}
	return f, circuit.Straight(f), n
}

const simple = "func f\nwidths 8 8 8\nrets 8\nblock 0 ( 0 1 )\n2 = sub 0 1\nreturn 2\n"

func TestExample(t *testing.T) {
	f, s, n := pair(t, simple, api.OpAdd)
	x := Trial{Env: api.Env{Scalars: []uint64{6, 5}}, Fuel: 9, Cycles: 99}
	if d, e := Compare(f, s, n, x); e != api.OK || d != (Difference{Kind: api.DiffReturn, Want: 1, Got: 11}) {
		t.Error(d, e)
	}
	small, e := Shrink(f, s, n, x)
	if e != api.OK || !slices.Equal(small.Env.Scalars, []uint64{0, 1}) || x.Env.Scalars[0] != 6 {
		t.Error(small, e)
	}
	for _, y := range Smaller(small) {
		if _, e := Compare(f, s, n, y); e != api.ErrNone {
			t.Error(y, e)
		}
	}
	y, d, e := Find(f, s, n, []Trial{{}, {Env: api.Env{Scalars: []uint64{6, 0}}, Fuel: 9, Cycles: 99}, x})
	if e != api.OK || !reflect.DeepEqual(y.Env, x.Env) || d.Kind != api.DiffReturn {
		t.Error(y, d, e)
	}
	if y, d, e := Find(f, s, n, nil); e != api.ErrNone || d != (Difference{}) || y.Env.Scalars != nil {
		t.Error(e)
	}
	_, _, good := pair(t, simple, 0)
	if _, e := Shrink(f, s, good, x); e != api.ErrNone {
		t.Error(e)
	}
	// Another number of cycles.
	s[0].Depth = 2
	if d, e := Compare(f, s, good, x); e != api.OK || d != (Difference{Kind: api.DiffCount, Index: 1, Want: 3, Got: 2}) {
		t.Error(d, e)
	}
	if d, e := Compare(f, nil, good, x); e != api.OK || d != (Difference{Kind: api.DiffCount, Index: 1, Got: 2}) {
		t.Error(d, e)
	}
}

const streams = "func f\nwidths 8 8 1 8\narray a 8 2 whole\nstream i in 8\nstream o out 8\nrets\nblock 0 ( 0 )\n2 = const 1\n1 = recv i 2\n3 = sub 1 0\nsend o 3 2\nstore a 0 1 2\nreturn\n"

func TestKinds(t *testing.T) {
	f, s, n := pair(t, streams, api.OpAdd)
	x := Trial{Env: api.Env{Scalars: []uint64{1}, Arrays: [][]uint64{{7, 8}}, Ins: [][]uint64{{9}, nil}}, Pattern: api.Pattern{Open: [][]bool{{false, true}}}, Fuel: 9, Cycles: 99}
	d, e := Compare(f, s, n, x)
	if e != api.OK || d.Kind != api.DiffSend || d.Stream != 1 || d.Index != 0 || d.Want != 8 || d.Got != 10 || d.Cycle == 0 {
		t.Error(d, e)
	}
	// Without the store: an array differs. Without the transfer: the stream.
	_, _, n = pair(t, streams, 0)
	broken := func(change func(n *api.Netlist)) api.Netlist {
		m := netlist.Edit(n).N
		change(&m)
		return m
	}
	zero := func(m *api.Netlist) int {
		b := &netlist.Builder{N: *m}
		w := b.Const(1, 0)
		*m = b.N
		return w
	}
	noStore := broken(func(m *api.Netlist) {
		w := zero(m)
		for i := range m.Cells {
			if m.Cells[i].Kind == api.CellWrite {
				m.Cells[i].Args[0] = w
			}
		}
	})
	if d, e := Compare(f, s, noStore, x); e != api.OK || d != (Difference{Kind: api.DiffArray, Want: 9, Got: 8}) {
		t.Error(d, e)
	}
	noSend := broken(func(m *api.Netlist) { m.Active[1] = zero(m) })
	if d, e := Compare(f, s, noSend, x); e != api.OK || d != (Difference{Kind: api.DiffCount, Stream: 1, Want: 1}) {
		t.Error(d, e)
	}
	noReceive := broken(func(m *api.Netlist) { m.Active[0] = zero(m); m.Freeze = m.Active[0] })
	x.Env.Ins[0] = nil
	if d, e := Compare(f, s, noReceive, x); e != api.OK || d.Kind != api.DiffSend || d.Want != 0 {
		t.Error(d, e)
	}
	if _, e := Compare(f, s, n, x); e != api.ErrNone {
		t.Error(e)
	}
	silent := broken(func(m *api.Netlist) { m.Active[0] = zero(m); m.Active[1], m.Freeze = m.Active[0], m.Active[0] })
	if d, e := Compare(f, s, silent, x); e != api.OK || d != (Difference{Kind: api.DiffStatus, Status: api.Starved, Has: api.Done}) {
		t.Error(d, e)
	}
}

func TestSmaller(t *testing.T) {
	x := Trial{Env: api.Env{Scalars: []uint64{0, 1, 5}, Arrays: [][]uint64{{2}}, Ins: [][]uint64{nil, {3, 0}}}, Pattern: api.Pattern{Open: [][]bool{{}, {true, false}}}, Fuel: 3, Cycles: 4}
	l := Smaller(x)
	want := []func(x *Trial){
		func(x *Trial) { x.Env.Ins[1] = []uint64{3} }, func(x *Trial) { x.Env.Scalars[1] = 0 }, func(x *Trial) { x.Env.Scalars[2] = 0 }, func(x *Trial) { x.Env.Scalars[2] = 2 }, func(x *Trial) { x.Env.Arrays[0][0] = 0 }, func(x *Trial) { x.Env.Arrays[0][0] = 1 }, func(x *Trial) { x.Env.Ins[1][0] = 0 }, func(x *Trial) { x.Env.Ins[1][0] = 1 }, func(x *Trial) { x.Pattern.Open[1] = []bool{true} }, func(x *Trial) { x.Pattern.Open[1][1] = true },
	}
	if len(l) != len(want) {
		t.Fatal(len(l))
	}
	for i, change := range want {
		y := x.clone()
		change(&y)
		if !reflect.DeepEqual(l[i], y) {
			t.Error(i, l[i], y)
		}
	}
	l[0].Env.Scalars[2] = 77
	if x.Env.Scalars[2] != 5 || Smaller(Trial{}) != nil {
		t.Error("shared memory")
	}
}

func TestErrors(t *testing.T) {
	f, s, n := pair(t, simple, 0)
	g, _, m := pair(t, streams, 0)
	env := api.Env{Scalars: []uint64{6, 5}}
	for i, c := range []struct {
		f api.Func
		n api.Netlist
		t Trial
		e api.Errno
	}{
		{api.Func{}, n, Trial{}, api.ErrForm}, {f, api.Netlist{}, Trial{}, api.ErrForm}, {f, m, Trial{Env: env}, api.ErrForm}, {g, n, Trial{}, api.ErrForm}, {f, n, Trial{}, api.ErrArg}, {f, n, Trial{Env: env, Fuel: -1}, api.ErrArg}, {f, n, Trial{Env: env, Fuel: api.MaxFuel + 1}, api.ErrArg}, {f, n, Trial{Env: env, Fuel: 1, Cycles: -1}, api.ErrArg}, {f, n, Trial{Env: env}, api.ErrFuel},
	} {
		if d, e := Compare(c.f, s, c.n, c.t); e != c.e || d != (Difference{}) {
			t.Error(i, e)
		}
		if x, e := Shrink(c.f, s, c.n, c.t); e != c.e || x.Fuel != 0 {
			t.Error(i, e)
		}
	}
}
