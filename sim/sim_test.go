package sim

import (
	"reflect"
	"slices"
	"testing"

	"jacquard/api"
	"jacquard/netlist"
)

// counter counts from 3 to 5; with a stream it sends each number, and freezes while that is not open.
func counter(stream bool) api.Netlist {
	b := &netlist.Builder{}
	r := b.Wire(8)
	b.Cell(api.Cell{Kind: api.CellReg, Out: r, Args: []int{b.Const(1, 1), b.Op(api.OpAdd, 8, r, b.Const(8, 1))}, Num: 3})
	b.N.Done = b.Op(api.OpEq, 1, r, b.Const(8, 5))
	b.N.Freeze = b.Const(1, 0)
	b.N.Rets = []int{r}
	if stream {
		b.N.Streams = []api.Stream{{Name: "o", Width: 8, Out: true}}
		open := b.Wire(1)
		b.Cell(api.Cell{Kind: api.CellOpen, Out: open})
		b.N.Freeze = b.Not(open)
		b.N.Active, b.N.Data = []int{b.Const(1, 1)}, []int{r}
	}
	return b.N
}

func TestCounter(t *testing.T) {
	r, e := Run(counter(false), api.Env{}, api.Pattern{}, 100)
	if e != api.OK || r.Outcome.Status != api.Done || r.Cycles != 2 || r.Frozen != 0 || !slices.Equal(r.Outcome.Rets, []uint64{5}) {
		t.Error(r, e)
	}
	env := api.Env{Ins: [][]uint64{nil}}
	r, e = Run(counter(true), env, api.Pattern{Open: [][]bool{{false, true}}}, 100)
	if e != api.OK || r.Cycles != 4 || r.Frozen != 2 || !reflect.DeepEqual(r.Transfers, []api.Transfer{{Cycle: 1, Word: 3}, {Cycle: 3, Word: 4}}) || !slices.Equal(r.Outcome.Outs[0], []uint64{3, 4}) {
		t.Error(r, e)
	}
	for cycles, status := range map[int]int{-1: api.Fuel, 0: api.Fuel, 3: api.Fuel, 4: api.Done} {
		if r, _ := Run(counter(true), env, api.Pattern{Open: [][]bool{{false, true}}}, cycles); r.Outcome.Status != status || status != api.Done && r.Outcome.Rets != nil || r.Cycles != max(0, min(cycles, 4)) {
			t.Error(cycles, r)
		}
	}
	if _, e := Run(counter(true), api.Env{}, api.Pattern{}, 9); e != api.ErrArg {
		t.Error(e)
	}
	if _, e := Run(api.Netlist{}, api.Env{}, api.Pattern{}, 9); e != api.ErrForm {
		t.Error(e)
	}
}

// machine has a memory that is read and written, a multiplier of latency 2, and an input stream.
func machine(t *testing.T) Machine {
	t.Helper()
	b := &netlist.Builder{N: api.Netlist{Ins: []int{2}, Mems: []api.Array{{Name: "m", Width: 8, Len: 3}}, Streams: []api.Stream{{Name: "i", Width: 8}}}}
	one := b.Const(1, 1)
	at, data, mul, read := b.Wire(2), b.Wire(8), b.Wire(8), b.Wire(8)
	b.Cell(api.Cell{Kind: api.CellInput, Out: at})
	b.Cell(api.Cell{Kind: api.CellData, Out: data})
	b.Cell(api.Cell{Kind: api.CellUnit, Op: api.OpMul, Out: mul, Args: []int{data, data}, Num: 2})
	b.Cell(api.Cell{Kind: api.CellRead, Out: read, Args: []int{one, at}})
	b.Cell(api.Cell{Kind: api.CellWrite, Out: -1, Args: []int{one, at, data}})
	b.Cell(api.Cell{Kind: api.CellWrite, Out: -1, Args: []int{b.Op(api.OpEq, 1, data, b.Const(8, 7)), at, b.Const(8, 99)}})
	b.N.Active, b.N.Data = []int{one}, []int{-1}
	b.N.Freeze, b.N.Done = b.Const(1, 0), b.Const(1, 0)
	b.N.Rets = []int{mul, read, b.Mux(8, one, data, one, read)}
	m, e := New(b.N)
	if e != api.OK {
		t.Fatal(e)
	}
	return m
}

func TestStep(t *testing.T) {
	m := machine(t)
	env := api.Env{Scalars: []uint64{1}, Arrays: [][]uint64{{5, 6, 7}}, Ins: [][]uint64{{3, 7, 9}}}
	s, e := m.Start(env)
	if e != api.OK {
		t.Fatal(e)
	}
	rets := func() []uint64 {
		w := m.Wires(s, nil)
		return []uint64{w[m.N.Rets[0]], w[m.N.Rets[1]], w[m.N.Rets[2]]}
	}
	for i, want := range [][]uint64{{0, 0, 3}, {0, 6, 7 | 6}, {9, 3, 9 | 3}, {49, 99, 99}, {81, 9, 9}} {
		if got := rets(); !slices.Equal(got, want) {
			t.Error(i, got)
		}
		copied := s.Clone()
		transfers, frozen := m.Step(&s, nil)
		if frozen || len(transfers) != max(0, min(1, 3-i)) {
			t.Error(i, transfers)
		}
		m.Step(&copied, []bool{true, false})
		if !reflect.DeepEqual(copied, s) {
			t.Error("the clone goes another way")
		}
	}
	if env.Arrays[0][1] != 6 || len(env.Ins[0]) != 3 || s.Mems[0][1] != 0 {
		t.Error(env, s.Mems)
	}
	s, _ = m.Start(env)
	if transfers, _ := m.Step(&s, []bool{false}); len(transfers) != 0 || len(s.Ins[0]) != 3 || s.Mems[0][1] != 0 {
		t.Error("a closed stream")
	}
	r, _ := Run(m.N, env, api.Pattern{}, 100)
	if r.Outcome.Status != api.Starved || r.Cycles != 3 || len(r.Transfers) != 3 || r.Outcome.Rets != nil {
		t.Error(r)
	}
	for i, bad := range []api.Env{{}, {Scalars: []uint64{4}, Arrays: env.Arrays, Ins: env.Ins}, {Scalars: env.Scalars, Arrays: [][]uint64{{1, 2}}, Ins: env.Ins}, {Scalars: env.Scalars, Arrays: [][]uint64{{1, 2, 256}}, Ins: env.Ins}, {Scalars: env.Scalars, Arrays: env.Arrays, Ins: [][]uint64{{256}}}} {
		if s, e := m.Start(bad); e != api.ErrArg || s.Words != nil {
			t.Error(i, e)
		}
	}
}

func TestForeignStates(t *testing.T) {
	var m Machine
	m.N.Streams = []api.Stream{{Width: 8}}
	m.Order = []int{3}
	var s State
	if w := m.Wires(s, nil); w != nil {
		t.Error(w)
	}
	if l, frozen := m.Step(&s, nil); l != nil || frozen {
		t.Error(l, frozen)
	}
	if _, e := (Machine{N: api.Netlist{Cells: []api.Cell{{Kind: api.CellUnit, Num: 1 << 63}}}}).Start(api.Env{}); e != api.ErrArg {
		t.Error(e)
	}
}
