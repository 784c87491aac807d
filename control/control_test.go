package control

import (
	"math/rand"
	"reflect"
	"slices"
	"testing"

	"jacquard/api"
	"jacquard/binding"
	"jacquard/cycles"
	"jacquard/datapath"
	"jacquard/netlist"
	"jacquard/sample"
	"jacquard/sample/scheduled"
	"jacquard/sim"
)

// example is the function of the chapter's example.
func example() (api.Func, []api.Sched) {
	f := api.Func{Widths: []int{1}, Blocks: []api.Block{
		{Params: []int{0}, Term: api.Term{Kind: api.Jump, Cond: -1, To: []api.Edge{{Block: 1}}}},
		{Term: api.Term{Kind: api.Branch, To: []api.Edge{{Block: 1}, {Block: 2}}}},
		{Term: api.Term{Kind: api.Return, Cond: -1}}}}
	return f, []api.Sched{{Depth: 2}, {II: 2, Depth: 5}, {Depth: 1}}
}

func bits(n int, list ...int) []bool {
	l := make([]bool, n)
	for _, q := range list {
		l[q] = true
	}
	return l
}

func TestExample(t *testing.T) {
	f, s := example()
	want := []Reach{{Block: -1}, {Block: 0}, {Block: 0, Cycle: 1},
		{1, 0, bits(4, 0), bits(3)}, {1, 1, bits(4, 0), bits(3)}, {1, 0, bits(4, 0, 1), bits(3)}, {1, 1, bits(4, 0, 1), bits(3)}, {1, 0, bits(4, 1, 2), bits(3, 1)}, {1, 1, bits(4, 1, 2), bits(3, 1)}, {1, 0, bits(4, 2, 3), bits(3, 2)},
		{Block: 2}, {Block: -2}, {Block: -2}}
	r := First()
	for i, w := range want {
		if !reflect.DeepEqual(r, w) {
			t.Fatal(i, r, w)
		}
		// The condition counts in phase 1: it is 1 once.
		r = Next(f, s, r, i == 4)
	}
	for _, r := range []Reach{{Block: 3}, {Block: -3}, {Block: 0, Cycle: 2}, {Block: 0, Cycle: -1}, {Block: 1, Cycle: 2, Valid: bits(4), Last: bits(3)}, {Block: 1}} {
		if got := Next(f, s, r, true); !reflect.DeepEqual(got, r.clone()) {
			t.Error(r, got)
		}
	}
	l := api.Layout{Start: 7, Done: 3, States: [][]int{{1, 2}, nil, {4}}, Phases: [][]int{nil, {8, 9}, nil}, Valids: [][]int{nil, {13, 12, 11, 10}, nil}, Lasts: [][]int{nil, {-1, 5, 6}, nil}}
	if !slices.Equal(Bits(l, First()), []int{7}) || !slices.Equal(Bits(l, Reach{Block: -2}), []int{3}) || !slices.Equal(Bits(l, want[2]), []int{2}) || !slices.Equal(Bits(l, want[9]), []int{6, 8, 10, 11}) || Bits(l, Reach{Block: 9}) != nil || Bits(l, Reach{Block: -5}) != nil {
		t.Error("Bits")
	}
}

// machine returns a controller whose conditions are scalar inputs.
func machine(f api.Func, scheds []api.Sched, n api.Netlist, l api.Layout) (sim.Machine, []int, api.Errno) {
	b := netlist.Edit(Build(n, l, f, scheds))
	b.N.Ins = nil
	var conds []int
	drive := func(w int) {
		b.Cell(api.Cell{Kind: api.CellInput, Out: w, Num: uint64(len(b.N.Ins))})
		b.N.Ins = append(b.N.Ins, b.N.Widths[w])
	}
	for _, w := range l.Conds {
		conds = append(conds, len(b.N.Ins))
		if w >= 0 {
			drive(w)
		}
	}
	for _, w := range slices.Concat(l.Regs, l.Rets) {
		drive(w)
	}
	b.N.Mems, b.N.Streams = nil, nil
	b.N.Freeze = b.Const(1, 0)
	m, e := sim.New(b.N)
	return m, conds, e
}

func TestSamples(t *testing.T) {
	r := rand.New(rand.NewSource(1))
	loops := 0
	for seed := range uint64(400) {
		k, ok := scheduled.Make(seed, sample.Shape{Loops: true, Nested: seed%2 == 0, Streams: true, Arrays: true, Division: seed%3 == 0, Directives: true, Statements: 5}, 600+int(seed%4)*200, nil)
		if !ok {
			continue
		}
		f, scheds := k.Func, k.Scheds
		b, _ := binding.Bind(f, scheds)
		n, l, _ := datapath.Wires(f, scheds, b)
		m, conds, e := machine(f, scheds, n, l)
		if e != api.OK {
			t.Fatal(seed, e)
		}
		state, e := m.Start(api.Env{Scalars: make([]uint64, len(m.N.Ins))})
		if e != api.OK {
			t.Fatal(e)
		}
		reach := First()
		path := []int{}
		for step := range 300 {
			for c, w := range l.Conds {
				if w >= 0 {
					state.Scalars[conds[c]] = uint64(r.Intn(2))
				}
			}
			words := m.Wires(state, nil)
			ones := Bits(l, reach)
			cond := false
			if reach.Block >= 0 && l.Conds[reach.Block] >= 0 {
				cond = words[l.Conds[reach.Block]] == 1
			}
			next := Next(f, scheds, reach, cond)
			for _, list := range [][][]int{{{l.Start, l.Done}}, l.States, l.Phases, l.Valids, l.Lasts} {
				for _, w := range slices.Concat(list...) {
					if w >= 0 && (words[w] == 1) != slices.Contains(ones, w) {
						t.Fatal("wire", seed, step, w, reach)
					}
				}
			}
			taken := 0
			for a, list := range l.Takes {
				for e, w := range list {
					if w >= 0 && words[w] == 1 {
						taken++
						if a != reach.Block || f.Blocks[a].Term.To[e].Block != next.Block {
							t.Fatal("edge")
						}
					}
				}
			}
			left := reach.Block >= 0 && next.Block >= 0 && (next.Block != reach.Block || cycles.Self(f, scheds, reach.Block) < 0 && next.Cycle == 0)
			if (taken == 1) != left || taken > 1 {
				t.Fatal("taken", seed, taken, reach, next)
			}
			if cycles.Self(f, scheds, max(reach.Block, 0)) >= 0 && reach.Block >= 0 {
				loops++
			}
			path = append(path, next.Block)
			reach = next
			m.Step(&state, nil)
		}
	}
	if loops < 100 {
		t.Error(loops)
	}
}
