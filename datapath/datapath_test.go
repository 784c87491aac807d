package datapath

import (
	"slices"
	"testing"

	"jacquard/api"
	"jacquard/binding"
	"jacquard/cycles"
	"jacquard/irtext"
	"jacquard/netlist"
	"jacquard/sample"
	"jacquard/sample/scheduled"
	"jacquard/sim"
)

// controls returns the wires of a layout that the controller drives.
func controls(l api.Layout) []int {
	list := []int{l.Start, l.Done}
	for _, x := range [][][]int{l.States, l.Phases, l.Valids, l.Lasts, l.Takes} {
		list = append(list, slices.Concat(x...)...)
	}
	list = slices.DeleteFunc(list, func(w int) bool { return w < 0 })
	slices.Sort(list)
	return list
}

// complete drives the wires of the controller from scalar inputs behind those of the function.
func complete(n api.Netlist, l api.Layout) api.Netlist {
	b := netlist.Edit(n)
	for _, w := range controls(l) {
		b.Cell(api.Cell{Kind: api.CellInput, Out: w, Num: uint64(len(b.N.Ins))})
		b.N.Ins = append(b.N.Ins, 1)
	}
	b.N.Freeze = b.Const(1, 0)
	return b.N
}

func TestSamples(t *testing.T) {
	for seed := range uint64(120) {
		k, ok := scheduled.Make(seed, sample.Shape{Loops: true, Streams: true, Arrays: true, Division: seed%3 == 0, Directives: true, Statements: 5}, 800, []api.Limit{{Class: api.ClassMul, Count: 1}})
		if !ok {
			continue
		}
		f := k.Func
		b, _ := binding.Bind(f, k.Scheds)
		n, l, e := Wires(f, k.Scheds, b)
		if e != api.OK || n.Name != f.Name || len(n.Cells) != 0 || n.Freeze != -1 || n.Done != l.Done || !slices.Equal(n.Rets, l.Rets) || len(n.Ins) != len(f.Blocks[0].Params) {
			t.Fatal(e)
		}
		all := slices.Concat(controls(l), l.Regs, l.Rets)
		for c, s := range k.Scheds {
			if cond := l.Conds[c]; cond >= 0 {
				all = append(all, cond)
			}
			pipelined := cycles.Self(f, k.Scheds, c) >= 0
			if !pipelined && (len(l.States[c]) != s.Depth || len(l.Phases[c])+len(l.Valids[c])+len(l.Lasts[c]) > 0) {
				t.Fatal("states")
			}
			if pipelined && (len(l.States[c]) > 0 || len(l.Phases[c]) != s.II || len(l.Valids[c]) != cycles.Stages(s)+1 || len(l.Lasts[c]) != cycles.Stages(s) || l.Lasts[c][0] != -1) {
				t.Fatal("phases")
			}
			if len(l.Takes[c]) != len(f.Blocks[c].Term.To) || (l.Conds[c] >= 0) != (f.Blocks[c].Term.Kind == api.Branch) {
				t.Fatal("takes")
			}
		}
		slices.Sort(all)
		for i, w := range all {
			if w != i {
				t.Fatal("wires are not different", all)
			}
		}
		if len(all) != len(n.Widths) {
			t.Fatal("more wires")
		}
		m := Build(n, l, f, k.Scheds, b)
		if e := netlist.Check(complete(m, l)); e != api.OK {
			t.Fatal("a wire is driven twice or not at all", e)
		}
		operators := 0
		for _, c := range m.Cells {
			if c.Kind == api.CellUnit {
				operators++
			}
		}
		if operators != len(binding.Parts(f, k.Scheds)) {
			t.Fatal("units")
		}
	}
}

func TestExample(t *testing.T) {
	f, line, e := irtext.Parse("func f\nwidths 8 8 8\nrets 8\nblock 0 ( 0 1 )\n2 = add 0 1\nreturn 2\n")
	if e != api.OK {
		t.Fatal(line, e)
	}
	s := []api.Sched{{Depth: 1, Start: []int{0}, Params: []int{0, 0}, Unit: []int{-1}}}
	b, _ := binding.Bind(f, s)
	n, l, _ := Wires(f, s, b)
	n = complete(Build(n, l, f, s, b), l)
	kinds := map[int]int{}
	for _, c := range n.Cells {
		kinds[c.Kind]++
	}
	if kinds[api.CellReg] != 3 || kinds[api.CellOp] != 1 {
		t.Error(kinds)
	}
	m, err := sim.New(n)
	if err != api.OK {
		t.Fatal(err)
	}
	// Inputs: x, y, then Start, Done, the state.
	at := func(w int) int { return 2 + slices.Index(controls(l), w) }
	scalars := make([]uint64, len(n.Ins))
	scalars[0], scalars[1] = 200, 100
	state, _ := m.Start(api.Env{Scalars: scalars})
	step := func(wires ...int) []uint64 {
		for i := 2; i < len(scalars); i++ {
			state.Scalars[i] = 0
		}
		for _, w := range wires {
			state.Scalars[at(w)] = 1
		}
		m.Step(&state, nil)
		words := m.Wires(state, nil)
		return []uint64{words[l.Regs[0]], words[l.Regs[1]], words[l.Rets[0]]}
	}
	if x := step(); !slices.Equal(x, []uint64{0, 0, 0}) {
		t.Error(x)
	}
	if x := step(l.Start); !slices.Equal(x, []uint64{200, 100, 0}) {
		t.Error(x)
	}
	if x := step(l.Done); !slices.Equal(x, []uint64{200, 100, 0}) {
		t.Error(x)
	}
	if x := step(l.States[0][0]); !slices.Equal(x, []uint64{200, 100, 44}) {
		t.Error(x)
	}
}

// TestShared looks at a unit, a memory and a stream that two instructions use, with any words of the controller.
func TestShared(t *testing.T) {
	f, line, e := irtext.Parse("func f\nwidths 8 8 1 8 8 8 8\narray a 8 4 whole\nstream o out 8\nrets\nblock 0 ( 0 1 2 )\n3 = mul 0 1\n4 = mul 1 1\n5 = load a 0 2\n6 = load a 1 2\nstore a 0 1 2\nsend o 0 2\nsend o 1 2\nreturn\n")
	if e != api.OK {
		t.Fatal(line, e)
	}
	s := []api.Sched{{Depth: 4, Start: []int{0, 1, 0, 1, 2, 0, 1}, Params: []int{0, 0, 0}, Unit: []int{0, 0, 0, 0, 0, 0, 0}}}
	b, err := binding.Bind(f, s)
	if err != api.OK {
		t.Fatal(err)
	}
	n, l, _ := Wires(f, s, b)
	n = complete(Build(n, l, f, s, b), l)
	m, err := sim.New(n)
	if err != api.OK {
		t.Fatal(err)
	}
	find := func(kind int) api.Cell {
		return n.Cells[slices.IndexFunc(n.Cells, func(c api.Cell) bool { return c.Kind == kind })]
	}
	unit, read, write := find(api.CellUnit), find(api.CellRead), find(api.CellWrite)
	state, _ := m.Start(api.Env{Scalars: make([]uint64, len(n.Ins)), Arrays: [][]uint64{{1, 2, 3, 4}}, Ins: [][]uint64{nil}})
	for i, c := range n.Cells {
		if c.Kind == api.CellReg {
			// Registers 0 to 2 hold 6, 3 and the predicate.
			switch c.Out {
			case l.Regs[b.Places[0][0].Chain[0]]:
				state.Words[i] = 6
			case l.Regs[b.Places[0][1].Chain[0]]:
				state.Words[i] = 3
			case l.Regs[b.Places[0][2].Chain[0]]:
				state.Words[i] = 1
			}
		}
	}
	for x := range 8 {
		for i := range 3 {
			state.Scalars[3+slices.Index(controls(l), l.States[0][i])] = uint64(x >> i & 1)
		}
		w := m.Wires(state, nil)
		pick := func(bit int, word uint64) uint64 { return uint64(x>>bit&1) * word }
		either := uint64((x | x>>1) & 1)
		if w[unit.Args[0]] != pick(0, 6)|pick(1, 3) || w[unit.Args[1]] != pick(0, 3)|pick(1, 3) {
			t.Error("unit", x)
		}
		if w[read.Args[0]] != either || w[read.Args[1]] != pick(0, 6)|pick(1, 3) || w[write.Args[0]] != pick(2, 1) || w[write.Args[1]] != pick(2, 6) || w[write.Args[2]] != pick(2, 3) {
			t.Error("memory", x)
		}
		if w[n.Active[0]] != either || w[n.Data[0]] != pick(0, 6)|pick(1, 3) {
			t.Error("stream", x)
		}
	}
}

func TestErrors(t *testing.T) {
	if _, _, e := Wires(api.Func{}, nil, api.Binding{}); e != api.ErrForm {
		t.Error(e)
	}
	f, _, _ := irtext.Parse("func f\nwidths 8 8 8\nrets 8\nblock 0 ( 0 1 )\n2 = add 0 1\nreturn 2\n")
	if n, l, e := Wires(f, []api.Sched{{Depth: 1, Start: []int{0}, Params: []int{0, 0}}}, api.Binding{}); e != api.ErrForm || len(n.Widths) > 0 || l.Regs != nil {
		t.Error(e)
	}
	Build(api.Netlist{}, api.Layout{}, f, nil, api.Binding{})
}
