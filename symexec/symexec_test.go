package symexec

import (
	"slices"
	"testing"

	"jacquard/api"
	"jacquard/binding"
	"jacquard/bits"
	"jacquard/circuit"
	"jacquard/irexec"
	"jacquard/netlist"
	"jacquard/sample"
	"jacquard/sample/lowered"
	"jacquard/sample/scheduled"
	"jacquard/sim"
	"jacquard/term"
)

func TestExample(t *testing.T) {
	b := &netlist.Builder{}
	x, y := b.Wire(8), b.Wire(8)
	sum := b.Op(api.OpAdd, 8, x, y)
	one := b.Const(1, 1)
	b.Cell(api.Cell{Kind: api.CellReg, Out: x, Args: []int{one, sum}})
	b.Cell(api.Cell{Kind: api.CellReg, Out: y, Args: []int{b.Const(1, 0), sum}})
	b.N.Freeze, b.N.Done = b.Const(1, 0), one
	n := b.N
	var table term.Table
	s, e := Fresh(&table, n, 10)
	if e != api.OK || len(table.Nodes) != 2 || table.Nodes[s.Cells[2]].Num != 10 && table.Nodes[s.Cells[2]].Num != 11 {
		t.Fatal(e, table.Nodes)
	}
	regs := []int{}
	for i, c := range n.Cells {
		if c.Kind == api.CellReg {
			regs = append(regs, i)
		}
	}
	want, _ := table.Make(api.OpAdd, 8, s.Cells[regs[1]], s.Cells[regs[0]])
	c, e := Wires(&table, n, s, nil)
	if e != api.OK || c.Wires[sum] != want || c.Cells[regs[0]] != want || c.Cells[regs[1]] != s.Cells[regs[1]] {
		t.Error(c, e)
	}
	c, _ = Wires(&table, n, s, []Assume{{Term: -1, Word: 3}, {Term: want, Word: 5}, {Term: want, Word: 6}})
	if w, ok := table.Word(c.Cells[regs[0]]); w != 5 || !ok || c.Wires[sum] != c.Cells[regs[0]] {
		t.Error(c)
	}
}

// TestCircuits compares terms with the simulation.
func TestCircuits(t *testing.T) {
	for seed := range uint64(60) {
		k, ok := scheduled.Make(seed, sample.Shape{Loops: true, Streams: true, Arrays: true, Division: seed%3 == 0, Directives: true, Statements: 4}, 900, nil)
		if !ok {
			continue
		}
		b, _ := binding.Bind(k.Func, k.Scheds)
		n, _, _ := circuit.Build(k.Func, k.Scheds, b)
		m, _ := sim.New(n)
		st, _ := m.Start(sample.FuncEnv(seed, k.Func))
		for range 5 {
			m.Step(&st, nil)
		}
		var table term.Table
		s, e := Fresh(&table, n, 0)
		if e != api.OK {
			t.Fatal(e)
		}
		open := make([]bool, len(n.Streams))
		for i := range open {
			open[i] = i%2 == 0
		}
		words := m.Wires(st, open)
		// Each symbol gets the word of the simulation.
		var given []term.Word
		give := func(x int, w uint64) {
			given = append(given, term.Word{Symbol: table.Nodes[x].Num, Value: w})
		}
		for i, c := range n.Cells {
			switch c.Kind {
			case api.CellReg, api.CellRead:
				give(s.Cells[i], st.Words[i])
			case api.CellUnit:
				for j, x := range s.Units[i] {
					give(x, st.Units[i][j])
				}
			case api.CellInput:
				give(s.Scalars[c.Num], st.Scalars[c.Num])
			case api.CellOpen:
				give(s.Open[c.Mem], words[c.Out])
			case api.CellData:
				give(s.Data[c.Mem], words[c.Out])
			}
		}
		// A true assumption about a register.
		var assume []Assume
		if at := slices.IndexFunc(n.Cells, func(c api.Cell) bool { return c.Kind == api.CellReg }); at >= 0 && seed%2 == 0 {
			assume = append(assume, Assume{Term: s.Cells[at], Word: st.Words[at]})
		}
		c, e := Wires(&table, n, s, assume)
		if e != api.OK {
			t.Fatal(e)
		}
		values := table.Eval(given)
		for w, x := range c.Wires {
			if values[x] != words[w] {
				t.Fatal("wire", w, values[x], words[w])
			}
		}
		frozen := words[n.Freeze] == 1
		m.Step(&st, open)
		for i, cell := range n.Cells {
			switch {
			case frozen:
			case cell.Kind == api.CellReg && values[c.Cells[i]] != st.Words[i]:
				t.Fatal("register", i)
			case cell.Kind == api.CellRead && c.Cells[i] != -1:
				t.Fatal("read", i)
			case cell.Kind == api.CellUnit:
				for j, x := range c.Units[i] {
					if values[x] != st.Units[i][j] {
						t.Fatal("unit", i, j)
					}
				}
			}
		}
	}
}

// TestBlocks compares terms with visits of blocks.
func TestBlocks(t *testing.T) {
	for seed := range uint64(100) {
		f := lowered.Func(seed, sample.Shape{Loops: true, Streams: true, Arrays: true, Division: true, Statements: 5})
		visits, o, _ := irexec.Trace(f, sample.FuncEnv(seed, f), 30)
		for i, v := range visits {
			if o.Status == api.Starved && i == len(visits)-1 {
				break
			}
			var table term.Table
			var given []term.Word
			symbol := func(w int, word uint64) int {
				x, _ := table.Symbol(w, uint64(len(given)))
				given = append(given, term.Word{Symbol: uint64(len(given)), Value: word})
				return x
			}
			block := f.Blocks[v.Block]
			var params []int
			for j, p := range block.Params {
				params = append(params, symbol(f.Widths[p], v.Params[j]))
			}
			results := make([]int, len(block.Insts))
			for j, in := range block.Insts {
				if in.Op == api.OpLoad || in.Op == api.OpRecv {
					results[j] = symbol(f.Widths[in.Dest], v.Results[j])
				}
			}
			list, e := Values(&table, f, v.Block, params, results, nil)
			if e != api.OK {
				t.Fatal(e)
			}
			values := table.Eval(given)
			for x := range f.Widths {
				word := irexec.Words(f, v, []int{x})[0]
				owner := slices.Contains(block.Params, x) || slices.ContainsFunc(block.Insts, func(in api.Inst) bool { return in.Dest == x })
				if owner != (list[x] >= 0) || owner && values[list[x]] != word {
					t.Fatal("value", x)
				}
			}
		}
	}
}

func TestErrors(t *testing.T) {
	f := lowered.Source("kernel k(x: u8, q: in u8) -> u8 { return x + recv(q); }")
	var table term.Table
	x, _ := table.Symbol(8, 1)
	y, _ := table.Symbol(7, 1)
	n := len(f.Blocks[0].Insts)
	results := make([]int, n)
	if l, e := Values(&table, f, 0, []int{x}, results, []Assume{{Term: x, Word: 0x105}}); e != api.OK || l[f.Blocks[0].Params[0]] == x {
		t.Error(l, e)
	} else if w, ok := table.Word(l[f.Blocks[0].Params[0]]); w != bits.Fit(8, 5) || !ok {
		t.Error(w)
	}
	for i, e := range []api.Errno{
		second(Values(&table, api.Func{}, 0, nil, nil, nil)), second(Values(&table, f, 1, []int{x}, results, nil)), second(Values(&table, f, 0, []int{y}, results, nil)), second(Values(&table, f, 0, []int{99}, results, nil)), second(Values(&table, f, 0, nil, results, nil)), second(Values(&table, f, 0, []int{x}, nil, nil)), second(Values(&table, f, 0, []int{x}, []int{y, y, y}[:n], nil)),
	} {
		if e != api.ErrArg {
			t.Error(i, e)
		}
	}
	net, _, _ := circuit.Simple(f)
	s, _ := Fresh(&table, net, 50)
	if _, e := Wires(&table, api.Netlist{}, s, nil); e != api.ErrArg {
		t.Error(e)
	}
	if _, e := Fresh(&table, api.Netlist{}, 0); e != api.ErrArg {
		t.Error(e)
	}
	if c, e := Wires(&table, net, State{}, nil); e != api.ErrArg || c.Wires != nil {
		t.Error(e)
	}
	bad := s
	bad.Scalars = []int{y}
	if _, e := Wires(&table, net, bad, nil); e != api.ErrArg {
		t.Error(e)
	}
	for i := range uint64(api.MaxTerms) {
		table.Symbol(8, 1000+i)
	}
	if s, e := Fresh(&table, net, 1<<40); e != api.ErrLimit || s.Cells != nil {
		t.Error(e)
	}
	if c, e := Wires(&table, net, s, nil); e != api.ErrLimit || c.Wires != nil {
		t.Error(e)
	}
	var full term.Table
	for i := range uint64(api.MaxTerms) {
		full.Symbol(8, i)
	}
	if l, e := Values(&full, f, 0, []int{0}, make([]int, n), nil); e != api.ErrLimit || l != nil {
		t.Error(l, e)
	}
}

func second[T any](_ T, e api.Errno) api.Errno { return e }

func TestNoTable(t *testing.T) {
	f := api.Func{Name: "f", Blocks: []api.Block{{Term: api.Term{Kind: api.Return, Cond: -1}}}}
	if _, e := Values(nil, f, 0, nil, nil, nil); e != api.ErrArg {
		t.Error(e)
	}
	if _, e := Fresh(nil, api.Netlist{}, 0); e != api.ErrArg {
		t.Error(e)
	}
	if _, e := Wires(nil, api.Netlist{}, State{}, nil); e != api.ErrArg {
		t.Error(e)
	}
}
