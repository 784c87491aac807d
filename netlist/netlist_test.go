package netlist

import (
	"slices"
	"testing"

	"jacquard/api"
)

// example is a valid netlist with cells of all kinds.
func example() api.Netlist {
	b := &Builder{N: api.Netlist{Name: "x", Ins: []int{8}, Mems: []api.Array{{Name: "m", Width: 8, Len: 4}}, Streams: []api.Stream{{Name: "i", Width: 8}, {Name: "o", Width: 8, Out: true}}}}
	one := b.Const(1, 3)
	in := b.drive(8, api.Cell{Kind: api.CellInput})
	data := b.drive(8, api.Cell{Kind: api.CellData})
	open := b.drive(1, api.Cell{Kind: api.CellOpen, Mem: 1})
	sum := b.Op(api.OpAdd, 8, in, data)
	mux := b.Mux(8, open, sum, one, in)
	b.Op(api.OpSub, 8, sum, in)
	reg := b.drive(8, api.Cell{Kind: api.CellReg, Args: []int{one, mux}, Num: 9})
	unit := b.drive(8, api.Cell{Kind: api.CellUnit, Op: api.OpMul, Args: []int{reg, in}, Num: 2})
	read := b.drive(8, api.Cell{Kind: api.CellRead, Args: []int{one, unit}})
	b.Cell(api.Cell{Kind: api.CellWrite, Args: []int{one, read, in}, Out: -1})
	b.N.Active, b.N.Data = []int{one, one}, []int{-1, sum}
	b.N.Freeze, b.N.Done, b.N.Rets = b.Not(open), b.Op(api.OpEq, 1, reg, in), []int{reg}
	return b.N
}

func TestCheck(t *testing.T) {
	if e := Check(example()); e != api.OK {
		t.Fatal(e)
	}
	if Check(api.Netlist{}) != api.ErrForm {
		t.Error("no wires")
	}
	changes := []struct {
		e      api.Errno
		change func(n *api.Netlist)
	}{
		{api.ErrForm, func(n *api.Netlist) { n.Name = "a-b" }}, {api.ErrForm, func(n *api.Netlist) { n.Widths[0] = 0 }}, {api.ErrForm, func(n *api.Netlist) { n.Ins[0] = 65 }}, {api.ErrForm, func(n *api.Netlist) { n.Mems[0].Len = 0 }}, {api.ErrForm, func(n *api.Netlist) { n.Mems[0].Kind = 1 }}, {api.ErrForm, func(n *api.Netlist) { n.Mems[0].Name = " " }}, {api.ErrForm, func(n *api.Netlist) { n.Streams[0].Width = 0 }}, {api.ErrForm, func(n *api.Netlist) { n.Active = n.Active[1:] }}, {api.ErrForm, func(n *api.Netlist) { n.Data[0] = 0 }}, {api.ErrForm, func(n *api.Netlist) { n.Data[1] = -1 }}, {api.ErrForm, func(n *api.Netlist) { n.Freeze = -1 }}, {api.ErrForm, func(n *api.Netlist) { n.Rets[0] = 99 }},
		{api.ErrForm, func(n *api.Netlist) { n.Cells[0].Out = 1 }}, {api.ErrForm, func(n *api.Netlist) { n.Widths = append(n.Widths, 8) }}, {api.ErrForm, func(n *api.Netlist) { n.Cells[0].Kind = 11 }}, {api.ErrForm, func(n *api.Netlist) { n.Cells[4].Op = api.OpMul }}, {api.ErrForm, func(n *api.Netlist) { n.Cells[4].Args = n.Cells[4].Args[1:] }}, {api.ErrForm, func(n *api.Netlist) { n.Cells[5].Args = n.Cells[5].Args[1:] }}, {api.ErrForm, func(n *api.Netlist) { n.Cells[5].Args = nil }}, {api.ErrForm, func(n *api.Netlist) { n.Cells[4].Num = 1 }}, {api.ErrForm, func(n *api.Netlist) { n.Cells[4].Mem = 1 }}, {api.ErrForm, func(n *api.Netlist) { n.Cells[0].Op = 1 }}, {api.ErrForm, func(n *api.Netlist) { n.Cells[8].Num = 0 }}, {api.ErrForm, func(n *api.Netlist) { n.Cells[8].Num = 4097 }}, {api.ErrForm, func(n *api.Netlist) { n.Cells[8].Op = api.OpAdd }}, {api.ErrForm, func(n *api.Netlist) { n.Cells[9].Mem = 1 }}, {api.ErrForm, func(n *api.Netlist) { n.Cells[1].Num = 1 }}, {api.ErrForm, func(n *api.Netlist) { n.Cells[2].Mem = 1 }}, {api.ErrForm, func(n *api.Netlist) { n.Cells[3].Mem = 2 }}, {api.ErrForm, func(n *api.Netlist) { n.Cells[10].Out = 0 }}, {api.ErrForm, func(n *api.Netlist) { n.Cells[4].Args[0] = -1 }},
		{api.ErrWidth, func(n *api.Netlist) { n.Cells[0].Num = 2 }}, {api.ErrWidth, func(n *api.Netlist) { n.Cells[7].Num = 256 }}, {api.ErrWidth, func(n *api.Netlist) { n.Cells[4].Args[0] = 0 }}, {api.ErrWidth, func(n *api.Netlist) { n.Cells[5].Args[0] = 1 }}, {api.ErrWidth, func(n *api.Netlist) { n.Cells[7].Args[0] = 1 }}, {api.ErrWidth, func(n *api.Netlist) { n.Cells[8].Args[0] = 0 }}, {api.ErrWidth, func(n *api.Netlist) { n.Mems[0].Width = 7 }}, {api.ErrWidth, func(n *api.Netlist) { n.Ins[0] = 7 }}, {api.ErrWidth, func(n *api.Netlist) { n.Streams[0].Width = 7 }}, {api.ErrWidth, func(n *api.Netlist) { n.Freeze = 1 }}, {api.ErrWidth, func(n *api.Netlist) { n.Active[0] = 1 }}, {api.ErrWidth, func(n *api.Netlist) { n.Data[1] = 0 }}, {api.ErrWidth, func(n *api.Netlist) { n.Cells[4].Op = api.OpEq }},
		{api.ErrCycle, func(n *api.Netlist) { n.Cells[4].Args[0] = n.Cells[5].Out }}, {api.ErrCycle, func(n *api.Netlist) { n.Cells[4].Args[0] = n.Cells[4].Out }},
	}
	for i, c := range changes {
		n := clone(example())
		c.change(&n)
		if e := Check(n); e != c.e {
			t.Error(i, e)
		}
		Cone(n, 3)
		if p := Prune(n); !Same(p, n) {
			t.Error(i, "Prune")
		}
		if o, e := Order(n); o != nil || e != c.e {
			t.Error(i, "Order")
		}
	}
}

func TestOrder(t *testing.T) {
	n := example()
	order, e := Order(n)
	if e != api.OK || len(order) != len(n.Cells) {
		t.Fatal(e)
	}
	by := drivers(n)
	for i, x := range order {
		if !Combinational(n.Cells[x].Kind) {
			continue
		}
		for _, a := range n.Cells[x].Args {
			if slices.Index(order, by[a]) > i {
				t.Error("order", x)
			}
		}
	}
	// A register behind the operator that reads it comes before that.
	b := &Builder{}
	reg := b.Wire(1)
	b.N.Freeze = b.Not(reg)
	b.N.Done = reg
	b.Cell(api.Cell{Kind: api.CellReg, Out: reg, Args: []int{reg, reg}})
	if o, e := Order(b.N); e != api.OK || slices.Index(o, 2) > slices.Index(o, 1) {
		t.Error(o, e)
	}
	if l := Cone(n, n.Cells[5].Out); !slices.Equal(l, []int{0, 1, 2, 3, 4, 5}) {
		t.Error(l)
	}
	if l := Cone(n, n.Cells[7].Out); !slices.Equal(l, []int{7}) || Cone(n, -1) != nil || Cone(n, 99) != nil {
		t.Error(l)
	}
}

func TestPrune(t *testing.T) {
	n := example()
	p := Prune(n)
	if Check(p) != api.OK || len(p.Cells) != len(n.Cells)-1 || len(p.Widths) != len(n.Widths)-1 || !Same(Prune(p), p) || !Same(n, example()) {
		t.Error(len(p.Cells))
	}
	q := Prune(p)
	q.Cells[0].Num = 0
	if Same(p, q) || !Same(api.Netlist{}, api.Netlist{Rets: []int{}}) {
		t.Error("Same")
	}
}

func TestBuilder(t *testing.T) {
	b := &Builder{}
	if b.Any() != 0 || b.N.Cells[0].Num != 0 || b.All() != 1 || b.N.Cells[1].Num != 1 || b.Any(7) != 7 || b.All(7) != 7 || len(b.N.Cells) != 2 {
		t.Error(b.N)
	}
	w := b.Any(0, 1)
	if c := b.N.Cells[2]; w != 2 || c.Kind != api.CellMux || !slices.Equal(c.Args, []int{0, 0, 1, 1}) {
		t.Error(c)
	}
	depth := map[int]int{}
	var wires []int
	for range 5 {
		wires = append(wires, b.Wire(1))
	}
	first := len(b.N.Cells)
	w = b.All(wires...)
	for _, c := range b.N.Cells[first:] {
		depth[c.Out] = 1 + max(depth[c.Args[0]], depth[c.Args[1]])
	}
	if depth[w] != 3 || len(b.N.Cells) != first+4 {
		t.Error(depth)
	}
	w = b.Not(0)
	if c := b.N.Cells[len(b.N.Cells)-1]; c.Op != api.OpXor || c.Out != w || b.N.Cells[len(b.N.Cells)-2].Num != 1 {
		t.Error(c)
	}
	args := []int{0, 1}
	b.Cell(api.Cell{Kind: api.CellReg, Args: args})
	args[0] = 9
	if b.N.Cells[len(b.N.Cells)-1].Args[0] != 0 {
		t.Error("shared memory")
	}
	if v := b.Const(4, 19); b.N.Widths[v] != 4 || b.N.Cells[len(b.N.Cells)-1].Num != 3 {
		t.Error("Const")
	}
}
