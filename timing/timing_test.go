package timing

import (
	"slices"
	"testing"

	"jacquard/api"
	"jacquard/binding"
	"jacquard/circuit"
	"jacquard/netlist"
	"jacquard/sample"
	"jacquard/sample/scheduled"
	"jacquard/synth"
)

// counter is the netlist of the chapter's example.
func counter() api.Netlist {
	b := &netlist.Builder{}
	r := b.Wire(8)
	sum := b.Op(api.OpAdd, 8, r, b.Const(8, 1))
	b.Cell(api.Cell{Kind: api.CellReg, Out: r, Args: []int{b.Const(1, 1), sum}})
	b.N.Freeze = b.Const(1, 0)
	b.N.Done = b.Const(1, 0)
	return b.N
}

func TestExample(t *testing.T) {
	n := counter()
	a, e := Arrivals(n)
	if e != api.OK || a[0] != 30 || a[2] != 190 || a[1] != 0 && a[2] != 190 {
		t.Error(a, e)
	}
	p, e := Words(n)
	if e != api.OK || p.Delay != 250 || len(p.Steps) != 2 || p.Steps[0] != 0 {
		t.Error(p, e)
	}
	s, e := Slack(n, 300)
	if e != api.OK || slices.Min(s) != 50 || s[0] != 50 || s[p.Steps[1]] != 50 {
		t.Error(s, e)
	}
	for c, want := range map[int]int{0: 0} {
		if d := Cell(n, n.Cells[c]); d != want {
			t.Error(c, d)
		}
	}
	if Cell(n, api.Cell{Kind: api.CellMux, Args: make([]int, 10)}) != 80 || Cell(n, api.Cell{Kind: api.CellRead}) != 30 || Cell(n, api.Cell{Kind: api.CellOp, Op: api.OpEq, Args: []int{0, 0}, Out: 3}) != 90 {
		t.Error("Cell")
	}
}

func TestErrors(t *testing.T) {
	bad := api.Netlist{}
	if a, e := Arrivals(bad); a != nil || e != api.ErrForm {
		t.Error(e)
	}
	if p, e := Words(bad); p.Steps != nil || e != api.ErrForm {
		t.Error(e)
	}
	if s, e := Slack(bad, 9); s != nil || e != api.ErrForm {
		t.Error(e)
	}
	if _, e := Gates(bad, api.Mesh{}); e != api.ErrForm {
		t.Error(e)
	}
	n := counter()
	m, _ := synth.Netlist(n)
	for i, change := range []func(m *api.Mesh){func(m *api.Mesh) { m.Bits = m.Bits[1:] }, func(m *api.Mesh) { m.Next = nil }, func(m *api.Mesh) { m.Gates[0].Kind = 0 }, func(m *api.Mesh) { m.Bits[0][0] = -1 }, func(m *api.Mesh) {
		m.Next[slices.IndexFunc(m.Next, func(l []int) bool { return len(l) > 0 })][0] = 1 << 30
	}} {
		x, _ := synth.Netlist(n)
		change(&x)
		if p, e := Gates(n, x); e != api.ErrForm || p.Steps != nil {
			t.Error(i, e)
		}
	}
	if p, e := Gates(n, m); e != api.OK || p.Delay > 250 || p.Delay < 200 {
		t.Error(p, e)
	}
}

func TestCircuits(t *testing.T) {
	for seed := range uint64(60) {
		k, ok := scheduled.Make(seed, sample.Shape{Loops: true, Streams: true, Arrays: true, Directives: true, Statements: 4}, 900, nil)
		if !ok {
			continue
		}
		b, _ := binding.Bind(k.Func, k.Scheds)
		n, _, _ := circuit.Build(k.Func, k.Scheds, b)
		arrivals, _ := Arrivals(n)
		p, e := Words(n)
		if e != api.OK {
			t.Fatal(e)
		}
		by := map[int]api.Cell{}
		for _, c := range n.Cells {
			by[c.Out] = c
		}
		sum := 0
		for i, w := range p.Steps {
			c := by[w]
			sum += Cell(n, c)
			if i > 0 && (!netlist.Combinational(c.Kind) || !slices.Contains(c.Args, p.Steps[i-1])) || i == 0 && netlist.Combinational(c.Kind) && c.Kind != api.CellConst {
				t.Fatal("no path")
			}
		}
		last := p.Steps[len(p.Steps)-1]
		add := -1
		for w, a := range ends(n) {
			if w == last {
				add = max(add, a)
			}
			if arrivals[w]+a > p.Delay {
				t.Fatal("a longer path")
			}
		}
		if sum+add != p.Delay {
			t.Fatal("delay", sum, add, p.Delay)
		}
		slack, _ := Slack(n, 1000)
		if 1000-slices.Min(slack) != p.Delay {
			t.Fatal("slack")
		}
		m, _ := synth.Netlist(n)
		g, _ := Gates(n, m)
		for i, x := range g.Steps {
			gate := m.Gates[x]
			if i == 0 && gate.Kind > api.GateIn || i > 0 && gate.A != g.Steps[i-1] && gate.B != g.Steps[i-1] {
				t.Fatal("no path of gates")
			}
		}
		if g.Delay > p.Delay {
			t.Fatal("gates", g.Delay, p.Delay)
		}
	}
}
