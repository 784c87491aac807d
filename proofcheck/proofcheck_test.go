package proofcheck

import (
	"math/rand"
	"slices"
	"testing"

	"jacquard/api"
	"jacquard/binding"
	"jacquard/circuit"
	"jacquard/cycles"
	"jacquard/depend"
	"jacquard/facts"
	"jacquard/irexec"
	"jacquard/irtext"
	"jacquard/netlist"
	"jacquard/proof"
	"jacquard/sample"
	"jacquard/sample/scheduled"
	"jacquard/sample/verify"
	"jacquard/sim"
)

// made is a circuit with its proof.
type made struct {
	k scheduled.Kernel
	n api.Netlist
	p Proof
}

func build(t *testing.T, seed uint64) (made, bool) {
	t.Helper()
	k, ok := scheduled.Make(seed, sample.Shape{Loops: true, Nested: seed%2 == 0, Streams: seed%4 != 0, Arrays: true, Division: seed%3 == 0, Directives: true, Statements: 4}, 600+int(seed%5)*300, []api.Limit{{Class: api.ClassMul, Count: 1}})
	if !ok {
		return made{}, false
	}
	b, _ := binding.Bind(k.Func, k.Scheds)
	n, _, e := circuit.Build(k.Func, k.Scheds, b)
	if e != api.OK {
		t.Fatal(e)
	}
	p, e := proof.Make(n, k.Func, k.Scheds, k.Facts, k.Deps)
	if e != api.OK {
		s, _ := irtext.Print(k.Func)
		t.Fatal(s, k.Scheds, seed, e)
	}
	return made{k, n, p}, true
}

func TestSamples(t *testing.T) {
	loops := 0
	for seed := range uint64(150) {
		m, ok := build(t, seed)
		if !ok {
			continue
		}
		if e := Check(m.n, m.p); e != api.OK {
			why, _ := Explain(m.n, m.p)
			t.Fatal(seed, e, why)
		}
		if _, e := Explain(m.n, m.p); e != api.ErrNone {
			t.Fatal(e)
		}
		for _, s := range m.k.Scheds {
			if s.II > 0 {
				loops++
			}
		}
	}
	if loops < 20 {
		t.Error(loops)
	}
}

// differs reports whether a circuit does something else than its function in some run.
func differs(f api.Func, scheds []api.Sched, n api.Netlist, seed uint64) bool {
	for i := range uint64(6) {
		env := sample.FuncEnv(seed*6+i, f)
		want, _ := irexec.Run(f, env, 200)
		if want.Status == api.Fuel {
			continue
		}
		open := make([][]bool, len(f.Streams))
		for s := range open {
			open[s] = []bool{i%2 == 0, true}
		}
		r, e := sim.Run(n, env, api.Pattern{Open: open}, 5000)
		if e != api.OK {
			return true
		}
		count, _ := cycles.Count(f, scheds, want.Path)
		switch want.Status {
		case api.Done:
			if !verify.Outcomes(want, r.Outcome) || r.Cycles-r.Frozen != count {
				return true
			}
		case api.Starved:
			for s := range want.Outs {
				got := r.Outcome.Outs[s]
				if len(got) > len(want.Outs[s]) || !slices.Equal(got, want.Outs[s][:len(got)]) || r.Outcome.Status == api.Done {
					return true
				}
			}
		}
	}
	return false
}

// spoil changes a cell of a netlist.
func spoil(r *rand.Rand, n api.Netlist) api.Netlist {
	n = netlist.Edit(n).N
	c := &n.Cells[r.Intn(len(n.Cells))]
	switch r.Intn(4) {
	case 0:
		c.Num ^= 1
	case 1:
		if c.Op == api.OpAdd || c.Op == api.OpXor || c.Op == api.OpAnd {
			c.Op = []int{api.OpSub, api.OpOr, api.OpAdd}[r.Intn(3)]
		}
	case 2:
		if len(c.Args) > 1 {
			i, j := r.Intn(len(c.Args)), r.Intn(len(c.Args))
			c.Args[i], c.Args[j] = c.Args[j], c.Args[i]
		}
	case 3:
		if len(c.Args) > 0 {
			c.Args[r.Intn(len(c.Args))] = r.Intn(len(n.Widths))
		}
	}
	return n
}

// TestSound spoils circuits and proofs: what is still accepted has to be right.
func TestSound(t *testing.T) {
	r := rand.New(rand.NewSource(1))
	refused, wrong := 0, 0
	for seed := range uint64(60) {
		m, ok := build(t, seed)
		if !ok {
			continue
		}
		for range 12 {
			n := spoil(r, m.n)
			if netlist.Check(n) != api.OK || netlist.Same(n, m.n) {
				continue
			}
			bad := differs(m.k.Func, m.k.Scheds, n, seed)
			if bad {
				wrong++
			}
			for _, p := range []Proof{m.p, again(n, m)} {
				if p.Func.Name == "" {
					continue
				}
				e := Check(n, p)
				if e == api.OK && bad {
					t.Fatal("a wrong circuit is accepted", seed)
				}
				if e != api.OK {
					refused++
				}
			}
		}
	}
	if refused < 100 || wrong < 60 {
		t.Error(refused, wrong)
	}
}

// again makes a new proof for a spoiled circuit, if there is one.
func again(n api.Netlist, m made) Proof {
	p, _ := proof.Make(n, m.k.Func, m.k.Scheds, m.k.Facts, m.k.Deps)
	return p
}

func example(t *testing.T) (api.Netlist, Proof) {
	t.Helper()
	f, line, e := irtext.Parse("func f\nwidths 8 8 8\nrets 8\nblock 0 ( 0 1 )\n2 = add 0 1\nreturn 2\n")
	if e != api.OK {
		t.Fatal(line, e)
	}
	n, _, _ := circuit.Simple(f)
	known := facts.Analyze(f)
	d, _ := depend.Analyze(f, 0, known)
	p, e := proof.Make(n, f, circuit.Straight(f), known, []api.Deps{d})
	if e != api.OK {
		t.Fatal(e)
	}
	return n, p
}

func TestExample(t *testing.T) {
	n, p := example(t)
	if len(p.Points) != 3 || Check(n, p) != api.OK {
		t.Error(p.Points)
	}
	for i := range n.Cells {
		if n.Cells[i].Op == api.OpAdd {
			n.Cells[i].Op = api.OpSub
		}
	}
	why, e := Explain(n, p)
	if Check(n, p) != api.ErrProof || e != api.OK || why.Reason != api.FailHold || why.Point.Kind != api.CutBlock || why.Point.Holds != nil {
		t.Error(why, e)
	}
}

func TestReasons(t *testing.T) {
	find := func(n *api.Netlist, kind int) *api.Cell {
		return &n.Cells[slices.IndexFunc(n.Cells, func(c api.Cell) bool { return c.Kind == kind })]
	}
	for i, c := range []struct {
		change func(n *api.Netlist, p *Proof)
		reason int
	}{
		{func(n *api.Netlist, p *Proof) {
			p.Func.Rets[0], p.Func.Blocks[0].Insts[0].Op = 1, api.OpEq
			p.Func.Widths[2] = 1
		}, api.FailInputs},
		{func(n *api.Netlist, p *Proof) { p.Facts[0].Hi = 3 }, api.FailFacts}, {func(n *api.Netlist, p *Proof) { p.Deps = nil }, api.FailFacts}, {func(n *api.Netlist, p *Proof) { p.Deps[0].List = []api.Dep{{From: 0, To: 0, Lat: 1}} }, api.FailFacts}, {func(n *api.Netlist, p *Proof) { p.Scheds[0].Start = nil }, api.FailFacts},
		{func(n *api.Netlist, p *Proof) { p.Points[0].Holds[0].Word ^= 1 }, api.FailStart}, {func(n *api.Netlist, p *Proof) { find(n, api.CellReg).Num ^= 1 }, api.FailStart}, {func(n *api.Netlist, p *Proof) { p.Points = p.Points[:2] }, api.FailMissing}, {func(n *api.Netlist, p *Proof) { p.Points = p.Points[1:] }, api.FailMissing},
		{func(n *api.Netlist, p *Proof) { p.Points[1].Holds[0].Cell = -1 }, api.FailHold}, {func(n *api.Netlist, p *Proof) { p.Points[1].Holds[0].Kind = 3 }, api.FailHold}, {func(n *api.Netlist, p *Proof) { p.Points[1].Holds[0].Slot = 1 }, api.FailHold}, {func(n *api.Netlist, p *Proof) { p.Points[1].Holds = nil }, 0},
		{func(n *api.Netlist, p *Proof) { n.Done = n.Freeze }, api.FailDone}, {func(n *api.Netlist, p *Proof) {
			n.Freeze = n.Cells[slices.IndexFunc(n.Cells, func(c api.Cell) bool { return c.Kind == api.CellConst && c.Num == 1 })].Out
		}, api.FailFreeze},
	} {
		n, p := example(t)
		c.change(&n, &p)
		why, e := Explain(n, p)
		if e != api.OK || Check(n, p) != api.ErrProof || c.reason != 0 && why.Reason != c.reason {
			t.Error(i, why, e)
		}
	}
	n, p := example(t)
	if Check(api.Netlist{}, p) != api.ErrForm {
		t.Error("netlist")
	}
	p.Scheds[0].Depth = 0
	if _, e := Explain(n, p); e != api.ErrForm || Check(n, p) != api.ErrForm {
		t.Error(e)
	}
}
