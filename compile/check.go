package compile

import (
	"slices"

	"jacquard/api"
	"jacquard/binding"
	"jacquard/bounds"
	"jacquard/circuit"
	"jacquard/dataflow"
	"jacquard/depend"
	"jacquard/facts"
	"jacquard/ir"
	"jacquard/netlist"
	"jacquard/proofcheck"
	"jacquard/refute"
	"jacquard/schedcheck"
	"jacquard/timing"
)

// Check checks everything that a design claims: ErrForm, ErrWitness, ErrIllegal, ErrProof.
func Check(d api.Design) api.Errno {
	n := len(d.Func.Blocks)
	if !validOptions(d.Options) || !ir.Valid(d.First) || !ir.Valid(d.Func) || len(d.Facts) != len(d.Func.Widths) || len(d.Deps) != n || len(d.Flows) != n || len(d.Scheds) != n {
		return api.ErrForm
	}
	if f, e := Replay(d.First, d.Stages); e != api.OK || !ir.Same(f, d.Func) {
		return api.ErrWitness
	}
	for _, holds := range []func(api.Design) bool{analysed, scheduled, reported, built} {
		if !holds(d) {
			return api.ErrIllegal
		}
	}
	p := d.Proof
	if !ir.Same(p.Func, d.Func) || !slices.EqualFunc(p.Scheds, d.Scheds, sameSched) || !slices.Equal(p.Facts, d.Facts) || !slices.EqualFunc(p.Deps, d.Deps, sameDeps) || proofcheck.Check(d.Net, p) != api.OK {
		return api.ErrProof
	}
	return api.OK
}

func sameSched(a, b api.Sched) bool {
	return a.II == b.II && a.Depth == b.Depth && slices.Equal(a.Start, b.Start) && slices.Equal(a.Params, b.Params) && slices.Equal(a.Unit, b.Unit)
}

func sameDeps(a, b api.Deps) bool {
	return slices.Equal(a.List, b.List) && slices.Equal(a.Apart, b.Apart)
}

func sameFlow(a, b api.Flow) bool {
	return a.Insts == b.Insts && a.Params == b.Params && a.Loop == b.Loop && slices.Equal(a.Arcs, b.Arcs) && slices.Equal(a.Res, b.Res) && slices.Equal(a.Needs, b.Needs)
}

// analysed checks facts, dependences and dataflow graphs.
func analysed(d api.Design) bool {
	if facts.Check(d.Func, d.Facts) != api.OK {
		return false
	}
	for b := range d.Func.Blocks {
		g, e := flow(d.Func, b, d.Deps[b], d.Options)
		if e != api.OK || !sameFlow(g, d.Flows[b]) || !depend.Check(d.Func, b, d.Facts, d.Deps[b]) {
			return false
		}
	}
	return true
}

// scheduled checks the schedules.
func scheduled(d api.Design) bool {
	for b, s := range d.Scheds {
		if schedcheck.Check(d.Flows[b], s) != api.OK {
			return false
		}
	}
	return true
}

// reported checks what is claimed about pipelined loops.
func reported(d api.Design) bool {
	next := 0
	for b, block := range d.Func.Blocks {
		if _, loop := dataflow.Pipelined(d.Func, b); !loop {
			continue
		}
		if next >= len(d.Loops) {
			return false
		}
		r, s := d.Loops[next], d.Scheds[b]
		next++
		if r.Block != b || r.Line != block.Line || r.Asked != block.Pipeline || r.II != s.II || r.Depth != s.Depth || !bounds.Check(d.Flows[b], r.Bound) || !certified(d.Flows[b], r) {
			return false
		}
	}
	return next == len(d.Loops)
}

// certified checks the refutations of a loop, and whether they prove what is claimed.
func certified(f api.Flow, r api.LoopReport) bool {
	refuted := map[int]bool{}
	last := 0
	for i, t := range r.Trees {
		if i > 0 && t.II <= last || !refute.Check(f, t.II, t.Tree) {
			return false
		}
		last = t.II
		refuted[t.II] = true
	}
	for ii := r.Asked; r.Proved && ii < r.II; ii++ {
		if ii >= r.Bound.II && !refuted[ii] {
			return false
		}
	}
	return true
}

// built checks the binding, the circuit, its delay and its area.
func built(d api.Design) bool {
	if binding.Check(d.Func, d.Scheds, d.Binding) != api.OK {
		return false
	}
	n, l, e := circuit.Build(d.Func, d.Scheds, d.Binding)
	if e != api.OK || !netlist.Same(n, d.Net) || !sameLayout(l, d.Layout) {
		return false
	}
	path, e := timing.Words(d.Net)
	return e == api.OK && path.Delay == d.Delay && d.Delay <= d.Options.Period && d.Area == binding.Area(d.Func, d.Scheds, d.Binding)
}

func sameLayout(a, b api.Layout) bool {
	same := func(x, y [][]int) bool { return slices.EqualFunc(x, y, slices.Equal[[]int]) }
	return a.Start == b.Start && a.Done == b.Done && same(a.States, b.States) && same(a.Phases, b.Phases) && same(a.Valids, b.Valids) && same(a.Lasts, b.Lasts) &&
		same(a.Takes, b.Takes) && slices.Equal(a.Conds, b.Conds) && slices.Equal(a.Regs, b.Regs) && slices.Equal(a.Rets, b.Rets)
}
