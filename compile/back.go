package compile

import (
	"slices"

	"jacquard/api"
	"jacquard/binding"
	"jacquard/chain"
	"jacquard/circuit"
	"jacquard/dataflow"
	"jacquard/depend"
	"jacquard/facts"
	"jacquard/ir"
	"jacquard/library"
	"jacquard/listsched"
	"jacquard/modsched"
	"jacquard/proof"
	"jacquard/timing"
)

// maker makes a design; after the first error its methods do nothing.
type maker struct {
	d api.Design
	e api.Errno
}

// Back schedules and binds a function, and builds its circuit and the proof: ErrForm, ErrArg, ErrPeriod, ErrInfeasible, ErrLimit.
func Back(f api.Func, o api.Options) (api.Design, api.Errno) {
	whole := func(a api.Array) bool { return a.Kind == api.Whole }
	switch {
	case !ir.Valid(f) || !loopsStay(f) || !all(f.Arrays, whole):
		return api.Design{}, api.ErrForm
	case !validOptions(o):
		return api.Design{}, api.ErrArg
	case o.Period < library.Least(f):
		return api.Design{}, api.ErrPeriod
	}
	o.Limits = slices.Clone(o.Limits)
	m := &maker{d: api.Design{Options: o, First: ir.Clone(f), Func: ir.Clone(f), Facts: facts.Analyze(f)}}
	for b := range f.Blocks {
		m.schedule(b)
	}
	m.circuit()
	m.prove()
	if m.e != api.OK {
		return api.Design{}, m.e
	}
	return m.d, api.OK
}

func all[T any](list []T, has func(T) bool) bool {
	return !slices.ContainsFunc(list, func(x T) bool { return !has(x) })
}

// dependences returns the dependences of a block. A distance beyond the limit of flows is replaced by the limit, which demands more.
func (m *maker) dependences(b int) api.Deps {
	d, e := depend.Analyze(m.d.Func, b, m.d.Facts)
	m.keep(e)
	for i, x := range d.List {
		if x.Dist > api.MaxII {
			d.List[i].Dist, d.List[i].Exact, d.List[i].K = api.MaxII, false, 0
		}
	}
	return d
}

// keep notes the first error; what is no matter of intervals is one of limits.
func (m *maker) keep(e api.Errno) {
	if e != api.OK && m.e == api.OK {
		m.e = api.ErrLimit
		if e == api.ErrInfeasible {
			m.e = e
		}
	}
}

// flow returns the dataflow graph of a block with the constraints of the clock period.
func flow(f api.Func, b int, d api.Deps, o api.Options) (api.Flow, api.Errno) {
	g, e := dataflow.Build(f, b, d, o.Limits)
	if e != api.OK {
		return api.Flow{}, e
	}
	arcs, e := chain.Arcs(f, b, o.Period)
	if e != api.OK {
		return api.Flow{}, e
	}
	return dataflow.Add(g, arcs)
}

// schedule schedules a block.
func (m *maker) schedule(b int) {
	if m.e != api.OK {
		return
	}
	deps := m.dependences(b)
	g, e := flow(m.d.Func, b, deps, m.d.Options)
	m.keep(e)
	if m.e != api.OK {
		return
	}
	var s api.Sched
	if g.Loop {
		s = m.loop(b, g)
	} else {
		s, e = listsched.Schedule(g)
		m.keep(e)
	}
	m.d.Deps = append(m.d.Deps, deps)
	m.d.Flows = append(m.d.Flows, g)
	m.d.Scheds = append(m.d.Scheds, s)
}

// loop schedules a pipelined loop.
func (m *maker) loop(b int, g api.Flow) api.Sched {
	block := m.d.Func.Blocks[b]
	if block.Pipeline > m.d.Options.MaxII {
		m.keep(api.ErrInfeasible)
		return api.Sched{}
	}
	r, e := modsched.Schedule(g, block.Pipeline, m.d.Options.MaxII)
	m.keep(e)
	m.d.Loops = append(m.d.Loops, api.LoopReport{Block: b, Line: block.Line, Asked: block.Pipeline, II: r.Sched.II, Depth: r.Sched.Depth, Bound: r.Bound, Trees: r.Trees, Proved: r.Proved})
	return r.Sched
}

// circuit binds the values, and builds the circuit.
func (m *maker) circuit() {
	if m.e != api.OK {
		return
	}
	var e api.Errno
	m.d.Binding, e = binding.Bind(m.d.Func, m.d.Scheds)
	m.keep(e)
	if m.e != api.OK {
		return
	}
	m.d.Net, m.d.Layout, e = circuit.Build(m.d.Func, m.d.Scheds, m.d.Binding)
	m.keep(e)
	if m.e != api.OK {
		return
	}
	path, e := timing.Words(m.d.Net)
	m.keep(e)
	m.d.Delay = path.Delay
	m.d.Area = binding.Area(m.d.Func, m.d.Scheds, m.d.Binding)
}

// prove makes the proof.
func (m *maker) prove() {
	if m.e != api.OK {
		return
	}
	var e api.Errno
	m.d.Proof, e = proof.Make(m.d.Net, m.d.Func, m.d.Scheds, m.d.Facts, m.d.Deps)
	m.keep(e)
}
