// Package scheduled makes scheduled functions for tests.
package scheduled

import (
	"jacquard/api"
	"jacquard/chain"
	"jacquard/cleanup"
	"jacquard/dataflow"
	"jacquard/depend"
	"jacquard/facts"
	"jacquard/fold"
	"jacquard/ir"
	"jacquard/library"
	"jacquard/listsched"
	"jacquard/modsched"
	"jacquard/sample"
	"jacquard/sample/lowered"
)

// Kernel is a function with facts, dependences and legal schedules.
type Kernel struct {
	Func   api.Func
	Facts  []api.Fact
	Deps   []api.Deps
	Flows  []api.Flow
	Scheds []api.Sched
}

// Make schedules the function of the kernel with a seed and a shape, after some passes; false if that is not possible. Directives to unroll are not obeyed.
func Make(seed uint64, s sample.Shape, period int, limits []api.Limit) (Kernel, bool) {
	f := lowered.Func(seed, s)
	if seed%2 == 0 {
		f, _ = fold.Run(f)
		f, _ = cleanup.Run(f)
	}
	return Of(f, period, limits)
}

// Of schedules a function.
func Of(f api.Func, period int, limits []api.Limit) (Kernel, bool) {
	f = ir.Renumber(f)
	for b := range f.Blocks {
		f.Blocks[b].Unroll = 0
	}
	for a := range f.Arrays {
		f.Arrays[a].Kind, f.Arrays[a].Factor = 0, 0
	}
	k := Kernel{Func: f, Facts: facts.Analyze(f)}
	period = max(period, library.Least(f))
	for b := range f.Blocks {
		d, _ := depend.Analyze(f, b, k.Facts)
		g, e := dataflow.Build(f, b, d, limits)
		arcs, ce := chain.Arcs(f, b, period)
		if e != api.OK || ce != api.OK {
			return Kernel{}, false
		}
		g, e = dataflow.Add(g, arcs)
		if e != api.OK {
			return Kernel{}, false
		}
		s := api.Sched{}
		if g.Loop {
			var r modsched.Result
			r, e = modsched.Schedule(g, 1, api.MaxII)
			s = r.Sched
		} else {
			s, e = listsched.Schedule(g)
		}
		if e != api.OK {
			return Kernel{}, false
		}
		k.Deps = append(k.Deps, d)
		k.Flows = append(k.Flows, g)
		k.Scheds = append(k.Scheds, s)
	}
	return k, true
}
