package console

import (
	"jacquard/api"
	"jacquard/compile"
	"jacquard/counterexample"
	"jacquard/explore"
	"jacquard/interp"
	"jacquard/irtext"
	"jacquard/nettext"
	"jacquard/profile"
	"jacquard/proof"
)

func (c *console) compile(args []string) {
	c.count(args, 0)
	d, line, e := compile.Compile(c.source, c.options)
	if e != api.OK {
		panic(failure{e, line})
	}
	c.design = &d
	c.answer("ok", "blocks", len(d.Func.Blocks), "cells", len(d.Net.Cells), "delay", d.Delay, "area", d.Area)
}

// compiled returns the design.
func (c *console) compiled() api.Design {
	if c.design == nil {
		c.fail(api.ErrState)
	}
	return *c.design
}

func (c *console) check(args []string) {
	c.count(args, 0)
	c.need(compile.Check(c.compiled()))
	c.answer("ok")
}

func (c *console) loops(args []string) {
	c.count(args, 0)
	for _, l := range c.compiled().Loops {
		proved := 0
		if l.Proved {
			proved = 1
		}
		c.answer("loop", "line", l.Line, "asked", l.Asked, "interval", l.II, "depth", l.Depth, "bound", l.Bound.II, "proved", proved)
	}
	c.answer("end")
}

func (c *console) interpret(args []string) {
	c.count(args, 0)
	n, kernel := c.kernel()
	env, _ := c.environment(kernel)
	o, e := interp.Run(n, env, interpretFuel)
	c.need(e)
	c.outcome(kernel, o)
}

func (c *console) simulate(args []string) {
	c.count(args, 0)
	d := c.compiled()
	_, kernel := c.kernel()
	env, p := c.environment(kernel)
	r, e := compile.Run(d, env, p, simulateCycles)
	c.need(e)
	c.outcome(kernel, r.Outcome)
	c.answer("cycles", r.Cycles, "frozen", r.Frozen)
}

func (c *console) cycles(args []string) {
	c.count(args, 0)
	d := c.compiled()
	_, kernel := c.kernel()
	env, _ := c.environment(kernel)
	n, e := compile.Cycles(d, env, interpretFuel)
	c.need(e)
	c.answer("cycles", n)
}

func (c *console) profile(args []string) {
	c.count(args, 0)
	d := c.compiled()
	_, kernel := c.kernel()
	env, p := c.environment(kernel)
	x, e := profile.Run(d, env, p, simulateCycles)
	c.need(e)
	for _, b := range x.Blocks {
		c.answer("block", b.Block, "visits", b.Visits, "cycles", b.Cycles)
	}
	for _, s := range x.Stalls {
		c.answer("stall", s.Stream, "first", s.First, "all", s.All)
	}
	c.answer("cycles", x.Cycles, "frozen", x.Frozen)
}

func (c *console) compare(args []string) {
	c.count(args, 0)
	d := c.compiled()
	_, kernel := c.kernel()
	env, p := c.environment(kernel)
	inner, e := compile.Scatter(d, env)
	c.need(e)
	x, e := counterexample.Compare(d.Func, d.Scheds, d.Net, counterexample.Trial{Env: inner, Pattern: p, Fuel: otherFuel, Cycles: simulateCycles})
	if e == api.ErrNone {
		c.answer("none")
		return
	}
	c.need(e)
	c.answer("difference", x.Kind, "index", x.Index)
}

func (c *console) explore(args []string) {
	if len(args) == 0 {
		c.fail(api.ErrCommand)
	}
	o := c.options
	s := explore.Space{Periods: []int{o.Period}, Passes: []int{o.Passes}, Limits: [][]api.Limit{o.Limits}, Intervals: []int{0}, MaxII: o.MaxII}
	for _, w := range args {
		s.Factors = append(s.Factors, c.small(w))
	}
	d := c.compiled()
	_, kernel := c.kernel()
	env, _ := c.environment(kernel)
	l, e := explore.Explore(d.First, s, env, otherFuel)
	c.need(e)
	for _, p := range explore.Pareto(l) {
		c.answer("point", p.Index, "cycles", p.Cycles, "interval", p.II, "area", p.Area)
	}
	c.answer("end")
}

func (c *console) show(args []string) {
	c.count(args, 1)
	text := c.source
	var e api.Errno
	switch args[0] {
	case "source":
	case "first":
		text, e = irtext.Print(c.compiled().First)
	case "ir":
		text, e = irtext.Print(c.compiled().Func)
	case "netlist":
		text, e = nettext.Format(c.compiled().Net)
	case "proof":
		text = proof.Format(c.compiled().Proof.Points)
	default:
		c.fail(api.ErrCommand)
	}
	c.need(e)
	c.out.WriteString(text)
	c.answer("end")
}
