package compile

import (
	"slices"

	"jacquard/api"
	"jacquard/balance"
	"jacquard/bank"
	"jacquard/cleanup"
	"jacquard/facts"
	"jacquard/fold"
	"jacquard/ifconvert"
	"jacquard/ir"
	"jacquard/narrow"
	"jacquard/rewrite"
	"jacquard/strength"
	"jacquard/unroll"
)

// sideSize is how many instructions the sides of a branch may have that is converted without need.
const sideSize = 8

// preparer makes stages; after the first error its methods do nothing.
type preparer struct {
	f      api.Func
	stages []api.Stage
	line   int
	e      api.Errno
}

func (p *preparer) fail(line int, e api.Errno) {
	if p.e == api.OK {
		p.line, p.e = line, e
	}
}

// Prepare obeys directives, makes the passes of the options, and divides arrays into banks: it returns the final function and the stages that lead to it, or the line of a loop whose directive cannot be obeyed, and the error.
func Prepare(f api.Func, o api.Options) (api.Func, []api.Stage, int, api.Errno) {
	switch {
	case !ir.Valid(f):
		return api.Func{}, nil, 0, api.ErrForm
	case !validOptions(o):
		return api.Func{}, nil, 0, api.ErrArg
	}
	p := &preparer{f: ir.Clone(f)}
	p.directives()
	p.passes(o.Passes)
	if p.split() {
		p.passes(o.Passes)
	}
	if p.e != api.OK {
		return api.Func{}, nil, p.line, p.e
	}
	return p.f, p.stages, 0, api.OK
}

// pending returns the block with the greatest number whose directives are not obeyed yet.
func pending(f api.Func) (int, bool) {
	for b, x := range slices.Backward(f.Blocks) {
		if _, loop := ir.SelfLoop(f, b); x.Unroll != 0 || x.Pipeline != 0 && !loop {
			return b, true
		}
	}
	return 0, false
}

// directives obeys the directives of all loops, the inner ones first.
func (p *preparer) directives() {
	if _, some := pending(p.f); !some {
		return
	}
	// The first stage renumbers the blocks, too.
	p.f = ir.Renumber(p.f)
	for p.e == api.OK {
		b, some := pending(p.f)
		if !some {
			return
		}
		if _, loop := ir.SelfLoop(p.f, b); !loop {
			p.flatten(b)
		} else {
			p.unroll(b)
		}
	}
}

// flatten makes the loop of a block a self loop.
func (p *preparer) flatten(b int) {
	line := p.f.Blocks[b].Line
	f, moves, e := ifconvert.Flatten(p.f, b)
	switch e {
	case api.OK:
		p.f = f
		p.stages = append(p.stages, api.Stage{Kind: api.StageConvert, Moves: moves})
	case api.ErrDirective:
		p.fail(line, e)
	default:
		p.fail(0, e)
	}
}

// unroll obeys the directive to unroll a self loop.
func (p *preparer) unroll(b int) {
	block := p.f.Blocks[b]
	m := api.Move{Kind: api.MoveUnroll, Block: b, Count: block.Unroll}
	if block.Unroll == 1 {
		n, ok := unroll.Trips(p.f, b, api.MaxUnroll)
		if !ok {
			p.fail(block.Line, api.ErrDirective)
			return
		}
		m = api.Move{Kind: api.MovePeel, Block: b, Count: n}
	}
	f, e := unroll.Apply(p.f, []api.Move{m})
	if e != api.OK {
		p.fail(0, e)
		return
	}
	p.f = f
	p.stages = append(p.stages, api.Stage{Kind: api.StageUnroll, Moves: []api.Move{m}})
}

// pass is a pass of the optimizer: its bit, and its function.
type pass struct {
	bit int
	run func(f api.Func) (api.Func, api.Witness)
}

// order returns the passes in the order in which they are made; those that simplify come again.
func order() []pass {
	simplify := []pass{{api.PassFold, fold.Run}, {api.PassCleanup, cleanup.Run}}
	return slices.Concat(simplify, []pass{{api.PassIfConvert, nil}}, simplify,
		[]pass{{api.PassStrength, strength.Run}, {api.PassNarrow, narrow.Run}}, simplify, []pass{{api.PassBalance, balance.Run}}, simplify)
}

// passes makes the passes that are chosen.
func (p *preparer) passes(chosen int) {
	for _, x := range order() {
		switch {
		case p.e != api.OK || chosen&x.bit == 0:
		case x.run == nil:
			p.convert()
		default:
			p.rewrite(x)
		}
	}
}

// convert converts branches with small sides, where limits permit.
func (p *preparer) convert() {
	f, moves, e := ifconvert.All(p.f, sideSize)
	if e == api.OK && len(moves) > 0 && loopsStay(f) {
		p.f = f
		p.stages = append(p.stages, api.Stage{Kind: api.StageConvert, Moves: moves})
	}
}

// loopsStay reports whether all loops that are to be pipelined are self loops.
func loopsStay(f api.Func) bool {
	_, some := pending(f)
	return !some
}

// rewrite makes a pass with a witness.
func (p *preparer) rewrite(x pass) {
	f, w := x.run(p.f)
	if !loopsStay(f) {
		f, w = p.withoutBranches(w)
	}
	if len(w.Rounds) > 0 {
		p.f = f
		p.stages = append(p.stages, api.Stage{Kind: api.StageRewrite, Pass: x.bit, Witness: w})
	}
}

// withoutBranches leaves the branches of pipelined loops that never end as they are: with a jump they would be no self loops. If the other steps need them, nothing is done.
func (p *preparer) withoutBranches(w api.Witness) (api.Func, api.Witness) {
	var kept api.Witness
	for _, r := range w.Rounds {
		r.Steps = slices.DeleteFunc(slices.Clone(r.Steps), func(s api.Step) bool {
			return s.Kind == api.StepBranch && s.Block < len(p.f.Blocks) && p.f.Blocks[s.Block].Pipeline != 0
		})
		if len(r.Steps) > 0 {
			kept.Rounds = append(kept.Rounds, r)
		}
	}
	f, e := rewrite.Check(p.f, kept)
	if e != api.OK || !loopsStay(f) {
		return p.f, api.Witness{}
	}
	return f, kept
}

// split divides arrays into banks, and reports whether there were some to divide.
func (p *preparer) split() bool {
	if p.e != api.OK || !slices.ContainsFunc(p.f.Arrays, func(a api.Array) bool { return a.Kind != api.Whole }) {
		return false
	}
	known := facts.Analyze(p.f)
	f, e := bank.Split(p.f, known)
	if e != api.OK {
		p.fail(0, e)
		return false
	}
	p.f = f
	p.stages = append(p.stages, api.Stage{Kind: api.StageSplit, Facts: known})
	return true
}
