package rewrite

import (
	"slices"

	"jacquard/api"
	"jacquard/bits"
	"jacquard/ir"
	"jacquard/operator"
)

// Editor performs steps on a function of its own. Known has the facts that axioms may use, Steps the steps of the round, rounds the rounds before it.
type Editor struct {
	F      api.Func
	Known  []api.Fact
	Steps  []Step
	rounds []Round
	// For each value, the block that defines it (-1: none), and the index of the instruction, or -1 - p for parameter p.
	owner, place []int
	axioms       map[int]axiom
}

// Edit returns an editor of a copy of a valid function.
func Edit(f api.Func, known []api.Fact) *Editor {
	x := &Editor{F: ir.Clone(f), Known: known, axioms: axioms()}
	x.locate()
	return x
}

// Begin begins a round, with facts of the function as it is now.
func (x *Editor) Begin(known []api.Fact) {
	if len(x.Steps) > 0 {
		x.rounds = append(x.rounds, Round{Facts: x.Known, Steps: x.Steps})
	}
	x.Known, x.Steps = known, nil
}

// Witness ends the round, and returns the witness of all steps.
func (x *Editor) Witness() Witness {
	x.Begin(nil)
	return Witness{Rounds: x.rounds}
}

// Count returns the number of all steps.
func (x *Editor) Count() int {
	n := len(x.Steps)
	for _, r := range x.rounds {
		n += len(r.Steps)
	}
	return n
}

// Used reports which values are used in a block.
func (x *Editor) Used(block int) map[int]bool {
	used := map[int]bool{}
	note := func(list ...int) {
		for _, v := range list {
			used[v] = true
		}
	}
	b := &x.F.Blocks[block]
	for i := range b.Insts {
		note(b.Insts[i].Args...)
	}
	if b.Term.Cond >= 0 {
		note(b.Term.Cond)
	}
	for _, e := range b.Term.To {
		note(e.Args...)
	}
	note(b.Term.Rets...)
	return used
}

// Values returns the values of a block in their order: the parameters, then the results of the instructions.
func (x *Editor) Values(block int) []int {
	list := slices.Clone(x.F.Blocks[block].Params)
	for i := range x.F.Blocks[block].Insts {
		if v := x.F.Blocks[block].Insts[i].Dest; v >= 0 {
			list = append(list, v)
		}
	}
	return list
}

// Insert inserts an instruction with a result, and returns that; false if that is not possible.
func (x *Editor) Insert(block, at int, in api.Inst, width int) (int, bool) {
	in.Dest = len(x.F.Widths)
	return in.Dest, x.Do(Step{Kind: api.StepInsert, Block: block, At: at, Inst: in, Width: width})
}

// Redirect uses a value in place of another one.
func (x *Editor) Redirect(block, value, with, axiom int) bool {
	return x.Do(Step{Kind: api.StepRedirect, Block: block, Value: value, With: with, Axiom: axiom})
}

// TooLarge reports whether passes leave a function as it is because of its size.
func TooLarge(f api.Func) bool {
	return len(f.Widths) > 4096 || slices.ContainsFunc(f.Blocks, func(b api.Block) bool { return len(b.Insts) > 256 })
}

// locate finds where all values are defined.
func (x *Editor) locate() {
	x.owner = make([]int, len(x.F.Widths))
	x.place = make([]int, len(x.F.Widths))
	for v := range x.owner {
		x.owner[v] = -1
	}
	for b := range x.F.Blocks {
		x.locateBlock(b)
	}
}

// locateBlock finds where the values of a block are defined.
func (x *Editor) locateBlock(b int) {
	block := &x.F.Blocks[b]
	for i, p := range block.Params {
		x.owner[p], x.place[p] = b, -1-i
	}
	for i, in := range block.Insts {
		if in.Dest >= 0 {
			x.owner[in.Dest], x.place[in.Dest] = b, i
		}
	}
}

// Has reports whether a value is one of a block.
func (x *Editor) Has(block, v int) bool {
	return v >= 0 && v < len(x.owner) && x.owner[v] == block
}

// Param returns the index of the parameter that a value of a block is, and true.
func (x *Editor) Param(block, v int) (int, bool) {
	if !x.Has(block, v) || x.place[v] >= 0 {
		return 0, false
	}
	return -1 - x.place[v], true
}

// At returns the index of the instruction that defines a value of a block, -1 if none does.
func (x *Editor) At(block, v int) int {
	if !x.Has(block, v) || x.place[v] < 0 {
		return -1
	}
	return x.place[v]
}

// Def returns the instruction that defines a value of a block, a zero one if none does.
func (x *Editor) Def(block, v int) api.Inst {
	if i := x.At(block, v); i >= 0 {
		return x.F.Blocks[block].Insts[i]
	}
	return api.Inst{}
}

// Constant returns the word of a value of a block that is a constant, and true.
func (x *Editor) Constant(block, v int) (uint64, bool) {
	d := x.Def(block, v)
	return d.Num, d.Op == api.OpConst
}

// fact returns the fact of a value, and true if there is one.
func (x *Editor) fact(v int) (api.Fact, bool) {
	if v < 0 || v >= len(x.Known) {
		return api.Fact{}, false
	}
	return x.Known[v], true
}

// link is an edge: element Index of To in the terminator of block From.
type link struct{ from, index int }

// links returns the edges to a block, in order.
func (x *Editor) links(block int) []link {
	var list []link
	for b := range x.F.Blocks {
		for i, e := range x.F.Blocks[b].Term.To {
			if e.Block == block {
				list = append(list, link{b, i})
			}
		}
	}
	return list
}

// args returns the arguments of an edge.
func (x *Editor) args(l link) []int { return x.F.Blocks[l.from].Term.To[l.index].Args }

// Uses counts how often a value is used in a block, and returns the index of the first instruction that uses it (the number of instructions if none does).
func (x *Editor) Uses(block, v int) (count, first int) {
	b := &x.F.Blocks[block]
	first = len(b.Insts)
	for i := range b.Insts {
		for _, a := range b.Insts[i].Args {
			if a == v {
				count++
				first = min(first, i)
			}
		}
	}
	if b.Term.Cond == v {
		count++
	}
	for _, e := range b.Term.To {
		count += occurrences(e.Args, v)
	}
	return count + occurrences(b.Term.Rets, v), first
}

func occurrences(list []int, v int) int {
	n := 0
	for _, x := range list {
		if x == v {
			n++
		}
	}
	return n
}

// Do performs a step, and reports whether its conditions are satisfied.
func (x *Editor) Do(s Step) bool {
	if s.Block < 0 || s.Block >= len(x.F.Blocks) || !x.perform(s) {
		return false
	}
	s.Inst.Args = slices.Clone(s.Inst.Args)
	s.Args = slices.Clone(s.Args)
	x.Steps = append(x.Steps, s)
	return true
}

func (x *Editor) perform(s Step) bool {
	switch s.Kind {
	case api.StepInsert:
		return x.insert(s)
	case api.StepRemove:
		return x.remove(s)
	case api.StepRedirect:
		return x.redirect(s)
	case api.StepBranch:
		return x.branch(s)
	case api.StepAddParam:
		return x.addParam(s)
	case api.StepDropParam:
		return x.dropParam(s)
	case api.StepMerge:
		return x.merge(s)
	case api.StepDropBlock:
		return x.dropBlock(s)
	}
	return false
}

func (x *Editor) insert(s Step) bool {
	b := &x.F.Blocks[s.Block]
	n := len(x.F.Widths)
	if s.At < 0 || s.At > len(b.Insts) || len(b.Insts) >= api.MaxInsts || n >= api.MaxValues || !ir.Pure(s.Inst.Op) {
		return false
	}
	widths := make([]int, 0, 3)
	for _, v := range s.Inst.Args {
		if !x.Has(s.Block, v) || x.place[v] >= s.At {
			return false
		}
		widths = append(widths, x.F.Widths[v])
	}
	if !operator.Fits(s.Inst.Op, s.Width, widths) {
		return false
	}
	// Extensions and truncations have to change the width.
	if len(widths) == 1 && widths[0] == s.Width {
		return false
	}
	if s.Inst.Dest != n || s.Inst.Mem != 0 || s.Inst.Num > bits.Mask(s.Width) || s.Inst.Op != api.OpConst && s.Inst.Num != 0 {
		return false
	}
	in := s.Inst
	in.Args = slices.Clone(in.Args)
	x.F.Widths = append(x.F.Widths, s.Width)
	x.owner, x.place = append(x.owner, s.Block), append(x.place, s.At)
	b.Insts = slices.Insert(b.Insts, s.At, in)
	x.locateBlock(s.Block)
	return true
}

func (x *Editor) remove(s Step) bool {
	b := &x.F.Blocks[s.Block]
	if s.At < 0 || s.At >= len(b.Insts) {
		return false
	}
	in := b.Insts[s.At]
	if !ir.Pure(in.Op) && in.Op != api.OpLoad {
		if n, ok := x.Constant(s.Block, in.Args[len(in.Args)-1]); !ok || n != 0 {
			return false
		}
	}
	if in.Dest >= 0 {
		if count, _ := x.Uses(s.Block, in.Dest); count > 0 {
			return false
		}
		x.owner[in.Dest] = -1
	}
	b.Insts = slices.Delete(b.Insts, s.At, s.At+1)
	x.locateBlock(s.Block)
	return true
}

func (x *Editor) redirect(s Step) bool {
	if s.Value == s.With || !x.Equal(s.Block, s.Value, s.With, s.Axiom) {
		return false
	}
	if _, first := x.Uses(s.Block, s.Value); x.place[s.With] >= first {
		return false
	}
	b := &x.F.Blocks[s.Block]
	for i := range b.Insts {
		replace(b.Insts[i].Args, s.Value, s.With)
	}
	if b.Term.Cond == s.Value {
		b.Term.Cond = s.With
	}
	replace(b.Term.Rets, s.Value, s.With)
	for _, e := range b.Term.To {
		replace(e.Args, s.Value, s.With)
	}
	return true
}

func replace(list []int, v, with int) {
	for i, x := range list {
		if x == v {
			list[i] = with
		}
	}
}

// sameEdges reports whether both edges of a branch are equal.
func sameEdges(t api.Term) bool {
	return t.To[0].Block == t.To[1].Block && slices.Equal(t.To[0].Args, t.To[1].Args)
}

func (x *Editor) branch(s Step) bool {
	b := &x.F.Blocks[s.Block]
	if b.Term.Kind != api.Branch {
		return false
	}
	n, constant := x.Constant(s.Block, b.Term.Cond)
	same := sameEdges(b.Term)
	if !constant && !same {
		return false
	}
	keep := 1
	if same || n == 1 {
		keep = 0
	}
	loop := b.Term.To[0].Block == s.Block || b.Term.To[1].Block == s.Block
	b.Term = api.Term{Kind: api.Jump, Cond: -1, To: []api.Edge{b.Term.To[keep]}}
	if loop && b.Term.To[0].Block != s.Block {
		b.Pipeline, b.Unroll, b.Line = 0, 0, 0
	}
	return true
}

func (x *Editor) addParam(s Step) bool {
	links := x.links(s.Block)
	if s.Block == 0 || s.Width < 1 || s.Width > api.MaxWidth || len(x.F.Widths) >= api.MaxValues || len(s.Args) != len(links) {
		return false
	}
	for i, l := range links {
		if !x.Has(l.from, s.Args[i]) || x.F.Widths[s.Args[i]] != s.Width {
			return false
		}
	}
	b := &x.F.Blocks[s.Block]
	b.Params = append(b.Params, len(x.F.Widths))
	x.F.Widths = append(x.F.Widths, s.Width)
	x.owner, x.place = append(x.owner, s.Block), append(x.place, -len(b.Params))
	for i, l := range links {
		e := &x.F.Blocks[l.from].Term.To[l.index]
		e.Args = append(e.Args, s.Args[i])
	}
	return true
}

func (x *Editor) dropParam(s Step) bool {
	b := &x.F.Blocks[s.Block]
	if s.Block == 0 || s.At < 0 || s.At >= len(b.Params) {
		return false
	}
	if count, _ := x.Uses(s.Block, b.Params[s.At]); count > 0 {
		return false
	}
	x.owner[b.Params[s.At]] = -1
	b.Params = slices.Delete(b.Params, s.At, s.At+1)
	for _, l := range x.links(s.Block) {
		e := &x.F.Blocks[l.from].Term.To[l.index]
		e.Args = slices.Delete(e.Args, s.At, s.At+1)
	}
	x.locateBlock(s.Block)
	return true
}

func (x *Editor) merge(s Step) bool {
	b := &x.F.Blocks[s.Block]
	if b.Term.Kind != api.Jump {
		return false
	}
	to := b.Term.To[0]
	if to.Block == s.Block || to.Block == 0 || len(x.links(to.Block)) != 1 {
		return false
	}
	c := x.F.Blocks[to.Block]
	if len(b.Insts)+len(c.Insts) > api.MaxInsts {
		return false
	}
	with := map[int]int{}
	for i, p := range c.Params {
		with[p] = to.Args[i]
	}
	rename := func(list []int) {
		for i, v := range list {
			if w, ok := with[v]; ok {
				list[i] = w
			}
		}
	}
	for i := range c.Insts {
		rename(c.Insts[i].Args)
	}
	if w, ok := with[c.Term.Cond]; ok {
		c.Term.Cond = w
	}
	rename(c.Term.Rets)
	for i := range c.Term.To {
		rename(c.Term.To[i].Args)
	}
	b.Insts = append(b.Insts, c.Insts...)
	b.Term = c.Term
	x.cut(to.Block)
	return true
}

func (x *Editor) dropBlock(s Step) bool {
	if s.Block == 0 {
		return false
	}
	for _, l := range x.links(s.Block) {
		if l.from != s.Block {
			return false
		}
	}
	x.cut(s.Block)
	return true
}

// cut removes a block to which no edge leads.
func (x *Editor) cut(block int) {
	x.F.Blocks = slices.Delete(x.F.Blocks, block, block+1)
	for b := range x.F.Blocks {
		for i := range x.F.Blocks[b].Term.To {
			if e := &x.F.Blocks[b].Term.To[i]; e.Block > block {
				e.Block--
			}
		}
	}
	x.locate()
}

// Sweep removes the definition of a value that is not used, and then those of its operands.
func (x *Editor) Sweep(block, v int) {
	i := x.At(block, v)
	if i < 0 || !ir.Pure(x.F.Blocks[block].Insts[i].Op) {
		return
	}
	args := slices.Clone(x.F.Blocks[block].Insts[i].Args)
	if x.Do(Step{Kind: api.StepRemove, Block: block, At: i}) {
		for _, a := range args {
			x.Sweep(block, a)
		}
	}
}

// Copy returns an editor that goes on from here on its own.
func (x *Editor) Copy() *Editor {
	y := *x
	y.F = ir.Clone(x.F)
	y.Steps = slices.Clone(x.Steps)
	y.rounds = slices.Clone(x.rounds)
	y.owner, y.place = slices.Clone(x.owner), slices.Clone(x.place)
	return &y
}
