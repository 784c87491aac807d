package cutpoint

import (
	"slices"

	"jacquard/api"
	"jacquard/cycles"
	"jacquard/ir"
	"jacquard/symexec"
	"jacquard/term"
)

// Engine executes points of a netlist that belongs to a function with schedules of the right form.
type Engine struct {
	N      api.Netlist
	F      api.Func
	Scheds []api.Sched
	// The indices of parameters and of instructions, by their values.
	param, inst map[int]int
}

// New returns an engine.
func New(n api.Netlist, f api.Func, scheds []api.Sched) *Engine {
	e := &Engine{N: n, F: f, Scheds: scheds, param: map[int]int{}, inst: map[int]int{}}
	for _, block := range f.Blocks {
		for i, v := range block.Params {
			e.param[v] = i
		}
		for i, in := range block.Insts {
			if in.Dest >= 0 {
				e.inst[in.Dest] = i
			}
		}
	}
	return e
}

// Ready reports whether the schedules have a start for each instruction.
func (e *Engine) Ready() bool {
	for b, s := range e.Scheds {
		if len(s.Start) < len(e.F.Blocks[b].Insts) {
			return false
		}
	}
	return true
}

// Place is a place of a cell for a word: a register, the output of a memory, or a place of a unit.
type Place struct{ Cell, Slot, Width int }

// Places returns the places of a netlist.
func (e *Engine) Places() []Place {
	var list []Place
	for i, c := range e.N.Cells {
		switch c.Kind {
		case api.CellReg, api.CellRead:
			list = append(list, Place{i, 0, e.N.Widths[c.Out]})
		case api.CellUnit:
			for slot := range int(c.Num) {
				list = append(list, Place{i, slot, e.N.Widths[c.Out]})
			}
		}
	}
	return list
}

// spot is a value of the block of a point, in a stage.
type spot struct{ value, stage int }

// Kinds of symbols.
const (
	symValue = 1 + iota
	symPlace
	symScalar
	symOpen
	symData
	symRead
	symEnter
)

// number returns the number of a symbol.
func number(kind, a, b int) uint64 {
	return uint64(kind)<<56 | uint64(a)<<24 | uint64(b+1)
}

// Moment is a cycle at a point, under the assumption of a way.
type Moment struct {
	e      *Engine
	P      api.CutPoint
	t      *term.Table
	assume []api.Assume
	block  *api.Block
	self   int
	stages []int
	group  *groups
	terms  map[spot]int
	loads  []executed
	opens  []int
	data   []int
	state  api.SymState
	cycle  api.SymCycle
	reads  map[int]int
	enter  []int
	failed bool
}

// executed is a load that is executed at the point.
type executed struct {
	mem, predicate, index, result int
}

// keep returns a term, and notes that one could not be made.
func (m *Moment) keep(x int, e api.Errno) int {
	if e != api.OK {
		m.failed = true
	}
	return x
}

func (m *Moment) symbol(width, kind, a, b int) int {
	return m.keep(m.t.Symbol(width, number(kind, a, b)))
}

func (m *Moment) make(op, width int, args ...int) int { return m.keep(m.t.Make(op, width, args...)) }

func (m *Moment) word(width int, n uint64) int { return m.keep(m.t.Const(width, n)) }

// under returns a term under the assumption.
func (m *Moment) under(x int) int {
	for _, a := range m.assume {
		if a.Term == x {
			return m.word(m.t.Nodes[x].Width, a.Word)
		}
	}
	return x
}

// Run executes a cycle at a point, along a way (nil: none). It returns nil and true if the way is impossible, and nil and false if the terms are too many.
func (e *Engine) Run(p api.CutPoint, way *api.Way) (m *Moment, ok bool) {
	table := &term.Table{}
	if way != nil && way.Cond >= 0 {
		first := e.moment(p, table, nil)
		c := first.E(way.Cond, 0)
		if first.failed {
			return nil, false
		}
		n, known := table.Word(c)
		if known && (n == 1) != way.Truth {
			return nil, true
		}
		if known {
			return first, first.execute()
		}
		word := uint64(0)
		if way.Truth {
			word = 1
		}
		m = e.assumed(p, table, way.Cond, api.Assume{Term: c, Word: word})
		if m == nil {
			return nil, true
		}
	} else {
		m = e.moment(p, table, nil)
	}
	if !m.execute() {
		return nil, false
	}
	return m, true
}

// maxAssumptions limits how often a condition is assumed anew.
const maxAssumptions = 16

// assumed returns the terms of the values at a point where a condition is a word, nil if it cannot be that word. If another value on the way to the condition is the same term, the condition becomes a different one by the assumption; then that one is the word, too.
func (e *Engine) assumed(p api.CutPoint, table *term.Table, cond int, a api.Assume) *Moment {
	list := []api.Assume{a}
	for {
		m := e.moment(p, table, list)
		c := m.E(cond, 0)
		n, known := table.Word(c)
		if known && n != a.Word && !m.failed {
			return nil
		}
		if known || m.failed || len(list) == maxAssumptions {
			return m
		}
		list = append(list, api.Assume{Term: c, Word: a.Word})
	}
}

// moment returns the terms of the values at a point.
func (e *Engine) moment(p api.CutPoint, table *term.Table, assume []api.Assume) *Moment {
	m := &Moment{e: e, P: p, t: table, assume: assume, self: -1, terms: map[spot]int{}, reads: map[int]int{}}
	for s, x := range e.N.Streams {
		m.opens = append(m.opens, m.symbol(1, symOpen, s, 0))
		if x.Out {
			m.data = append(m.data, 0)
		} else {
			m.data = append(m.data, m.symbol(x.Width, symData, s, 0))
		}
	}
	if p.Kind == api.CutStart {
		return m
	}
	m.block = &e.F.Blocks[p.Block]
	m.self = cycles.Self(e.F, e.Scheds, p.Block)
	for q := p.Hi; q >= p.Lo; q-- {
		m.stages = append(m.stages, q)
	}
	if p.Kind == api.CutLoop && p.Lo == 0 {
		m.stages = append(m.stages, -1)
	}
	m.group = m.joined()
	for _, q := range m.stages {
		m.stage(q)
	}
	return m
}

// stage computes the terms of the values in a stage, but for those that are computed later: they are joined with no others, and few of them are asked for.
func (m *Moment) stage(q int) {
	for i, p := range m.block.Params {
		x := spot{p, q}
		switch {
		case m.known(x):
		case q == m.P.Hi:
			m.set(x, m.symbol(m.e.F.Widths[p], symValue, p, q))
		case m.past(x):
			m.set(x, m.E(m.argument(i), q+1))
		}
	}
	for i, in := range m.block.Insts {
		x := spot{in.Dest, q}
		if in.Dest < 0 || in.Op != api.OpConst && !m.Executed(i, q) && !m.past(x) {
			continue
		}
		natural := in.Op == api.OpConst || !m.known(x)
		if natural {
			m.set(x, m.natural(i, in, q))
		}
		if in.Op == api.OpLoad && m.Executed(i, q) {
			m.loads = append(m.loads, executed{in.Mem, m.E(in.Args[1], q), m.E(in.Args[0], q), m.E(in.Dest, q)})
		}
	}
}

// later returns the term of a value that has not been computed at the point.
func (m *Moment) later(value, stage int) int {
	x := spot{value, stage}
	if m.block != nil && slices.Contains(m.stages, stage) {
		if i, ok := m.e.inst[value]; ok && i < len(m.block.Insts) && m.block.Insts[i].Dest == value {
			m.set(x, m.natural(i, m.block.Insts[i], stage))
			return m.terms[x]
		}
		if i, ok := m.e.param[value]; ok && i < len(m.block.Params) && m.block.Params[i] == value && stage < m.P.Hi {
			m.set(x, m.E(m.argument(i), stage+1))
			return m.terms[x]
		}
	}
	m.failed = true
	return 0
}

// argument returns the argument for a parameter on the self edge.
func (m *Moment) argument(i int) int { return m.block.Term.To[m.self].Args[i] }

// set notes the term of a value in a stage, and of those that are joined with it.
func (m *Moment) set(x spot, t int) {
	m.terms[x] = m.under(t)
	m.group.first(x, m.terms[x])
}

// known reports whether the term of a value is told by those that are joined with it, and notes it then.
func (m *Moment) known(x spot) bool {
	if word, ok := m.group.word(x); ok {
		m.terms[x] = m.under(m.word(m.e.F.Widths[x.value], word))
		return true
	}
	if t, ok := m.group.term(x); ok {
		m.terms[x] = t
		return true
	}
	return false
}

// E returns the term of a value in a stage.
func (m *Moment) E(value, stage int) int {
	if t, ok := m.terms[spot{value, stage}]; ok {
		return t
	}
	return m.later(value, stage)
}

// Executed reports whether an instruction of an iteration in a stage is executed at the point.
func (m *Moment) Executed(i, q int) bool {
	return m.P.Kind != api.CutDone && m.e.Scheds[m.P.Block].Start[i] == Local(m.e.Scheds, m.P, q)
}

// natural returns the term of the result of an instruction, from those of its operands.
func (m *Moment) natural(i int, in api.Inst, q int) int {
	w := m.e.F.Widths[in.Dest]
	switch in.Op {
	case api.OpConst:
		return m.word(w, in.Num)
	case api.OpLoad:
		if m.Executed(i, q) {
			for _, x := range m.loads {
				if x.mem == in.Mem && x.predicate == m.E(in.Args[1], q) && m.sameIndex(x.index, m.E(in.Args[0], q)) {
					return x.result
				}
			}
		}
		return m.symbol(w, symValue, in.Dest, q)
	case api.OpRecv:
		if m.Executed(i, q) {
			return m.make(api.OpSelect, w, m.E(in.Args[0], q), m.data[in.Mem], m.word(w, 0))
		}
		return m.symbol(w, symValue, in.Dest, q)
	}
	var args [3]int
	for j, v := range in.Args {
		args[j] = m.E(v, q)
	}
	return m.make(in.Op, w, args[:len(in.Args)]...)
}

// sameIndex reports whether two indices are the same, where the one with fewer bits is extended.
func (m *Moment) sameIndex(a, b int) bool {
	return m.isIndex(a, b) || m.isIndex(b, a)
}

// isIndex reports whether an address is an index: the same term, or its extension.
func (m *Moment) isIndex(address, index int) bool {
	w, v := m.t.Nodes[address].Width, m.t.Nodes[index].Width
	if w > v {
		index = m.make(api.OpZExt, w, index)
	}
	return address == index
}

// execute executes the netlist; false if the terms are too many.
func (m *Moment) execute() bool {
	n := m.e.N
	s := api.SymState{Cells: make([]int, len(n.Cells)), Units: make([][]int, len(n.Cells)), Open: m.opens, Data: m.data}
	for i, w := range n.Ins {
		s.Scalars = append(s.Scalars, m.symbol(w, symScalar, i, 0))
	}
	says := m.says()
	for _, p := range m.e.Places() {
		t, ok := says[[2]int{p.Cell, p.Slot}]
		if !ok {
			t = m.symbol(p.Width, symPlace, p.Cell, p.Slot)
		}
		if n.Cells[p.Cell].Kind == api.CellUnit {
			s.Units[p.Cell] = append(s.Units[p.Cell], t)
		} else {
			s.Cells[p.Cell] = t
		}
	}
	m.state = s
	if m.failed {
		return false
	}
	var e api.Errno
	m.cycle, e = symexec.Wires(m.t, n, s, m.assume)
	if e != api.OK {
		return false
	}
	m.memories()
	return !m.failed
}

// says returns what the Holds say about places: the first word, or else the first past value, or else the first one.
func (m *Moment) says() map[[2]int]int {
	rank := map[[2]int]int{}
	list := map[[2]int]int{}
	for _, h := range m.P.Holds {
		place := [2]int{h.Cell, h.Slot}
		r := 1
		switch {
		case h.Kind == api.HoldWord:
			r = 3
		case m.past(spot{h.Value, h.Stage}):
			r = 2
		}
		if r <= rank[place] {
			continue
		}
		rank[place] = r
		if h.Kind == api.HoldWord {
			list[place] = m.word(m.e.N.Widths[m.e.N.Cells[h.Cell].Out], h.Word)
		} else {
			list[place] = m.E(h.Value, h.Stage)
		}
	}
	return list
}

// memories finds what the outputs of memories get.
func (m *Moment) memories() {
	for i, c := range m.e.N.Cells {
		if c.Kind != api.CellRead {
			continue
		}
		m.reads[i] = m.symbol(m.e.N.Widths[c.Out], symRead, i, 0)
		enable, address := m.cycle.Wires[c.Args[0]], m.cycle.Wires[c.Args[1]]
		m.each(func(k, q int, in api.Inst) bool {
			if in.Op != api.OpLoad || in.Mem != c.Mem || m.E(in.Args[1], q) != enable || !m.isIndex(address, m.E(in.Args[0], q)) {
				return true
			}
			m.reads[i] = m.E(in.Dest, q)
			return false
		})
	}
}

// each visits the instructions that are executed at the point, by ascending stages and then by index, as long as the visitor wants more.
func (m *Moment) each(visit func(k, q int, in api.Inst) bool) {
	if m.block == nil || m.P.Kind == api.CutDone {
		return
	}
	for q := m.P.Lo; q <= m.P.Hi; q++ {
		for k, in := range m.block.Insts {
			if m.Executed(k, q) && !visit(k, q, in) {
				return
			}
		}
	}
}

// past reports whether a value in a stage has been computed ahead of the cycle.
func (m *Moment) past(x spot) bool { return m.e.Past(m.P, x.value, x.stage) }

// Past reports whether a value of the block of a point, in a stage, has been computed ahead of the cycle of the point.
func (e *Engine) Past(p api.CutPoint, value, stage int) bool {
	if p.Kind == api.CutStart {
		return false
	}
	block := &e.F.Blocks[p.Block]
	for stage <= p.Hi {
		i, ok := e.param[value]
		if !ok {
			break
		}
		if stage == p.Hi {
			return true
		}
		self, _ := ir.SelfLoop(e.F, p.Block)
		value, stage = block.Term.To[self].Args[i], stage+1
	}
	i, ok := e.inst[value]
	if !ok || block.Insts[i].Op == api.OpConst {
		return false
	}
	return p.Kind == api.CutDone || e.Scheds[p.Block].Start[i] < Local(e.Scheds, p, stage)
}

// Gets returns what a place gets at the end of the cycle.
func (m *Moment) Gets(cell, slot int) int {
	switch m.e.N.Cells[cell].Kind {
	case api.CellUnit:
		return m.cycle.Units[cell][slot]
	case api.CellRead:
		return m.reads[cell]
	}
	return m.cycle.Cells[cell]
}

// Word returns the word of a term that is one, and true.
func (m *Moment) Word(t int) (uint64, bool) { return m.t.Word(t) }

// Target returns the term that a value in a stage has at the point to which a way leads.
func (m *Moment) Target(way api.Way, value, stage int) int {
	switch {
	case way.Edge >= 0 && !way.Shift, m.P.Kind == api.CutStart:
		return m.entered(way)[value]
	case way.Shift:
		return m.E(value, stage-1)
	}
	return m.E(value, stage)
}

// entered returns the terms of the values of a block that is entered: -1 for values of other blocks.
func (m *Moment) entered(way api.Way) []int {
	if m.enter != nil {
		return m.enter
	}
	f := m.e.F
	to := &f.Blocks[way.To.Block]
	var params []int
	for i := range to.Params {
		switch {
		case m.P.Kind == api.CutStart:
			params = append(params, m.state.Scalars[i])
		default:
			stage := 0
			if m.self >= 0 {
				stage = cycles.Stages(m.e.Scheds[m.P.Block]) - 1
			}
			params = append(params, m.E(m.block.Term.To[way.Edge].Args[i], stage))
		}
	}
	results := make([]int, len(to.Insts))
	for i, in := range to.Insts {
		if in.Op == api.OpLoad || in.Op == api.OpRecv {
			results[i] = m.symbol(f.Widths[in.Dest], symEnter, in.Dest, 0)
		}
	}
	list, e := symexec.Values(m.t, f, way.To.Block, params, results, m.assume)
	if e != api.OK {
		m.failed = true
		list = make([]int, len(f.Widths))
	}
	m.enter = list
	return list
}

// Failed reports whether a term could not be made.
func (m *Moment) Failed() bool { return m.failed }
