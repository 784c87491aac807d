package cutpoint

import (
	"slices"

	"jacquard/api"
)

// Interfaces reports whether the netlist and the function have the same inputs, arrays, streams and results.
func (e *Engine) Interfaces() bool {
	var ins, rets []int
	for _, p := range e.F.Blocks[0].Params {
		ins = append(ins, e.F.Widths[p])
	}
	for _, w := range e.N.Rets {
		rets = append(rets, e.N.Widths[w])
	}
	sameArray := func(a, b api.Array) bool { return a.Width == b.Width && a.Len == b.Len }
	sameStream := func(a, b api.Stream) bool { return a.Width == b.Width && a.Out == b.Out }
	return slices.Equal(e.N.Ins, ins) && slices.Equal(rets, e.F.Rets) &&
		slices.EqualFunc(e.N.Mems, e.F.Arrays, sameArray) && slices.EqualFunc(e.N.Streams, e.F.Streams, sameStream)
}

// Beginning returns what all places hold ahead of the first cycle.
func (e *Engine) Beginning() []api.Hold {
	var list []api.Hold
	for _, p := range e.Places() {
		h := api.Hold{Kind: api.HoldWord, Cell: p.Cell, Slot: p.Slot}
		if e.N.Cells[p.Cell].Kind == api.CellReg {
			h.Word = e.N.Cells[p.Cell].Num
		}
		list = append(list, h)
	}
	return list
}

// Candidates returns all Holds about words and past values that are true at the point to which a way leads.
func (m *Moment) Candidates(way api.Way) []api.Hold {
	// The past values of the point, by their terms.
	values := map[int][]spot{}
	to := way.To
	block := &m.e.F.Blocks[to.Block]
	for q := to.Lo; q <= to.Hi; q++ {
		note := func(v int) {
			if m.e.Past(to, v, q) {
				t := m.Target(way, v, q)
				values[t] = append(values[t], spot{v, q})
			}
		}
		for _, v := range block.Params {
			note(v)
		}
		for _, in := range block.Insts {
			if in.Dest >= 0 {
				note(in.Dest)
			}
		}
	}
	var list []api.Hold
	for _, p := range m.e.Places() {
		t := m.Gets(p.Cell, p.Slot)
		if n, ok := m.t.Word(t); ok {
			list = append(list, api.Hold{Kind: api.HoldWord, Cell: p.Cell, Slot: p.Slot, Word: n})
		}
		for _, x := range values[t] {
			if m.e.F.Widths[x.value] == p.Width {
				list = append(list, api.Hold{Kind: api.HoldValue, Cell: p.Cell, Slot: p.Slot, Value: x.value, Stage: x.stage})
			}
		}
	}
	return list
}

// Belongs reports whether a value is one of the block of a point, and has a width.
func (e *Engine) Belongs(p api.CutPoint, value, width int) bool {
	if value < 0 || value >= len(e.F.Widths) || e.F.Widths[value] != width {
		return false
	}
	block := &e.F.Blocks[p.Block]
	return slices.Contains(block.Params, value) || slices.ContainsFunc(block.Insts, func(in api.Inst) bool { return in.Dest == value })
}
