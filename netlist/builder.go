package netlist

import (
	"slices"

	"jacquard/api"
	"jacquard/bits"
)

// Builder collects a netlist.
type Builder struct{ N api.Netlist }

// Edit returns a builder that goes on from a copy of a netlist.
func Edit(n api.Netlist) *Builder { return &Builder{clone(n)} }

// Wire adds a wire of a width and returns its number.
func (b *Builder) Wire(width int) int {
	b.N.Widths = append(b.N.Widths, width)
	return len(b.N.Widths) - 1
}

// Cell adds a cell.
func (b *Builder) Cell(c api.Cell) {
	c.Args = slices.Clone(c.Args)
	b.N.Cells = append(b.N.Cells, c)
}

// drive adds a cell that drives a new wire, and returns that.
func (b *Builder) drive(width int, c api.Cell) int {
	c.Out = b.Wire(width)
	b.Cell(c)
	return c.Out
}

// Const returns a wire that has a value.
func (b *Builder) Const(width int, value uint64) int {
	return b.drive(width, api.Cell{Kind: api.CellConst, Num: bits.Fit(width, value)})
}

// Op returns a wire with the result of a combinational operator.
func (b *Builder) Op(op, width int, args ...int) int {
	return b.drive(width, api.Cell{Kind: api.CellOp, Op: op, Args: args})
}

// Mux returns a wire that is driven by a multiplexer: args are selections and data, in turn.
func (b *Builder) Mux(width int, args ...int) int {
	return b.drive(width, api.Cell{Kind: api.CellMux, Args: args})
}

// Any returns a wire of width 1 that is 1 if one of some wires is: a constant 0 for none, the wire itself for one.
func (b *Builder) Any(wires ...int) int {
	switch len(wires) {
	case 0:
		return b.Const(1, 0)
	case 1:
		return wires[0]
	}
	var args []int
	for _, w := range wires {
		args = append(args, w, w)
	}
	return b.Mux(1, args...)
}

// All returns a wire of width 1 that is 1 if all of some wires are: a constant 1 for none, the wire itself for one.
func (b *Builder) All(wires ...int) int {
	switch len(wires) {
	case 0:
		return b.Const(1, 1)
	case 1:
		return wires[0]
	}
	half := len(wires) / 2
	low := b.All(wires[:half]...)
	return b.Op(api.OpAnd, 1, low, b.All(wires[half:]...))
}

// Not returns a wire of width 1 with the inverse of another one.
func (b *Builder) Not(wire int) int { return b.Op(api.OpXor, 1, wire, b.Const(1, 1)) }
