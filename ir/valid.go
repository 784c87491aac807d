package ir

import (
	"math"

	"jacquard/api"
	"jacquard/bits"
)

// isIdentifier reports whether a text is an identifier.
func isIdentifier(s string) bool {
	if len(s) < 1 || len(s) > api.MaxName || s[0] >= '0' && s[0] <= '9' {
		return false
	}
	for i := range len(s) {
		c := s[i]
		if (c < 'a' || c > 'z') && (c < 'A' || c > 'Z') && (c < '0' || c > '9') && c != '_' {
			return false
		}
	}
	return true
}

func isWidth(w int) bool { return w >= 1 && w <= api.MaxWidth }

func areWidths(list []int) bool {
	for _, w := range list {
		if !isWidth(w) {
			return false
		}
	}
	return true
}

// Valid reports whether a function is well formed.
func Valid(f api.Func) bool {
	if !isIdentifier(f.Name) || len(f.Widths) > api.MaxValues || len(f.Rets) > api.MaxMems || len(f.Blocks) < 1 || len(f.Blocks) > api.MaxBlocks {
		return false
	}
	if !areWidths(f.Widths) || !areWidths(f.Rets) || !validPorts(f) {
		return false
	}
	c := &checker{f: f, owner: make([]int, len(f.Widths))}
	for b := range f.Blocks {
		if !c.define(b) {
			return false
		}
	}
	for b := range f.Blocks {
		if !c.block(b) {
			return false
		}
	}
	return true
}

// validPorts checks arrays and streams.
func validPorts(f api.Func) bool {
	if len(f.Arrays) > api.MaxMems || len(f.Streams) > api.MaxMems {
		return false
	}
	names := map[string]bool{}
	for _, a := range f.Arrays {
		if !isIdentifier(a.Name) || names[a.Name] || !isWidth(a.Width) || !validArray(a) {
			return false
		}
		names[a.Name] = true
	}
	for _, s := range f.Streams {
		if !isIdentifier(s.Name) || names[s.Name] || !isWidth(s.Width) {
			return false
		}
		names[s.Name] = true
	}
	return true
}

// validArray checks the length and the division of an array.
func validArray(a api.Array) bool {
	if a.Len < 1 || a.Len > api.MaxLen {
		return false
	}
	switch a.Kind {
	case api.Whole:
		return a.Factor == 0
	case api.Cyclic, api.Blocks:
		return a.Factor >= 1 && a.Factor <= min(a.Len, api.MaxBanks)
	case api.Complete:
		return a.Factor == 0 && a.Len <= api.MaxBanks
	}
	return false
}

// checker checks blocks. The owner of a value is 1 plus the number of the block in which it is visible at this point, and negative where it is only defined later.
type checker struct {
	f     api.Func
	owner []int
}

// own notes that a block defines a value.
func (c *checker) own(v, b int) bool {
	if v < 0 || v >= len(c.owner) || c.owner[v] != 0 {
		return false
	}
	c.owner[v] = -1 - b
	return true
}

// define finds the values of a block.
func (c *checker) define(b int) bool {
	block := &c.f.Blocks[b]
	if len(block.Insts) > api.MaxInsts {
		return false
	}
	for _, p := range block.Params {
		if !c.own(p, b) {
			return false
		}
	}
	for _, in := range block.Insts {
		if in.Op == api.OpStore || in.Op == api.OpSend {
			if in.Dest != -1 {
				return false
			}
		} else if !c.own(in.Dest, b) {
			return false
		}
	}
	return true
}

// sees reports whether all values of a list are visible in a block.
func (c *checker) sees(b int, list ...int) bool {
	for _, v := range list {
		if v < 0 || v >= len(c.owner) || c.owner[v] != b+1 {
			return false
		}
	}
	return true
}

func (c *checker) block(b int) bool {
	block := &c.f.Blocks[b]
	for _, p := range block.Params {
		c.owner[p] = b + 1
	}
	for i := range block.Insts {
		in := &block.Insts[i]
		if !c.sees(b, in.Args...) || !c.inst(in) {
			return false
		}
		if in.Dest >= 0 {
			c.owner[in.Dest] = b + 1
		}
	}
	if block.Pipeline < 0 || block.Pipeline > api.MaxII || block.Unroll < 0 || block.Unroll > api.MaxUnroll || block.Line < 0 || block.Line > math.MaxInt32 {
		return false
	}
	return c.term(b, block.Term)
}

// inst checks the operands of an instruction, which are visible, and its other fields.
func (c *checker) inst(in *api.Inst) bool {
	if len(in.Args) != Arity(in.Op) || in.Op != api.OpConst && in.Num != 0 {
		return false
	}
	if Pure(in.Op) {
		return in.Mem == 0 && c.pure(in)
	}
	var w [3]int
	for i, v := range in.Args {
		w[i] = c.f.Widths[v]
	}
	switch in.Op {
	case api.OpLoad, api.OpStore:
		if in.Mem < 0 || in.Mem >= len(c.f.Arrays) {
			return false
		}
		width := c.f.Arrays[in.Mem].Width
		if in.Op == api.OpLoad {
			return w[1] == 1 && c.f.Widths[in.Dest] == width
		}
		return w[1] == width && w[2] == 1
	}
	if in.Mem < 0 || in.Mem >= len(c.f.Streams) {
		return false
	}
	s := c.f.Streams[in.Mem]
	if in.Op == api.OpRecv {
		return !s.Out && w[0] == 1 && c.f.Widths[in.Dest] == s.Width
	}
	return s.Out && w[0] == s.Width && w[1] == 1
}

// pure checks the widths of a pure instruction.
func (c *checker) pure(in *api.Inst) bool {
	width := c.f.Widths[in.Dest]
	var w [3]int
	for i, v := range in.Args {
		w[i] = c.f.Widths[v]
	}
	switch in.Op {
	case api.OpConst:
		return in.Num <= bits.Mask(width)
	case api.OpSelect:
		return w[0] == 1 && w[1] == width && w[2] == width
	case api.OpZExt, api.OpSExt:
		return w[0] < width
	case api.OpTrunc:
		return w[0] > width
	}
	if bits.IsCompare(in.Op) {
		return w[0] == w[1] && width == 1
	}
	return w[0] == width && w[1] == width
}

// term checks the terminator of a block.
func (c *checker) term(b int, t api.Term) bool {
	edges := 0
	switch t.Kind {
	case api.Jump:
		edges = 1
	case api.Branch:
		edges = 2
		if !c.sees(b, t.Cond) || c.f.Widths[t.Cond] != 1 {
			return false
		}
	case api.Return:
		if len(t.Rets) != len(c.f.Rets) || !c.sees(b, t.Rets...) {
			return false
		}
		for i, v := range t.Rets {
			if c.f.Widths[v] != c.f.Rets[i] {
				return false
			}
		}
	default:
		return false
	}
	if t.Kind != api.Branch && t.Cond != -1 || t.Kind != api.Return && len(t.Rets) > 0 || len(t.To) != edges {
		return false
	}
	for _, e := range t.To {
		if !c.edge(b, e) {
			return false
		}
	}
	return true
}

// edge checks an edge of a block.
func (c *checker) edge(b int, e api.Edge) bool {
	if e.Block < 1 || e.Block >= len(c.f.Blocks) || !c.sees(b, e.Args...) {
		return false
	}
	params := c.f.Blocks[e.Block].Params
	if len(params) != len(e.Args) {
		return false
	}
	for i, p := range params {
		if c.f.Widths[p] != c.f.Widths[e.Args[i]] {
			return false
		}
	}
	return true
}
