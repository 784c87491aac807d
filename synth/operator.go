package synth

import (
	"jacquard/api"
	"jacquard/bits"
	"jacquard/library"
)

// maker collects gates; zero and one are constants, -1 as long as there is none.
type maker struct {
	gates     []api.Gate
	zero, one int
}

func newMaker() *maker { return &maker{zero: -1, one: -1} }

func (m *maker) add(kind, a, b int) int {
	m.gates = append(m.gates, api.Gate{Kind: kind, A: a, B: b})
	return len(m.gates) - 1
}

func (m *maker) in() int          { return m.add(api.GateIn, 0, 0) }
func (m *maker) not(a int) int    { return m.add(api.GateNot, a, 0) }
func (m *maker) and(a, b int) int { return m.add(api.GateAnd, a, b) }
func (m *maker) or(a, b int) int  { return m.add(api.GateOr, a, b) }
func (m *maker) xor(a, b int) int { return m.add(api.GateXor, a, b) }

// constant returns a gate with a value.
func (m *maker) constant(one bool) int {
	place, kind := &m.zero, api.GateZero
	if one {
		place, kind = &m.one, api.GateOne
	}
	if *place < 0 {
		*place = m.add(kind, 0, 0)
	}
	return *place
}

// inputs returns new inputs for the bits of a word.
func (m *maker) inputs(w int) []int {
	list := make([]int, w)
	for i := range w {
		list[i] = m.in()
	}
	return list
}

// word returns the bits of a constant.
func (m *maker) word(w int, n uint64) []int {
	list := make([]int, w)
	for i := range w {
		list[i] = m.constant(n>>i&1 == 1)
	}
	return list
}

// tree joins gates two by two.
func (m *maker) tree(kind int, list []int) int {
	switch len(list) {
	case 0:
		return m.constant(kind == api.GateAnd)
	case 1:
		return list[0]
	}
	half := (len(list) + 1) / 2
	// The greater half is no higher than the whole list may be: both have as many levels as their numbers.
	a := m.tree(kind, list[:half])
	return m.add(kind, a, m.tree(kind, list[half:]))
}

// inverse returns the inverses of gates.
func (m *maker) inverse(list []int) []int {
	out := make([]int, len(list))
	for i, a := range list {
		out[i] = m.not(a)
	}
	return out
}

// each joins the bits of two words.
func (m *maker) each(kind int, a, b []int) []int {
	out := make([]int, len(a))
	for i := range a {
		out[i] = m.add(kind, a[i], b[i])
	}
	return out
}

// carry says whether some bits generate a carry, and whether they hand one on.
type carry struct{ generate, propagate int }

// join returns the carry of bits that consist of a high and a low part.
func (m *maker) join(high, low carry) carry {
	return carry{m.or(high.generate, m.and(high.propagate, low.generate)), m.and(high.propagate, low.propagate)}
}

// prefixes returns the carries of the bits from the lowest one up to each one, in as many levels as a tree has.
func (m *maker) prefixes(list []carry) []carry {
	for distance := 1; distance < len(list); distance *= 2 {
		next := make([]carry, len(list))
		for i := range list {
			next[i] = list[i]
			if i >= distance {
				next[i] = m.join(list[i], list[i-distance])
			}
		}
		list = next
	}
	return list
}

// sum returns the sum of two words, with a carry into the lowest bit or not.
func (m *maker) sum(a, b []int, plusOne bool) []int {
	w := len(a)
	partial := m.each(api.GateXor, a, b)
	var list []carry
	for i := range w - 1 {
		list = append(list, carry{m.and(a[i], b[i]), partial[i]})
	}
	if plusOne && w > 1 {
		list[0].generate = m.or(a[0], b[0])
	}
	out := make([]int, w)
	out[0] = partial[0]
	if plusOne {
		out[0] = m.not(partial[0])
	}
	for i, c := range m.prefixes(list) {
		out[i+1] = m.xor(partial[i+1], c.generate)
	}
	return out
}

// less decides whether a word is less than another one: the highest bit that differs does.
func (m *maker) less(a, b []int) int {
	var list []carry
	for i := range a {
		inverse := m.not(a[i])
		list = append(list, carry{m.and(inverse, b[i]), m.or(inverse, b[i])})
	}
	for len(list) > 1 {
		var next []carry
		for i := 0; i+1 < len(list); i += 2 {
			next = append(next, m.join(list[i+1], list[i]))
		}
		if len(list)%2 == 1 {
			next = append(next, list[len(list)-1])
		}
		list = next
	}
	return list[0].generate
}

// choose returns a word if a gate is 1, and otherwise another one.
func (m *maker) choose(cond int, yes, no []int) []int {
	return m.either(cond, m.not(cond), yes, no)
}

// either returns a word if a gate is 1, and another one if its inverse is.
func (m *maker) either(cond, inverse int, yes, no []int) []int {
	out := make([]int, len(yes))
	for i := range yes {
		out[i] = m.or(m.and(cond, yes[i]), m.and(inverse, no[i]))
	}
	return out
}

// shift shifts a word by another one; bits that come in are fill.
func (m *maker) shift(op int, a, by []int) []int {
	w := len(a)
	levels := library.Levels(w)
	fill := -1
	if op == api.OpAShr {
		fill = a[w-1]
	}
	x := a
	for k := range levels {
		moved := make([]int, w)
		for i := range w {
			from := i + 1<<k
			if op == api.OpShl {
				from = i - 1<<k
			}
			switch {
			case from >= 0 && from < w:
				moved[i] = x[from]
			case fill >= 0:
				moved[i] = fill
			default:
				moved[i] = m.constant(false)
			}
		}
		x = m.choose(by[k], moved, x)
	}
	// A greater amount leaves nothing of the word.
	far := m.tree(api.GateOr, by[levels:])
	near := m.not(far)
	out := make([]int, w)
	for i := range w {
		out[i] = m.and(near, x[i])
		if fill >= 0 {
			out[i] = m.or(out[i], m.and(far, fill))
		}
	}
	return out
}

// operate returns the gates of the result of an operator.
func (m *maker) operate(op, width int, args [][]int) []int {
	a := args[0]
	switch op {
	case api.OpAnd, api.OpOr, api.OpXor:
		return m.each(api.GateAnd+op-api.OpAnd, a, args[1])
	case api.OpAdd:
		return m.sum(a, args[1], false)
	case api.OpSub:
		return m.sum(a, m.inverse(args[1]), true)
	case api.OpShl, api.OpLShr, api.OpAShr:
		return m.shift(op, a, args[1])
	case api.OpSelect:
		return m.choose(a[0], args[1], args[2])
	case api.OpZExt, api.OpSExt, api.OpTrunc:
		return m.extend(op, width, a)
	}
	return []int{m.compare(op, a, args[1])}
}

func (m *maker) extend(op, width int, a []int) []int {
	out := make([]int, width)
	for i := range width {
		switch {
		case i < len(a):
			out[i] = a[i]
		case op == api.OpSExt:
			out[i] = a[len(a)-1]
		default:
			out[i] = m.constant(false)
		}
	}
	return out
}

func (m *maker) compare(op int, a, b []int) int {
	top := len(a) - 1
	switch op {
	case api.OpEq:
		return m.not(m.tree(api.GateOr, m.each(api.GateXor, a, b)))
	case api.OpNe:
		return m.tree(api.GateOr, m.each(api.GateXor, a, b))
	case api.OpSLt, api.OpSLe:
		// With exchanged signs, signed words are ordered like unsigned ones.
		x, y := append([]int(nil), a...), append([]int(nil), b...)
		x[top], y[top] = b[top], a[top]
		a, b = x, y
	}
	if op == api.OpULt || op == api.OpSLt {
		return m.less(a, b)
	}
	return m.not(m.less(b, a))
}

// isOperator reports whether an operator is one of a CellOp.
func isOperator(op int) bool {
	return op >= api.OpAdd && op <= api.OpTrunc && op != api.OpMul && (op < api.OpUDiv || op > api.OpSRem)
}

// fits reports whether a CellOp can have arguments and a wire of some widths.
func fits(op int, widths []int, width int) bool {
	for _, w := range append([]int{width}, widths...) {
		if w < 1 || w > api.MaxWidth {
			return false
		}
	}
	n := len(widths)
	switch {
	case op == api.OpSelect:
		return n == 3 && widths[0] == 1 && widths[1] == width && widths[2] == width
	case op == api.OpZExt, op == api.OpSExt:
		return n == 1 && widths[0] <= width
	case op == api.OpTrunc:
		return n == 1 && widths[0] >= width
	case bits.IsCompare(op):
		return n == 2 && width == 1 && widths[0] == widths[1]
	}
	return n == 2 && widths[0] == width && widths[1] == width
}

// Operator returns the gates of a combinational operator: the gates GateIn are the bits of its arguments, argument by argument, the lowest bit first; out are the gates of its result: ErrArg, ErrWidth.
func Operator(op int, widths []int, width int) (l []api.Gate, out []int, e api.Errno) {
	switch {
	case !isOperator(op):
		return nil, nil, api.ErrArg
	case !fits(op, widths, width):
		return nil, nil, api.ErrWidth
	}
	m := newMaker()
	var args [][]int
	for _, w := range widths {
		args = append(args, m.inputs(w))
	}
	out = m.operate(op, width, args)
	return m.gates, out, api.OK
}
