package parser

import (
	"jacquard/api"
	"jacquard/lexer"
)

// validator checks trees; nodes is the number of nodes that are still permitted.
type validator struct{ nodes int }

// enter counts a node, and reports whether the limits permit it.
func (v *validator) enter(level int) bool {
	v.nodes--
	return v.nodes >= 0 && level <= api.MaxNesting
}

// uses reports whether all fields are zero but those that a kind uses: a name, a type, and the Kids.
func uses(n api.Node, name, typed bool) bool {
	if name != isName(n.Name) || !name && n.Name != "" || typed != isType(n.Type) || !typed && n.Type != (api.Type{}) {
		return false
	}
	return n.Num == 0 && n.Op == 0 && n.Factor == 0 && n.Pipeline == 0 && n.Unroll == 0
}

// isName reports whether a text is a name of the source.
func isName(s string) bool {
	tokens, _, e := lexer.Lex(s)
	return e == api.OK && len(tokens) == 1 && tokens[0].Kind == api.TokenName && tokens[0].Text == s
}

func isType(t api.Type) bool { return lexer.TypeName(t) != "" }

func (v *validator) program(n api.Node, level int) bool {
	if !v.enter(level) || n.Kind != api.NodeProgram || !uses(n, false, false) {
		return false
	}
	for _, k := range n.Kids {
		if !v.routine(k, level+1) {
			return false
		}
	}
	return true
}

// routine checks a function or a kernel.
func (v *validator) routine(n api.Node, level int) bool {
	kernel := n.Kind == api.NodeKernel
	if !v.enter(level) || !kernel && n.Kind != api.NodeFunction || len(n.Kids) == 0 {
		return false
	}
	typed := !kernel || n.Type != api.Type{}
	if !uses(n, true, typed) {
		return false
	}
	last := len(n.Kids) - 1
	for _, k := range n.Kids[:last] {
		if !v.enter(level+1) || !validParam(k, kernel) {
			return false
		}
	}
	return v.block(n.Kids[last], level+1)
}

// validParam checks a parameter of a kernel or a function.
func validParam(n api.Node, kernel bool) bool {
	if len(n.Kids) != 0 {
		return false
	}
	switch n.Kind {
	case api.NodeParam:
	case api.NodeIn, api.NodeOut:
		if !kernel {
			return false
		}
	case api.NodeArray:
		if !kernel || n.Num > maxCount || !validDivision(n.Op, n.Factor) {
			return false
		}
		n.Num, n.Op, n.Factor = 0, 0, 0
	default:
		return false
	}
	return uses(n, true, true)
}

func validDivision(kind, factor int) bool {
	switch kind {
	case api.Whole, api.Complete:
		return factor == 0
	case api.Cyclic, api.Blocks:
		return factor >= 0 && factor <= maxCount
	}
	return false
}

func (v *validator) block(n api.Node, level int) bool {
	if !v.enter(level) || n.Kind != api.NodeBlock || !uses(n, false, false) {
		return false
	}
	for _, k := range n.Kids {
		if !v.statement(k, level+1) {
			return false
		}
	}
	return true
}

// exprs checks that a list consists of a number of expressions.
func (v *validator) exprs(list []api.Node, count, level int) bool {
	if len(list) != count {
		return false
	}
	for _, k := range list {
		if !v.expr(k, level) {
			return false
		}
	}
	return true
}

func (v *validator) statement(n api.Node, level int) bool {
	if n.Kind == api.NodeIf {
		return v.branch(n, level)
	}
	if !v.enter(level) {
		return false
	}
	switch n.Kind {
	case api.NodeVar:
		return uses(n, true, true) && v.exprs(n.Kids, min(len(n.Kids), 1), level+1)
	case api.NodeLet:
		return uses(n, true, n.Type != api.Type{}) && v.exprs(n.Kids, 1, level+1)
	case api.NodeAssign, api.NodeSend:
		return uses(n, true, false) && v.exprs(n.Kids, 1, level+1)
	case api.NodeStore:
		return uses(n, true, false) && v.exprs(n.Kids, 2, level+1)
	case api.NodeReturn:
		return uses(n, false, false) && v.exprs(n.Kids, 1, level+1)
	case api.NodeFor:
		return v.loop(n, 2, level)
	case api.NodeWhile:
		return v.loop(n, 1, level)
	}
	return false
}

// loop checks a loop that has a number of expressions ahead of its block.
func (v *validator) loop(n api.Node, count, level int) bool {
	for _, x := range [2]int{n.Pipeline, n.Unroll} {
		if x < 0 || x > maxCount {
			return false
		}
	}
	n.Pipeline, n.Unroll = 0, 0
	counts := n.Kind == api.NodeFor
	return uses(n, counts, counts) && len(n.Kids) == count+1 && v.exprs(n.Kids[:count], count, level+1) && v.block(n.Kids[count], level+1)
}

func (v *validator) branch(n api.Node, level int) bool {
	if !v.enter(level) || !uses(n, false, false) || len(n.Kids) < 2 || len(n.Kids) > 3 {
		return false
	}
	if !v.expr(n.Kids[0], level+1) || !v.block(n.Kids[1], level+1) {
		return false
	}
	switch {
	case len(n.Kids) == 2:
		return true
	case n.Kids[2].Kind == api.NodeIf:
		return v.branch(n.Kids[2], level+1)
	}
	return v.block(n.Kids[2], level+1)
}

func (v *validator) expr(n api.Node, level int) bool {
	if !v.enter(level) {
		return false
	}
	truth := isTruth(n)
	if n.Kind != api.NodeCast {
		n.Type = api.Type{}
	}
	switch n.Kind {
	case api.NodeNumber:
		ok := !truth || n.Num <= 1
		n.Num = 0
		return ok && uses(n, false, false) && len(n.Kids) == 0
	case api.NodeName, api.NodeRecv:
		return uses(n, true, false) && len(n.Kids) == 0
	case api.NodeIndex:
		return uses(n, true, false) && v.exprs(n.Kids, 1, level+1)
	case api.NodeCall:
		return uses(n, true, false) && v.exprs(n.Kids, len(n.Kids), level+1)
	case api.NodeUnary:
		return v.operation(n, api.SrcNeg, api.SrcIsZero, 1, level)
	case api.NodeBinary:
		return v.operation(n, api.SrcAdd, api.SrcEither, 2, level)
	case api.NodeCond:
		return uses(n, false, false) && v.exprs(n.Kids, 3, level+1)
	case api.NodeCast:
		return uses(n, false, true) && v.exprs(n.Kids, 1, level+1)
	}
	return false
}

// operation checks a node with an operator from first to last, and a number of operands.
func (v *validator) operation(n api.Node, first, last, count, level int) bool {
	if n.Op < first || n.Op > last {
		return false
	}
	n.Op = 0
	return uses(n, false, false) && v.exprs(n.Kids, count, level+1)
}
