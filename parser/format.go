package parser

import (
	"strconv"
	"strings"

	"jacquard/api"
	"jacquard/lexer"
)

// Levels of expressions beyond those of binary operators.
const (
	condLevel    = -1
	castLevel    = 9
	unaryLevel   = 10
	primaryLevel = 11
)

// writer collects a source.
type writer struct{ b strings.Builder }

// Format returns a source whose syntax tree is n: ErrForm if n is not the tree of a program, ErrLimit if the source is too long.
func Format(n api.Node) (string, api.Errno) {
	if !Valid(n) {
		return "", api.ErrForm
	}
	w := &writer{}
	for _, k := range n.Kids {
		w.routine(k)
	}
	if w.b.Len() > api.MaxSource {
		return "", api.ErrLimit
	}
	return w.b.String(), api.OK
}

func (w *writer) put(parts ...string) {
	for _, p := range parts {
		w.b.WriteString(p)
	}
}

func (w *writer) routine(n api.Node) {
	word := "fn "
	if n.Kind == api.NodeKernel {
		word = "kernel "
	}
	w.put(word, n.Name, "(")
	last := len(n.Kids) - 1
	for i, k := range n.Kids[:last] {
		if i > 0 {
			w.put(", ")
		}
		w.param(k)
	}
	w.put(") ")
	if n.Type.Width > 0 {
		w.put("-> ", lexer.TypeName(n.Type), " ")
	}
	w.block(n.Kids[last])
	w.put("\n")
}

func (w *writer) param(n api.Node) {
	w.put(n.Name, ": ")
	switch n.Kind {
	case api.NodeIn:
		w.put("in ")
	case api.NodeOut:
		w.put("out ")
	}
	w.put(lexer.TypeName(n.Type))
	if n.Kind != api.NodeArray {
		return
	}
	w.put("[", strconv.FormatUint(n.Num, 10), "]")
	switch n.Op {
	case api.Cyclic:
		w.put(" cyclic ", strconv.Itoa(n.Factor))
	case api.Blocks:
		w.put(" blocks ", strconv.Itoa(n.Factor))
	case api.Complete:
		w.put(" complete")
	}
}

func (w *writer) block(n api.Node) {
	w.put("{\n")
	for _, k := range n.Kids {
		w.statement(k)
		w.put("\n")
	}
	w.put("}")
}

func (w *writer) statement(n api.Node) {
	switch n.Kind {
	case api.NodeIf:
		w.branch(n)
		return
	case api.NodeFor, api.NodeWhile:
		w.loop(n)
		return
	case api.NodeVar, api.NodeLet:
		w.declaration(n)
	case api.NodeAssign:
		w.put(n.Name, " = ")
		w.expr(n.Kids[0], condLevel)
	case api.NodeStore:
		w.put(n.Name, "[")
		w.expr(n.Kids[0], condLevel)
		w.put("] = ")
		w.expr(n.Kids[1], condLevel)
	case api.NodeSend:
		w.put("send ", n.Name, "(")
		w.expr(n.Kids[0], condLevel)
		w.put(")")
	case api.NodeReturn:
		w.put("return ")
		w.expr(n.Kids[0], condLevel)
	}
	w.put(";")
}

func (w *writer) declaration(n api.Node) {
	word := "let "
	if n.Kind == api.NodeVar {
		word = "var "
	}
	w.put(word, n.Name)
	if n.Type.Width > 0 {
		w.put(": ", lexer.TypeName(n.Type))
	}
	if len(n.Kids) > 0 {
		w.put(" = ")
		w.expr(n.Kids[0], condLevel)
	}
}

func (w *writer) branch(n api.Node) {
	w.put("if ")
	w.expr(n.Kids[0], condLevel)
	w.put(" ")
	w.block(n.Kids[1])
	if len(n.Kids) < 3 {
		return
	}
	w.put(" else ")
	if n.Kids[2].Kind == api.NodeIf {
		w.branch(n.Kids[2])
	} else {
		w.block(n.Kids[2])
	}
}

// directive writes a directive that has a number, unless it is the number 1, which stands for none.
func (w *writer) directive(word string, number int) {
	switch {
	case number == 1:
		w.put("#", word, "\n")
	case number > 1:
		w.put("#", word, " ", strconv.Itoa(number), "\n")
	}
}

func (w *writer) loop(n api.Node) {
	w.directive("pipeline", n.Pipeline)
	w.directive("unroll", n.Unroll)
	if n.Kind == api.NodeWhile {
		w.put("while ")
		w.expr(n.Kids[0], condLevel)
	} else {
		w.put("for ", n.Name, ": ", lexer.TypeName(n.Type), " in ")
		w.expr(n.Kids[0], condLevel)
		w.put(" .. ")
		w.expr(n.Kids[1], condLevel)
	}
	w.put(" ")
	w.block(n.Kids[len(n.Kids)-1])
}

// find returns the text and the level of a binary operator.
func find(op int) (string, int) {
	for level, list := range levels {
		for _, o := range list {
			if o.op == op {
				return o.text, level
			}
		}
	}
	return "", 0
}

// levelOf returns how much the outermost operator of an expression binds.
func levelOf(n api.Node) int {
	switch n.Kind {
	case api.NodeCond:
		return condLevel
	case api.NodeBinary:
		_, level := find(n.Op)
		return level
	case api.NodeCast:
		return castLevel
	case api.NodeUnary:
		return unaryLevel
	}
	return primaryLevel
}

// expr writes an expression, in parentheses if it binds less than its place demands.
func (w *writer) expr(n api.Node, least int) {
	if levelOf(n) < least {
		w.put("(")
		w.expr(n, condLevel)
		w.put(")")
		return
	}
	switch n.Kind {
	case api.NodeNumber:
		w.number(n)
	case api.NodeName:
		w.put(n.Name)
	case api.NodeRecv:
		w.put("recv(", n.Name, ")")
	case api.NodeIndex:
		w.put(n.Name, "[")
		w.expr(n.Kids[0], condLevel)
		w.put("]")
	case api.NodeCall:
		w.call(n)
	case api.NodeUnary:
		w.put(prefixes[n.Op-api.SrcNeg].text)
		w.expr(n.Kids[0], unaryLevel)
	case api.NodeBinary:
		w.binary(n)
	case api.NodeCond:
		w.expr(n.Kids[0], 0)
		w.put(" ? ")
		w.expr(n.Kids[1], condLevel)
		w.put(" : ")
		w.expr(n.Kids[2], condLevel)
	case api.NodeCast:
		w.expr(n.Kids[0], castLevel)
		w.put(" as ", lexer.TypeName(n.Type))
	}
}

func (w *writer) number(n api.Node) {
	switch {
	case !isTruth(n):
		w.put(strconv.FormatUint(n.Num, 10))
	case n.Num == 1:
		w.put("true")
	default:
		w.put("false")
	}
}

func (w *writer) call(n api.Node) {
	w.put(n.Name, "(")
	for i, k := range n.Kids {
		if i > 0 {
			w.put(", ")
		}
		w.expr(k, condLevel)
	}
	w.put(")")
}

func (w *writer) binary(n api.Node) {
	text, level := find(n.Op)
	left := level
	if level == compareLevel {
		left++
	}
	w.expr(n.Kids[0], left)
	w.put(" ", text, " ")
	w.expr(n.Kids[1], level+1)
}
