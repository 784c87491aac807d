package parser

import (
	"jacquard/api"
	"jacquard/lexer"
)

// reader reads tokens by the rules of the grammar; it is left by panic at the first wrong token.
type reader struct {
	tokens []api.Token
	at     int
}

// fail leaves the reader: the next token cannot stand there, or the last one is not the end of a program.
func (r *reader) fail() {
	switch {
	case r.at < len(r.tokens):
		panic(syntaxError{r.tokens[r.at].Line})
	case len(r.tokens) > 0:
		panic(syntaxError{r.tokens[len(r.tokens)-1].Line})
	}
	panic(syntaxError{1})
}

// peek returns the next token, a zero one at the end.
func (r *reader) peek() api.Token {
	if r.at < len(r.tokens) {
		return r.tokens[r.at]
	}
	return api.Token{}
}

// line returns the line of the next token.
func (r *reader) line() int {
	if r.at < len(r.tokens) {
		return r.tokens[r.at].Line
	}
	return 1
}

// sees reports whether the next token is a certain punctuation or keyword.
func (r *reader) sees(text string) bool {
	t := r.peek()
	return (t.Kind == api.TokenPunct || t.Kind == api.TokenKeyword) && t.Text == text
}

// accept reads a certain punctuation or keyword, if it is next.
func (r *reader) accept(text string) bool {
	if r.sees(text) {
		r.at++
		return true
	}
	return false
}

func (r *reader) expect(text string) {
	if !r.accept(text) {
		r.fail()
	}
}

func (r *reader) name() string {
	t := r.peek()
	if t.Kind != api.TokenName {
		r.fail()
	}
	r.at++
	return t.Text
}

func (r *reader) typeName() api.Type {
	t := r.peek()
	x, ok := lexer.Type(t.Text)
	if t.Kind != api.TokenKeyword || !ok {
		r.fail()
	}
	r.at++
	return x
}

// count reads a number of a directive, a length or a factor.
func (r *reader) count(least uint64) int {
	t := r.peek()
	if t.Kind != api.TokenNumber || t.Num < least || t.Num > maxCount {
		r.fail()
	}
	r.at++
	return int(t.Num)
}

func (r *reader) program() api.Node {
	n := api.Node{Kind: api.NodeProgram, Line: r.line()}
	for r.at < len(r.tokens) {
		switch {
		case r.sees("fn"):
			n.Kids = append(n.Kids, r.function())
		case r.sees("kernel"):
			n.Kids = append(n.Kids, r.kernel())
		default:
			r.fail()
		}
	}
	return n
}

// list reads elements in parentheses that are separated by commas.
func (r *reader) list(element func() api.Node) []api.Node {
	var l []api.Node
	r.expect("(")
	if r.accept(")") {
		return l
	}
	l = append(l, element())
	for r.accept(",") {
		l = append(l, element())
	}
	r.expect(")")
	return l
}

func (r *reader) function() api.Node {
	n := api.Node{Kind: api.NodeFunction, Line: r.line()}
	r.expect("fn")
	n.Name = r.name()
	n.Kids = r.list(r.scalar)
	r.expect("->")
	n.Type = r.typeName()
	n.Kids = append(n.Kids, r.block())
	return n
}

func (r *reader) scalar() api.Node {
	n := api.Node{Kind: api.NodeParam, Line: r.line()}
	n.Name = r.name()
	r.expect(":")
	n.Type = r.typeName()
	return n
}

func (r *reader) kernel() api.Node {
	n := api.Node{Kind: api.NodeKernel, Line: r.line()}
	r.expect("kernel")
	n.Name = r.name()
	n.Kids = r.list(r.param)
	if r.accept("->") {
		n.Type = r.typeName()
	}
	n.Kids = append(n.Kids, r.block())
	return n
}

func (r *reader) param() api.Node {
	n := api.Node{Kind: api.NodeParam, Line: r.line()}
	n.Name = r.name()
	r.expect(":")
	switch {
	case r.accept("in"):
		n.Kind = api.NodeIn
	case r.accept("out"):
		n.Kind = api.NodeOut
	}
	n.Type = r.typeName()
	if n.Kind == api.NodeParam && r.accept("[") {
		n.Kind = api.NodeArray
		n.Num = uint64(r.count(0))
		r.expect("]")
		n.Op, n.Factor = r.division()
	}
	return n
}

func (r *reader) division() (kind, factor int) {
	switch {
	case r.accept("cyclic"):
		return api.Cyclic, r.count(0)
	case r.accept("blocks"):
		return api.Blocks, r.count(0)
	case r.accept("complete"):
		return api.Complete, 0
	}
	return api.Whole, 0
}

func (r *reader) block() api.Node {
	n := api.Node{Kind: api.NodeBlock, Line: r.line()}
	r.expect("{")
	for !r.accept("}") {
		n.Kids = append(n.Kids, r.statement())
	}
	return n
}

func (r *reader) statement() api.Node {
	t := r.peek()
	switch {
	case t.Kind == api.TokenName:
		return r.change()
	case r.sees("var"):
		return r.variable()
	case r.sees("let"):
		return r.let()
	case r.sees("if"):
		return r.branch()
	case r.sees("#"), r.sees("for"), r.sees("while"):
		return r.loop()
	case r.sees("send"):
		return r.send()
	case r.sees("return"):
		return r.giveBack()
	}
	r.fail()
	return api.Node{}
}

// change reads an assignment or a store.
func (r *reader) change() api.Node {
	n := api.Node{Kind: api.NodeAssign, Line: r.line()}
	n.Name = r.name()
	if r.accept("[") {
		n.Kind = api.NodeStore
		n.Kids = append(n.Kids, r.expr())
		r.expect("]")
	}
	r.expect("=")
	n.Kids = append(n.Kids, r.expr())
	r.expect(";")
	return n
}

func (r *reader) variable() api.Node {
	n := api.Node{Kind: api.NodeVar, Line: r.line()}
	r.expect("var")
	n.Name = r.name()
	r.expect(":")
	n.Type = r.typeName()
	if r.accept("=") {
		n.Kids = append(n.Kids, r.expr())
	}
	r.expect(";")
	return n
}

func (r *reader) let() api.Node {
	n := api.Node{Kind: api.NodeLet, Line: r.line()}
	r.expect("let")
	n.Name = r.name()
	if r.accept(":") {
		n.Type = r.typeName()
	}
	r.expect("=")
	n.Kids = append(n.Kids, r.expr())
	r.expect(";")
	return n
}

func (r *reader) branch() api.Node {
	n := api.Node{Kind: api.NodeIf, Line: r.line()}
	r.expect("if")
	n.Kids = append(n.Kids, r.expr(), r.block())
	if r.accept("else") {
		if r.sees("if") {
			n.Kids = append(n.Kids, r.branch())
		} else {
			n.Kids = append(n.Kids, r.block())
		}
	}
	return n
}

// loop reads a loop with its directives.
func (r *reader) loop() api.Node {
	n := api.Node{Line: r.line()}
	for r.sees("#") {
		if n.Pipeline != 0 && n.Unroll != 0 {
			r.fail()
		}
		r.at++
		r.directive(&n)
	}
	switch {
	case r.accept("for"):
		n.Kind = api.NodeFor
		n.Name = r.name()
		r.expect(":")
		n.Type = r.typeName()
		r.expect("in")
		lower := r.expr()
		r.expect("..")
		n.Kids = append(n.Kids, lower, r.expr(), r.block())
	case r.accept("while"):
		n.Kind = api.NodeWhile
		n.Kids = append(n.Kids, r.expr(), r.block())
	default:
		r.fail()
	}
	return n
}

// directive reads the name and the number of a directive of a loop.
func (r *reader) directive(n *api.Node) {
	t := r.peek()
	var field *int
	least := uint64(1)
	switch {
	case t.Kind == api.TokenName && t.Text == "pipeline" && n.Pipeline == 0:
		field = &n.Pipeline
	case t.Kind == api.TokenName && t.Text == "unroll" && n.Unroll == 0:
		field, least = &n.Unroll, 2
	default:
		r.fail()
	}
	r.at++
	*field = 1
	if r.peek().Kind == api.TokenNumber {
		*field = r.count(least)
	}
}

func (r *reader) send() api.Node {
	n := api.Node{Kind: api.NodeSend, Line: r.line()}
	r.expect("send")
	n.Name = r.name()
	r.expect("(")
	n.Kids = append(n.Kids, r.expr())
	r.expect(")")
	r.expect(";")
	return n
}

func (r *reader) giveBack() api.Node {
	n := api.Node{Kind: api.NodeReturn, Line: r.line()}
	r.expect("return")
	n.Kids = append(n.Kids, r.expr())
	r.expect(";")
	return n
}

func (r *reader) expr() api.Node {
	line := r.line()
	n := r.binary(0)
	if !r.accept("?") {
		return n
	}
	yes := r.expr()
	r.expect(":")
	return api.Node{Kind: api.NodeCond, Line: line, Kids: []api.Node{n, yes, r.expr()}}
}

// operator reads an operator of a list, if one is next.
func (r *reader) operator(list []operator) (int, bool) {
	for _, o := range list {
		if r.accept(o.text) {
			return o.op, true
		}
	}
	return 0, false
}

// binary reads an expression whose operators bind at least as those of a level.
func (r *reader) binary(level int) api.Node {
	if level == len(levels) {
		return r.cast()
	}
	line := r.line()
	n := r.binary(level + 1)
	for {
		op, ok := r.operator(levels[level])
		if !ok {
			return n
		}
		n = api.Node{Kind: api.NodeBinary, Op: op, Line: line, Kids: []api.Node{n, r.binary(level + 1)}}
		if level == compareLevel {
			return n
		}
	}
}

func (r *reader) cast() api.Node {
	line := r.line()
	n := r.unary()
	for r.accept("as") {
		n = api.Node{Kind: api.NodeCast, Type: r.typeName(), Line: line, Kids: []api.Node{n}}
	}
	return n
}

func (r *reader) unary() api.Node {
	line := r.line()
	if op, ok := r.operator(prefixes); ok {
		return api.Node{Kind: api.NodeUnary, Op: op, Line: line, Kids: []api.Node{r.unary()}}
	}
	return r.primary()
}

func (r *reader) primary() api.Node {
	t := r.peek()
	n := api.Node{Line: r.line()}
	switch {
	case t.Kind == api.TokenNumber:
		r.at++
		n.Kind, n.Num = api.NodeNumber, t.Num
	case r.accept("true"):
		n.Kind, n.Num, n.Type = api.NodeNumber, 1, api.Type{Width: 1}
	case r.accept("false"):
		n.Kind, n.Type = api.NodeNumber, api.Type{Width: 1}
	case t.Kind == api.TokenName:
		return r.named(n)
	case r.accept("recv"):
		n.Kind = api.NodeRecv
		r.expect("(")
		n.Name = r.name()
		r.expect(")")
	case r.accept("("):
		n = r.expr()
		r.expect(")")
	default:
		r.fail()
	}
	return n
}

// named reads a name, a call or an element of an array.
func (r *reader) named(n api.Node) api.Node {
	n.Kind, n.Name = api.NodeName, r.name()
	switch {
	case r.sees("("):
		n.Kind, n.Kids = api.NodeCall, r.list(r.expr)
	case r.accept("["):
		n.Kind, n.Kids = api.NodeIndex, []api.Node{r.expr()}
		r.expect("]")
	}
	return n
}
