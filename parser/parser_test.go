package parser

import (
	"math/rand"
	"strings"
	"testing"

	"jacquard/api"
	"jacquard/lexer"
)

func parse(t *testing.T, s string) api.Node {
	t.Helper()
	n, line, e := Parse(s)
	if e != api.OK || line != 0 {
		t.Fatal(s, line, e)
	}
	return n
}

func value(t *testing.T, expr string) api.Node {
	t.Helper()
	n := parse(t, "kernel k() { x = "+expr+"; }")
	return n.Kids[0].Kids[0].Kids[0].Kids[0]
}

// shape writes an expression with all its parentheses.
func shape(n api.Node) string {
	switch n.Kind {
	case api.NodeNumber:
		return string(rune('0' + n.Num))
	case api.NodeUnary:
		return "(" + prefixes[n.Op-api.SrcNeg].text + shape(n.Kids[0]) + ")"
	case api.NodeBinary:
		text, _ := find(n.Op)
		return "(" + shape(n.Kids[0]) + text + shape(n.Kids[1]) + ")"
	case api.NodeCond:
		return "(" + shape(n.Kids[0]) + "?" + shape(n.Kids[1]) + ":" + shape(n.Kids[2]) + ")"
	case api.NodeCast:
		return "(" + shape(n.Kids[0]) + " as " + lexer.TypeName(n.Type) + ")"
	}
	return n.Name
}

func TestExpressions(t *testing.T) {
	for _, c := range [][2]string{
		{"a + b * -c as u8 << 1", "((a+(b*((-c) as u8)))<<1)"},
		{"a - b - c", "((a-b)-c)"}, {"a - (b - c)", "(a-(b-c))"}, {"a || b && c == d | e ^ f & g << h + i * j", "(a||(b&&(c==(d|(e^(f&(g<<(h+(i*j)))))))))"},
		{"a ? b : c ? d : e", "(a?b:(c?d:e))"}, {"a ? b ? 1 : 2 : c", "(a?(b?1:2):c)"}, {"--a", "(-(-a))"}, {"a as u8 as s8", "((a as u8) as s8)"}, {"!a == ~b", "((!a)==(~b))"},
		{"(a < b) < c", "((a<b)<c)"}, {"a < b && b < c", "((a<b)&&(b<c))"}, {"(a ? b : c) + 1", "((a?b:c)+1)"}, {"a % b / c", "((a%b)/c)"}, {"a >> b << c", "((a>>b)<<c)"}, {"a >= b", "(a>=b)"}, {"a <= b != c", ""},
	} {
		if c[1] == "" {
			if _, _, e := Parse("kernel k() { x = " + c[0] + "; }"); e != api.ErrSyntax {
				t.Error(c[0])
			}
			continue
		}
		if got := shape(value(t, c[0])); got != c[1] {
			t.Error(c[0], got)
		}
	}
	n := value(t, "true")
	if n.Num != 1 || n.Type != (api.Type{Width: 1}) || n.Kind != api.NodeNumber {
		t.Error(n)
	}
	if n = value(t, "f(a, q[2], recv(s))"); n.Kind != api.NodeCall || len(n.Kids) != 3 || n.Kids[1].Kind != api.NodeIndex || n.Kids[2].Kind != api.NodeRecv {
		t.Error(n)
	}
}

func TestDeclarations(t *testing.T) {
	n := parse(t, "kernel k(a: u8[4] cyclic 2, b: in u8, c: out s3, d: u1[9] blocks 3, e: bool[2] complete, f: s64, g: u8[1048576]) -> u5 { }")
	k := n.Kids[0]
	want := []api.Node{
		{Kind: api.NodeArray, Name: "a", Type: api.Type{Width: 8}, Num: 4, Op: api.Cyclic, Factor: 2},
		{Kind: api.NodeIn, Name: "b", Type: api.Type{Width: 8}},
		{Kind: api.NodeOut, Name: "c", Type: api.Type{Width: 3, Signed: true}},
		{Kind: api.NodeArray, Name: "d", Type: api.Type{Width: 1}, Num: 9, Op: api.Blocks, Factor: 3},
		{Kind: api.NodeArray, Name: "e", Type: api.Type{Width: 1}, Num: 2, Op: api.Complete},
		{Kind: api.NodeParam, Name: "f", Type: api.Type{Width: 64, Signed: true}},
		{Kind: api.NodeArray, Name: "g", Type: api.Type{Width: 8}, Num: 1048576},
		{Kind: api.NodeBlock},
	}
	if k.Kind != api.NodeKernel || k.Name != "k" || k.Type != (api.Type{Width: 5}) || len(k.Kids) != len(want) {
		t.Fatal(k)
	}
	for i := range want {
		if !Same(k.Kids[i], want[i]) {
			t.Error(i, k.Kids[i])
		}
	}
	n = parse(t, "fn f(a: u8) -> u8 { return a; } kernel k() { # unroll # pipeline 3 for i: u4 in 0 .. 3 { } #pipeline #unroll 2 while true { if a { } else if b { } else { } } }")
	b := n.Kids[1].Kids[0]
	if l := b.Kids[0]; l.Unroll != 1 || l.Pipeline != 3 || l.Kind != api.NodeFor || l.Name != "i" || len(l.Kids) != 3 {
		t.Error(l)
	}
	if l := b.Kids[1]; l.Unroll != 2 || l.Pipeline != 1 || l.Kind != api.NodeWhile || len(l.Kids[1].Kids[0].Kids) != 3 {
		t.Error(l)
	}
}

func TestLines(t *testing.T) {
	n := parse(t, "\nkernel\nk(\na: u8) {\n#\nunroll\nfor i: u8 in (\n(a +\n1) *\n2) .. -\n3 { } }")
	k := n.Kids[0]
	loop := k.Kids[1].Kids[0]
	if n.Line != 2 || k.Line != 2 || k.Kids[0].Line != 4 || k.Kids[1].Line != 4 || loop.Line != 5 {
		t.Error(n.Line, k.Line, loop.Line)
	}
	product := loop.Kids[0]
	if product.Line != 8 || product.Kids[0].Line != 8 || product.Kids[0].Kids[1].Line != 9 || product.Kids[1].Line != 10 || loop.Kids[1].Line != 10 || loop.Kids[1].Kids[0].Line != 11 {
		t.Error(product, loop.Kids[1])
	}
	if m := parse(t, ""); m.Line != 1 || m.Kind != api.NodeProgram {
		t.Error(m)
	}
	if m := parse(t, "\n // x"); m.Line != 1 {
		t.Error(m)
	}
}

func TestErrors(t *testing.T) {
	deep := strings.Repeat("(", 200)
	for _, c := range []struct {
		s    string
		line int
		e    api.Errno
	}{
		{"kernel k() {\nx = y\n}", 3, api.ErrSyntax}, {"\n\n$", 3, api.ErrSyntax}, {"kernel\nk\n", 2, api.ErrSyntax}, {"x", 1, api.ErrSyntax},
		{"kernel k() { # pipeline\n0 while a { } }", 2, api.ErrSyntax}, {"kernel k() { # unroll\n1 while a { } }", 2, api.ErrSyntax}, {"kernel k() { # unroll\n1048577 while a { } }", 2, api.ErrSyntax},
		{"kernel k() { # unroll #\nunroll while a { } }", 2, api.ErrSyntax}, {"kernel k() { # unroll # pipeline\n# \nunroll while a { } }", 2, api.ErrSyntax}, {"kernel k() { # unroll \nif a { } }", 2, api.ErrSyntax},
		{"kernel k(a: u8[1048577\n]) { }", 1, api.ErrSyntax}, {"kernel k(a: u8[\nx]) { }", 2, api.ErrSyntax}, {"fn f(a: in u8) -> u8 { }", 1, api.ErrSyntax}, {"fn f()\n{ }", 2, api.ErrSyntax}, {"kernel k(a: u8,\n) { }", 2, api.ErrSyntax},
		{"kernel k() { return\n; }", 2, api.ErrSyntax}, {"kernel k() { let in = 1; }", 1, api.ErrSyntax}, {"kernel k() { f(1); }", 1, api.ErrSyntax}, {"kernel k() { } }\n", 1, api.ErrSyntax},
		{"\n" + deep + "\n{", 3, api.ErrLimit}, {"]]" + deep + "[", 1, api.ErrLimit}, {strings.Repeat("\n", 5) + "18446744073709551616", 6, api.ErrLimit}, {strings.Repeat("\n", api.MaxSource+5), api.MaxSource + 1, api.ErrLimit},
		{"\nkernel k() { x = " + strings.Repeat("-", 300) + "1; }", 1, api.ErrLimit}, {"kernel k() { x = " + strings.Repeat("1+", 9999) + "1; }", 1, api.ErrLimit},
		{"kernel k() {" + strings.Repeat("x=1;", 9999) + "}", 1, api.ErrLimit},
	} {
		if n, line, e := Parse(c.s); line != c.line || e != c.e || !Same(n, api.Node{}) || n.Line != 0 {
			t.Errorf("%.60q: %d %d", c.s, line, e)
		}
	}
	for _, s := range []string{"kernel k() { } kernel k() { }", "kernel k() {" + strings.Repeat("x=1;", 9998) + "}", "kernel k(a: u8[0] cyclic 0) { }", "kernel k() { x = " + deep[:198] + "1" + strings.Repeat(")", 198) + "; }"} {
		if _, _, e := Parse(s); e != api.OK {
			t.Errorf("%.60q: %d", s, e)
		}
	}
}

// maker makes random valid trees.
type maker struct{ r *rand.Rand }

func (m maker) name() string { return []string{"a", "b", "pipeline", "unroll", "_x9"}[m.r.Intn(5)] }

func (m maker) typ() api.Type { return api.Type{Width: 1 + m.r.Intn(64), Signed: m.r.Intn(2) == 0} }

func (m maker) exprs(n, depth int) []api.Node {
	var l []api.Node
	for range n {
		l = append(l, m.expr(depth-1))
	}
	return l
}

func (m maker) expr(depth int) api.Node {
	k := m.r.Intn(10)
	if depth <= 0 {
		k = m.r.Intn(4)
	}
	switch k {
	case 0:
		return api.Node{Kind: api.NodeNumber, Num: m.r.Uint64()}
	case 1:
		return api.Node{Kind: api.NodeNumber, Num: uint64(m.r.Intn(2)), Type: api.Type{Width: 1}}
	case 2:
		return api.Node{Kind: api.NodeName, Name: m.name()}
	case 3:
		return api.Node{Kind: api.NodeRecv, Name: m.name()}
	case 4:
		return api.Node{Kind: api.NodeIndex, Name: m.name(), Kids: m.exprs(1, depth)}
	case 5:
		return api.Node{Kind: api.NodeCall, Name: m.name(), Kids: m.exprs(m.r.Intn(3), depth)}
	case 6:
		return api.Node{Kind: api.NodeUnary, Op: api.SrcNeg + m.r.Intn(3), Kids: m.exprs(1, depth)}
	case 7:
		return api.Node{Kind: api.NodeCond, Kids: m.exprs(3, depth)}
	case 8:
		return api.Node{Kind: api.NodeCast, Type: m.typ(), Kids: m.exprs(1, depth)}
	}
	return api.Node{Kind: api.NodeBinary, Op: api.SrcAdd + m.r.Intn(18), Kids: m.exprs(2, depth)}
}

func (m maker) block(depth int) api.Node {
	b := api.Node{Kind: api.NodeBlock}
	for range m.r.Intn(4) {
		b.Kids = append(b.Kids, m.statement(depth))
	}
	return b
}

func (m maker) statement(depth int) api.Node {
	k := m.r.Intn(9)
	if depth <= 0 {
		k = m.r.Intn(6)
	}
	switch k {
	case 0:
		return api.Node{Kind: api.NodeVar, Name: m.name(), Type: m.typ(), Kids: m.exprs(m.r.Intn(2), 4)}
	case 1:
		return api.Node{Kind: api.NodeLet, Name: m.name(), Type: []api.Type{{}, m.typ()}[m.r.Intn(2)], Kids: m.exprs(1, 4)}
	case 2:
		return api.Node{Kind: api.NodeAssign, Name: m.name(), Kids: m.exprs(1, 4)}
	case 3:
		return api.Node{Kind: api.NodeStore, Name: m.name(), Kids: m.exprs(2, 4)}
	case 4:
		return api.Node{Kind: api.NodeSend, Name: m.name(), Kids: m.exprs(1, 4)}
	case 5:
		return api.Node{Kind: api.NodeReturn, Kids: m.exprs(1, 4)}
	case 6:
		return m.branch(depth)
	case 7:
		n := api.Node{Kind: api.NodeFor, Name: m.name(), Type: m.typ(), Pipeline: m.r.Intn(4), Unroll: m.r.Intn(4), Kids: m.exprs(2, 3)}
		n.Kids = append(n.Kids, m.block(depth-1))
		return n
	}
	n := api.Node{Kind: api.NodeWhile, Pipeline: m.r.Intn(4), Unroll: m.r.Intn(4), Kids: m.exprs(1, 3)}
	n.Kids = append(n.Kids, m.block(depth-1))
	return n
}

func (m maker) branch(depth int) api.Node {
	n := api.Node{Kind: api.NodeIf, Kids: append(m.exprs(1, 3), m.block(depth-1))}
	switch m.r.Intn(3) {
	case 0:
		n.Kids = append(n.Kids, m.block(depth-1))
	case 1:
		n.Kids = append(n.Kids, m.branch(depth-1))
	}
	return n
}

func (m maker) program() api.Node {
	p := api.Node{Kind: api.NodeProgram}
	for range m.r.Intn(3) {
		n := api.Node{Kind: api.NodeFunction, Name: m.name(), Type: m.typ()}
		for range m.r.Intn(3) {
			n.Kids = append(n.Kids, api.Node{Kind: api.NodeParam, Name: m.name(), Type: m.typ()})
		}
		if m.r.Intn(2) == 0 {
			n.Kind = api.NodeKernel
			n.Type = []api.Type{{}, m.typ()}[m.r.Intn(2)]
			n.Kids = append(n.Kids, api.Node{Kind: api.NodeIn + m.r.Intn(2), Name: m.name(), Type: m.typ()},
				api.Node{Kind: api.NodeArray, Name: m.name(), Type: m.typ(), Num: 7, Op: api.Blocks, Factor: m.r.Intn(9)})
		}
		n.Kids = append(n.Kids, m.block(3))
		p.Kids = append(p.Kids, n)
	}
	return p
}

// spoil changes one node of a tree.
func spoil(r *rand.Rand, n *api.Node) {
	if len(n.Kids) > 0 && r.Intn(4) > 0 {
		spoil(r, &n.Kids[r.Intn(len(n.Kids))])
		return
	}
	switch r.Intn(9) {
	case 0:
		n.Kind = r.Intn(28)
	case 1:
		n.Name = []string{"", "x", "if", "9", "a b", "u8", strings.Repeat("a", 65)}[r.Intn(7)]
	case 2:
		n.Num = 5
	case 3:
		n.Type = api.Type{Width: r.Intn(70) - 2, Signed: true}
	case 4:
		n.Op = r.Intn(25) - 1
	case 5:
		n.Factor = r.Intn(5) - 1
	case 6:
		n.Pipeline = r.Intn(4) - 1
	case 7:
		n.Kids = append(n.Kids, api.Node{Kind: r.Intn(28), Name: "a"})
	case 8:
		n.Kids = nil
	}
}

func TestFormat(t *testing.T) {
	r := rand.New(rand.NewSource(3))
	m := maker{r}
	for range 3000 {
		n := m.program()
		s, e := Format(n)
		if !Valid(n) || e != api.OK {
			t.Fatal(n, e)
		}
		got := parse(t, s)
		if !Same(got, Bare(n)) {
			t.Fatal(s)
		}
		if again, _ := Format(got); again != s {
			t.Fatal(s)
		}
		tokens, _, _ := lexer.Lex(s)
		if !Same(parse(t, lexer.Join(tokens)), got) {
			t.Fatal("layout matters", s)
		}
		spoil(r, &n)
		s, e = Format(n)
		if (e == api.OK) != Valid(n) {
			t.Fatal("valid", n)
		}
		if e == api.OK && !Same(parse(t, s), Bare(n)) {
			t.Fatal("spoiled tree is accepted", n, s)
		}
	}
}

func TestTrees(t *testing.T) {
	n := api.Node{Kind: api.NodeBinary, Op: api.SrcAdd, Type: api.Type{Width: 3}, Line: 4, Kids: []api.Node{{Kind: api.NodeCast, Type: api.Type{Width: 4}, Kids: []api.Node{{Kind: api.NodeNumber, Type: api.Type{Width: 1}}}}, {Kind: api.NodeNumber, Num: 3, Type: api.Type{Width: 2}}}}
	b := Bare(n)
	if b.Line != 0 || b.Type.Width != 0 || b.Kids[0].Type.Width != 4 || b.Kids[0].Kids[0].Type.Width != 1 || b.Kids[1].Type.Width != 0 || n.Line != 4 {
		t.Error(b)
	}
	if Count(n) != 4 || Depth(n) != 3 || Count(api.Node{}) != 1 || Depth(api.Node{}) != 1 || Same(n, b) || Valid(api.Node{}) {
		t.Error("Count, Depth, Same")
	}
	if _, e := Format(api.Node{}); e != api.ErrForm {
		t.Error(e)
	}
	long := api.Node{Kind: api.NodeProgram}
	for range 6000 {
		long.Kids = append(long.Kids, api.Node{Kind: api.NodeKernel, Name: strings.Repeat("k", 20), Kids: []api.Node{{Kind: api.NodeBlock}}})
	}
	if s, e := Format(long); e != api.ErrLimit || s != "" {
		t.Error(e)
	}
	cyclic := api.Node{Kind: api.NodeProgram, Kids: make([]api.Node, 1)}
	cyclic.Kids[0] = cyclic
	if Valid(cyclic) {
		t.Error("a tree without end")
	}
}
