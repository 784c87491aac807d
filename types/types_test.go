package types

import (
	"strings"
	"testing"

	"jacquard/api"
	"jacquard/parser"
)

func tree(t *testing.T, s string) api.Node {
	t.Helper()
	n, line, e := parser.Parse(s)
	if e != api.OK {
		t.Fatal(s, line, e)
	}
	return n
}

const frame = "fn f(a: u8) -> u8 { return a; } fn g(a: s8, b: u1) -> u8 { return 1; } kernel k(x: s8, y: u8, c: bool, a: u8[4], q: in u4, o: out u4) {\n"

func TestStatements(t *testing.T) {
	for _, s := range []string{
		"let b: s8 = x + 1 << 2;", "let b = 1 as u3;", "let b = recv(q) as u4;", "let b = a[3];", "let b = a[y];", "var b: u8; b = f(y) + 1;", "a[1] = y;", "send o(recv(q) + 1);",
		"let b = c ? y : 1;", "let b = c ? 1 : y;", "let b = 1 < y;", "let b = !c && true || false;", "for i: u8 in 0 .. y { let z = i; } let i = 1 as u2;", "while c { }", "#pipeline 256 #unroll 64 while c { }",
		"if c { var z: u8; } else if y == 3 { let z = 1 as u1; } else { }", "let f = y; let k = f(f);", "let b: u1 = 1;", "let b = -x;", "let b: u64 = 18446744073709551615;", "let b = (c ? 1 : 2) as u5;", "let b: s8 = 255;", "let b = (y as s16) as u4;", "let b = g(x, true);", "let b = g(-1, 1);", "let b = ~1 as u3;", "let w = 1 + (3 as u7);",
	} {
		n := tree(t, frame+s+"}")
		got, line, e := Check(n)
		if e != api.OK || line != 0 {
			t.Error(s, line, e)
			continue
		}
		again, _, e := Check(got)
		if e != api.OK || !parser.Same(again, got) || !Typed(got) || !parser.Same(parser.Bare(got), parser.Bare(n)) && !strings.Contains(s, "let") && !strings.Contains(s, "u1") {
			t.Error("again", s)
		}
	}
}

func TestErrors(t *testing.T) {
	for _, c := range []struct {
		s    string
		line int
		e    api.Errno
	}{
		{"let a = 1;", 2, api.ErrType}, {"let b =\n1;", 3, api.ErrType}, {"let b =\n1 < 2;", 3, api.ErrType}, {"let b: u3 =\n9;", 3, api.ErrType}, {"let b =\n9 as u3;", 3, api.ErrType}, {"var z: u8 = y +\nx;", 3, api.ErrType},
		{"let b =\nz;", 3, api.ErrName}, {"let b =\na;", 3, api.ErrName}, {"let b = y[0];", 2, api.ErrName}, {"let b = a[\nz];", 3, api.ErrName}, {"let b = z[\nw];", 2, api.ErrName}, {"let b = a[\nx];", 2, api.ErrType}, {"a[\nx] = y;", 2, api.ErrType}, {"a[0] =\nx;", 3, api.ErrType},
		{"let b = h(1);", 2, api.ErrName}, {"let b = k(1);", 2, api.ErrName}, {"let b = f(z, w);", 2, api.ErrType}, {"let b = f(\nx);", 3, api.ErrType}, {"let b = recv(o);", 2, api.ErrName}, {"let b = recv(y);", 2, api.ErrName}, {"send q(1);", 2, api.ErrName},
		{"y = 1;", 2, api.ErrName}, {"let b = y; b = 1;", 2, api.ErrName}, {"for i: u8 in 0 .. 3 { i = 1; }", 2, api.ErrName}, {"let y = 1 as u1;", 2, api.ErrName}, {"let b = y; if c { var b: u8; }", 2, api.ErrName}, {"for y: u8 in 0 .. 3 { }", 2, api.ErrName}, {"var b: u8 = b;", 2, api.ErrName}, {"if c { var b: u8; } b = 1;", 2, api.ErrName},
		{"if y { }", 2, api.ErrType}, {"if c { } else if\ny { }", 3, api.ErrType}, {"while\ny { }", 3, api.ErrType}, {"for i: u8 in 0 ..\nx { }", 3, api.ErrType}, {"#pipeline 257\nwhile y { }", 2, api.ErrLimit}, {"#unroll 65\nwhile c { }", 2, api.ErrLimit},
		{"return 1;", 2, api.ErrType}, {"if c { return y; }", 2, api.ErrType}, {"let b = c ? 1 : 2;", 2, api.ErrType}, {"let b = y ? 1 as u8 : 2;", 2, api.ErrType}, {"let b: u8 = y == 1;", 2, api.ErrType}, {"let b = !y;", 2, api.ErrType}, {"let b = c && y;", 2, api.ErrType}, {"let b = true + y;", 2, api.ErrType}, {"let b: u8 = true;", 2, api.ErrType},
		{"let b = 1 + 2 + x;\nlet d = y + x;", 3, api.ErrType}, {"let b: u8 = 256;", 2, api.ErrType}, {"let b = -1;", 2, api.ErrType}, {"let b = a[1 << 4294967296];", 2, api.ErrType},
	} {
		n, line, e := Check(tree(t, frame+c.s+"}"))
		if e != c.e || line != c.line || n.Kind != 0 {
			t.Error(c.s, line, e)
		}
		if Typed(tree(t, frame+c.s+"}")) {
			t.Error("typed", c.s)
		}
	}
}

func TestPrograms(t *testing.T) {
	many := ""
	for i := range 65 {
		many += ",a" + strings.Repeat("a", i%8) + strings.Repeat("b", i/8) + ": u8[1]"
	}
	for _, c := range []struct {
		s    string
		line int
		e    api.Errno
	}{
		{"fn f() -> u8 {\nreturn g(); }\nfn g() -> u8 { return\nf(); }\nkernel k() { }", 1, api.ErrRecursion},
		{"fn h() -> u8 { return f(); }\nfn f() -> u8 { return f(); } kernel k() { }", 2, api.ErrRecursion},
		{"kernel k() { }\nkernel l() { }", 2, api.ErrName}, {"fn f() -> u8 { return 1; }\nfn f() -> u8 { return 1; } kernel k() { }", 2, api.ErrName}, {"kernel k() { } fn f() -> u8 { return 1; }\nfn k() -> u8 { return 1; }", 2, api.ErrName},
		{"\nfn f() -> u8 { return 1; }", 2, api.ErrName}, {"", 1, api.ErrName},
		{"kernel k() -> u8 { }", 1, api.ErrType}, {"fn f() -> u8 { if true { return 1; } } kernel k() { }", 1, api.ErrType}, {"kernel k() -> u8 { return 1; return 2; }", 1, api.ErrType}, {"fn f() -> u8 { let x = 1 as u1; } kernel k() { }", 1, api.ErrType},
		{"kernel k(\na: u8[0]) { }", 2, api.ErrLimit}, {"kernel k(\na: u8[4097]) { }", 2, api.ErrLimit}, {"kernel k(a: u8[4] cyclic 5) { }", 1, api.ErrLimit}, {"kernel k(a: u8[400] blocks 65) { }", 1, api.ErrLimit}, {"kernel k(a: u8[4] cyclic 0) { }", 1, api.ErrLimit}, {"kernel k(a: u8[65] complete) { }", 1, api.ErrLimit},
		{"kernel k(a: u8,\na: u8) { }", 2, api.ErrName}, {"kernel k(a: u8,\na: u8[0]) { }", 2, api.ErrLimit}, {"kernel k(x: u8" + many + ") { }", 1, api.ErrLimit}, {"fn f(a: u8, a: u8) -> u8 { return a; } kernel k() { }", 1, api.ErrName},
	} {
		if _, line, e := Check(tree(t, c.s)); line != c.line || e != c.e {
			t.Errorf("%.80q: %d %d", c.s, line, e)
		}
	}
	for _, s := range []string{"kernel k() -> u8 { return 1; }", "kernel k(a: u8[4096] blocks 64, b: u8[64] complete, c: u1[1] cyclic 1) { }", "kernel k(x: u8" + strings.Replace(many, ",a: u8[1]", "", 1) + ") { }"} {
		if _, line, e := Check(tree(t, s)); e != api.OK {
			t.Errorf("%.80q: %d %d", s, line, e)
		}
	}
	if _, line, e := Check(api.Node{}); line != 0 || e != api.ErrForm {
		t.Error(line, e)
	}
}

func TestTypesOfExpressions(t *testing.T) {
	n, _, _ := Check(tree(t, frame+"let b: s8 = x + 1 << 2; let d = a[3]; let e = recv(q) as u9; let h = 1 < y; }"))
	k, ok := Kernel(n)
	if !ok {
		t.Fatal("Kernel")
	}
	block := k.Kids[6]
	s8 := api.Type{Width: 8, Signed: true}
	shift := block.Kids[0].Kids[0]
	if shift.Type != s8 || shift.Kids[0].Type != s8 || shift.Kids[1].Type != s8 || shift.Kids[0].Kids[1].Type != s8 {
		t.Error(shift)
	}
	if block.Kids[1].Type.Width != 8 || block.Kids[1].Kids[0].Kids[0].Type != (api.Type{Width: 32}) || block.Kids[2].Kids[0].Kids[0].Type.Width != 4 || block.Kids[2].Type.Width != 9 {
		t.Error(block)
	}
	if c := block.Kids[3].Kids[0]; c.Type.Width != 1 || c.Kids[0].Type.Width != 8 || c.Line != 2 {
		t.Error(c)
	}
	k.Kids[0].Name = "changed"
	if n.Kids[2].Kids[0].Name == "changed" {
		t.Error("Kernel shares memory")
	}
}

func TestFind(t *testing.T) {
	n := tree(t, frame+"} fn f() -> u1 { return 1; }")
	if _, ok := Function(n, "f"); ok {
		t.Error("two functions")
	}
	if g, ok := Function(n, "g"); !ok || g.Name != "g" {
		t.Error("g")
	}
	if _, ok := Function(n, "k"); ok {
		t.Error("a kernel is no function")
	}
	if k, ok := Kernel(tree(t, "kernel a() { } kernel b() { }")); ok || k.Kind != 0 {
		t.Error("two kernels")
	}
	one := api.Node{Kind: api.NodeNumber, Num: 1}
	unary := api.Node{Kind: api.NodeUnary, Op: api.SrcNeg, Kids: []api.Node{one}}
	for _, n := range []api.Node{one, unary, {Kind: api.NodeBinary, Op: api.SrcShr, Kids: []api.Node{one, unary}}, {Kind: api.NodeCond, Kids: []api.Node{{}, one, unary}}} {
		if !Open(n) {
			t.Error(n)
		}
	}
	for _, n := range []api.Node{{}, {Kind: api.NodeNumber, Type: api.Type{Width: 1}}, {Kind: api.NodeUnary, Op: api.SrcIsZero, Kids: []api.Node{one}}, {Kind: api.NodeUnary, Op: api.SrcNeg}, {Kind: api.NodeBinary, Op: api.SrcEq, Kids: []api.Node{one, one}}, {Kind: api.NodeBinary, Op: api.SrcAdd, Kids: []api.Node{one}}, {Kind: api.NodeCond, Kids: []api.Node{one, one}}, {Kind: api.NodeName, Name: "a"}} {
		if Open(n) {
			t.Error(n)
		}
	}
}
