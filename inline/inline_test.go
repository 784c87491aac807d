package inline

import (
	"reflect"
	"slices"
	"strings"
	"testing"

	"jacquard/api"
	"jacquard/interp"
	"jacquard/parser"
	"jacquard/sample"
	"jacquard/types"
)

func program(t *testing.T, s string) api.Node {
	t.Helper()
	n, line, e := parser.Parse(s)
	if e == api.OK {
		n, line, e = types.Check(n)
	}
	if e != api.OK {
		t.Fatal(s, line, e)
	}
	return n
}

// loops lists the loops of a tree.
func loops(n api.Node) [][4]int {
	var l [][4]int
	if n.Kind == api.NodeFor || n.Kind == api.NodeWhile {
		l = append(l, [4]int{n.Kind, n.Pipeline, n.Unroll, n.Line})
	}
	for _, k := range n.Kids {
		l = append(l, loops(k)...)
	}
	return l
}

func compare(t *testing.T, n api.Node, seed uint64) {
	t.Helper()
	g, e := Inline(n)
	if e != api.OK {
		t.Fatal(e)
	}
	if !types.Typed(g) || len(g.Kids) != 1 || len(Calls(g)) != 0 {
		s, _ := parser.Format(g)
		t.Fatal("not a typed kernel without calls", s)
	}
	kernel, _ := types.Kernel(n)
	rest := loops(g)
	for _, l := range loops(kernel) {
		at := slices.Index(rest, l)
		if at < 0 {
			t.Fatal("a loop is missing", l)
		}
		rest = rest[at+1:]
	}
	for i := range uint64(4) {
		env := sample.KernelEnv(seed*10+i, kernel)
		want, _ := interp.Run(n, env, 5000)
		if want.Status == api.Fuel {
			continue
		}
		if got, e := interp.Run(g, env, 1000000); e != api.OK || !reflect.DeepEqual(got, want) {
			s, _ := parser.Format(n)
			d, _ := parser.Format(g)
			t.Fatal(s, d, env, want, got)
		}
	}
}

func TestSamples(t *testing.T) {
	for seed := range uint64(600) {
		compare(t, program(t, sample.Source(seed, sample.Shape{Calls: true, Loops: true, Nested: true, Streams: true, Arrays: true, Directives: true, Statements: 6})), seed)
	}
}

func TestPlaces(t *testing.T) {
	f := "fn h(a: u8) -> u8 { return a + 1; } fn f(a: u8, b: u8) -> u8 { var s: u8 = h(a); if a < b { var z: u8 = b; s = s + z; } else { var z: u16 = 3; s = z as u8; } for i: u8 in 0 .. h(2) { s = s + i; } while h(s) > 200 { s = s + 1; } return s - b; }\n"
	for i, s := range []string{
		"send o(recv(i) + f(recv(i), recv(i)) + recv(i));", "var t1: u8 = 3; while f(t1, recv(i)) > 9 { t1 = t1 + 1; send o(t1); }", "#pipeline 2\nwhile h(recv(i)) != 0 && recv(i) != 0 { #unroll\nfor j: u8 in 0 .. 2 { send o(j); } }",
		"if recv(i) > 3 { send o(1); } else if h(recv(i)) > 3 { send o(2); } else if h(recv(i)) > 2 { send o(h(3)); } else { send o(recv(i)); }", "a[recv(i)] = h(recv(i));", "for j: u8 in recv(i) & 3 .. h(recv(i)) & 7 { send o(f(j, h(j))); }",
		"send o(f(f(recv(i), 1), f(2, recv(i))));", "let x = recv(i); send o(true ? x : h(recv(i)));", "let x: bool = false && h(recv(i)) == 1; send o(x as u8);", "let x = -h(1); let y = a[h(recv(i))] + a[recv(i) & 7]; send o(x ^ y);",
	} {
		compare(t, program(t, f+"kernel k(a: u8[8], i: in u8, o: out u8) { "+s+" }"), uint64(i))
	}
}

func TestWithoutCalls(t *testing.T) {
	n := program(t, "fn f(a: u8) -> u8 { return a; } kernel k(x: u8) -> u8 { #pipeline\nwhile x < 3 { } return x; }")
	g, e := Inline(n)
	want := n
	want.Kids = want.Kids[1:]
	if e != api.OK || !parser.Same(g, want) {
		t.Error(e)
	}
	if g, e := Inline(api.Node{}); e != api.ErrForm || g.Kind != 0 {
		t.Error(e)
	}
}

func TestOrderAndWeight(t *testing.T) {
	n := program(t, "fn a(x: u8) -> u8 { return b(c(x)); } fn b(x: u8) -> u8 { return c(x); } fn c(x: u8) -> u8 { return x; } kernel k(x: u8) { while a(x) == 0 { } }")
	if l := Order(n); !slices.Equal(l, []string{"c", "b", "a"}) {
		t.Error(l)
	}
	if l := Calls(n); !slices.Equal(l, []string{"b", "c", "a"}) {
		t.Error(l)
	}
	// Blocks: c 3, b 2 + 2 + 1 + 3 = 8, a 2 + (2 + 8) + (2 + 3) + 1 = 18; the condition 1 + (2 + 18 + 1) + 1 = 23; the kernel 1 + 1 + 1 + (2 + 46 + 1).
	if w := Weight(n); w != 52 {
		t.Error(w)
	}
	if Order(api.Node{}) != nil || Weight(api.Node{}) != 0 {
		t.Error("not typed")
	}
	var b strings.Builder
	b.WriteString("fn f0(x: u8) -> u8 { return x; }")
	last := "f0"
	for i := range 60 {
		name := "f" + string(rune('1'+i%9)) + strings.Repeat("x", i/9)
		b.WriteString("fn " + name + "(x: u8) -> u8 { return " + last + "(x) + " + last + "(x); }")
		last = name
	}
	b.WriteString("kernel k(x: u8) -> u8 { return " + last + "(x); }")
	n = program(t, b.String())
	if Weight(n) != 1000000 {
		t.Error(Weight(n))
	}
	if _, e := Inline(n); e != api.ErrLimit {
		t.Error(e)
	}
}
