package balance

import (
	"math/big"
	"math/rand"
	"strconv"
	"strings"
	"testing"

	"jacquard/api"
	"jacquard/bits"
	"jacquard/ir"
	"jacquard/rewrite"
	"jacquard/sample"
	"jacquard/sample/lowered"
	"jacquard/sample/verify"
)

// deepest returns the greatest depth of a used value of each block.
func deepest(f api.Func) []int {
	var l []int
	x := rewrite.Edit(f, nil)
	for b := range f.Blocks {
		t := &tree{x: x, b: b}
		m := 0
		depth := t.depths()
		for v := range x.Used(b) {
			m = max(m, depth[v])
		}
		l = append(l, m)
	}
	return l
}

// balanced decides the condition of the chapter.
func balanced(f api.Func) bool {
	x := rewrite.Edit(f, nil)
	for b := range f.Blocks {
		for _, v := range x.Values(b) {
			t := &tree{x: x, b: b}
			root := t.root(v)
			if root == nil {
				continue
			}
			depth := t.depths()
			sum := new(big.Int)
			for _, l := range t.leaves {
				sum.Add(sum, new(big.Int).Lsh(big.NewInt(1), uint(depth[l.v])))
			}
			least := 0
			for new(big.Int).Lsh(big.NewInt(1), uint(least)).Cmp(sum) < 0 {
				least++
			}
			if depth[v] != least {
				return false
			}
		}
	}
	return true
}

func check(t *testing.T, f api.Func, seed uint64) api.Func {
	t.Helper()
	g, wrong := verify.Pass(f, Run, seed, true)
	if wrong != "" || !balanced(g) {
		t.Fatal(seed, wrong, balanced(g))
	}
	before, after := deepest(f), deepest(g)
	for b := range before {
		if after[b] > before[b] || f.Blocks[b].Term.Kind != g.Blocks[b].Term.Kind {
			t.Fatal("deeper")
		}
	}
	if h, w := Run(g); !ir.Same(g, h) || len(w.Rounds) != 0 {
		t.Fatal("again")
	}
	return g
}

func TestSamples(t *testing.T) {
	for seed := range uint64(300) {
		check(t, lowered.Func(seed, sample.Shape{Loops: true, Streams: true, Arrays: true, Division: true, Statements: 7}), seed)
	}
}

// random returns a kernel with an expression of some operands, mostly with one operator.
func random(r *rand.Rand, n int) string {
	ops := []string{"+", "*", "&", "|", "^"}
	op := ops[r.Intn(5)]
	var expr func(n int) string
	expr = func(n int) string {
		if n == 1 {
			return []string{"x", "y", "z", "(x - y)", "((x - y) - z)", "7"}[r.Intn(6)]
		}
		k := 1 + r.Intn(n-1)
		if r.Intn(3) == 0 {
			k = n - 1
		}
		o := op
		if r.Intn(12) == 0 {
			o = ops[r.Intn(5)]
		}
		return "(" + expr(k) + o + expr(n-k) + ")"
	}
	return "kernel k(x: u8, y: u8, z: u8) -> u8 { let a = " + expr(n) + " + x; return a ^ " + expr(n) + "; }"
}

func TestTrees(t *testing.T) {
	r := rand.New(rand.NewSource(1))
	for i := range 300 {
		f := lowered.Source(random(r, 2+r.Intn(30)))
		if !ir.Valid(f) {
			t.Fatal("sample")
		}
		check(t, f, uint64(i))
	}
	for _, n := range []int{3, 4, 5, 63, 64, 65, 120, 180} {
		// Chains in both directions.
		f := lowered.Source("kernel k(x: u8, y: u8) -> u8 { return " + strings.Repeat("x ^ y ^ ", n/2) + "x; }")
		check(t, f, 1)
		g := check(t, lowered.Source("kernel k(x: u8, y: u8) -> u8 { return "+strings.Repeat("x + (", min(n, 150))+"y"+strings.Repeat(")", min(n, 150))+"; }"), 1)
		if d := deepest(g)[0]; d != bits.Length(uint64(min(n, 150))) {
			t.Error(n, d)
		}
	}
}

func TestExamples(t *testing.T) {
	for _, c := range []struct {
		s    string
		want int
	}{{"a + b + c + d", 2}, {"a + b + c + ((a - b) - c)", 3}, {"a + b - c + d", 3}, {"a * b * c * d * a", 3}} {
		g := check(t, lowered.Source("kernel k(a: u8, b: u8, c: u8, d: u8) -> u8 { return "+c.s+"; }"), 1)
		if d := deepest(g)[0]; d != c.want {
			t.Error(c.s, d)
		}
	}
	long := api.Func{Name: "f", Widths: []int{8, 8}, Rets: []int{8}, Blocks: []api.Block{{Params: []int{0, 1}}}}
	for v := range 255 {
		ir.Emit(&long, 0, api.Inst{Op: api.OpAdd, Args: []int{v & 1, max(v, 1) + min(v, 1)}}, 8)
	}
	long.Blocks[0].Insts[0].Args = []int{0, 1}
	for i := range long.Blocks[0].Insts[1:] {
		long.Blocks[0].Insts[i+1].Args[1] = i + 2
	}
	long.Blocks[0].Term = api.Term{Kind: api.Return, Cond: -1, Rets: []int{256}}
	if g := check(t, long, 1); deepest(g)[0] != 8 {
		t.Error(deepest(g))
	}
	if g, w := Run(api.Func{}); !ir.Same(g, api.Func{}) || w.Rounds != nil {
		t.Error("not valid")
	}
	f := lowered.Source("kernel k(a: u8) -> u8 { return a + a + a + a; }")
	for len(f.Widths) <= 4096 {
		f.Widths = append(f.Widths, 1)
	}
	if g, w := Run(f); !ir.Same(f, g) || w.Rounds != nil {
		t.Error("too large")
	}
	// Many great trees need more further values than there may be.
	many := "kernel k(x: u8, y: u8, o: out u8) {"
	for i := range 12 {
		many += "if x > " + strconv.Itoa(i) + " { send o(" + strings.Repeat("x * y + y * x + ", 30) + "x); } send o(" + strings.Repeat("x ^ y ^ ", 90) + "y); "
	}
	f = lowered.Source(many + "}")
	if len(f.Widths) > 4096 {
		t.Fatal(len(f.Widths))
	}
	if _, wrong := verify.Pass(f, Run, 1, true); wrong != "" {
		t.Error(wrong)
	}
}
