package facts

import (
	"math/rand"
	"slices"
	"testing"

	"jacquard/api"
	"jacquard/bits"
	"jacquard/irexec"
	"jacquard/irtext"
	"jacquard/operator"
	"jacquard/sample"
	"jacquard/sample/lowered"
)

func function(t *testing.T, s string) api.Func {
	t.Helper()
	f, line, e := irtext.Parse(s)
	if e != api.OK {
		t.Fatal(line, e)
	}
	return f
}

const counter = `func f
widths 8 8 8 8 1 1
stream o out 8
rets
block 0 ( )
0 = const 0
jump 1 ( 0 )
block 1 ( 1 )
2 = const 1
3 = const 10
5 = const 1
send o 1 5
6 = add 1 2
4 = ult 6 3
branch 4 1 ( 6 ) 2 ( )
block 2 ( )
return
`

func TestCounter(t *testing.T) {
	s := "func f\nwidths 8 8 8 8 1 1 8\n" + counter[len("func f\nwidths 8 8 8 8 1 1\n"):]
	f := function(t, s)
	known := Analyze(f)
	if x := known[1]; x != (Fact{Zeros: 0xF0, Hi: 9, Most: 9}) {
		t.Error(x)
	}
	if x := known[6]; x.Lo != 1 || x.Hi != 10 || x.Least != 1 || x.Most != 10 {
		t.Error(x)
	}
	if Check(f, known) != api.OK {
		t.Error("Check")
	}
	known[1] = Fact{Zeros: 0xF8, Hi: 7, Most: 7}
	if Check(f, known) != api.ErrForm {
		t.Error("Check accepts a counter up to 7")
	}
	up, ok := Assume(f, 1, 1, Analyze(f))
	if !ok || up[6].Lo != 10 || up[6].Hi != 10 || up[1].Lo != 9 {
		t.Error(up[6], up[1])
	}
	for _, c := range [][2]int{{-1, 0}, {9, 0}, {1, 2}, {1, -1}, {2, 0}} {
		if l, ok := Assume(f, c[0], c[1], Analyze(f)); ok || l != nil {
			t.Error(c)
		}
	}
	if l, ok := Assume(f, 1, 0, nil); ok || l != nil || Analyze(api.Func{}) != nil || Check(api.Func{}, nil) != api.ErrForm {
		t.Error("wrong arguments")
	}
	if l, ok := Assume(f, 0, 0, Analyze(f)); !ok || !slices.Equal(l, Analyze(f)) {
		t.Error("jump")
	}
}

// check runs a function, and looks whether its facts hold.
func check(t *testing.T, f api.Func, known []Fact, seed uint64) {
	t.Helper()
	reachedBlocks, _ := reached(f, known)
	for i := range uint64(3) {
		visits, o, _ := irexec.Trace(f, sample.FuncEnv(seed*7+i, f), 500)
		for n, v := range visits {
			block := f.Blocks[v.Block]
			if !reachedBlocks[v.Block] {
				t.Fatal("a block is visited that is not reached")
			}
			starved := n == len(visits)-1 && o.Status == api.Starved
			for j, p := range block.Params {
				if !Contains(f.Widths[p], known[p], v.Params[j]) {
					t.Fatal("parameter", seed, v.Block, p, v.Params[j], known[p])
				}
			}
			for j, in := range block.Insts {
				if !starved && in.Dest >= 0 && !Contains(f.Widths[in.Dest], known[in.Dest], v.Results[j]) {
					t.Fatal("result", seed, v.Block, in, v.Results[j], known[in.Dest])
				}
			}
		}
	}
}

func TestSamples(t *testing.T) {
	for seed := range uint64(500) {
		f := lowered.Func(seed, sample.Shape{Loops: true, Nested: true, Streams: seed%2 == 0, Arrays: true, Division: true, Statements: 7})
		known := Analyze(f)
		if Check(f, known) != api.OK {
			t.Fatal("Check does not accept Analyze", seed)
		}
		check(t, f, known, seed)
		for b, block := range f.Blocks {
			for e := range block.Term.To {
				l, ok := Assume(f, b, e, known)
				if ok && len(l) != len(known) {
					t.Fatal(seed)
				}
			}
		}
	}
}

func randomFact(r *rand.Rand, w int) Fact {
	x := Top(w)
	a, b := bits.Fit(w, r.Uint64()), bits.Fit(w, r.Uint64())
	if r.Intn(2) == 0 {
		x.Lo, x.Hi = min(a, b), max(a, b)
	}
	if r.Intn(2) == 0 {
		c, d := bits.Signed(w, a), bits.Signed(w, b)
		x.Least, x.Most = min(c, d), max(c, d)
	}
	if r.Intn(2) == 0 {
		k := bits.Fit(w, r.Uint64())
		x.Zeros, x.Ones = k&^a, k&a
	}
	if r.Intn(8) == 0 {
		x = Of(w, a)
	}
	return x
}

func TestDomain(t *testing.T) {
	r := rand.New(rand.NewSource(1))
	w := 4
	for range 40000 {
		a, b := randomFact(r, w), randomFact(r, w)
		m, okMeet := Meet(w, a, b)
		s, okTight := Tighten(w, a)
		j := Join(a, b)
		op := api.OpAdd + r.Intn(19)
		width := w
		if bits.IsCompare(op) {
			width = 1
		}
		res := Apply(op, width, []int{w, w}, []Fact{a, b}, 0)
		if !Valid(w, a) || !Valid(width, res) || okMeet && !Valid(w, m) || okTight && !Leq(s, a) || !Leq(a, j) || !Leq(b, j) {
			t.Fatal(a, b, m, s, res)
		}
		for x := range uint64(16) {
			inA, inB := Contains(w, a, x), Contains(w, b, x)
			if inA && inB && (!okMeet || !Contains(w, m, x)) || inA && (!okTight || !Contains(w, s, x)) || (inA || inB) && !Contains(w, j, x) {
				t.Fatal(a, b, x)
			}
			for y := range uint64(16) {
				if inA && Contains(w, b, y) && !Contains(width, res, operator.Value(op, width, []int{w, w}, []uint64{x, y}, 0)) {
					t.Fatal(bits.Name(op), a, b, x, y, res)
				}
			}
		}
	}
	if Top(4) != (Fact{Hi: 15, Least: -8, Most: 7}) || Of(4, 9) != (Fact{Zeros: 6, Ones: 9, Lo: 9, Hi: 9, Least: -7, Most: -7}) || Top(0) != (Fact{}) {
		t.Error("Top, Of")
	}
	if x, ok := Tighten(4, Fact{Ones: 8, Hi: 15, Least: -8, Most: 7}); !ok || x != (Fact{Ones: 8, Lo: 8, Hi: 15, Least: -8, Most: -1}) {
		t.Error(x)
	}
	if x, ok := Tighten(4, Fact{Zeros: 1, Lo: 5, Hi: 6, Least: -8, Most: 7}); !ok || x.Ones != 4 || x.Zeros != 9 {
		t.Error(x)
	}
	if x, ok := Tighten(4, Fact{Ones: 8, Lo: 0, Hi: 7, Least: -8, Most: 7}); ok || x != (Fact{}) {
		t.Error(x)
	}
	if Apply(api.OpLoad, 4, []int{4, 1}, []Fact{Top(4), Top(1)}, 0) != Top(4) || Apply(api.OpAdd, 4, []int{4, 4}, []Fact{Top(4), {Lo: 3}}, 0) != Top(4) || Apply(api.OpConst, 4, nil, nil, 19) != Of(4, 3) {
		t.Error("Apply")
	}
}

// condition returns a function that branches on one instruction of its parameters.
func condition(w int, op int) api.Func {
	return api.Func{Name: "f", Widths: []int{w, w, 1}, Blocks: []api.Block{
		{Params: []int{0, 1}, Insts: []api.Inst{{Op: op, Dest: 2, Args: []int{0, 1}}}, Term: api.Term{Kind: api.Branch, Cond: 2, To: []api.Edge{{Block: 1}, {Block: 1}}}},
		{Term: api.Term{Kind: api.Return, Cond: -1}}}}
}

func TestAssume(t *testing.T) {
	r := rand.New(rand.NewSource(2))
	for range 20000 {
		w := 3
		op := api.OpEq + r.Intn(6)
		if r.Intn(3) == 0 {
			w, op = 1, []int{api.OpAnd, api.OpOr, api.OpXor, api.OpAdd, api.OpSub}[r.Intn(5)]
		}
		f := condition(w, op)
		known := []Fact{randomFact(r, w), randomFact(r, w), Top(1)}
		for edge := range 2 {
			l, ok := Assume(f, 0, edge, known)
			for x := range uint64(1) << w {
				for y := range uint64(1) << w {
					v, _ := bits.Binary(op, w, x, y)
					if !Contains(w, known[0], x) || !Contains(w, known[1], y) || v == uint64(edge) {
						continue
					}
					if !ok || !Contains(w, l[0], x) || !Contains(w, l[1], y) {
						t.Fatal(bits.Name(op), known, edge, x, y, l)
					}
				}
			}
		}
	}
	f := condition(8, api.OpULt)
	l, ok := Assume(f, 0, 0, []Fact{Top(8), {Lo: 3, Hi: 9, Least: -128, Most: 127}, Top(1)})
	if !ok || l[0].Hi != 8 || l[1].Lo != 3 || l[2] != Of(1, 1) {
		t.Error(l)
	}
	if _, ok := Assume(f, 0, 0, []Fact{Of(8, 9), Of(8, 9), Top(1)}); ok {
		t.Error("9 < 9")
	}
	f = condition(8, api.OpNe)
	l, ok = Assume(f, 0, 0, []Fact{Top(8), Of(8, 0), Top(1)})
	if !ok || l[0].Lo != 1 || l[0].Least != -128 {
		t.Error(l)
	}
}

func TestWidening(t *testing.T) {
	// A counter without a bound by constants, and a great one: both need thresholds to end.
	f := lowered.Source("kernel k(n: u32, o: out u32) -> u32 { var s: u32; for i: u32 in 0 .. 100000 { if i < n { s = s + 3; } send o(s); } return s; }")
	known := Analyze(f)
	if Check(f, known) != api.OK {
		t.Fatal("Check")
	}
	head := 0
	for b := range f.Blocks {
		if f.Blocks[b].Line > 0 {
			head = b
		}
	}
	i := f.Blocks[head].Params[2]
	if x := known[i]; x.Lo != 0 || x.Hi != 99999 {
		t.Error(x)
	}
	check(t, f, known, 1)
}
