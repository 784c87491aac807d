package rewrite

import (
	"math/rand"
	"reflect"
	"strings"
	"testing"

	"jacquard/api"
	"jacquard/bits"
	"jacquard/facts"
	"jacquard/ir"
	"jacquard/irexec"
	"jacquard/irtext"
)

func function(t *testing.T, s string) api.Func {
	t.Helper()
	f, line, e := irtext.Parse(s)
	if e != api.OK {
		t.Fatal(s, line, e)
	}
	return f
}

// block makes a function of instructions that are separated by semicolons; values 0 and 1 are parameters.
func block(t *testing.T, widths, insts string) api.Func {
	t.Helper()
	return function(t, "func f\nwidths "+widths+"\nrets\nblock 0 ( 0 1 )\n"+strings.ReplaceAll(insts, "; ", "\n")+"\nreturn\n")
}

func TestAxioms(t *testing.T) {
	w8 := strings.Repeat("8 ", 10)
	for _, c := range []struct {
		axiom         int
		widths, insts string
		value, with   int
		want          bool
	}{
		{api.AxConst, w8, "2 = const 3; 3 = const 5; 4 = add 2 3; 5 = const 8", 4, 5, true}, {api.AxConst, w8, "2 = const 3; 3 = const 5; 4 = add 2 3; 5 = const 9", 4, 5, false}, {api.AxConst, w8, "2 = const 3; 3 = const 3", 2, 3, true}, {api.AxConst, w8, "2 = const 3; 4 = add 0 2; 5 = const 3", 4, 5, false},
		{api.AxSame, w8, "2 = add 0 1; 3 = add 0 1", 2, 3, true}, {api.AxSame, w8, "2 = add 0 1; 3 = add 1 0", 2, 3, false}, {api.AxCommute, w8, "2 = add 0 1; 3 = add 1 0", 2, 3, true}, {api.AxCommute, w8, "2 = sub 0 1; 3 = sub 1 0", 2, 3, false},
		{api.AxNeutral, w8, "2 = const 0; 3 = add 0 2", 3, 0, true}, {api.AxNeutral, w8, "2 = const 0; 3 = add 2 0", 3, 0, false}, {api.AxNeutral, w8, "2 = const 0; 3 = srem 0 2", 3, 0, true}, {api.AxNeutral, w8, "2 = const 1; 3 = sdiv 0 2", 3, 0, true}, {api.AxNeutral, w8, "2 = const 255; 3 = and 0 2", 3, 0, true}, {api.AxNeutral, w8, "2 = const 1; 3 = sub 0 2", 3, 0, false},
		{api.AxAbsorb, w8, "2 = const 0; 3 = mul 0 2", 3, 2, true}, {api.AxAbsorb, w8, "2 = const 1; 3 = urem 0 2; 4 = const 0", 3, 4, true}, {api.AxAbsorb, w8, "2 = const 8; 3 = shl 0 2; 4 = const 0", 3, 4, true}, {api.AxAbsorb, w8, "2 = const 7; 3 = shl 0 2; 4 = const 0", 3, 4, false}, {api.AxAbsorb, w8, "2 = const 0; 3 = udiv 0 2; 4 = const 255", 3, 4, true}, {api.AxAbsorb, "8 8 8 1 1", "2 = const 255; 3 = ule 0 2; 4 = const 1", 3, 4, true}, {api.AxAbsorb, "8 8 8 1 1", "2 = const 0; 3 = ult 0 2; 4 = const 0", 3, 4, true},
		{api.AxIdem, w8, "2 = or 0 0", 2, 0, true}, {api.AxIdem, w8, "2 = xor 0 0", 2, 0, false}, {api.AxSelf, w8, "2 = xor 0 0; 3 = const 0", 2, 3, true}, {api.AxSelf, "8 8 1 1", "2 = sle 0 0; 3 = const 1", 2, 3, true}, {api.AxSelf, "8 8 8 8", "2 = udiv 0 0; 3 = const 1", 2, 3, false},
		{api.AxSelect, "8 8 1 8", "2 = const 1; 3 = select 2 0 1", 3, 0, true}, {api.AxSelect, "8 8 1 8", "2 = const 0; 3 = select 2 0 1", 3, 1, true}, {api.AxSelect, "8 8 1 8", "2 = const 0; 3 = select 2 0 1", 3, 0, false}, {api.AxSelect, "8 8 1 8", "2 = eq 0 1; 3 = select 2 0 0", 3, 0, true}, {api.AxSelect, "1 8 1 1 1", "2 = const 1; 3 = const 0; 4 = select 0 2 3", 4, 0, true},
		{api.AxCast, "8 8 16 8", "2 = zext 0; 3 = trunc 2", 3, 0, true}, {api.AxCast, "8 8 16 12 12", "2 = sext 0; 3 = trunc 2; 4 = sext 0", 3, 4, true}, {api.AxCast, "8 8 16 12 12", "2 = sext 0; 3 = trunc 2; 4 = zext 0", 3, 4, false}, {api.AxCast, "8 8 16 4 4", "2 = sext 0; 3 = trunc 2; 4 = trunc 0", 3, 4, true}, {api.AxCast, "8 8 16 20 20", "2 = zext 0; 3 = sext 2; 4 = zext 0", 3, 4, true}, {api.AxCast, "8 8 16 20 20", "2 = sext 0; 3 = zext 2; 4 = zext 0", 3, 4, false}, {api.AxCast, "8 8 6 4 4", "2 = trunc 0; 3 = trunc 2; 4 = trunc 0", 3, 4, true},
		{api.AxAssoc, w8, "2 = const 9; 3 = add 0 1; 4 = add 3 2; 5 = add 1 2; 6 = add 0 5", 4, 6, true}, {api.AxAssoc, w8, "2 = const 9; 3 = add 0 1; 4 = add 3 2; 5 = add 1 2; 6 = add 0 5", 6, 4, true}, {api.AxAssoc, w8, "2 = const 9; 3 = sub 0 1; 4 = sub 3 2; 5 = sub 1 2; 6 = sub 0 5", 4, 6, false}, {api.AxDistrib, w8, "2 = const 9; 3 = sub 0 1; 4 = mul 3 2; 5 = mul 0 2; 6 = mul 1 2; 7 = sub 5 6", 4, 7, true},
		{api.AxNegate, w8, "2 = const 0; 3 = sub 0 1; 4 = sub 2 1; 5 = add 0 4", 3, 5, true}, {api.AxMulShift, w8, "2 = const 8; 3 = mul 0 2; 4 = const 3; 5 = shl 0 4", 3, 5, true}, {api.AxMulShift, w8, "2 = const 8; 3 = mul 0 2; 4 = const 3; 5 = shl 0 4", 5, 3, true}, {api.AxMulShift, w8, "2 = const 9; 3 = mul 0 2; 4 = const 3; 5 = shl 0 4", 3, 5, false}, {api.AxDivShift, w8, "2 = const 8; 3 = udiv 0 2; 4 = const 3; 5 = lshr 0 4", 3, 5, true}, {api.AxRemMask, w8, "2 = const 8; 3 = urem 0 2; 4 = const 7; 5 = and 0 4", 3, 5, true},
		{api.AxMulSplit, w8, "2 = const 7; 3 = mul 0 2; 4 = const 3; 5 = shl 0 4; 6 = sub 5 0", 3, 6, true}, {api.AxMulSplit, w8, "2 = const 7; 3 = mul 0 2; 4 = const 3; 5 = shl 0 4; 6 = add 5 0", 3, 6, false}, {api.AxMulSplit, w8, "2 = const 0; 3 = mul 0 2; 6 = sub 0 0", 3, 6, true},
		{api.AxDivMagic, "8 8 8 8 16 16 16 16 16 8", "2 = const 3; 3 = udiv 0 2; 4 = const 171; 5 = zext 0; 6 = mul 5 4; 7 = const 9; 8 = lshr 6 7; 9 = trunc 8", 3, 9, true}, {api.AxDivMagic, "8 8 8 8 16 16 16 16 16 8", "2 = const 3; 3 = udiv 0 2; 4 = const 170; 5 = zext 0; 6 = mul 5 4; 7 = const 9; 8 = lshr 6 7; 9 = trunc 8", 3, 9, false},
		{api.AxRemDiv, w8, "2 = srem 0 1; 3 = sdiv 0 1; 4 = mul 3 1; 5 = sub 0 4", 2, 5, true}, {api.AxRemDiv, w8, "2 = srem 0 1; 3 = udiv 0 1; 4 = mul 3 1; 5 = sub 0 4", 2, 5, false},
		{api.AxTrunc, "8 8 8 4 4 4 4", "2 = mul 0 1; 3 = trunc 2; 4 = trunc 0; 5 = trunc 1; 6 = mul 4 5", 3, 6, true}, {api.AxTrunc, "8 8 8 4 4 4 4", "2 = udiv 0 1; 3 = trunc 2; 4 = trunc 0; 5 = trunc 1; 6 = udiv 4 5", 3, 6, false}, {api.AxTrunc, "8 8 8 8 4 4 4 4", "2 = const 3; 3 = shl 0 2; 4 = trunc 3; 5 = trunc 0; 6 = const 3; 7 = shl 5 6", 4, 7, true}, {api.AxTrunc, "8 8 8 8 4 4 4 4", "2 = const 4; 3 = shl 0 2; 4 = trunc 3; 5 = trunc 0; 6 = const 4; 7 = shl 5 6", 4, 7, false},
		{api.AxInvert, "8 8 1 1 1 1", "2 = ult 0 1; 3 = const 1; 4 = xor 2 3; 5 = ule 1 0", 4, 5, true}, {api.AxInvert, "8 8 1 1 1 1", "2 = ult 0 1; 3 = const 1; 4 = xor 2 3; 5 = ule 0 1", 4, 5, false}, {api.AxInvert, "8 8 1 1 1 1", "2 = eq 0 1; 3 = const 1; 4 = xor 2 3; 5 = ne 0 1", 5, 4, true}, {api.AxShifts, w8, "2 = const 3; 3 = ashr 0 2; 4 = const 4; 5 = ashr 3 4; 6 = const 7; 7 = ashr 0 6", 5, 7, true}, {api.AxShifts, w8, "2 = const 4; 3 = shl 0 2; 4 = const 4; 5 = shl 3 4; 6 = const 8; 7 = shl 0 6", 5, 7, false},
		{api.AxFactConst, w8, "2 = const 3; 3 = and 0 2; 4 = const 4; 5 = and 3 4; 6 = const 0", 5, 6, true}, {api.AxFactCast, "8 8 8 8 4 8", "2 = const 15; 3 = and 0 2; 4 = trunc 3; 5 = zext 4", 5, 3, true}, {api.AxFactCast, "8 8 8 8 4 8", "2 = const 15; 3 = and 0 2; 4 = trunc 3; 5 = sext 4", 5, 3, false}, {api.AxFactMask, w8, "2 = const 15; 3 = and 0 2; 4 = const 31; 5 = and 3 4", 5, 3, true}, {api.AxFactMask, w8, "2 = const 15; 3 = and 0 2; 4 = const 29; 5 = and 3 4", 5, 3, false}, {api.AxFactRem, w8, "2 = const 15; 3 = and 0 2; 4 = const 16; 5 = urem 3 4", 5, 3, true}, {api.AxFactRem, w8, "2 = const 15; 3 = and 0 2; 4 = const 15; 5 = urem 3 4", 5, 3, false},
		{api.AxFactSign, w8, "2 = const 15; 3 = and 0 2; 4 = and 1 2; 5 = sdiv 3 4; 6 = udiv 3 4", 5, 6, true}, {api.AxFactSign, w8, "2 = const 15; 3 = and 0 2; 5 = sdiv 3 1; 6 = udiv 3 1", 5, 6, false}, {api.AxFactSign, w8, "2 = const 15; 3 = and 0 2; 5 = ashr 3 1; 6 = lshr 3 1", 6, 5, true},
		{api.AxFactWide, "8 8 8 8 8 8 5 5 5 8", "2 = const 15; 3 = and 0 2; 4 = and 1 2; 5 = add 3 4; 6 = trunc 3; 7 = trunc 4; 8 = add 6 7; 9 = zext 8", 5, 9, true}, {api.AxFactWide, "8 8 8 8 8 8 4 4 4 8", "2 = const 15; 3 = and 0 2; 4 = and 1 2; 5 = add 3 4; 6 = trunc 3; 7 = trunc 4; 8 = add 6 7; 9 = zext 8", 5, 9, false}, {api.AxFactWide, "8 8 8 8 8 1 4 4 1", "2 = const 15; 3 = and 0 2; 4 = and 1 2; 5 = ult 3 4; 6 = trunc 3; 7 = trunc 4; 8 = ult 6 7", 5, 8, true}, {api.AxFactWide, "8 8 8 8 8 1 4 4 1", "2 = const 15; 3 = and 0 2; 4 = and 1 2; 5 = slt 3 4; 6 = trunc 3; 7 = trunc 4; 8 = slt 6 7", 5, 8, false},
		{api.AxFactWide, "8 8 8 8 8 8 4 4 4 8", "2 = const 15; 3 = and 0 2; 4 = and 1 2; 5 = udiv 3 4; 6 = trunc 3; 7 = trunc 4; 8 = udiv 6 7; 9 = zext 8", 5, 9, false}, {api.AxFactWide, "8 8 8 8 8 8 4 4 4 8", "2 = const 15; 3 = and 0 2; 4 = and 1 2; 5 = urem 3 4; 6 = trunc 3; 7 = trunc 4; 8 = urem 6 7; 9 = zext 8", 5, 9, true},
		{0, w8, "2 = add 0 1; 3 = add 0 1", 2, 3, false}, {99, w8, "2 = add 0 1; 3 = add 0 1", 2, 3, false}, {api.AxSame, "8 8 1 2", "2 = const 1; 3 = const 1", 2, 3, false}, {api.AxSame, w8, "2 = const 1; 3 = const 1", 2, 9, false}, {api.AxSame, w8, "2 = const 1; 3 = const 1", -1, 3, false},
	} {
		f := block(t, strings.TrimSpace(c.widths), c.insts)
		known := facts.Analyze(f)
		if got := Equal(f, 0, c.value, c.with, c.axiom, known); got != c.want {
			t.Error(c.axiom, c.insts, got)
		}
		if strings.Contains(c.insts, "15") && c.want && Equal(f, 0, c.value, c.with, c.axiom, nil) {
			t.Error("without facts", c.axiom, c.insts)
		}
	}
	if Equal(api.Func{}, 0, 0, 0, api.AxSame, nil) || Equal(block(t, "8 8", "# x"), 3, 0, 0, api.AxSame, nil) {
		t.Error("wrong arguments")
	}
}

const loop = `func f
widths 8 8 8 8 8 8 8 8 8 1 8 16 16 8 8 8
rets 8
block 0 ( 0 )
1 = const 3
2 = const 0
3 = mul 2 1
14 = const 3
jump 1 ( 2 3 1 0 0 )
block 1 ( 4 5 6 7 8 )
10 = const 1
13 = const 3
15 = add 4 10
9 = ult 15 7
branch 9 1 ( 15 5 13 7 8 ) 2 ( 15 )
block 2 ( 11 )
return 11
`

func TestParamAxioms(t *testing.T) {
	s := strings.Replace(loop, "8 16 16 8 8 8", "8 8 8 8 8 8", 1)
	f := function(t, s)
	known := facts.Analyze(f)
	if !Equal(f, 1, 6, 13, api.AxParamConst, known) || Equal(f, 1, 5, 13, api.AxParamConst, known) || Equal(f, 1, 4, 13, api.AxParamConst, known) {
		t.Error("AxParamConst")
	}
	if !Equal(f, 1, 7, 8, api.AxParamSame, known) || !Equal(f, 1, 8, 7, api.AxParamSame, known) || Equal(f, 1, 4, 5, api.AxParamSame, known) {
		t.Error("AxParamSame")
	}
	// A parameter q that is p * 3 on all edges.
	f = function(t, `func f
widths 8 8 8 8 8 8 8 8 8 8 8 8 1 8 8 4 4 4 8
rets 8
block 0 ( 0 )
1 = const 3
2 = const 2
3 = mul 2 1
15 = trunc 2
jump 1 ( 2 3 15 )
block 1 ( 4 5 16 )
6 = const 1
7 = const 3
8 = add 4 6
9 = mul 8 7
10 = mul 4 7
11 = add 5 7
13 = const 9
14 = zext 16
12 = ult 8 13
17 = trunc 8
branch 12 1 ( 8 9 17 ) 2 ( 8 )
block 2 ( 18 )
return 18
`)
	known = facts.Analyze(f)
	if !Equal(f, 1, 10, 5, api.AxParamOp, known) || Equal(f, 1, 9, 5, api.AxParamOp, known) {
		t.Error("AxParamOp")
	}
	if !Equal(f, 1, 9, 11, api.AxParamStep, known) || Equal(f, 1, 10, 11, api.AxParamStep, known) {
		t.Error("AxParamStep")
	}
	if !Equal(f, 1, 4, 14, api.AxParamWide, known) || Equal(f, 1, 4, 14, api.AxParamWide, nil) || Equal(f, 1, 5, 14, api.AxParamWide, known) {
		t.Error("AxParamWide")
	}
}

// TestSound looks at all pairs of values of random blocks.
func TestSound(t *testing.T) {
	r := rand.New(rand.NewSource(1))
	found := map[int]int{}
	for range 2500 {
		f := api.Func{Name: "f", Widths: []int{2, 2}, Blocks: []api.Block{{Params: []int{0, 1}, Term: api.Term{Kind: api.Return, Cond: -1}}}}
		for range 14 {
			addRandom(r, &f)
		}
		if !ir.Valid(f) {
			t.Fatal("not valid")
		}
		known := facts.Analyze(f)
		x := Edit(f, known)
		var traces [16]api.Visit
		for i := range traces {
			v, _, _ := irexec.Trace(f, api.Env{Scalars: []uint64{uint64(i) & 3, uint64(i) >> 2}}, 1)
			traces[i] = v[0]
		}
		word := func(i, v int) uint64 { return irexec.Words(f, traces[i], []int{v})[0] }
		for v := range f.Widths {
			for w := range f.Widths {
				for ax := api.AxConst; ax <= api.AxParamWide; ax++ {
					if v == w || !x.Equal(0, v, w, ax) {
						continue
					}
					found[ax]++
					for i := range traces {
						if word(i, v) != word(i, w) {
							s, _ := irtext.Print(f)
							t.Fatal(s, v, w, ax, i)
						}
					}
				}
			}
		}
	}
	for ax := api.AxConst; ax <= api.AxFactSign; ax++ {
		if found[ax] == 0 && ax != api.AxDivMagic && ax != api.AxDistrib && ax != api.AxRemDiv && ax != api.AxNegate {
			t.Log("axiom", ax, "never")
		}
	}
}

// addRandom appends a random instruction.
func addRandom(r *rand.Rand, f *api.Func) {
	pick := func(w int) int {
		for range 50 {
			if v := r.Intn(len(f.Widths)); f.Widths[v] == w {
				return v
			}
		}
		return ir.Emit(f, 0, api.Inst{Op: api.OpConst, Num: uint64(r.Intn(1 << w))}, w)
	}
	w := 1 + r.Intn(3)
	switch r.Intn(6) {
	case 0:
		ir.Emit(f, 0, api.Inst{Op: api.OpConst, Num: uint64(r.Intn(1 << w))}, w)
	case 1:
		ir.Emit(f, 0, api.Inst{Op: api.OpSelect, Args: []int{pick(1), pick(w), pick(w)}}, w)
	case 2:
		ir.Emit(f, 0, api.Inst{Op: api.OpZExt + r.Intn(2), Args: []int{pick(w)}}, w+1)
	case 3:
		ir.Emit(f, 0, api.Inst{Op: api.OpTrunc, Args: []int{pick(w + 1)}}, w)
	default:
		op := api.OpAdd + r.Intn(19)
		width := w
		if bits.IsCompare(op) {
			width = 1
		}
		ir.Emit(f, 0, api.Inst{Op: op, Args: []int{pick(w), pick(w)}}, width)
	}
}

func TestSteps(t *testing.T) {
	f := function(t, strings.Replace(loop, "8 16 16 8 8 8", "8 8 8 8 8 8", 1))
	env := api.Env{Scalars: []uint64{5}}
	want, _ := irexec.Run(f, env, 100)
	try := func(s Step, ok bool) api.Func {
		t.Helper()
		before := ir.Clone(f)
		g, e := Apply(f, s, facts.Analyze(f))
		if !ir.Same(before, f) || (e == api.OK) != ok || !ok && (e != api.ErrWitness || !ir.Same(g, api.Func{})) {
			t.Fatal(s, e)
		}
		if ok {
			got, _ := irexec.Run(g, env, 100)
			if got.Status != want.Status || !reflect.DeepEqual(got.Rets, want.Rets) || !ir.Valid(g) {
				t.Fatal(s, got)
			}
		}
		return g
	}
	n := len(f.Widths)
	add := api.Inst{Op: api.OpAdd, Dest: n, Args: []int{4, 10}}
	try(Step{Kind: api.StepInsert, Block: 1, At: 1, Inst: add, Width: 8}, true)
	try(Step{Kind: api.StepInsert, Block: 1, At: 0, Inst: add, Width: 8}, false)
	try(Step{Kind: api.StepInsert, Block: 1, At: 5, Inst: add, Width: 8}, false)
	try(Step{Kind: api.StepInsert, Block: 1, At: 1, Inst: add, Width: 7}, false)
	try(Step{Kind: api.StepInsert, Block: 0, At: 1, Inst: add, Width: 8}, false)
	try(Step{Kind: api.StepInsert, Block: 1, At: 1, Inst: api.Inst{Op: api.OpAdd, Dest: n + 1, Args: []int{4, 10}}, Width: 8}, false)
	try(Step{Kind: api.StepInsert, Block: 1, At: 1, Inst: api.Inst{Op: api.OpZExt, Dest: n, Args: []int{4}}, Width: 8}, false)
	try(Step{Kind: api.StepInsert, Block: 1, At: 0, Inst: api.Inst{Op: api.OpConst, Dest: n, Num: 256}, Width: 8}, false)
	try(Step{Kind: api.StepInsert, Block: 1, At: 0, Inst: api.Inst{Op: api.OpConst, Dest: n, Num: 255}, Width: 8}, true)
	try(Step{Kind: api.StepInsert, Block: 1, At: 0, Inst: api.Inst{Op: api.OpConst, Dest: n, Mem: 1}, Width: 8}, false)
	try(Step{Kind: api.StepRemove, Block: 0, At: 3}, true)
	try(Step{Kind: api.StepRemove, Block: 0, At: 0}, false)
	try(Step{Kind: api.StepRemove, Block: 0, At: 4}, false)
	try(Step{Kind: api.StepRedirect, Block: 0, Value: 1, With: 14, Axiom: api.AxSame}, false)
	try(Step{Kind: api.StepRedirect, Block: 0, Value: 14, With: 1, Axiom: api.AxSame}, true)
	try(Step{Kind: api.StepRedirect, Block: 1, Value: 7, With: 8, Axiom: api.AxParamSame}, true)
	try(Step{Kind: api.StepRedirect, Block: 1, Value: 7, With: 7, Axiom: api.AxParamSame}, false)
	try(Step{Kind: api.StepBranch, Block: 1}, false)
	try(Step{Kind: api.StepAddParam, Block: 1, Width: 8, Args: []int{0, 15}}, true)
	try(Step{Kind: api.StepAddParam, Block: 1, Width: 8, Args: []int{0}}, false)
	try(Step{Kind: api.StepAddParam, Block: 1, Width: 8, Args: []int{0, 0}}, false)
	try(Step{Kind: api.StepAddParam, Block: 1, Width: 7, Args: []int{0, 15}}, false)
	try(Step{Kind: api.StepAddParam, Block: 0, Width: 8}, false)
	try(Step{Kind: api.StepDropParam, Block: 1, At: 2}, true)
	try(Step{Kind: api.StepDropParam, Block: 1, At: 0}, false)
	try(Step{Kind: api.StepDropParam, Block: 1, At: 5}, false)
	try(Step{Kind: api.StepMerge, Block: 0}, false)
	try(Step{Kind: api.StepMerge, Block: 1}, false)
	try(Step{Kind: api.StepDropBlock, Block: 1}, false)
	try(Step{Kind: api.StepDropBlock, Block: 0}, false)
	try(Step{Kind: 0, Block: 1}, false)
	if _, e := Apply(f, Step{Kind: api.StepBranch, Block: 3}, nil); e != api.ErrArg {
		t.Error(e)
	}
	if _, e := Apply(api.Func{}, Step{}, nil); e != api.ErrArg {
		t.Error(e)
	}
}

func TestBlocks(t *testing.T) {
	f := function(t, `func f
widths 8 1 8 8 1 8 8
stream o out 8
rets 8
block 0 ( 0 )
1 = const 0
send o 0 1
branch 1 1 ( 0 ) 2 ( 0 )
block 1 ( 2 ) pipeline 2 unroll 3 line 4
4 = const 0
branch 4 1 ( 2 ) 2 ( 2 )
block 2 ( 3 )
return 3
`)
	w := Witness{Rounds: []Round{{Steps: []Step{
		{Kind: api.StepBranch, Block: 0}, {Kind: api.StepRemove, Block: 0, At: 1}, {Kind: api.StepRemove, Block: 0, At: 0}, {Kind: api.StepBranch, Block: 1}, {Kind: api.StepDropBlock, Block: 1}, {Kind: api.StepMerge, Block: 0}}}}}
	g, e := Check(f, w)
	want := "func f\nwidths 8 1 8 8 1 8 8\nstream o out 8\nrets 8\nblock 0 ( 0 )\nreturn 0\n"
	if s, _ := irtext.Print(g); e != api.OK || s != want {
		t.Error(s, e)
	}
	h, _ := Check(f, Witness{Rounds: []Round{{Steps: w.Rounds[0].Steps[3:4]}}})
	if b := h.Blocks[1]; b.Pipeline != 0 || b.Unroll != 0 || b.Line != 0 {
		t.Error("directives stay")
	}
	w.Rounds[0].Facts = make([]api.Fact, len(f.Widths))
	if g, e := Check(f, w); e != api.ErrWitness || !ir.Same(g, api.Func{}) {
		t.Error(e)
	}
	w.Rounds[0].Facts = facts.Analyze(f)
	if _, e := Check(f, w); e != api.OK {
		t.Error(e)
	}
	w.Rounds[0].Steps[0].Block = 77
	if _, e := Check(f, w); e != api.ErrWitness {
		t.Error(e)
	}
	if _, e := Check(api.Func{}, w); e != api.ErrForm {
		t.Error(e)
	}
}

func TestMagic(t *testing.T) {
	if m, k, e := Magic(8, 3); m != 171 || k != 9 || e != api.OK {
		t.Error(m, k, e)
	}
	for w := 1; w <= 8; w++ {
		for c := uint64(1); c <= bits.Mask(w); c++ {
			m, k, e := Magic(w, c)
			if e == api.ErrNone {
				continue
			}
			for x := range bits.Mask(w) + 1 {
				if x*m>>k != x/c || x*m > bits.Mask(2*w) {
					t.Fatal(w, c, m, k, x)
				}
			}
		}
	}
	for _, c := range []uint64{3, 7, 10, 641, 1<<32 - 1, 1 << 31} {
		if m, k, e := Magic(32, c); e == api.OK && (1<<32-1)*m>>k != (1<<32-1)/c {
			t.Error(c, m, k)
		}
	}
	for _, c := range [][2]uint64{{0, 1}, {33, 1}, {8, 0}, {8, 256}} {
		if m, k, e := Magic(int(c[0]), c[1]); m != 0 || k != 0 || e != api.ErrArg {
			t.Error(c, e)
		}
	}
}
