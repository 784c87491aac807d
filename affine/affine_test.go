package affine

import (
	"reflect"
	"testing"

	"jacquard/api"
	"jacquard/bits"
	"jacquard/facts"
	"jacquard/ir"
	"jacquard/irexec"
	"jacquard/sample"
	"jacquard/sample/lowered"
)

func TestExample(t *testing.T) {
	f := lowered.Source("kernel k(m: u8, o: out u8) { let n = m % 101; for i: u8 in 0 .. 10 { send o(i * 4 + n); } }")
	known := facts.Analyze(f)
	b := 1
	if _, ok := ir.SelfLoop(f, b); !ok {
		t.Fatal("loop")
	}
	forms := Forms(f, b, known)
	block := f.Blocks[b]
	i, n := block.Params[2], block.Params[1]
	if x := forms[i]; !reflect.DeepEqual(x, Form{Known: true, Coef: 1}) {
		t.Error(x)
	}
	found := false
	for _, in := range block.Insts {
		if in.Op == api.OpSend {
			x := forms[in.Args[0]]
			found = x.Known && x.Coef == 4 && x.Const == 0 && reflect.DeepEqual(x.Terms, []FormTerm{{Value: n, Coef: 1}})
		}
	}
	if !found {
		t.Error("i * 4 + n")
	}
	if n, ok := Trips(f, b, known); n != 10 || !ok {
		t.Error(n, ok)
	}
	if n, ok := Trips(f, 0, known); n != 0 || ok {
		t.Error(n, ok)
	}
	if Forms(f, 9, known) != nil || Forms(f, -1, known) != nil || Forms(f, 1, nil) != nil || Forms(api.Func{}, 0, nil) != nil {
		t.Error("wrong arguments")
	}
}

// TestSamples compares forms with runs.
func TestSamples(t *testing.T) {
	known, loops := 0, 0
	for seed := range uint64(400) {
		f := lowered.Func(seed, sample.Shape{Loops: true, Nested: true, Streams: true, Arrays: true, Statements: 6})
		all := facts.Analyze(f)
		forms := make([][]Form, len(f.Blocks))
		for b := range f.Blocks {
			forms[b] = Forms(f, b, all)
			for _, x := range forms[b] {
				if x.Known && x.Coef != 0 {
					known++
				}
			}
		}
		for i := range uint64(2) {
			visits, o, _ := irexec.Trace(f, sample.FuncEnv(seed*2+i, f), 300)
			var first []uint64
			k := int64(0)
			for n, v := range visits {
				_, loop := ir.SelfLoop(f, v.Block)
				if n == 0 || visits[n-1].Block != v.Block || !loop {
					k = 0
					first = make([]uint64, len(f.Widths))
					for j, p := range f.Blocks[v.Block].Params {
						first[p] = v.Params[j]
					}
				}
				if trips, ok := Trips(f, v.Block, all); ok {
					loops++
					if k >= trips {
						t.Fatal("trips")
					}
				}
				if o.Status == api.Starved && n == len(visits)-1 {
					break
				}
				check := func(value int, word uint64) {
					if got, ok := At(forms[v.Block][value], k, first); ok && got != word {
						t.Fatal(seed, value, k, got, word, forms[v.Block][value])
					}
				}
				for j, p := range f.Blocks[v.Block].Params {
					check(p, v.Params[j])
				}
				for j, in := range f.Blocks[v.Block].Insts {
					if in.Dest >= 0 {
						check(in.Dest, v.Results[j])
					}
				}
				k++
			}
		}
	}
	if known < 50 || loops < 50 {
		t.Error(known, loops)
	}
}

func TestForms(t *testing.T) {
	// Params 0 to 15 and 0 to 3 of 8 bits, known by facts alone.
	f := api.Func{Name: "f", Widths: []int{8, 8}, Blocks: []api.Block{{}, {Params: []int{0, 1}, Term: api.Term{Kind: api.Return, Cond: -1}}}}
	f.Blocks[0].Term = api.Term{Kind: api.Return, Cond: -1}
	emit := func(op, w int, n uint64, args ...int) int {
		return ir.Emit(&f, 1, api.Inst{Op: op, Num: n, Args: args}, w)
	}
	two, seven, minus := emit(api.OpConst, 8, 2), emit(api.OpConst, 8, 7), emit(api.OpConst, 8, 255)
	sum := emit(api.OpAdd, 8, 0, 0, 1)
	shifted := emit(api.OpShl, 8, 0, 0, two)
	product := emit(api.OpMul, 8, 0, seven, 1)
	less := emit(api.OpSub, 8, 0, product, product)
	wrong := emit(api.OpSub, 8, 0, 1, 0)
	back := emit(api.OpAdd, 8, 0, seven, minus)
	wide := emit(api.OpZExt, 20, 0, sum)
	low := emit(api.OpTrunc, 5, 0, wide)
	cut := emit(api.OpTrunc, 4, 0, wide)
	signed := emit(api.OpSExt, 20, 0, sum)
	both := emit(api.OpMul, 8, 0, 0, 1)
	far := emit(api.OpShl, 8, 0, 0, seven)
	var known []api.Fact
	for v, w := range f.Widths {
		known = append(known, facts.Top(w))
		if v < 2 {
			known[v], _ = facts.Tighten(8, api.Fact{Hi: []uint64{15, 3}[v], Least: -128, Most: 127})
		}
	}
	for _, in := range f.Blocks[1].Insts {
		var widths []int
		var args []api.Fact
		for _, a := range in.Args {
			widths, args = append(widths, f.Widths[a]), append(args, known[a])
		}
		known[in.Dest] = facts.Apply(in.Op, f.Widths[in.Dest], widths, args, in.Num)
	}
	known[back] = facts.Top(8)
	forms := Forms(f, 1, known)
	terms := func(n int64, list ...int64) Form {
		x := Form{Known: true, Const: n}
		for i := 0; i < len(list); i += 2 {
			x.Terms = append(x.Terms, FormTerm{Value: int(list[i]), Coef: list[i+1]})
		}
		return x
	}
	for v, want := range map[int]Form{two: terms(2), sum: terms(0, 0, 1, 1, 1), shifted: terms(0, 0, 4), product: terms(0, 1, 7), less: {}, wrong: {}, back: terms(6), wide: terms(0, 0, 1, 1, 1), low: terms(0, 0, 1, 1, 1), cut: {}, signed: terms(0, 0, 1, 1, 1), both: {}, far: {}} {
		if !reflect.DeepEqual(forms[v], want) {
			t.Error(v, forms[v], want)
		}
	}
}

func TestNumbers(t *testing.T) {
	x := Form{Known: true, Coef: 3, Const: -2, Terms: []FormTerm{{Value: 1, Coef: 5}}}
	if n, ok := At(x, 4, []uint64{0, 7}); n != 45 || !ok {
		t.Error(n)
	}
	for _, c := range []struct {
		x     Form
		k     int64
		first []uint64
	}{{Form{}, 0, nil}, {x, -1, []uint64{0, 7}}, {x, api.MaxFuel + 1, []uint64{0, 7}}, {x, 0, []uint64{1}}} {
		if n, ok := At(c.x, c.k, c.first); n != 0 || ok {
			t.Error(c)
		}
	}
	known := []api.Fact{{}, {Lo: 2, Hi: 9}, {Lo: 0, Hi: 1 << 41}, {Hi: 1 << 20}}
	if s, ok := Base(Form{Known: true, Terms: []FormTerm{{Value: 1, Coef: -5}, {Value: 3, Coef: 2}}}, known); s != (api.Segment{Lo: -45, Hi: -10 + 1<<21}) || !ok {
		t.Error(s)
	}
	for _, bad := range []Form{{}, {Known: true, Terms: []FormTerm{{Value: 2, Coef: 1}}}, {Known: true, Terms: []FormTerm{{Value: 4, Coef: 1}}}, {Known: true, Terms: []FormTerm{{Value: 3, Coef: 1<<35 + 1}}}, {Known: true, Terms: make([]FormTerm, 17)}, {Known: true, Terms: []FormTerm{{Value: 0, Coef: 1<<40 + 1}}}} {
		if s, ok := Base(bad, known); ok || s != (api.Segment{}) {
			t.Error(bad)
		}
	}
	if s, ok := Base(Form{Known: true, Terms: []FormTerm{{Value: 3, Coef: 1 << 35}}}, known); !ok || s.Hi != 1<<55 {
		t.Error(s)
	}
	if !SameBase(x, Form{Known: true, Terms: []FormTerm{{Value: 1, Coef: 5}}}) || SameBase(x, Form{Known: true}) || SameBase(x, Form{Terms: x.Terms}) || SameBase(x, Form{Known: true, Terms: []FormTerm{{Value: 1, Coef: 6}}}) {
		t.Error("SameBase")
	}
	if add(Form{Known: true, Const: 1 << 40}, Form{Known: true, Const: 1}).Known || multiple(Form{Known: true, Const: 1 << 39}, 3).Known || !multiple(Form{Known: true}, bits.Mask(64)).Known {
		t.Error("limits")
	}
}
