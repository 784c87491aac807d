package binding

import (
	"slices"
	"testing"

	"jacquard/api"
	"jacquard/cycles"
	"jacquard/irtext"
	"jacquard/lifetime"
	"jacquard/sample"
	"jacquard/sample/scheduled"
)

func TestSamples(t *testing.T) {
	loops := 0
	for seed := range uint64(200) {
		k, ok := scheduled.Make(seed, sample.Shape{Loops: true, Streams: true, Arrays: true, Division: seed%3 == 0, Directives: true, Statements: 6}, 700+int(seed%5)*200, []api.Limit{{Class: api.ClassMul, Count: 1}})
		if !ok {
			continue
		}
		b, e := Bind(k.Func, k.Scheds)
		if e != api.OK || Check(k.Func, k.Scheds, b) != api.OK {
			t.Fatal(seed, e, Check(k.Func, k.Scheds, b))
		}
		used := make([]bool, len(b.Regs))
		for block, places := range b.Places {
			params := map[int]bool{}
			n := len(k.Func.Blocks[block].Params)
			for i, p := range places {
				for _, r := range p.Chain {
					used[r] = true
					params[r] = params[r] || i < n
				}
			}
			if cycles.Self(k.Func, k.Scheds, block) >= 0 {
				loops++
				continue
			}
			lives, _ := lifetime.Lives(k.Func, block, k.Scheds[block])
			byWidth := map[int][]api.Life{}
			for _, l := range lives[n:] {
				w := k.Func.Widths[l.Value]
				byWidth[w] = append(byWidth[w], l)
			}
			for w, list := range byWidth {
				count := 0
				for r, x := range b.Regs {
					if x.Block == block && x.Width == w && !params[r] {
						count++
					}
				}
				if count != lifetime.Pressure(list, 0) {
					t.Fatal("registers", w, count)
				}
			}
		}
		if slices.Contains(used, false) {
			t.Fatal("a register is not used")
		}
		if a := Area(k.Func, k.Scheds, b); a < 8*Bits(b) {
			t.Fatal(a)
		}
	}
	if loops < 20 {
		t.Error(loops)
	}
}

func example(t *testing.T) (api.Func, []api.Sched) {
	t.Helper()
	f, line, e := irtext.Parse(`func f
widths 8 8 8 8 8
array a 8 4 whole
rets 8
block 0 ( 0 )
1 = mul 0 0
2 = mul 0 0
3 = udiv 1 2
4 = xor 1 2
return 4
`)
	if e != api.OK {
		t.Fatal(line, e)
	}
	return f, []api.Sched{{Depth: 8, Start: []int{0, 1, 3, 4}, Params: []int{0}, Unit: []int{0, 0, 3, -1}}}
}

func TestParts(t *testing.T) {
	f, s := example(t)
	want := []Part{{api.ClassMul, 8, 0}, {api.ClassUDiv, 8, 3}}
	if l := Parts(f, s); !slices.Equal(l, want) {
		t.Error(l)
	}
	b, e := Bind(f, s)
	// Registers: the parameter, 1 from 3 to 4, 2 from 4 to 4, and 4 from 5 to 7.
	if e != api.OK || Bits(b) != 24 || Area(f, s, b) != 8*24+8+6*64+8*64+32 {
		t.Error(b, Bits(b), Area(f, s, b))
	}
	if Parts(f, nil) != nil || Bits(api.Binding{}) != 0 {
		t.Error("empty")
	}
}

func TestErrors(t *testing.T) {
	f, s := example(t)
	good, _ := Bind(f, s)
	clone := func() api.Binding {
		b, _ := Bind(f, s)
		return b
	}
	if Check(f, s, good) != api.OK {
		t.Fatal("Check")
	}
	for i, c := range []struct {
		change func(b *api.Binding)
		e      api.Errno
	}{
		{func(b *api.Binding) { b.Places = nil }, api.ErrForm}, {func(b *api.Binding) { b.Places[0] = b.Places[0][1:] }, api.ErrForm}, {func(b *api.Binding) { b.Places[0][1].Chain = nil }, api.ErrForm}, {func(b *api.Binding) { b.Places[0][1].Chain[0] = 9 }, api.ErrForm}, {func(b *api.Binding) { b.Places[0][1].Chain[0] = -1 }, api.ErrForm}, {func(b *api.Binding) { b.Regs[0].Width = 7 }, api.ErrForm}, {func(b *api.Binding) { b.Regs[0].Block = 1 }, api.ErrForm}, {func(b *api.Binding) { b.Places[0][3].Chain = []int{0} }, api.ErrForm},
		{func(b *api.Binding) { b.Places[0][1].Chain[0] = b.Places[0][0].Chain[0] }, api.ErrIllegal}, {func(b *api.Binding) { b.Places[0][1].Chain[0] = b.Places[0][2].Chain[0] }, api.ErrIllegal}, {func(b *api.Binding) { b.Places[0][4].Chain[0] = b.Places[0][0].Chain[0] }, api.ErrIllegal},
	} {
		b := clone()
		c.change(&b)
		if e := Check(f, s, b); e != c.e {
			t.Error(i, e)
		}
	}
	s[0].Start[3] = 2
	if b, e := Bind(f, s); e != api.ErrForm || b.Places != nil || Check(f, s, good) != api.ErrForm {
		t.Error(e)
	}
	if _, e := Bind(f, nil); e != api.ErrForm || Check(f, nil, good) != api.ErrForm {
		t.Error(e)
	}
}

func TestWrongFunctions(t *testing.T) {
	f := api.Func{Name: "f", Widths: []int{8}, Rets: []int{8}, Blocks: []api.Block{{Params: []int{0, 7}, Term: api.Term{Kind: api.Return, Cond: -1, Rets: []int{0}}}}}
	s := []api.Sched{{Depth: 1, Params: []int{0, 0}}}
	if _, e := Bind(f, s); e != api.ErrForm {
		t.Error(e)
	}
	if e := Check(f, s, api.Binding{Places: make([][]api.Place, 1)}); e != api.ErrForm {
		t.Error(e)
	}
	f.Blocks[0].Params = []int{0}
	s = []api.Sched{{Depth: 1 << 60, Params: []int{0}}}
	if _, e := Bind(f, s); e != api.ErrForm {
		t.Error(e)
	}
}
