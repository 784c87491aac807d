package gates

import (
	"math/rand"
	"slices"
	"testing"

	"jacquard/api"
)

func g(kind, a, b int) api.Gate { return api.Gate{Kind: kind, A: a, B: b} }

func TestExample(t *testing.T) {
	l := []api.Gate{g(api.GateIn, 0, 0), g(api.GateIn, 0, 0), g(api.GateAnd, 0, 1), g(api.GateNot, 2, 0), g(api.GateOr, 2, 3)}
	if v, e := Eval(l, []bool{true, false}); e != api.OK || !slices.Equal(v, []bool{true, false, false, true, true}) {
		t.Error(v, e)
	}
	if d, e := Depths(l, []int{0, 5}); e != api.OK || !slices.Equal(d, []int{0, 5, 25, 35, 55}) {
		t.Error(d, e)
	}
	if c := Count(append(l, g(99, 0, 0), g(-1, 0, 0))); c != [GateKinds]int{api.GateIn: 2, api.GateAnd: 1, api.GateNot: 1, api.GateOr: 1} {
		t.Error(c)
	}
	out, keep := Fold([]api.Gate{g(api.GateIn, 0, 0), g(api.GateZero, 0, 0), g(api.GateOr, 0, 1), g(api.GateAnd, 2, 2)}, []int{3})
	if !slices.Equal(out, []api.Gate{g(api.GateIn, 0, 0)}) || !slices.Equal(keep, []int{0}) {
		t.Error(out, keep)
	}
	if _, e := Eval(l, []bool{true}); e != api.ErrArg {
		t.Error(e)
	}
	if _, e := Depths(l, nil); e != api.ErrArg {
		t.Error(e)
	}
	for i, bad := range [][]api.Gate{{g(0, 0, 0)}, {g(8, 0, 0)}, {g(api.GateIn, 1, 0)}, {g(api.GateIn, 0, 1)}, {g(api.GateNot, 0, 0)}, {g(api.GateIn, 0, 0), g(api.GateNot, 0, 1)}, {g(api.GateIn, 0, 0), g(api.GateAnd, 0, 1)}, {g(api.GateIn, 0, 0), g(api.GateAnd, -1, 0)}} {
		out, keep := Fold(bad, nil)
		if _, e := Eval(bad, nil); Check(bad) != api.ErrForm || e != api.ErrForm || out != nil || keep != nil {
			t.Error(i)
		}
	}
	if out, keep := Fold(l, []int{5}); out != nil || keep != nil {
		t.Error("an index that is none")
	}
}

func TestFold(t *testing.T) {
	r := rand.New(rand.NewSource(1))
	for range 3000 {
		var l []api.Gate
		for i := range 3 + r.Intn(15) {
			switch {
			case i < 2 || r.Intn(6) == 0:
				l = append(l, g(api.GateIn, 0, 0))
			case r.Intn(4) == 0:
				l = append(l, g(api.GateZero+r.Intn(2), 0, 0))
			case r.Intn(3) == 0:
				l = append(l, g(api.GateNot, r.Intn(i), 0))
			default:
				l = append(l, g(api.GateAnd+r.Intn(3), r.Intn(i), r.Intn(i)))
			}
		}
		keep := []int{r.Intn(len(l)), r.Intn(len(l)), len(l) - 1}
		out, kept := Fold(l, keep)
		if Check(l) != api.OK || Check(out) != api.OK || inputs(out) != inputs(l) || len(kept) != 3 {
			t.Fatal(l, out)
		}
		used := make([]bool, len(out))
		seen := map[api.Gate]bool{}
		for _, k := range kept {
			used[k] = true
		}
		for i, x := range out {
			n := operands(x.Kind)
			constant := func(a int) bool { return out[a].Kind == api.GateZero || out[a].Kind == api.GateOne }
			if n >= 1 && constant(x.A) || n == 2 && (constant(x.B) || x.A == x.B) || n == 1 && out[x.A].Kind == api.GateNot {
				t.Fatal("not folded", out)
			}
			swapped := x
			if n == 2 {
				swapped.A, swapped.B = x.B, x.A
			}
			if x.Kind != api.GateIn && (seen[x] || seen[swapped]) {
				t.Fatal("equal gates", out)
			}
			seen[x] = true
			if n >= 1 {
				used[x.A] = true
			}
			if n == 2 {
				used[x.B] = true
			}
			_ = i
		}
		for i := range out {
			if !used[i] && out[i].Kind != api.GateIn {
				t.Fatal("not needed", out)
			}
		}
		times := make([]int, inputs(l))
		before, _ := Depths(l, times)
		after, _ := Depths(out, times)
		for x := range 1 << min(len(times), 6) {
			in := make([]bool, len(times))
			for i := range in {
				in[i] = x>>i&1 == 1
			}
			a, _ := Eval(l, in)
			b, _ := Eval(out, in)
			for i, k := range keep {
				if a[k] != b[kept[i]] || after[kept[i]] > before[k] {
					t.Fatal("another value", l, out)
				}
			}
		}
		if again, _ := Fold(out, kept); len(again) != len(out) {
			t.Fatal("again")
		}
	}
}
