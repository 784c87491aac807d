package explore

import (
	"math/rand"
	"reflect"
	"slices"
	"testing"

	"jacquard/api"
	"jacquard/compile"
	"jacquard/ir"
)

func TestChoice(t *testing.T) {
	s := Space{Periods: []int{1, 2}, Passes: []int{7}, Limits: [][]api.Limit{{{Class: 1, Count: 2}}}, Intervals: []int{3, 4}, Factors: []int{5, 6}, MaxII: 9}
	if Size(s) != 8 || Size(Space{}) != 0 {
		t.Error(Size(s))
	}
	o, interval, factor, e := Choice(s, 5)
	if e != api.OK || !reflect.DeepEqual(o, api.Options{Period: 2, Passes: 7, Limits: s.Limits[0], MaxII: 9}) || interval != 3 || factor != 6 {
		t.Error(o, interval, factor, e)
	}
	o.Limits[0].Count = 99
	if s.Limits[0][0].Count != 2 {
		t.Error("shared memory")
	}
	for _, i := range []int{-1, 8} {
		if o, interval, factor, e := Choice(s, i); e != api.ErrRange || interval != 0 || factor != 0 || o.Period != 0 {
			t.Error(i, e)
		}
	}
	s.Factors = make([]int, 65)
	if Size(s) != 257 {
		t.Error(Size(s))
	}
	if _, _, _, e := Choice(s, 0); e != api.ErrRange {
		t.Error(e)
	}
	s.Factors, s.Intervals = make([]int, 64), s.Intervals[:1]
	if Size(s) != 128 {
		t.Error(Size(s))
	}
	s.Periods = make([]int, 1024)
	s.Passes = s.Periods
	if Size(s) != 257 {
		t.Error(Size(s))
	}
}

func TestVariant(t *testing.T) {
	f, _, _ := compile.Front("kernel k(o: out u8) { #pipeline 2 #unroll 3\nfor i: u8 in 0 .. 9 { send o(i); } #unroll\nfor i: u8 in 0 .. 2 { } while false { } }")
	g, e := Variant(f, 5, 4)
	if e != api.OK {
		t.Fatal(e)
	}
	for b := range f.Blocks {
		want := f.Blocks[b]
		if want.Pipeline != 0 {
			want.Pipeline = 5
		}
		if want.Unroll != 0 {
			want.Unroll = 4
		}
		if !reflect.DeepEqual(g.Blocks[b], want) {
			t.Error(b)
		}
	}
	if g, e := Variant(f, 0, 0); e != api.OK || !ir.Same(f, g) {
		t.Error(e)
	}
	for _, c := range [][2]int{{-1, 0}, {257, 0}, {0, -1}, {0, 65}} {
		if g, e := Variant(f, c[0], c[1]); e != api.ErrArg || g.Blocks != nil {
			t.Error(c, e)
		}
	}
	if _, e := Variant(api.Func{}, -1, 0); e != api.ErrForm {
		t.Error(e)
	}
}

func TestExplore(t *testing.T) {
	f, _, e := compile.Front("kernel k(a: u8[16]) -> u8 { var s: u8; #pipeline #unroll 2\nfor i: u8 in 0 .. 16 { s = s + a[i] * a[i]; } return s; }")
	if e != api.OK {
		t.Fatal(e)
	}
	s := Space{Periods: []int{100, 1500, 3000}, Passes: []int{api.PassAll}, Limits: [][]api.Limit{nil, {{Class: api.ClassMul, Count: 1}}}, Intervals: []int{0, 4}, Factors: []int{0, 4}, MaxII: 64}
	env := api.Env{Arrays: [][]uint64{make([]uint64, 16)}}
	l, e := Explore(f, s, env, 1000)
	if e != api.OK || len(l) != 16 || l[0].Index != 8 {
		t.Fatal(l, e)
	}
	for _, p := range l {
		d, e := Build(f, s, p.Index)
		if e != api.OK || compile.Check(d) != api.OK {
			t.Fatal(e)
		}
		q, e := Measure(d, env, 1000)
		q.Index = p.Index
		if e != api.OK || q != p || p.II < 1 || p.Cycles < 2 {
			t.Error(p, q)
		}
		if _, e := Measure(d, env, 1); e != api.ErrFuel {
			t.Error(e)
		}
	}
	if len(Pareto(l)) < 1 {
		t.Error(Pareto(l))
	}
	if _, e := Build(f, s, 99); e != api.ErrRange {
		t.Error(e)
	}
	if _, e := Build(f, s, 0); e != api.ErrPeriod {
		t.Error(e)
	}
	s.Intervals = []int{300}
	if _, e := Build(f, s, 0); e != api.ErrArg {
		t.Error(e)
	}
	if l, e := Explore(api.Func{}, s, env, 9); e != api.ErrForm || l != nil {
		t.Error(e)
	}
	if l, e := Explore(f, s, api.Env{}, 9); e != api.ErrArg || l != nil {
		t.Error(e)
	}
	s.Factors = make([]int, 300)
	if l, e := Explore(f, s, api.Env{}, 9); e != api.ErrLimit || l != nil {
		t.Error(e)
	}
}

func TestExamplePoints(t *testing.T) {
	l := []Point{{Cycles: 10, II: 1, Area: 50}, {Index: 1, Cycles: 12, II: 1, Area: 40}, {Index: 2, Cycles: 12, II: 2, Area: 40}, {Index: 3, Cycles: 20, II: 1, Area: 45}}
	if p := Pareto(l); !slices.Equal(p, l[:2]) {
		t.Error(p)
	}
	if p, ok := Best(l, 45, 9); !ok || p != l[1] {
		t.Error(p)
	}
	if p, ok := Best(l, 39, 9); ok || p != (Point{}) {
		t.Error(p)
	}
}

func TestPareto(t *testing.T) {
	r := rand.New(rand.NewSource(1))
	for range 3000 {
		var l []Point
		for range r.Intn(12) {
			l = append(l, Point{Index: r.Intn(20), Cycles: r.Intn(4), II: r.Intn(3), Area: r.Intn(4)})
		}
		best := Pareto(l)
		for i, p := range best {
			if !slices.Contains(l, p) || i > 0 && (p.Cycles < best[i-1].Cycles) {
				t.Fatal(l, best)
			}
			for _, q := range l {
				if Dominates(q, p) || q.Cycles == p.Cycles && q.II == p.II && q.Area == p.Area && q.Index < p.Index {
					t.Fatal(l, best)
				}
			}
		}
		for _, p := range l {
			if !slices.ContainsFunc(best, func(q Point) bool {
				return Dominates(q, p) || q.Cycles == p.Cycles && q.II == p.II && q.Area == p.Area
			}) {
				t.Fatal(l, best, p)
			}
		}
		if !slices.Equal(Pareto(best), best) {
			t.Fatal("again")
		}
		area, ii := r.Intn(5), r.Intn(3)
		p, ok := Best(l, area, ii)
		for _, q := range l {
			if q.Area <= area && q.II <= ii && (!ok || q.Cycles < p.Cycles || q.Cycles == p.Cycles && q.Area < p.Area) {
				t.Fatal(l, p)
			}
		}
		if ok && !slices.ContainsFunc(best, func(q Point) bool { return q.Cycles == p.Cycles && q.Area == p.Area }) {
			t.Fatal(l, best, p)
		}
	}
}
