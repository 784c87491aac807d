package diophant

import (
	"math/big"
	"math/rand"
	"testing"

	"jacquard/api"
)

func seg(lo, hi int64) Range { return Range{Lo: lo, Hi: hi} }

func TestSmall(t *testing.T) {
	r := rand.New(rand.NewSource(1))
	kinds := map[int]int{}
	for range 60000 {
		n := func(k int) int64 { return int64(r.Intn(2*k+1) - k) }
		s := func() Range { a := n(8); return seg(a, a+int64(r.Intn(12)-1)) }
		e := Equation{A: n(6), B: n(6), C: n(15), X: s(), Y: s(), Sum: s()}
		var sx, sy int64
		count := uint64(0)
		any := false
		for y := e.Y.Lo; y <= e.Y.Hi; y++ {
			for x := e.X.Lo; x <= e.X.Hi; x++ {
				if x+y < e.Sum.Lo || x+y > e.Sum.Hi {
					continue
				}
				any = true
				if e.A*x+e.B*y == e.C {
					if count == 0 {
						sx, sy = x, y
					}
					count++
				}
			}
		}
		x, y, ok := Solve(e)
		if ok != (count > 0) || x != sx || y != sy {
			t.Fatal(e, x, y, ok, sx, sy)
		}
		if e.A == 0 && e.B == 0 {
			count = min(count, 1)
		}
		if Count(e) != count {
			t.Fatal(e, Count(e), count)
		}
		no, refused := Refuse(e)
		if refused == ok || refused && !Check(e, no) || !refused && no != (Refusal{}) {
			t.Fatal(e, no)
		}
		kinds[no.Kind]++
		want := api.RefuseRange
		g, _, _ := Gcd(e.A, e.B)
		switch {
		case !any:
			want = api.RefuseEmpty
		case g == 0:
			want = api.RefuseZero
		case e.C%g != 0:
			want = api.RefuseGcd
		}
		if refused && no.Kind != want {
			t.Fatal(e, no, want)
		}
		for kind := range 6 {
			for k := int64(-6); k <= 6; k++ {
				if ok && Check(e, Refusal{Kind: kind, T: k}) {
					t.Fatal("a solution is refused", e, kind, k)
				}
			}
		}
		m := []int64{-3, -1, 2}[r.Intn(3)]
		f := e
		f.A, f.B, f.C = m*e.A, m*e.B, m*e.C
		if x2, y2, ok2 := Solve(f); ok2 != ok || x2 != x || y2 != y {
			t.Fatal("multiplied", e)
		}
		f = Equation{A: e.B, B: e.A, C: e.C, X: e.Y, Y: e.X, Sum: e.Sum}
		if Count(f) != Count(e) {
			t.Fatal("exchanged", e)
		}
	}
	for kind := api.RefuseEmpty; kind <= api.RefuseRange; kind++ {
		if kinds[kind] == 0 {
			t.Error("no refusal of kind", kind)
		}
	}
}

func TestGreat(t *testing.T) {
	r := rand.New(rand.NewSource(2))
	for range 100000 {
		n := func() int64 {
			x := r.Int63n(1<<31+1) >> r.Intn(31)
			if r.Intn(4) == 0 {
				x = 1<<31 - int64(r.Intn(3))
			}
			if r.Intn(2) == 0 {
				x = -x
			}
			return x
		}
		s := func() Range { a, b := n(), n(); return seg(min(a, b), max(a, b)) }
		e := Equation{A: n(), B: n(), X: s(), Y: s(), Sum: s()}
		e.C = e.A*n()/2 + e.B*(n()/2)
		if r.Intn(3) == 0 {
			e.C = []int64{1 << 61, -1 << 61}[r.Intn(2)]
		}
		if !Valid(e) {
			continue
		}
		l, ok := All(e)
		if ok {
			for _, k := range []int64{0, 1, -1, 1000003} {
				x := new(big.Int).Add(big.NewInt(l.X), new(big.Int).Mul(big.NewInt(k), big.NewInt(l.DX)))
				y := new(big.Int).Add(big.NewInt(l.Y), new(big.Int).Mul(big.NewInt(k), big.NewInt(l.DY)))
				sum := new(big.Int).Add(x.Mul(x, big.NewInt(e.A)), y.Mul(y, big.NewInt(e.B)))
				if sum.Cmp(big.NewInt(e.C)) != 0 {
					t.Fatal(e, l)
				}
			}
		}
		x, y, solved := Solve(e)
		if solved && (e.A*x+e.B*y != e.C || x < e.X.Lo || x > e.X.Hi || y < e.Y.Lo || y > e.Y.Hi || x+y < e.Sum.Lo || x+y > e.Sum.Hi) {
			t.Fatal(e, x, y)
		}
		if no, refused := Refuse(e); refused == solved || refused && (!Check(e, no) || no.T > 1<<62 || no.T < -1<<62) {
			t.Fatal(e, no, refused, solved)
		}
	}
}

func TestExamples(t *testing.T) {
	if g, s, u := Gcd(12, 18); g != 6 || 12*s+18*u != 6 {
		t.Error(g, s, u)
	}
	for _, c := range [][2]int64{{0, 0}, {0, -5}, {7, 0}, {-1 << 31, 1 << 31}, {-6, -9}, {1 << 40, 3}} {
		g, s, u := Gcd(c[0], c[1])
		a, b := max(min(c[0], 1<<31), -1<<31), c[1]
		if s*a+u*b != g || g < 0 || max(s, -s, u, -u) > 1<<31 {
			t.Error(c, g, s, u)
		}
	}
	e := Equation{A: 2, B: -4, C: 6, X: seg(0, 10), Y: seg(0, 10), Sum: seg(0, 20)}
	if l, ok := All(e); !ok || l != (Line{X: 1, Y: -1, DX: 2, DY: 1}) {
		t.Error(l)
	}
	if x, y, ok := Solve(e); x != 3 || y != 0 || !ok || Count(e) != 4 {
		t.Error(x, y)
	}
	e.Sum = seg(4, 10)
	if Count(e) != 2 {
		t.Error(Count(e))
	}
	e.C = 5
	if r, ok := Refuse(e); !ok || r != (Refusal{Kind: api.RefuseGcd}) {
		t.Error(r)
	}
	e = Equation{A: 2, B: -4, C: 6, X: seg(0, 2), Y: seg(0, 10), Sum: seg(0, 20)}
	if r, ok := Refuse(e); !ok || r.Kind != api.RefuseRange || !Check(e, Refusal{Kind: api.RefuseRange}) || Check(e, Refusal{Kind: api.RefuseRange, T: 1}) || Check(e, Refusal{Kind: api.RefuseRange, T: -5}) {
		t.Error(r)
	}
	if l, ok := All(Equation{A: -3, C: 9}); !ok || l != (Line{X: -3, DY: 1}) {
		t.Error(l)
	}
	for _, bad := range []Equation{{A: 1<<31 + 1}, {B: -1<<31 - 1}, {C: 1<<61 + 1}, {X: seg(0, 1<<31+1)}, {Sum: seg(-1<<31-1, 0)}} {
		_, ok1 := All(bad)
		_, _, ok2 := Solve(bad)
		_, ok3 := Refuse(bad)
		if Valid(bad) || ok1 || ok2 || ok3 || Count(bad) != 0 || Check(bad, Refusal{Kind: api.RefuseEmpty}) {
			t.Error(bad)
		}
	}
	if Check(Equation{C: 1}, Refusal{Kind: 9}) || !Check(Equation{C: 1}, Refusal{Kind: api.RefuseZero, T: 7}) || Check(Equation{A: 1, C: 1}, Refusal{Kind: api.RefuseZero}) {
		t.Error("Check")
	}
}
