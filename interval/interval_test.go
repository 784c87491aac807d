package interval

import (
	"math/rand"
	"testing"

	"jacquard/api"
	"jacquard/bits"
	"jacquard/operator"
)

func rg(lo, hi uint64, least, most int64) Range {
	return Range{Lo: lo, Hi: hi, Least: least, Most: most}
}

func ranges(w int) []Range {
	var l []Range
	for lo := range bits.Mask(w) + 1 {
		for hi := lo; hi <= bits.Mask(w); hi++ {
			l = append(l, rg(lo, hi, least(w), most(w)))
			for s := least(w); s <= most(w); s++ {
				for m := s; m <= most(w); m++ {
					if (lo+hi+uint64(s+m))%3 == 0 {
						l = append(l, rg(lo, hi, s, m))
					}
				}
			}
		}
	}
	return l
}

func TestSound(t *testing.T) {
	w := 3
	for op := api.OpAdd; op <= api.OpSLe; op++ {
		width := w
		if bits.IsCompare(op) {
			width = 1
		}
		for _, a := range ranges(w) {
			for _, b := range ranges(w) {
				r := Apply(op, width, []int{w, w}, []Range{a, b}, 0)
				if !Valid(width, r) {
					t.Fatal(op, a, b, r)
				}
				for x := range uint64(8) {
					for y := range uint64(8) {
						if Contains(w, a, x) && Contains(w, b, y) && !Contains(width, r, operator.Value(op, width, []int{w, w}, []uint64{x, y}, 0)) {
							t.Fatal(bits.Name(op), a, b, r, x, y)
						}
					}
				}
			}
		}
	}
}

func TestWide(t *testing.T) {
	r := rand.New(rand.NewSource(1))
	some := func(w int) Range {
		x, y := r.Uint64()>>r.Intn(64), r.Uint64()>>r.Intn(64)
		if r.Intn(2) == 0 {
			x, y = -x, -y
		}
		x, y = bits.Fit(w, x), bits.Fit(w, y)
		s := Top(w)
		switch r.Intn(3) {
		case 0:
			s.Lo, s.Hi = min(x, y), max(x, y)
		case 1:
			s.Least, s.Most = min(bits.Signed(w, x), bits.Signed(w, y)), max(bits.Signed(w, x), bits.Signed(w, y))
		case 2:
			s = Of(w, x)
		}
		return s
	}
	pick := func(w int, s Range) (uint64, bool) {
		s, ok := Tighten(w, s)
		x := s.Lo
		switch r.Intn(4) {
		case 0:
			x = s.Hi
		case 1:
			x = bits.From(w, s.Least)
		case 2:
			x = bits.From(w, s.Most)
		}
		return x, ok && Contains(w, s, x)
	}
	for range 300000 {
		w := []int{8, 16, 63, 64}[r.Intn(4)]
		op := api.OpAdd + r.Intn(api.OpSLe-api.OpAdd+1)
		width := w
		if bits.IsCompare(op) {
			width = 1
		}
		a, b := some(w), some(w)
		x, ok1 := pick(w, a)
		y, ok2 := pick(w, b)
		res := Apply(op, width, []int{w, w}, []Range{a, b}, 0)
		if !Valid(width, res) || ok1 && ok2 && !Contains(width, res, operator.Value(op, width, []int{w, w}, []uint64{x, y}, 0)) {
			t.Fatal(bits.Name(op), w, a, b, res, x, y)
		}
	}
}

func TestTighten(t *testing.T) {
	for _, r := range ranges(3) {
		s, ok := Tighten(3, r)
		any := false
		for n := range uint64(8) {
			in := Contains(3, r, n)
			any = any || in
			if in && !ok || in != Contains(3, s, n) && ok {
				t.Fatal(r, s, n)
			}
		}
		if ok && !Leq(s, r) || !ok && s != (Range{}) {
			t.Fatal(r, s)
		}
		if again, _ := Tighten(3, s); ok && again != s {
			t.Fatal(r, s, again)
		}
	}
	if s, ok := Tighten(4, rg(2, 9, 0, 7)); !ok || s != (rg(2, 7, 2, 7)) {
		t.Error(s)
	}
	if s, ok := Tighten(4, rg(3, 2, 0, 7)); ok || s != (Range{}) {
		t.Error(s)
	}
	if s, ok := Tighten(4, rg(9, 12, 0, 7)); ok || s != (Range{}) {
		t.Error(s)
	}
	if s, ok := Tighten(4, rg(3, 12, -7, -5)); !ok || s != (rg(9, 11, -7, -5)) {
		t.Error(s)
	}
}

func TestTable(t *testing.T) {
	u := func(w int, lo, hi uint64) Range { r := Top(w); r.Lo, r.Hi = lo, hi; return r }
	s := func(w int, lo, hi int64) Range { r := Top(w); r.Least, r.Most = lo, hi; return r }
	for _, c := range []struct {
		op   int
		w    int
		a, b Range
		want Range
	}{
		{api.OpAdd, 4, u(4, 3, 5), u(4, 9, 10), rg(12, 15, -4, -1)}, {api.OpAdd, 4, u(4, 3, 5), u(4, 9, 11), rg(0, 15, -4, 0)}, {api.OpSRem, 4, s(4, -5, 3), Of(4, 4), rg(0, 15, -3, 3)},
		{api.OpAdd, 4, u(4, 12, 13), u(4, 9, 10), rg(5, 7, 5, 7)}, {api.OpSub, 4, u(4, 1, 2), u(4, 4, 5), rg(12, 14, -4, -2)}, {api.OpSub, 4, u(4, 5, 6), u(4, 1, 5), rg(0, 5, 0, 5)}, {api.OpMul, 8, u(8, 2, 3), u(8, 5, 9), rg(10, 27, 10, 27)}, {api.OpMul, 8, s(8, -3, 2), s(8, -5, 4), rg(0, 255, -12, 15)},
		{api.OpUDiv, 8, u(8, 20, 30), u(8, 3, 4), rg(5, 10, 5, 10)}, {api.OpUDiv, 8, u(8, 20, 30), u(8, 0, 4), Top(8)}, {api.OpURem, 8, u(8, 20, 30), u(8, 31, 40), rg(20, 30, 20, 30)}, {api.OpURem, 8, u(8, 20, 30), u(8, 3, 9), rg(0, 8, 0, 8)}, {api.OpURem, 8, u(8, 20, 30), u(8, 0, 9), rg(0, 30, 0, 30)},
		{api.OpSDiv, 8, s(8, -9, 7), s(8, 2, 3), rg(0, 255, -4, 3)}, {api.OpSDiv, 8, Top(8), s(8, -3, -1), Top(8)}, {api.OpSDiv, 8, s(8, -127, 4), s(8, -3, -1), rg(0, 255, -4, 127)}, {api.OpSRem, 8, s(8, -9, 7), s(8, -2, 3), rg(0, 255, -9, 7)},
		{api.OpAnd, 8, u(8, 3, 9), u(8, 0, 5), rg(0, 5, 0, 5)}, {api.OpOr, 8, u(8, 3, 9), u(8, 4, 5), rg(4, 15, 4, 15)}, {api.OpXor, 8, u(8, 3, 9), u(8, 4, 5), rg(0, 15, 0, 15)}, {api.OpShl, 8, u(8, 3, 9), Of(8, 2), rg(12, 36, 12, 36)}, {api.OpShl, 8, u(8, 3, 9), Of(8, 8), Of(8, 0)}, {api.OpShl, 8, s(8, -3, 9), Of(8, 3), rg(0, 255, -24, 72)},
		{api.OpLShr, 8, u(8, 16, 200), u(8, 2, 3), rg(2, 50, 2, 50)}, {api.OpLShr, 8, u(8, 16, 200), u(8, 2, 9), rg(0, 50, 0, 50)}, {api.OpAShr, 8, s(8, -100, 60), u(8, 1, 99), rg(0, 255, -50, 30)},
	} {
		if got := Apply(c.op, c.w, []int{c.w, c.w}, []Range{c.a, c.b}, 0); got != c.want {
			t.Error(bits.Name(c.op), c.a, c.b, got, c.want)
		}
	}
	for _, c := range []struct {
		op, w, v int
		a, want  Range
	}{{api.OpZExt, 8, 4, s(4, -8, -2), rg(8, 14, 8, 14)}, {api.OpSExt, 8, 4, s(4, -8, -2), rg(248, 254, -8, -2)}, {api.OpSExt, 4, 4, u(4, 2, 9), u(4, 2, 9)}, {api.OpTrunc, 4, 8, u(8, 2, 9), rg(2, 9, -8, 7)}, {api.OpTrunc, 4, 8, s(8, -3, 2), rg(0, 15, -3, 2)}, {api.OpTrunc, 4, 8, Top(8), Top(4)}} {
		if got := Apply(c.op, c.w, []int{c.v}, []Range{c.a}, 0); got != c.want {
			t.Error(bits.Name(c.op), c.a, got, c.want)
		}
	}
	if Apply(api.OpSelect, 8, []int{1, 8, 8}, []Range{Top(1), Of(8, 3), Of(8, 9)}, 0) != (rg(3, 9, 3, 9)) || Apply(api.OpSelect, 8, []int{1, 8, 8}, []Range{Of(1, 0), Top(8), u(8, 1, 9)}, 0) != (rg(1, 9, 1, 9)) || Apply(api.OpConst, 8, nil, nil, 259) != Of(8, 3) {
		t.Error("select, const")
	}
	if Apply(api.OpAdd, 8, []int{8, 8}, []Range{Top(8)}, 0) != Top(8) || Apply(api.OpLoad, 8, []int{8, 1}, []Range{Top(8), Top(1)}, 0) != Top(8) || Apply(api.OpAdd, 70, nil, nil, 0) != (Range{}) || Apply(api.OpAdd, 8, []int{8, 8}, []Range{rg(200, 250, 0, 9), Top(8)}, 0) != Top(8) {
		t.Error("wrong arguments")
	}
	if Apply(api.OpULt, 1, []int{8, 8}, []Range{u(8, 1, 3), u(8, 4, 9)}, 0) != Of(1, 1) || Apply(api.OpSLe, 1, []int{8, 8}, []Range{s(8, 1, 3), s(8, -4, 0)}, 0) != Of(1, 0) || Apply(api.OpEq, 1, []int{8, 8}, []Range{s(8, 1, 3), s(8, -4, 0)}, 0) != Of(1, 0) || Apply(api.OpNe, 1, []int{8, 8}, []Range{s(8, 1, 3), s(8, -4, 1)}, 0) != Top(1) {
		t.Error("comparisons")
	}
}

func TestDomain(t *testing.T) {
	if Top(64) != (rg(0, ^uint64(0), -1<<63, 1<<63-1)) || Top(0) != (Range{}) || Of(65, 1) != (Range{}) || Of(4, 25) != (rg(9, 9, -7, -7)) || Top(1) != (rg(0, 1, -1, 0)) {
		t.Error("Top, Of")
	}
	if Valid(4, rg(0, 16, 0, 0)) || Valid(4, rg(0, 1, 0, 8)) || Valid(4, rg(0, 1, -9, 0)) || Valid(4, rg(2, 1, 0, 0)) || Valid(4, rg(1, 1, 1, 0)) || Valid(0, Range{}) || !Valid(4, rg(9, 9, 0, 0)) {
		t.Error("Valid")
	}
	if Contains(4, Top(4), 16) || Contains(65, Top(4), 1) || !Contains(4, rg(9, 10, -7, -7), 9) || Contains(4, rg(9, 10, -7, -7), 10) {
		t.Error("Contains")
	}
	a, b := rg(1, 5, 1, 5), rg(3, 9, -2, 7)
	if Join(a, b) != (rg(1, 9, -2, 7)) || Leq(a, b) || !Leq(a, Join(a, b)) {
		t.Error("Join")
	}
	if m, ok := Meet(a, b); !ok || m != (rg(3, 5, 1, 5)) {
		t.Error(m)
	}
	if m, ok := Meet(a, rg(6, 9, 0, 9)); ok || m != (Range{}) {
		t.Error(m)
	}
}
