package bits

import (
	"math/big"
	"testing"

	"jacquard/api"
)

// reference computes a binary operator with unbounded integers.
func reference(op, w int, a, b uint64) uint64 {
	m := new(big.Int).Lsh(big.NewInt(1), uint(w))
	x, y := new(big.Int).SetUint64(a), new(big.Int).SetUint64(b)
	sx, sy := big.NewInt(Signed(w, a)), big.NewInt(Signed(w, b))
	r := new(big.Int)
	truth := func(t bool) uint64 {
		if t {
			return 1
		}
		return 0
	}
	switch op {
	case api.OpAdd:
		r.Add(x, y)
	case api.OpSub:
		r.Sub(x, y)
	case api.OpMul:
		r.Mul(x, y)
	case api.OpUDiv:
		if b == 0 {
			return Mask(w)
		}
		r.Quo(x, y)
	case api.OpURem:
		if b == 0 {
			return a
		}
		r.Rem(x, y)
	case api.OpSDiv:
		if b == 0 {
			return Mask(w)
		}
		r.Quo(sx, sy)
	case api.OpSRem:
		if b == 0 {
			return a
		}
		r.Rem(sx, sy)
	case api.OpAnd:
		r.And(x, y)
	case api.OpOr:
		r.Or(x, y)
	case api.OpXor:
		r.Xor(x, y)
	case api.OpShl:
		if b >= uint64(w) {
			return 0
		}
		r.Lsh(x, uint(b))
	case api.OpLShr:
		if b >= uint64(w) {
			return 0
		}
		r.Rsh(x, uint(b))
	case api.OpAShr:
		if b > 70 {
			b = 70
		}
		r.Rsh(sx, uint(b))
	case api.OpEq:
		return truth(x.Cmp(y) == 0)
	case api.OpNe:
		return truth(x.Cmp(y) != 0)
	case api.OpULt:
		return truth(x.Cmp(y) < 0)
	case api.OpULe:
		return truth(x.Cmp(y) <= 0)
	case api.OpSLt:
		return truth(sx.Cmp(sy) < 0)
	case api.OpSLe:
		return truth(sx.Cmp(sy) <= 0)
	}
	return r.Mod(r, m).Uint64()
}

func words(w int) []uint64 {
	if w <= 4 {
		l := make([]uint64, 1<<w)
		for i := range l {
			l[i] = uint64(i)
		}
		return l
	}
	var l []uint64
	for _, x := range []uint64{0, 1, 2, 3, 5, 7, 8, 15, 63, 64, 100, 1 << 31, 1<<63 - 1, 1 << 63, ^uint64(0), ^uint64(0) - 1, 1<<(w-1) - 1, 1 << (w - 1)} {
		l = append(l, Fit(w, x))
	}
	return l
}

func TestBinaryAgainstIntegers(t *testing.T) {
	for op := api.OpAdd; op <= api.OpSLe; op++ {
		for _, w := range []int{1, 2, 3, 4, 7, 8, 31, 32, 33, 63, 64} {
			for _, a := range words(w) {
				for _, b := range words(w) {
					got, e := Binary(op, w, a, b)
					if want := reference(op, w, a, b); e != api.OK || got != want {
						t.Fatalf("%s %d bits %d %d: %d, want %d", Name(op), w, a, b, got, want)
					}
					if w < 64 {
						if x, _ := Binary(op, w, a|1<<w, b); x != got {
							t.Fatal("words are not cut")
						}
					}
				}
			}
		}
	}
}

func TestBinaryErrors(t *testing.T) {
	for _, c := range [][2]int{{api.OpConst, 4}, {api.OpSelect, 4}, {0, 4}, {-1, 4}, {99, 4}, {api.OpAdd, 0}, {api.OpAdd, 65}, {api.OpAdd, -1}} {
		if x, e := Binary(c[0], c[1], 1, 1); x != 0 || e != api.ErrArg {
			t.Error(c, x, e)
		}
	}
}

func TestDivisionLaw(t *testing.T) {
	for _, ops := range [][2]int{{api.OpUDiv, api.OpURem}, {api.OpSDiv, api.OpSRem}} {
		for _, w := range []int{1, 3, 4, 8, 64} {
			for _, a := range words(w) {
				for _, b := range words(w) {
					q, _ := Binary(ops[0], w, a, b)
					r, _ := Binary(ops[1], w, a, b)
					p, _ := Binary(api.OpMul, w, q, b)
					if s, _ := Binary(api.OpAdd, w, p, r); s != a {
						t.Fatal(ops, w, a, b)
					}
				}
			}
		}
	}
}

func TestOperatorLaws(t *testing.T) {
	for op := -1; op < 40; op++ {
		if !IsBinary(op) {
			if Commutes(op) || Associates(op) || IsCompare(op) {
				t.Error(op)
			}
			if _, ok := Identity(op, 4); ok {
				t.Error(op)
			}
			continue
		}
		id, has := Identity(op, 3)
		commutes, associates := true, true
		for a := range uint64(8) {
			for b := range uint64(8) {
				x, _ := Binary(op, 3, a, b)
				y, _ := Binary(op, 3, b, a)
				commutes = commutes && x == y
				for c := range uint64(8) {
					l, _ := Binary(op, 3, x, c)
					m, _ := Binary(op, 3, b, c)
					r, _ := Binary(op, 3, a, m)
					associates = associates && l == r
				}
			}
			if x, _ := Binary(op, 3, a, id); has && x != a {
				t.Error(op, a)
			}
		}
		if commutes != Commutes(op) || associates != Associates(op) && !IsCompare(op) {
			t.Error(Name(op), commutes, associates)
		}
	}
	for _, w := range []int{0, -1, 65} {
		if x, ok := Identity(api.OpMul, w); ok || x != 0 {
			t.Error(w)
		}
	}
}

func TestWords(t *testing.T) {
	if Mask(-1) != 0 || Mask(0) != 0 || Mask(1) != 1 || Mask(63) != 1<<63-1 || Mask(64) != ^uint64(0) || Mask(1000) != ^uint64(0) {
		t.Error("Mask")
	}
	if Fit(4, 0xAB) != 0xB || Fit(-4, 9) != 0 || Fit(99, 1<<63) != 1<<63 {
		t.Error("Fit")
	}
	if Signed(4, 9) != -7 || Signed(-2, 9) != 0 || Signed(70, 1<<63) != -1<<63 || From(4, -7) != 9 || From(0, 5) != 0 {
		t.Error("Signed, From")
	}
	if Extend(4, 8, 9, true) != 249 || Extend(4, 8, 9, false) != 9 || Extend(8, 4, 0xF3, true) != 3 || Extend(0, 8, 9, true) != 0 || Extend(1, 64, 1, true) != ^uint64(0) || Extend(4, 99, 0x1F, false) != 15 {
		t.Error("Extend")
	}
	if Length(0) != 0 || Length(1) != 1 || Length(8) != 4 || Length(1<<63) != 64 {
		t.Error("Length")
	}
}

func TestNames(t *testing.T) {
	for op := api.OpConst; op <= api.OpSend; op++ {
		if Name(op) == "" || Find(Name(op)) != op {
			t.Error(op)
		}
	}
	if Name(0) != "" || Name(-1) != "" || Name(api.OpSend+1) != "" || Find("") != 0 || Find("ADD") != 0 || Name(api.OpULe) != "ule" {
		t.Error("unknown names")
	}
}
