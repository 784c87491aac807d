package knownbits

import (
	"testing"

	"jacquard/api"
	"jacquard/bits"
	"jacquard/operator"
)

// all returns all valid elements of a width.
func all(w int) []Bits {
	var l []Bits
	for z := range uint64(1) << w {
		for o := range uint64(1) << w {
			if z&o == 0 {
				l = append(l, Bits{Zeros: z, Ones: o})
			}
		}
	}
	return l
}

func words(w int, b Bits) []uint64 {
	var l []uint64
	for n := range uint64(1) << w {
		if Contains(b, n) {
			l = append(l, n)
		}
	}
	return l
}

// best returns the best element that contains all values.
func best(op, w int, widths []int, args []Bits) Bits {
	r := Bits{Zeros: bits.Mask(w), Ones: bits.Mask(w)}
	for _, x := range words(widths[0], args[0]) {
		for _, y := range words(widths[1], args[1]) {
			r = Join(r, Of(w, operator.Value(op, w, widths, []uint64{x, y}, 0)))
		}
	}
	return r
}

func TestBinary(t *testing.T) {
	for _, w := range []int{1, 2, 3} {
		for op := api.OpAdd; op <= api.OpSLe; op++ {
			width := w
			if bits.IsCompare(op) {
				width = 1
			}
			widths := []int{w, w}
			results := map[[2]Bits]Bits{}
			for _, a := range all(w) {
				for _, b := range all(w) {
					args := []Bits{a, b}
					got := Apply(op, width, widths, args, 0)
					want := best(op, width, widths, args)
					if !Valid(width, got) || !Leq(want, got) {
						t.Fatal(bits.Name(op), w, args, got, "not sound", want)
					}
					_, exact := Exact(w, b)
					switch op {
					case api.OpMul, api.OpUDiv, api.OpURem, api.OpSDiv, api.OpSRem:
					case api.OpShl, api.OpLShr, api.OpAShr:
						if exact && got != want {
							t.Fatal(bits.Name(op), w, args, got, want)
						}
					default:
						if got != want {
							t.Fatal(bits.Name(op), w, args, got, want)
						}
					}
					results[[2]Bits{a, b}] = got
				}
			}
			if w > 2 {
				continue
			}
			for x, r := range results {
				for y, s := range results {
					if Leq(x[0], y[0]) && Leq(x[1], y[1]) && !Leq(r, s) {
						t.Fatal(bits.Name(op), x, y, "not monotone")
					}
				}
			}
		}
	}
}

func TestOthers(t *testing.T) {
	for _, a := range all(3) {
		for _, op := range []int{api.OpZExt, api.OpSExt, api.OpTrunc} {
			for w := 1; w <= 5; w++ {
				got := Apply(op, w, []int{3}, []Bits{a}, 0)
				if op == api.OpTrunc && w > 3 || op != api.OpTrunc && w < 3 {
					if got != (Bits{}) {
						t.Error("shape", op, w)
					}
					continue
				}
				want := Bits{Zeros: bits.Mask(w), Ones: bits.Mask(w)}
				for _, x := range words(3, a) {
					want = Join(want, Of(w, operator.Value(op, w, []int{3}, []uint64{x}, 0)))
				}
				if got != want {
					t.Error(op, w, a, got, want)
				}
			}
		}
		for _, b := range all(3) {
			for _, c := range all(1) {
				got := Apply(api.OpSelect, 3, []int{1, 3, 3}, []Bits{c, a, b}, 0)
				want := Join(a, b)
				if c.Ones == 1 {
					want = a
				} else if c.Zeros == 1 {
					want = b
				}
				if got != want {
					t.Error(a, b, c, got)
				}
			}
		}
	}
	if Apply(api.OpConst, 4, nil, nil, 26) != Of(4, 10) {
		t.Error("const")
	}
}

func TestExamples(t *testing.T) {
	if Of(4, 10) != (Bits{Zeros: 5, Ones: 10}) || Of(0, 1) != (Bits{}) || Of(65, 1) != (Bits{}) {
		t.Error("Of")
	}
	if got := Apply(api.OpAdd, 4, []int{4, 4}, []Bits{{Zeros: 4, Ones: 1}, Of(4, 1)}, 0); got != (Bits{Zeros: 1}) {
		t.Error(got)
	}
	if got := Apply(api.OpMul, 4, []int{4, 4}, []Bits{{Zeros: 1}, {Zeros: 3}}, 0); got != (Bits{Zeros: 7}) {
		t.Error(got)
	}
	if got := Apply(api.OpMul, 8, []int{8, 8}, []Bits{{Zeros: 4, Ones: 3}, {Zeros: 2, Ones: 5}}, 0); got != (Bits{Ones: 7}) {
		t.Error(got) // 3 * 5 = 15: the lowest three bits are 111.
	}
	if got := Apply(api.OpURem, 8, []int{8, 8}, []Bits{{Zeros: 0xC1, Ones: 2}, Of(8, 16)}, 0); got != (Bits{Zeros: 0xF1, Ones: 2}) {
		t.Error(got)
	}
	if got := Apply(api.OpUDiv, 8, []int{8, 8}, []Bits{{Zeros: 0xC0}, {Ones: 2}}, 0); got != (Bits{Zeros: 0xC0}) {
		t.Error(got)
	}
	if got := Apply(api.OpAShr, 64, []int{64, 64}, []Bits{{Ones: 7 << 61}, {}}, 0); got != (Bits{Ones: 7 << 61}) {
		t.Error(got)
	}
}

func TestDomain(t *testing.T) {
	if !Valid(64, Bits{Zeros: ^uint64(0)}) || Valid(4, Bits{Ones: 16}) || Valid(4, Bits{Zeros: 1, Ones: 1}) || Valid(0, Bits{}) || Valid(65, Bits{}) {
		t.Error("Valid")
	}
	if n, ok := Exact(4, Of(4, 9)); n != 9 || !ok {
		t.Error("Exact")
	}
	for _, b := range []Bits{{}, {Zeros: 7}, {Zeros: 16, Ones: 15}, {Zeros: 15, Ones: 1}} {
		if n, ok := Exact(4, b); n != 0 || ok {
			t.Error(b)
		}
	}
	if m, ok := Meet(Bits{Zeros: 1}, Bits{Ones: 1}); ok || m != (Bits{}) {
		t.Error("Meet")
	}
	if m, ok := Meet(Bits{Zeros: 1}, Bits{Ones: 2}); !ok || m != (Bits{Zeros: 1, Ones: 2}) {
		t.Error("Meet")
	}
	for _, bad := range []Bits{
		Apply(api.OpAdd, 4, []int{4, 4}, []Bits{{}}, 0), Apply(api.OpAdd, 4, []int{4, 5}, []Bits{Of(4, 1), Of(5, 1)}, 0), Apply(api.OpLoad, 4, []int{4, 1}, []Bits{Of(4, 1), Of(1, 1)}, 0),
		Apply(api.OpAdd, 4, []int{4, 4}, []Bits{Of(4, 1), {Zeros: 1, Ones: 1}}, 0), Apply(0, 4, nil, nil, 0), Apply(api.OpConst, 0, nil, nil, 3), Apply(api.OpEq, 4, []int{4, 4}, []Bits{Of(4, 1), Of(4, 1)}, 0),
	} {
		if bad != (Bits{}) {
			t.Error(bad)
		}
	}
}
