package color

import (
	"math/rand"
	"slices"
	"testing"

	"jacquard/api"
)

func spans(list ...int) []Span {
	var l []Span
	for i := 0; i < len(list); i += 2 {
		l = append(l, Span{Start: list[i], Len: list[i+1]})
	}
	return l
}

func TestExamples(t *testing.T) {
	l := spans(0, 3, 1, 3, 3, 2)
	if !slices.Equal(Load(l, 0), []int{1, 2, 2, 2, 1}) || !slices.Equal(Color(l, 0), []int{0, 1, 0}) {
		t.Error(Load(l, 0), Color(l, 0))
	}
	if n, e := Least(l, 0); n != 2 || e != api.OK {
		t.Error(n)
	}
	l = spans(0, 3, 2, 3, 1, 2)
	if !slices.Equal(Load(l, 4), []int{2, 2, 3, 1}) {
		t.Error(Load(l, 4))
	}
	if n, _ := Least(l, 4); n != 3 {
		t.Error(n)
	}
	if Load(nil, 0) != nil || Load(spans(0, 0), 0) != nil || !slices.Equal(Load(nil, 2), []int{0, 0}) || Load(spans(0, 1, 1<<22, 1), 0) != nil || len(Load(spans(0, 1, 1<<21-1, 1), 0)) != 1<<21 {
		t.Error("Load")
	}
	if n, _ := Least(nil, 3); n != 0 {
		t.Error(n)
	}
	if n, _ := Least(spans(5, 0), 0); n != 1 {
		t.Error(n)
	}
	if n, e := Least(make([]Span, 9), 0); n != 0 || e != api.ErrLimit {
		t.Error(e)
	}
	if !Overlap(Span{Start: -1, Len: 2}, Span{Start: 7, Len: 1}, 4) || Overlap(Span{Start: -1, Len: 2}, Span{Start: 5, Len: 2}, 4) || Overlap(Span{Len: -3}, Span{Len: 5}, 4) || !Overlap(Span{Start: 0, Len: 1 << 40}, Span{Start: 1<<20 - 1, Len: 1}, -5) || Overlap(Span{Start: 0, Len: 1 << 40}, Span{Start: 1 << 20, Len: 1}, 0) || !Overlap(Span{Start: 1 << 40, Len: 1}, Span{Start: 1 << 30, Len: 1}, 0) {
		t.Error("Overlap")
	}
	if Proper(spans(0, 1), 0, nil) || Proper(spans(0, 1), 0, []int{-1}) || Proper(spans(0, 2, 1, 1), 0, []int{3, 3}) || !Proper(spans(0, 2, 2, 1), 0, []int{3, 3}) {
		t.Error("Proper")
	}
}

func TestRandom(t *testing.T) {
	r := rand.New(rand.NewSource(1))
	for range 20000 {
		ii := max(0, r.Intn(10)-3)
		var l []Span
		for range r.Intn(8) {
			l = append(l, Span{Start: r.Intn(20) - 10, Len: r.Intn(9) - 1})
		}
		colors := Color(l, ii)
		if !Proper(l, ii, colors) {
			t.Fatal(l, ii, colors)
		}
		counts := Load(l, ii)
		load, least, some := 0, 0, false
		for i, s := range l {
			some = some || s.Len > 0
			if s.Len <= 0 && colors[i] != 0 {
				t.Fatal("empty span")
			}
		}
		if len(counts) > 0 {
			load, least = slices.Max(counts), slices.Min(counts)
		}
		limit := load
		if ii > 0 {
			limit += least
		}
		for _, c := range colors {
			if c >= max(limit, 1) {
				t.Fatal(l, ii, colors, counts)
			}
		}
		n, _ := Least(l, ii)
		if len(l) > 0 && (n < load || ii == 0 && some && n != load || n > slices.Max(colors)+1) {
			t.Fatal(l, ii, n)
		}
		for i := range l {
			for j := range l {
				a, b := map[int]bool{}, false
				key := func(c int) int {
					if ii > 0 {
						return ((c % ii) + ii) % ii
					}
					return c
				}
				for c := range max(l[i].Len, 0) {
					a[key(l[i].Start+c)] = true
				}
				for c := range max(l[j].Len, 0) {
					b = b || a[key(l[j].Start+c)]
				}
				if Overlap(l[i], l[j], ii) != b {
					t.Fatal("Overlap", l[i], l[j], ii)
				}
			}
		}
	}
}
