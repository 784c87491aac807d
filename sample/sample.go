// Package sample makes kernels and environments for tests: the same ones for the same seeds.
package sample

import (
	"strconv"
	"strings"

	"jacquard/api"
	"jacquard/bits"
	"jacquard/lexer"
)

// Shape says what a kernel may contain.
type Shape struct {
	Calls, Loops, Nested, Streams, Arrays, Directives, Division bool
	Statements                                                  int
}

// Dice is a sequence of numbers that follows from its seed.
type Dice struct{ state uint64 }

// Roll returns a Dice with a seed.
func Roll(seed uint64) *Dice { return &Dice{seed*2862933555777941757 + 3037000493} }

// Word returns the next word.
func (d *Dice) Word() uint64 {
	d.state ^= d.state << 13
	d.state ^= d.state >> 7
	d.state ^= d.state << 17
	return d.state * 2685821657736338717
}

// Upto returns the next number from 0 to n - 1.
func (d *Dice) Upto(n int) int { return int(d.Word() >> 33 % uint64(n)) }

// Of returns a word of w bits, often a small or a great one.
func (d *Dice) Of(w int) uint64 {
	switch d.Upto(4) {
	case 0:
		return bits.Fit(w, uint64(d.Upto(4)))
	case 1:
		return bits.Fit(w, -uint64(d.Upto(4)))
	}
	return bits.Fit(w, d.Word())
}

// list returns n words of w bits.
func (d *Dice) list(n, w int) []uint64 {
	l := make([]uint64, n)
	for i := range l {
		l[i] = d.Of(w)
	}
	return l
}

// KernelEnv returns an environment that fits a kernel.
func KernelEnv(seed uint64, kernel api.Node) api.Env {
	d := Roll(seed)
	var env api.Env
	for _, k := range kernel.Kids {
		switch k.Kind {
		case api.NodeParam:
			env.Scalars = append(env.Scalars, d.Of(k.Type.Width))
		case api.NodeArray:
			env.Arrays = append(env.Arrays, d.list(int(k.Num), k.Type.Width))
		case api.NodeIn:
			env.Ins = append(env.Ins, d.list(d.Upto(40), k.Type.Width))
		case api.NodeOut:
			env.Ins = append(env.Ins, nil)
		}
	}
	return env
}

// FuncEnv returns an environment that fits a function.
func FuncEnv(seed uint64, f api.Func) api.Env {
	d := Roll(seed)
	var env api.Env
	for _, p := range f.Blocks[0].Params {
		env.Scalars = append(env.Scalars, d.Of(f.Widths[p]))
	}
	for _, a := range f.Arrays {
		env.Arrays = append(env.Arrays, d.list(a.Len, a.Width))
	}
	for _, s := range f.Streams {
		if s.Out {
			env.Ins = append(env.Ins, nil)
		} else {
			env.Ins = append(env.Ins, d.list(d.Upto(40), s.Width))
		}
	}
	return env
}

// name is a visible name of a type; a fixed one cannot be assigned.
type name struct {
	text  string
	typ   api.Type
	fixed bool
}

// writer writes a kernel; depth counts the loops around a statement.
type writer struct {
	*Dice
	strings.Builder
	shape   Shape
	types   []api.Type
	names   []name
	pure    bool
	count   int
	nesting int
	looped  bool
}

// Source returns the source of a kernel that always ends, if its input streams are long enough.
func Source(seed uint64, s Shape) string {
	w := &writer{Dice: Roll(seed), shape: s}
	for _, t := range []api.Type{{Width: 8}, {Width: 1}, {Width: 5, Signed: true}, {Width: 16}} {
		if t.Width == 8 || w.Upto(3) > 0 {
			w.types = append(w.types, t)
		}
	}
	if s.Calls {
		w.function("f", "")
		w.function("g", "f")
	}
	w.put("kernel k(")
	for i, t := range w.types {
		w.put("p", strconv.Itoa(i), ": ", lexer.TypeName(t), ", ")
		w.names = append(w.names, name{"p" + strconv.Itoa(i), t, true})
	}
	if s.Arrays {
		w.put("a: u8[8], b: u8[5], ")
	}
	if s.Streams {
		w.put("i: in u8, j: in u5, ")
	}
	w.put("o: out u8) -> u8 {\n")
	for range max(s.Statements, 1) {
		w.statement()
	}
	w.put("return ", w.expr(api.Type{Width: 8}, 3), ";\n}\n")
	return w.String()
}

func (w *writer) put(parts ...string) {
	for _, p := range parts {
		w.WriteString(p)
	}
}

// function writes a function that may call another one.
func (w *writer) function(f, other string) {
	names, shape := w.names, w.shape
	u8 := api.Type{Width: 8}
	w.names = []name{{"x", u8, true}, {"y", u8, true}}
	w.pure, w.shape.Calls = true, false
	w.put("fn ", f, "(x: u8, y: u8) -> u8 {\n")
	if other != "" {
		w.put("let z = ", other, "(y, x) + ", other, "(x, ", other, "(y, 3));\n")
		w.names = append(w.names, name{"z", u8, true})
	}
	for range w.Upto(3) {
		w.statement()
	}
	w.put("return ", w.expr(u8, 2), ";\n}\n")
	w.names, w.shape, w.pure = names, shape, false
}

func (w *writer) fresh() string {
	w.count++
	return "v" + strconv.Itoa(w.count)
}

func (w *writer) anyType() api.Type { return w.types[w.Upto(len(w.types))] }

// statement writes a statement.
func (w *writer) statement() {
	switch w.Upto(9) {
	case 0, 1:
		t := w.anyType()
		n := w.fresh()
		w.put("var ", n, ": ", lexer.TypeName(t), " = ", w.expr(t, 3), ";\n")
		w.names = append(w.names, name{n, t, false})
	case 2:
		t := w.anyType()
		n := w.fresh()
		w.put("let ", n, " = ", w.closed(t, 3), ";\n")
		w.names = append(w.names, name{n, t, true})
	case 3, 4:
		w.assign()
	case 5:
		if w.pure || !w.shape.Arrays {
			w.assign()
		} else {
			w.put([]string{"a", "b"}[w.Upto(2)], "[", w.index(), "] = ", w.expr(api.Type{Width: 8}, 3), ";\n")
		}
	case 6:
		if !w.pure {
			w.put("send o(", w.expr(api.Type{Width: 8}, 3), ");\n")
		}
	case 7:
		w.branch()
	case 8:
		w.loop()
	}
}

func (w *writer) index() string {
	if w.Upto(2) == 0 {
		return strconv.Itoa(w.Upto(9))
	}
	return w.closed(api.Type{Width: 8}, 1)
}

func (w *writer) assign() {
	at := w.Upto(len(w.names))
	for range w.names {
		if n := w.names[at]; !n.fixed {
			w.put(n.text, " = ", w.expr(n.typ, 3), ";\n")
			return
		}
		at = (at + 1) % len(w.names)
	}
}

// block writes some statements in braces.
func (w *writer) block(before, after string) {
	visible := len(w.names)
	w.nesting++
	w.put(" {\n", before)
	for range 1 + w.Upto(3) {
		w.statement()
	}
	w.put(after, "}")
	w.nesting--
	w.names = w.names[:visible]
}

func (w *writer) branch() {
	if w.nesting > 3 {
		return
	}
	w.put("if ", w.expr(api.Type{Width: 1}, 2))
	w.block("", "")
	if w.Upto(2) == 0 {
		w.put(" else")
		w.block("", "")
	}
	w.put("\n")
}

func (w *writer) loop() {
	if !w.shape.Loops || w.nesting > 2 || w.looped && !w.shape.Nested {
		return
	}
	outer := w.looped
	w.looped = true
	if w.Upto(2) == 0 {
		n := w.fresh()
		end := strconv.Itoa(w.Upto(6))
		if w.Upto(3) == 0 {
			end = w.expr(api.Type{Width: 8}, 1) + " & 7"
		}
		w.directives()
		visible := len(w.names)
		w.names = append(w.names, name{n, api.Type{Width: 8}, true})
		w.put("for ", n, ": u8 in ", strconv.Itoa(w.Upto(3)), " .. ", end)
		w.block("", "")
		w.names = w.names[:visible]
	} else {
		n := w.fresh()
		w.put("var ", n, ": u4 = ", strconv.Itoa(w.Upto(6)), ";\n")
		w.directives()
		w.put("while ", n, " != 0 && ", w.expr(api.Type{Width: 1}, 2))
		w.block("", n+" = "+n+" - 1;\n")
	}
	w.put("\n")
	w.looped = outer
}

func (w *writer) directives() {
	if !w.shape.Directives {
		return
	}
	switch w.Upto(4) {
	case 0:
		w.put("#pipeline\n")
	case 1:
		w.put("#unroll ", strconv.Itoa(2+w.Upto(2)), "\n#pipeline 2\n")
	case 2:
		w.put("#unroll 2\n")
	}
}

// closed returns an expression of a type that is not open.
func (w *writer) closed(t api.Type, depth int) string {
	if w.Upto(2) == 0 {
		from := w.anyType()
		return "((" + w.atom(from) + " as " + lexer.TypeName(from) + ") as " + lexer.TypeName(t) + ")"
	}
	return "(" + w.expr(t, depth) + " as " + lexer.TypeName(t) + ")"
}

// atom returns a name or a number of a type.
func (w *writer) atom(t api.Type) string {
	at := w.Upto(len(w.names))
	for range w.names {
		if w.names[at].typ == t && w.Upto(4) > 0 {
			return w.names[at].text
		}
		at = (at + 1) % len(w.names)
	}
	return strconv.FormatUint(w.Of(t.Width), 10)
}

// expr returns an expression for a place with a type.
func (w *writer) expr(t api.Type, depth int) string {
	if depth == 0 {
		return w.atom(t)
	}
	name := lexer.TypeName(t)
	switch w.Upto(12) {
	case 0, 1:
		return w.atom(t)
	case 2:
		return "(" + w.expr(api.Type{Width: 1}, depth-1) + " ? " + w.expr(t, depth-1) + " : " + w.expr(t, depth-1) + ")"
	case 3:
		return w.closed(t, depth-1)
	case 4:
		return []string{"-", "~"}[w.Upto(2)] + w.expr(t, depth-1)
	case 5:
		if t.Width == 1 {
			from := w.anyType()
			op := []string{"==", "!=", "<", "<=", ">", ">="}[w.Upto(6)]
			return "(" + w.closed(from, depth-1) + " " + op + " " + w.expr(from, depth-1) + ")"
		}
	case 6:
		return w.port(t, name, depth)
	case 7:
		if t.Width == 1 {
			return "(" + w.expr(t, depth-1) + []string{" && ", " || "}[w.Upto(2)] + w.expr(t, depth-1) + ")"
		}
		if w.shape.Division {
			return "(" + w.expr(t, depth-1) + []string{" / ", " % ", " * "}[w.Upto(3)] + w.expr(t, depth-1) + ")"
		}
	}
	op := []string{" + ", " - ", " & ", " | ", " ^ ", " << ", " >> ", " + "}[w.Upto(8)]
	return "(" + w.expr(t, depth-1) + op + w.expr(t, depth-1) + ")"
}

// port returns an expression that receives, reads an array, or calls a function.
func (w *writer) port(t api.Type, name string, depth int) string {
	k := w.Upto(4)
	switch {
	case k == 0 && w.shape.Streams && !w.pure:
		return "(recv(" + []string{"i", "j"}[w.Upto(2)] + ") as " + name + ")"
	case k <= 1 && w.shape.Arrays && !w.pure:
		return "(" + []string{"a", "b"}[w.Upto(2)] + "[" + w.index() + "] as " + name + ")"
	case w.shape.Calls:
		u8 := api.Type{Width: 8}
		return "(" + []string{"f", "g"}[w.Upto(2)] + "(" + w.expr(u8, depth-1) + ", " + w.expr(u8, depth-1) + ") as " + name + ")"
	}
	return w.atom(t)
}
