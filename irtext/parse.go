package irtext

import (
	"math"
	"slices"
	"strconv"
	"strings"

	"jacquard/api"
	"jacquard/bits"
	"jacquard/ir"
)

// Places in a text: what the next line may be.
const (
	atName = iota
	atWidths
	atArrays
	atStreams
	atBlock
	inBlock
)

// reader reads a text line by line; words are those of the line that remain, bad says that the line cannot stand there.
type reader struct {
	f     api.Func
	place int
	words []string
	bad   bool
}

// Parse returns the function that a text describes; or a zero Func, the line of the error, and the error.
func Parse(s string) (api.Func, int, api.Errno) {
	if len(s) > api.MaxText {
		return api.Func{}, 1, api.ErrLimit
	}
	r := &reader{}
	lines := strings.Split(s, "\n")
	if len(lines) > 1 && lines[len(lines)-1] == "" {
		lines = lines[:len(lines)-1]
	}
	for i, line := range lines {
		r.words = words(line)
		if len(r.words) == 0 || r.words[0][0] == '#' {
			continue
		}
		r.line()
		if r.bad || len(r.words) > 0 {
			return api.Func{}, i + 1, api.ErrSyntax
		}
	}
	if r.place != atBlock || len(r.f.Blocks) == 0 {
		return api.Func{}, len(lines), api.ErrSyntax
	}
	if !ir.Valid(r.f) {
		return api.Func{}, 0, api.ErrForm
	}
	return r.f, 0, api.OK
}

// words cuts a line into its words; a parenthesis is always one of its own.
func words(line string) []string {
	line = strings.ReplaceAll(line, "(", " ( ")
	line = strings.ReplaceAll(line, ")", " ) ")
	return strings.FieldsFunc(line, func(c rune) bool { return c == ' ' || c == '\t' || c == '\r' })
}

// next takes the next word, "" at the end of the line.
func (r *reader) next() string {
	if len(r.words) == 0 {
		return ""
	}
	w := r.words[0]
	r.words = r.words[1:]
	return w
}

// sees reports whether the next word is a certain one, and takes it then.
func (r *reader) sees(word string) bool {
	if len(r.words) > 0 && r.words[0] == word {
		r.words = r.words[1:]
		return true
	}
	return false
}

func (r *reader) expect(word string) {
	if !r.sees(word) {
		r.bad = true
	}
}

// name takes a name: any word but a parenthesis.
func (r *reader) name() string {
	w := r.next()
	if w == "" || w == "(" || w == ")" {
		r.bad = true
	}
	return w
}

// isNumber reports whether a word consists of digits without leading zeros.
func isNumber(w string) bool {
	for i := range len(w) {
		if w[i] < '0' || w[i] > '9' {
			return false
		}
	}
	return w != "" && (w[0] != '0' || w == "0")
}

// wide takes a number of 64 bits.
func (r *reader) wide() uint64 {
	w := r.next()
	n, err := strconv.ParseUint(w, 10, 64)
	if !isNumber(w) || err != nil {
		r.bad = true
	}
	return n
}

func (r *reader) number() int {
	n := r.wide()
	if n > math.MaxInt32 {
		r.bad = true
		return 0
	}
	return int(n)
}

// numbers takes numbers up to the end of the line.
func (r *reader) numbers() []int {
	var list []int
	for len(r.words) > 0 && !r.bad {
		list = append(list, r.number())
	}
	return list
}

// list takes numbers in parentheses.
func (r *reader) list() []int {
	var list []int
	r.expect("(")
	for !r.bad && !r.sees(")") {
		list = append(list, r.number())
	}
	return list
}

// line reads a line.
func (r *reader) line() {
	switch r.place {
	case atName:
		r.expect("func")
		r.f.Name = r.name()
		r.place = atWidths
	case atWidths:
		r.expect("widths")
		r.f.Widths = r.numbers()
		r.place = atArrays
	case atArrays, atStreams:
		r.port()
	case atBlock:
		r.block()
	case inBlock:
		r.inst()
	}
}

// port reads an array, a stream, or the line rets behind them.
func (r *reader) port() {
	switch {
	case r.place == atArrays && r.sees("array"):
		a := api.Array{Name: r.name(), Width: r.number(), Len: r.number()}
		switch r.next() {
		case "whole":
		case "cyclic":
			a.Kind, a.Factor = api.Cyclic, r.number()
		case "blocks":
			a.Kind, a.Factor = api.Blocks, r.number()
		case "complete":
			a.Kind = api.Complete
		default:
			r.bad = true
		}
		r.f.Arrays = append(r.f.Arrays, a)
	case r.sees("stream"):
		s := api.Stream{Name: r.name()}
		switch r.next() {
		case "in":
		case "out":
			s.Out = true
		default:
			r.bad = true
		}
		s.Width = r.number()
		r.f.Streams = append(r.f.Streams, s)
		r.place = atStreams
	default:
		r.expect("rets")
		r.f.Rets = r.numbers()
		r.place = atBlock
	}
}

// block reads the first line of a block.
func (r *reader) block() {
	r.expect("block")
	if r.number() != len(r.f.Blocks) {
		r.bad = true
	}
	b := api.Block{Params: r.list()}
	option := func(name string) int {
		if r.bad || !r.sees(name) {
			return 0
		}
		n := r.number()
		if n == 0 {
			r.bad = true
		}
		return n
	}
	b.Pipeline = option("pipeline")
	b.Unroll = option("unroll")
	b.Line = option("line")
	r.f.Blocks = append(r.f.Blocks, b)
	r.place = inBlock
}

func (r *reader) edge() api.Edge { return api.Edge{Block: r.number(), Args: r.list()} }

// inst reads an instruction or a terminator.
func (r *reader) inst() {
	b := &r.f.Blocks[len(r.f.Blocks)-1]
	switch {
	case r.sees("jump"):
		b.Term = api.Term{Kind: api.Jump, Cond: -1, To: []api.Edge{r.edge()}}
	case r.sees("branch"):
		b.Term = api.Term{Kind: api.Branch, Cond: r.number()}
		b.Term.To = []api.Edge{r.edge(), r.edge()}
	case r.sees("return"):
		b.Term = api.Term{Kind: api.Return, Cond: -1, Rets: r.numbers()}
	default:
		b.Insts = append(b.Insts, r.instruction())
		return
	}
	r.place = atBlock
}

func (r *reader) instruction() api.Inst {
	in := api.Inst{Dest: -1}
	hasDest := isNumber(r.words[0])
	if hasDest {
		in.Dest = r.number()
		r.expect("=")
	}
	in.Op = bits.Find(r.next())
	effect := in.Op == api.OpStore || in.Op == api.OpSend
	if in.Op == 0 || effect == hasDest {
		r.bad = true
		return in
	}
	switch in.Op {
	case api.OpConst:
		in.Num = r.wide()
	case api.OpLoad, api.OpStore:
		name := r.name()
		in.Mem = slices.IndexFunc(r.f.Arrays, func(a api.Array) bool { return a.Name == name })
	case api.OpRecv, api.OpSend:
		name := r.name()
		in.Mem = slices.IndexFunc(r.f.Streams, func(s api.Stream) bool { return s.Name == name })
	}
	in.Args = r.numbers()
	if in.Mem < 0 || len(in.Args) != ir.Arity(in.Op) {
		r.bad = true
	}
	return in
}
