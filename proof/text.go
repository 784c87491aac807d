package proof

import (
	"strconv"
	"strings"

	"jacquard/api"
)

// Format returns the text of points.
func Format(points []Point) string {
	var b strings.Builder
	line := func(word string, numbers ...string) {
		b.WriteString(word)
		for _, n := range numbers {
			b.WriteByte(' ')
			b.WriteString(n)
		}
		b.WriteByte('\n')
	}
	for _, p := range points {
		line("point", strconv.Itoa(p.Kind), strconv.Itoa(p.Block), strconv.Itoa(p.Cycle), strconv.Itoa(p.Lo), strconv.Itoa(p.Hi))
		for _, h := range p.Holds {
			line("hold", strconv.Itoa(h.Kind), strconv.Itoa(h.Cell), strconv.Itoa(h.Slot), strconv.FormatUint(h.Word, 10), strconv.Itoa(h.Value), strconv.Itoa(h.Stage))
		}
	}
	return b.String()
}

// reader reads the words of a line; bad says that one of them is wrong.
type reader struct {
	words []string
	bad   bool
}

func (r *reader) number() int {
	n, err := strconv.Atoi(r.words[0])
	r.bad = r.bad || err != nil || strconv.Itoa(n) != r.words[0]
	r.words = r.words[1:]
	return n
}

func (r *reader) word() uint64 {
	n, err := strconv.ParseUint(r.words[0], 10, 64)
	r.bad = r.bad || err != nil || strconv.FormatUint(n, 10) != r.words[0]
	r.words = r.words[1:]
	return n
}

// Parse returns the points of a text: ErrLimit, ErrSyntax.
func Parse(s string) ([]Point, api.Errno) {
	if len(s) > api.MaxText {
		return nil, api.ErrLimit
	}
	var points []Point
	for s != "" {
		line, rest, ended := strings.Cut(s, "\n")
		s = rest
		words := strings.Split(line, " ")
		r := &reader{words: words[1:]}
		switch {
		case !ended:
			r.bad = true
		case words[0] == "point" && len(words) == 6:
			points = append(points, Point{Kind: r.number(), Block: r.number(), Cycle: r.number(), Lo: r.number(), Hi: r.number()})
		case words[0] == "hold" && len(words) == 7 && len(points) > 0:
			p := &points[len(points)-1]
			p.Holds = append(p.Holds, Hold{Kind: r.number(), Cell: r.number(), Slot: r.number(), Word: r.word(), Value: r.number(), Stage: r.number()})
		default:
			r.bad = true
		}
		if r.bad {
			return nil, api.ErrSyntax
		}
	}
	return points, api.OK
}
