package budget

import (
	"slices"
	"strings"

	"waveport/api"
	"waveport/num"
)

// Parse returns the budget with a text, or the number of the first line that is wrong.
func Parse(text string) (b Budget, line int, e api.Errno) {
	if len(text) > api.MaxText {
		return Budget{}, 0, api.ErrSize
	}
	r := &reader{}
	defer func() {
		if recover() != nil {
			b, line, e = Budget{}, r.line, api.ErrForm
		}
	}()
	r.read(text)
	if e = Valid(r.budget); e != api.OK {
		return Budget{}, 0, e
	}
	return r.budget, 0, api.OK
}

// must reports what is read, unless it is as it should be.
func must(ok bool) {
	if !ok {
		panic(api.ErrForm)
	}
}

// number reads a number of layer 1.
func number(word string) num.Num {
	x, e := num.Parse(word)
	must(e == api.OK)
	return x
}

// reader reads the lines of the text of a budget. It reports a malformed line by a panic.
type reader struct {
	budget Budget
	line   int // the number of the line that is read
}

// read reads all lines of a text.
func (r *reader) read(text string) {
	for i, line := range strings.Split(text, "\n") {
		if line == "" || line[0] == '#' {
			continue
		}
		r.line = i + 1
		first, _, _ := strings.Cut(line, " ")
		switch first {
		case "term":
			must(len(r.budget.Links) == 0 && len(r.budget.Results) == 0)
			r.term(words(line))
		case "link":
			must(len(r.budget.Results) == 0)
			r.link(words(line))
		default:
			r.result(line)
		}
	}
}

// words returns the words of a line that are separated by single spaces.
func words(line string) []string {
	l := strings.Split(line, " ")
	must(!slices.Contains(l, ""))
	return l
}

// term reads the words of a term.
func (r *reader) term(words []string) {
	must(len(words) >= 5)
	t := Term{Name: words[1], Value: number(words[2]), Half: number(words[3]), Shape: shapeOf(words[4])}
	words = words[5:]
	if t.Shape == Normal {
		must(len(words) == 1)
		t.Factor = number(words[0])
	} else {
		must(len(words) == 0)
	}
	r.budget.Terms = append(r.budget.Terms, t)
}

// shapeOf returns the shape with a word.
func shapeOf(word string) int {
	for shape, w := range shapes {
		if w == word {
			return shape
		}
	}
	panic(api.ErrForm)
}

// link reads the words of a link.
func (r *reader) link(words []string) {
	must(len(words) == 4)
	r.budget.Links = append(r.budget.Links, Link{words[1], words[2], number(words[3])})
}

// result reads the line of a result. Its expression may have spaces everywhere.
func (r *reader) result(line string) {
	parts := strings.SplitN(line, " ", 4)
	must(len(parts) == 4 && parts[0] == "result" && parts[1] != "" && parts[2] == "=")
	f := &formula{text: parts[3]}
	x := f.sum()
	must(f.done())
	r.budget.Results = append(r.budget.Results, Result{parts[1], x})
}
