package calibrate

import (
	"strconv"
	"strings"

	"waveport/api"
	"waveport/num"
)

// maxPlaces is the greatest number of digits of an integer in the text of a kit.
const maxPlaces = 9

// ParseKit returns the kit with a text, or the number of the first line that is wrong.
func ParseKit(text string) (k Kit, line int, e api.Errno) {
	if len(text) > api.MaxText {
		return Kit{}, 0, api.ErrSize
	}
	r := &reader{}
	defer func() {
		if recover() != nil {
			k, line, e = Kit{}, r.line, api.ErrForm
		}
	}()
	r.read(text)
	if r.last == "" {
		return Kit{}, 0, api.ErrForm
	}
	if e = checkKit(r.kit); e != api.OK {
		return Kit{}, 0, e
	}
	return r.kit, 0, api.OK
}

// reader reads the lines of the text of a kit. It reports a malformed line by a panic.
type reader struct {
	kit   Kit
	line  int      // the number of the line that is read
	words []string // the words of it that are not read yet
	last  string   // the first word of the line ahead of it, without those that are skipped
}

// must reports the line that is read, unless it is as it should be.
func must(ok bool) {
	if !ok {
		panic(api.ErrForm)
	}
}

// read reads all lines of a text.
func (r *reader) read(text string) {
	forms := r.forms()
	for i, line := range strings.Split(text, "\n") {
		if line == "" || line[0] == '#' {
			continue
		}
		r.line, r.words = i+1, strings.Split(line, " ")
		first := r.word()
		form, ok := forms[first]
		must(ok && (first == "kit") == (r.last == ""))
		form()
		must(len(r.words) == 0)
		r.last = first
	}
}

// forms returns the functions that read the forms of lines behind their first words.
func (r *reader) forms() map[string]func() {
	standard := func(kind int, own func(s *Standard)) func() {
		return func() {
			s := Standard{Kind: kind}
			s.Name = r.word()
			s.Connector = r.word()
			own(&s)
			s.Delay = r.number()
			s.Sections = r.integer()
			s.Loss = r.number()
			s.Uses = r.integer()
			s.Most = r.integer()
			r.kit.Standards = append(r.kit.Standards, s)
		}
	}
	fringe := func(s *Standard) { s.Fringe = r.number() }
	impedance := func(s *Standard) {
		s.Resistance = r.number()
		fringe(s)
	}
	return map[string]func(){
		"kit": func() {
			r.kit.Name = r.word()
			r.kit.Version = r.integer()
		},
		"short": standard(Short, fringe),
		"open":  standard(Open, fringe),
		"load":  standard(Load, impedance),
		"known": standard(Known, func(*Standard) {}),
		"point": func() {
			must(r.last == "known" || r.last == "point")
			var p Point
			p.Frequency = r.number()
			p.Reflection = r.number()
			s := &r.kit.Standards[len(r.kit.Standards)-1]
			s.Points = append(s.Points, p)
		},
	}
}

// word reads a word. Words are empty where a space is too many.
func (r *reader) word() string {
	must(len(r.words) > 0 && r.words[0] != "")
	w := r.words[0]
	r.words = r.words[1:]
	return w
}

// number reads a number of layer 1.
func (r *reader) number() num.Num {
	x, e := num.Parse(r.word())
	must(e == api.OK)
	return x
}

// integer reads some digits.
func (r *reader) integer() int {
	w := r.word()
	must(len(w) <= maxPlaces && strings.Trim(w, "0123456789") == "" && (w == "0" || w[0] != '0'))
	n, _ := strconv.Atoi(w)
	return n
}
