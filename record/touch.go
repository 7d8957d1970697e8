package record

import (
	"iter"
	"strconv"
	"strings"

	"waveport/api"
	"waveport/num"
)

// lineElements is the greatest number of elements in a line of a point with more than two ports.
const lineElements = 4

// places yields the rows and columns of the elements of a point, from 0 on, in the order of a file.
func places(ports int) iter.Seq2[int, int] {
	return func(yield func(row, column int) bool) {
		for i := range ports {
			for k := range ports {
				row, column := i, k
				if ports == 2 { // a habit of this dialect
					row, column = k, i
				}
				if !yield(row, column) {
					return
				}
			}
		}
	}
}

// WriteTouch returns the text of a table in the dialect with decimal real and imaginary parts.
func WriteTouch(t Table) (string, api.Errno) {
	if !ValidTable(t) {
		return "", api.ErrArg
	}
	z, ok := decimalText(t.Z)
	if !ok {
		return "", api.ErrNone
	}
	var text strings.Builder
	text.WriteString("# HZ S RI R " + z + "\n")
	for k, f := range t.Freqs {
		for _, line := range pointLines(f, t.S[k]) {
			words, ok := decimalTexts(line)
			if !ok {
				return "", api.ErrNone
			}
			text.WriteString(strings.Join(words, " ") + "\n")
		}
	}
	return text.String(), api.OK
}

// pointLines returns the numbers of each line of a point.
func pointLines(freq num.Num, m [][]num.Num) [][]num.Num {
	var lines [][]num.Num
	line := []num.Num{freq}
	for i, k := range places(len(m)) {
		if len(m) > 2 && k%lineElements == 0 && i+k > 0 {
			lines = append(lines, line)
			line = nil
		}
		line = append(line, m[i][k].Re(), m[i][k].Im())
	}
	return append(lines, line)
}

// decimalTexts returns the decimal texts of real numbers, and whether all of them have one.
func decimalTexts(l []num.Num) ([]string, bool) {
	var words []string
	for _, x := range l {
		s, ok := decimalText(x)
		if !ok {
			return nil, false
		}
		words = append(words, s)
	}
	return words, true
}

// decimalText returns the decimal text of a real number, and whether it has one.
func decimalText(x num.Num) (string, bool) {
	power, _ := num.Parse("1e" + strconv.Itoa(api.MaxDecimals))
	x = x.Mul(power)
	if !x.Floor(0).Same(x) {
		return "", false
	}
	digits, below := strings.CutPrefix(x.Text(), "-")
	digits = strings.Repeat("0", max(0, api.MaxDecimals+1-len(digits))) + digits
	at := len(digits) - api.MaxDecimals // of the point
	s := digits[:at]
	if fraction := strings.TrimRight(digits[at:], "0"); fraction != "" {
		s += "." + fraction
	}
	if below {
		s = "-" + s
	}
	return s, true
}

// ReadTouch returns the table of a text in that dialect, for so many ports.
func ReadTouch(s string, ports int) (Table, api.Errno) {
	if !within(ports, 1, api.MaxPorts) {
		return Table{}, api.ErrArg
	}
	if len(s) > api.MaxFile {
		return Table{}, api.ErrSize
	}
	lines := wordLines(s)
	if len(lines) == 0 {
		return Table{}, api.ErrForm
	}
	unit, z, ok := readOptions(lines[0])
	numbers, fine := readDecimals(lines[1:])
	size := 1 + 2*ports*ports
	if !ok || !fine || len(numbers)%size != 0 {
		return Table{}, api.ErrForm
	}
	t := Table{Z: z}
	for ; len(numbers) > 0; numbers = numbers[size:] {
		t.Freqs = append(t.Freqs, numbers[0].Mul(unit))
		t.S = append(t.S, readPoint(numbers[1:], ports))
	}
	if !ValidTable(t) {
		return Table{}, api.ErrArg
	}
	return t, api.OK
}

// wordLines returns the words of each line that has some.
func wordLines(s string) [][]string {
	var out [][]string
	for line := range strings.Lines(s) {
		if ended, ok := strings.CutSuffix(line, "\n"); ok {
			line = strings.TrimSuffix(ended, "\r")
		}
		line, _, _ = strings.Cut(line, "!")
		words := strings.FieldsFunc(line, func(r rune) bool { return r == ' ' || r == '\t' })
		if len(words) > 0 {
			out = append(out, words)
		}
	}
	return out
}

// readOptions returns the unit of the frequencies and the reference impedance that the words of an option line say, and whether it has the form of one.
func readOptions(words []string) (unit, z num.Num, ok bool) {
	if len(words) != 6 || words[0] != "#" || words[2] != "S" || words[3] != "RI" || words[4] != "R" {
		return num.Num{}, num.Num{}, false
	}
	unit, ok = unitOf(words[1])
	z, fine := readDecimal(words[5])
	return unit, z, ok && fine
}

// unitOf returns the value of a unit, and whether it is one.
func unitOf(name string) (num.Num, bool) {
	switch name {
	case "HZ":
		return num.Int(1), true
	case "KHZ":
		return num.Int(1e3), true
	case "MHZ":
		return num.Int(1e6), true
	case "GHZ":
		return num.Int(1e9), true
	}
	return num.Num{}, false
}

// readDecimals returns the numbers that the words of lines are, and whether all are numbers.
func readDecimals(lines [][]string) ([]num.Num, bool) {
	var out []num.Num
	for _, words := range lines {
		for _, w := range words {
			x, ok := readDecimal(w)
			if !ok {
				return nil, false
			}
			out = append(out, x)
		}
	}
	return out, true
}

// readDecimal returns the number that a word is, and whether it is a real number without a division.
func readDecimal(word string) (num.Num, bool) {
	if strings.ContainsAny(word, "/i") {
		return num.Num{}, false
	}
	x, e := num.Parse(word)
	return x, e == api.OK
}

// readPoint returns the matrix with the elements whose parts are the first ones of a list.
func readPoint(parts []num.Num, ports int) [][]num.Num {
	m := blank(ports)
	imaginary, _ := num.New(0, 1, 1)
	for i, k := range places(ports) {
		m[i][k] = parts[0].Add(parts[1].Mul(imaginary))
		parts = parts[2:]
	}
	return m
}
