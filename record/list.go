package record

import (
	"strconv"
	"strings"

	"waveport/api"
	"waveport/num"
)

// sealSize is the number of bytes of the last line of a list, with the check sum.
const sealSize = 9

// seal returns the last line of a list with a text ahead of it.
func seal(text string) string {
	s := strconv.FormatUint(uint64(Sum([]byte(text))), 16)
	return "sum," + strings.Repeat("0", 4-len(s)) + s + "\n"
}

// WriteList returns the text of a table in the dialect with one element a line.
func WriteList(t Table) (string, api.Errno) {
	if !ValidTable(t) {
		return "", api.ErrArg
	}
	var text strings.Builder
	text.WriteString("z," + t.Z.Text() + "\n")
	for k, f := range t.Freqs {
		freq := f.Text()
		for i, row := range t.S[k] {
			for j, x := range row {
				text.WriteString(freq + "," + strconv.Itoa(i+1) + "," + strconv.Itoa(j+1) + "," + x.Text() + "\n")
			}
		}
		if text.Len()+sealSize > api.MaxFile {
			return "", api.ErrSize
		}
	}
	s := text.String()
	return s + seal(s), api.OK
}

// element is a line of a list: an element of the matrix of a frequency, its row and column from 1 on.
type element struct {
	freq        num.Num
	row, column int
	value       num.Num
}

// ReadList returns the table of a text in that dialect.
func ReadList(s string) (Table, api.Errno) {
	if len(s) > api.MaxFile {
		return Table{}, api.ErrSize
	}
	text, ok := sealed(s)
	if !ok {
		return Table{}, api.ErrForm
	}
	if s != text+seal(text) {
		return Table{}, api.ErrSum
	}
	t, ok := readList(text)
	if !ok {
		return Table{}, api.ErrForm
	}
	if !ValidTable(t) {
		return Table{}, api.ErrArg
	}
	return t, api.OK
}

// sealed returns what is ahead of the last line of a list, and whether there are lines, and that one has its form.
func sealed(s string) (string, bool) {
	at := len(s) - sealSize
	if at < 1 || s[at-1] != '\n' {
		return "", false
	}
	digits, ok := strings.CutPrefix(s[at:], "sum,")
	digits, fine := strings.CutSuffix(digits, "\n")
	return s[:at], ok && fine && strings.Trim(digits, "0123456789abcdef") == ""
}

// readList returns the table that the lines of a text describe, which need not be valid, and whether the lines have their form.
func readList(text string) (Table, bool) {
	lines := strings.Split(strings.TrimSuffix(text, "\n"), "\n")
	word, ok := strings.CutPrefix(lines[0], "z,")
	z, e := num.Parse(word)
	if !ok || e != api.OK {
		return Table{}, false
	}
	elements, ok := readElements(lines[1:])
	if !ok {
		return Table{}, false
	}
	t := Table{Z: z}
	for len(elements) > 0 {
		size := pointSize(elements)
		m, ok := readMatrix(elements[:size])
		if !ok || len(t.S) > 0 && len(m) != len(t.S[0]) {
			return Table{}, false
		}
		t.Freqs = append(t.Freqs, elements[0].freq)
		t.S = append(t.S, m)
		elements = elements[size:]
	}
	return t, true
}

// readElements returns the elements that lines describe, and whether the lines have their form.
func readElements(lines []string) ([]element, bool) {
	var out []element
	for _, line := range lines {
		words := strings.Split(line, ",")
		if len(words) != 4 {
			return nil, false
		}
		freq, e := num.Parse(words[0])
		value, f := num.Parse(words[3])
		row, ok := readIndex(words[1])
		column, fine := readIndex(words[2])
		if e != api.OK || f != api.OK || !ok || !fine {
			return nil, false
		}
		out = append(out, element{freq, row, column, value})
	}
	return out, true
}

// readIndex returns the row or column that a word is, and whether a matrix may have it.
func readIndex(word string) (int, bool) {
	if len(word) != 1 {
		return 0, false
	}
	n := int(word[0]) - '0'
	return n, within(n, 1, api.MaxPorts)
}

// pointSize returns the number of elements of the first point of a list.
func pointSize(l []element) int {
	for i, x := range l {
		if i > 0 && x.row == 1 && x.column == 1 {
			return i
		}
	}
	return len(l)
}

// readMatrix returns the matrix with these elements, and whether they are all of a matrix, in order, with the same frequency.
func readMatrix(l []element) ([][]num.Num, bool) {
	rows := l[len(l)-1].row
	if len(l) != rows*rows {
		return nil, false
	}
	m := blank(rows)
	for i, x := range l {
		row, column := i/rows, i%rows
		if x.row != row+1 || x.column != column+1 || !x.freq.Same(l[0].freq) {
			return nil, false
		}
		m[row][column] = x.value
	}
	return m, true
}
