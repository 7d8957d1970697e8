package calibrate

import (
	"slices"
	"strconv"
	"strings"

	"waveport/api"
)

// maxVersion is the greatest version of a kit.
const maxVersion = 1000000

// checkKit returns the error of a kit.
func checkKit(k Kit) api.Errno {
	switch {
	case !isName(k.Name) || !within(k.Version, 1, maxVersion):
		return api.ErrArg
	case len(k.Standards) > api.MaxStandards:
		return api.ErrSize
	}
	for i, s := range k.Standards {
		if e := checkStandard(s); e != api.OK {
			return e
		}
		if find(k.Standards[:i], s.Name) >= 0 {
			return api.ErrTwice
		}
	}
	return api.OK
}

// find returns the index of the first standard with a name, or -1.
func find(standards []Standard, name string) int {
	return slices.IndexFunc(standards, func(s Standard) bool { return s.Name == name })
}

// PrintKit returns the text of a kit.
func PrintKit(k Kit) (string, api.Errno) {
	if e := checkKit(k); e != api.OK {
		return "", e
	}
	var text strings.Builder
	write := func(words ...string) {
		text.WriteString(strings.Join(words, " ") + "\n")
	}
	write("kit", k.Name, strconv.Itoa(k.Version))
	for _, s := range k.Standards {
		write(standardWords(s)...)
		for _, p := range s.Points {
			write("point", p.Frequency.Text(), p.Reflection.Text())
		}
	}
	return text.String(), api.OK
}

// kindWords are the first words of the lines of standards, by their kinds.
var kindWords = [...]string{"short", "open", "load", "known"}

// standardWords returns the words of the line of a standard.
func standardWords(s Standard) []string {
	words := []string{kindWords[s.Kind], s.Name, s.Connector}
	if s.Kind == Load {
		words = append(words, s.Resistance.Text())
	}
	if s.Kind != Known {
		words = append(words, s.Fringe.Text())
	}
	return append(words, s.Delay.Text(), strconv.Itoa(s.Sections), s.Loss.Text(), strconv.Itoa(s.Uses), strconv.Itoa(s.Most))
}

// Connect returns the kit behind one more connection of each of some standards.
func Connect(k Kit, names []string) (Kit, api.Errno) {
	if e := checkKit(k); e != api.OK {
		return Kit{}, e
	}
	standards := slices.Clone(k.Standards)
	for i := range standards {
		standards[i].Points = slices.Clone(standards[i].Points)
	}
	for _, name := range names {
		i := find(standards, name)
		if i < 0 {
			return Kit{}, api.ErrNone
		}
		if standards[i].Uses >= standards[i].Most {
			return Kit{}, api.ErrWorn
		}
		standards[i].Uses++
	}
	return Kit{k.Name, k.Version, standards}, api.OK
}
