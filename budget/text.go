package budget

import (
	"strings"

	"waveport/api"
)

// shapes are the words for the shapes of terms.
var shapes = [...]string{"normal", "rectangle", "triangle", "arcsine"}

// signs are those of the kinds from Sum on.
var signs = [...]byte{'+', '-', '*', '/'}

// signOf returns the sign between the two arguments of a kind.
func signOf(kind int) byte {
	return signs[kind-Sum]
}

// Print returns the text of a budget.
func Print(b Budget) (string, api.Errno) {
	if e := Valid(b); e != api.OK {
		return "", e
	}
	var text strings.Builder
	write := func(words ...string) {
		text.WriteString(strings.Join(words, " ") + "\n")
	}
	for _, t := range b.Terms {
		words := []string{"term", t.Name, t.Value.Text(), t.Half.Text(), shapes[t.Shape]}
		if t.Shape == Normal {
			words = append(words, t.Factor.Text())
		}
		write(words...)
	}
	for _, l := range b.Links {
		write("link", l.A, l.B, l.Covariance.Text())
	}
	for _, r := range b.Results {
		write("result", r.Name, "=", exprText(r.Expr))
	}
	return text.String(), api.OK
}

// exprText returns the text of an expression.
func exprText(x Expr) string {
	text, _ := walk(x, func(x Expr, args []string) (string, api.Errno) {
		for i, a := range x.Args {
			if enclosed(x.Kind, i, a.Kind) {
				args[i] = "(" + args[i] + ")"
			}
		}
		switch x.Kind {
		case Constant:
			return x.Value.Text(), api.OK
		case Name:
			return x.Name, api.OK
		case Negative:
			return "-" + args[0], api.OK
		}
		return args[0] + " " + string(rune(signOf(x.Kind))) + " " + args[1], api.OK
	})
	return text
}

// enclosed reports whether the argument with the index at and the kind inner stands in parentheses in an expression of the kind outer.
func enclosed(outer, at, inner int) bool {
	switch inner {
	case Sum, Difference:
		return at > 0 || outer != Sum && outer != Difference
	case Product, Quotient:
		return outer == Negative || at > 0 && (outer == Product || outer == Quotient)
	}
	return false
}
