package token

import (
	"strings"

	"attorney/api"
	"attorney/atom"
)

// delegation is how D is written, and its name.
const delegation = "D"

// prefixes stand in front of names; what is of the kind Name is written without one.
var prefixes = [api.Kinds]string{api.Key: "key:", api.Channel: "chan:", api.Group: "group:", api.Role: "role:"}

// fixed is how the tokens are written that are always written in one way.
var fixed = [...]string{api.TokAnd: "and", api.TokFor: "for", api.TokQuote: "|", api.TokAs: "as", api.TokOpen: "(", api.TokClose: ")"}

// fixedWord tells how a token of that kind is written, if it has no name.
func fixedWord(kind int) string {
	if kind < 0 || kind >= len(fixed) {
		return ""
	}
	return fixed[kind]
}

// atomWord tells how an atom is written.
func atomWord(of int, name string) string {
	switch {
	case of == api.Reserved && name == delegation:
		return name
	case of <= api.Reserved || of >= api.Kinds || !atom.May(name):
		return ""
	case of == api.Name && fixedKind(name) != api.TokEnd:
		return ""
	}
	return prefixes[of] + name
}

// fixedKind tells which token is always written so; TokEnd, which isn't written, if none is.
func fixedKind(written string) int {
	for kind, w := range fixed {
		if w == written {
			return kind
		}
	}
	return api.TokEnd
}

// isNumber tells whether these are digits that make a token.
func isNumber(digits string) bool {
	if len(digits) == 0 || len(digits) > 9 || lead(digits, isDigit) < len(digits) {
		return false
	}
	return digits == "0" || digits[0] != '0'
}

// isSign tells whether this is a sign that is a token by its name.
func isSign(s string) bool { return len(s) == 1 && strings.Contains("=,;<>!?*", s) }
