package token

import (
	"strings"

	"attorney/api"
)

// first tells the token that a text seems to begin with: it is one if Word writes it.
func first(text string) api.Token {
	if name := leadName(text); name != "" {
		return named(name, text[len(name):])
	}
	if n := lead(text, isDigit); n > 0 {
		return api.Token{Kind: api.TokNum, Name: text[:n]}
	}
	head := text[:1]
	if head == delegation {
		return api.Token{Kind: api.TokAtom, Of: api.Reserved, Name: head}
	}
	if kind := fixedKind(head); kind != api.TokEnd {
		return api.Token{Kind: kind}
	}
	return api.Token{Kind: api.TokSign, Name: head}
}

// named tells the token that begins with a name, by what stands behind that.
func named(name, behind string) api.Token {
	if kind := fixedKind(name); kind != api.TokEnd {
		return api.Token{Kind: kind}
	}
	if further, is := strings.CutPrefix(behind, ":"); is {
		for of, prefix := range prefixes {
			if prefix == name+":" {
				return api.Token{Kind: api.TokAtom, Of: of, Name: leadName(further)}
			}
		}
	}
	return api.Token{Kind: api.TokAtom, Of: api.Name, Name: name}
}

// leadName tells the name that a text begins with, as long as it goes; nothing, if no letter stands there.
func leadName(text string) string {
	for i, r := range text {
		if i == 0 && !isLetter(r) {
			return ""
		}
		if !isInName(r) {
			return text[:i]
		}
	}
	return text
}

// lead tells how many bytes those runes have that a text begins with and that are of a kind, as long as they go.
func lead(text string, is func(r rune) bool) int {
	for i, r := range text {
		if !is(r) {
			return i
		}
	}
	return len(text)
}

// blanks tells how many bytes of blanks a text begins with.
func blanks(text string) int {
	inRemark := false
	for i, r := range text {
		inRemark = r == '#' || inRemark && r != '\n'
		if !inRemark && !isBlank(r) {
			return i
		}
	}
	return len(text)
}

// isTight tells whether a token needs something between it and what could be read as more of it.
func isTight(kind int) bool {
	switch kind {
	case api.TokAtom, api.TokNum, api.TokAnd, api.TokFor, api.TokAs:
		return true
	}
	return false
}

// sticks tells whether a text begins with what may not stand right behind such a token.
func sticks(text string) bool {
	return lead(text, func(r rune) bool { return isInName(r) || isCapital(r) || r == ':' }) > 0
}

func isBlank(r rune) bool { return r == ' ' || r == '\t' || r == '\n' }

func isLetter(r rune) bool { return r >= 'a' && r <= 'z' }

func isCapital(r rune) bool { return r >= 'A' && r <= 'Z' }

func isDigit(r rune) bool { return r >= '0' && r <= '9' }

func isInName(r rune) bool { return isLetter(r) || isDigit(r) || r == '-' || r == '.' }
