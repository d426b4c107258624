package norm

import (
	"strings"

	"attorney/api"
	"attorney/atom"
	"attorney/set"
	"attorney/token"
	"attorney/word"
)

// Show tells a set's text.
func Show(t *atom.Table, s api.Set) (string, api.Errno) {
	if t == nil || !set.May(s) {
		return "", api.ErrForm
	}
	// Not by token.Text: a set's text may be longer than what that writes.
	var words []string
	for _, w := range s {
		text, e := showWord(t, w)
		if e != api.OK {
			return "", e
		}
		words = append(words, text)
	}
	return strings.Join(words, " and "), api.OK
}

// showWord tells a word's text.
func showWord(t *atom.Table, w api.Word) (string, api.Errno) {
	var b strings.Builder
	asAlone := true
	for i, a := range word.Atoms(w) {
		written := showAtom(t, a)
		if written == "" {
			return "", api.ErrNone
		}
		if i > 0 {
			asAlone = asAlone && atom.Kind(a) == api.Role
			b.WriteString(between(asAlone))
		}
		b.WriteString(written)
	}
	return b.String(), api.OK
}

// between tells what parts an atom from what stands ahead of it.
func between(isRole bool) string {
	if isRole {
		return " as "
	}
	return " | "
}

// showAtom tells how an atom is written; nothing, if it can't be. (What the table hasn't got has no name, and without one nothing is written.)
func showAtom(t *atom.Table, a api.Atom) string {
	name, _ := t.Name(a)
	return token.Word(api.Token{Kind: api.TokAtom, Of: atom.Kind(a), Name: name})
}
