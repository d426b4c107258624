package expr

import (
	"attorney/api"
	"attorney/token"
)

// maxOpen is how deep parentheses may be open.
const maxOpen = 100

// loose is how the loosest sign binds.
const loose = 1

// binding tells how closely a kind of term binds; 0, if it is none.
func binding(kind int) int {
	switch kind {
	case api.TokAnd:
		return loose
	case api.TokFor:
		return 2
	case api.TokQuote:
		return 3
	case api.TokAs:
		return 4
	case api.TokAtom:
		return 5
	}
	return 0
}

// fault tells why tokens can't be read, and at which of them: OK, if they can.
func fault(l []api.Token) (int, api.Errno) {
	for n, t := range l {
		if token.Word(t) == "" {
			return n, api.ErrForm
		}
	}
	before, open, terms := api.TokEnd, 0, 0
	for n, t := range l {
		switch {
		case !mayFollow(before, open, t):
			return n, api.ErrForm
		case t.Kind == api.TokOpen && open == maxOpen:
			return n, api.ErrMany
		case t.Kind == api.TokOpen:
			open++
		case t.Kind == api.TokClose:
			open--
		default:
			terms++
		}
		before = t.Kind
	}
	switch {
	case !endsPart(before) || open > 0:
		return len(l), api.ErrForm
	case terms > api.MaxExpr:
		return len(l), api.ErrMany
	}
	return 0, api.OK
}

// mayFollow tells whether a token may stand behind one of that kind (at the beginning: behind TokEnd), where so many parentheses are open.
func mayFollow(before, open int, t api.Token) bool {
	switch t.Kind {
	case api.TokAtom, api.TokOpen:
		// What is no atom has Of 0.
		return !endsPart(before) && (before != api.TokAs || t.Of == api.Role)
	case api.TokAnd, api.TokFor, api.TokQuote, api.TokAs:
		return endsPart(before)
	case api.TokClose:
		return endsPart(before) && open > 0
	}
	return false
}

func endsPart(kind int) bool { return kind == api.TokAtom || kind == api.TokClose }

// postfix tells the terms of tokens that have no fault.
func postfix(l []api.Token) []api.Term {
	var x []api.Term
	at := 0
	// next reads a part, up to a sign that binds looser than asked, a parenthesis that closes, or the end.
	var next func(loosest int)
	next = func(loosest int) {
		t := l[at]
		at++
		if t.Kind == api.TokOpen {
			next(loose)
			at++
		} else {
			x = append(x, termOf(t))
		}
		for at < len(l) && binding(l[at].Kind) >= loosest {
			sign := l[at]
			at++
			next(binding(sign.Kind) + 1)
			x = append(x, termOf(sign))
		}
	}
	next(loose)
	return x
}

// termOf tells the term that a token is read as.
func termOf(t api.Token) api.Term { return api.Term{Op: t.Kind, Of: t.Of, Name: t.Name} }
