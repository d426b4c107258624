package expr_test

import (
	"math"
	"math/rand"
	"regexp"
	"slices"
	"strings"
	"testing"

	"attorney/api"
	"attorney/expr"
	"attorney/token"
)

func atomTerm(of int, name string) api.Term {
	return api.Term{Op: api.TokAtom, Of: of, Name: name}
}

// bare is a token or a term that has nothing but its kind.
func bare(kind int) api.Token { return api.Token{Kind: kind} }

func termFor(x api.Token) api.Term { return api.Term{Op: x.Kind, Of: x.Of, Name: x.Name} }

func tokenFor(x api.Term) api.Token { return api.Token{Kind: x.Op, Of: x.Of, Name: x.Name} }

// terms is an expression by words in postfix form: names, prefixed ones, and and, for, quote, as.
func terms(postfix string) []api.Term {
	var x []api.Term
	for _, word := range strings.Fields(postfix) {
		if word == "quote" {
			word = "|"
		}
		l, _, e := token.All(word)
		if e != api.OK || len(l) != 1 {
			panic("no term: " + word)
		}
		x = append(x, termFor(l[0]))
	}
	return x
}

// tokens is a text's tokens, their places made up.
func tokens(text string) []api.Token {
	l, _, e := token.All(text)
	if e != api.OK {
		panic("no tokens: " + text)
	}
	for i := range l {
		l[i].At = []int{-1, 7, math.MaxInt, math.MinInt, 0}[i%5]
	}
	return l
}

func wantTerms(t *testing.T, what string, x []api.Term, n int, e api.Errno, want []api.Term) {
	t.Helper()
	if !slices.Equal(x, want) || n != 0 || e != api.OK {
		t.Errorf("%.200s: %v, %d, error %d, not %v", what, x, n, e, want)
	}
}

func wantFault(t *testing.T, what string, x []api.Term, n int, e api.Errno, wantN int, wantE api.Errno) {
	t.Helper()
	if len(x) != 0 || n != wantN || e != wantE {
		t.Errorf("%.200s: %d terms, %d, error %d, not %d, error %d", what, len(x), n, e, wantN, wantE)
	}
}

// wantRead holds Read of a text's tokens, and Parse, to terms.
func wantRead(t *testing.T, text string, want []api.Term) {
	t.Helper()
	x, n, e := expr.Read(tokens(text))
	wantTerms(t, "Read "+text, x, n, e, want)
	x, n, e = expr.Parse(text)
	wantTerms(t, "Parse "+text, x, n, e, want)
}

// wantRefused holds Read of a text's tokens to an error and the number of a token.
func wantRefused(t *testing.T, text string, wantN int, wantE api.Errno) {
	t.Helper()
	x, n, e := expr.Read(tokens(text))
	wantFault(t, "Read "+text, x, n, e, wantN, wantE)
}

func wantWritten(t *testing.T, x []api.Term, want string) {
	t.Helper()
	if text, e := expr.Text(x); text != want || e != api.OK {
		t.Errorf("Text(%v): %q, error %d, not %q", x, text, e, want)
	}
}

func TestExamples(t *testing.T) {
	wantRead(t, "a and b|c as role:r", terms("a b c role:r as quote and"))
	wantRead(t, "(a and b) for c for d", terms("a b and c for d for"))
	wantRead(t, "a for (b for c)", terms("a b c for for"))
	wantWritten(t, terms("a b c role:r as quote and"), "a and b | c as role:r")
	wantWritten(t, terms("a b and c for d for"), "( a and b ) for c for d")
	wantWritten(t, terms("a b c for for"), "a for ( b for c )")
}

// The models below tell by other means what the chapter says.

var loosest = []int{api.TokAnd, api.TokFor, api.TokQuote, api.TokAs} // the closest last

func closeness(kind int) int {
	if i := slices.Index(loosest, kind); i >= 0 {
		return i
	}
	return len(loosest)
}

// modelPostfix splits tokens that have no fault at the last one of the loosest signs that stand in no parentheses.
func modelPostfix(l []api.Token) []api.Term {
	open, at := 0, -1
	for i, x := range l {
		switch x.Kind {
		case api.TokOpen:
			open++
		case api.TokClose:
			open--
		case api.TokAnd, api.TokFor, api.TokQuote, api.TokAs:
			if open == 0 && (at < 0 || closeness(x.Kind) <= closeness(l[at].Kind)) {
				at = i
			}
		}
	}
	switch {
	case at >= 0:
		return append(append(modelPostfix(l[:at]), modelPostfix(l[at+1:])...), termFor(bare(l[at].Kind)))
	case len(l) == 1:
		return []api.Term{termFor(l[0])}
	}
	return modelPostfix(l[1 : len(l)-1])
}

var (
	innermost = regexp.MustCompile(`\([ar](?:&[ar]|sr)*\)`)
	flat      = regexp.MustCompile(`^[ar](?:&[ar]|sr)*$`)
)

// isWhole tells whether signs, each written by a letter, make an expression, by taking the innermost parentheses off again and again.
func isWhole(letters string) bool {
	for {
		less := innermost.ReplaceAllString(letters, "a")
		if less == letters {
			return flat.MatchString(letters)
		}
		letters = less
	}
}

// canGoOn tells whether signs are the beginning of an expression.
func canGoOn(letters string) bool {
	open := strings.Count(letters, "(") - strings.Count(letters, ")")
	if open < 0 {
		return false
	}
	end := strings.Repeat(")", open)
	return isWhole(letters+end) || isWhole(letters+"r"+end)
}

// modelFault is the first place from which on no expression comes of it; -1, if it is one.
func modelFault(letters string) int {
	for n := range letters {
		if !canGoOn(letters[:n+1]) {
			return n
		}
	}
	if isWhole(letters) {
		return -1
	}
	return len(letters)
}

// modelSplit is where the right part of an expression's last sign begins, as both parts are ones: 0, if it is no expression.
func modelSplit(x []api.Term) int {
	n := len(x) - 1
	if n < 2 || closeness(x[n].Op) == len(loosest) || x[n].Name != "" || x[n].Of != 0 {
		return 0
	}
	for k := 1; k < n; k++ {
		role := k == n-1 && x[k].Op == api.TokAtom && x[k].Of == api.Role
		if modelMay(x[:k]) && modelMay(x[k:n]) && (role || x[n].Op != api.TokAs) {
			return k
		}
	}
	return 0
}

func modelMay(x []api.Term) bool {
	if len(x) == 1 {
		return x[0].Op == api.TokAtom && token.Word(tokenFor(x[0])) != ""
	}
	return modelSplit(x) > 0
}

func modelDeep(x []api.Term) int {
	if !modelMay(x) {
		return 0
	}
	if len(x) == 1 {
		return 1
	}
	k := modelSplit(x)
	return 1 + max(modelDeep(x[:k]), modelDeep(x[k:len(x)-1]))
}

// modelText is an expression's text, with all parentheses that are asked for.
func modelText(x []api.Term) string {
	n := len(x) - 1
	if n == 0 {
		return token.Word(tokenFor(x[0]))
	}
	k := modelSplit(x)
	part := func(y []api.Term, far int) string {
		if closeness(y[len(y)-1].Op) >= far {
			return modelText(y)
		}
		return "( " + modelText(y) + " )"
	}
	c := closeness(x[n].Op)
	return part(x[:k], c) + " " + token.Word(tokenFor(x[n])) + " " + part(x[k:n], c+1)
}

// eachList calls for all lists of up to n of some things.
func eachList[T any](n int, things []T, call func(l []T)) {
	var more func(l []T)
	more = func(l []T) {
		call(l)
		if len(l) < n {
			for _, x := range things {
				more(append(slices.Clone(l), x))
			}
		}
	}
	more(nil)
}

// eachTree calls for all expressions of n atoms, of those signs, whose right ones of `as` are role:r.
func eachTree(n int, signs []int, call func(x []api.Term)) {
	if n == 1 {
		call(terms("a"))
		call(terms("role:r"))
		return
	}
	for _, sign := range signs {
		for left := 1; left < n; left++ {
			eachTree(left, signs, func(x []api.Term) {
				eachTree(n-left, signs, func(y []api.Term) {
					if sign != api.TokAs || slices.Equal(y, terms("role:r")) {
						call(append(slices.Concat(x, y), api.Term{Op: sign}))
					}
				})
			})
		}
	}
}

// P5.1

func TestEachAtomAlone(t *testing.T) {
	long := strings.Repeat("a", api.MaxSay)
	for text, want := range map[string]api.Term{
		"a": atomTerm(api.Name, "a"), "key:k1": atomTerm(api.Key, "k1"), "chan:c": atomTerm(api.Channel, "c"), "group:g": atomTerm(api.Group, "g"), "role:r": atomTerm(api.Role, "r"), "D": atomTerm(api.Reserved, "D"),
		"role:and": atomTerm(api.Role, "and"), long: atomTerm(api.Name, long),
	} {
		for _, around := range []string{text, "(" + text + ")", "(((" + text + ")))"} {
			wantRead(t, around, []api.Term{want})
		}
	}
}

func TestReadTwoSigns(t *testing.T) {
	for _, c := range [][2]string{
		{"a and b and c", "a b and c and"}, {"a and b for c", "a b c for and"}, {"a and b | c", "a b c quote and"}, {"a and b as role:c", "a b role:c as and"},
		{"a for b and c", "a b for c and"}, {"a for b for c", "a b for c for"}, {"a for b | c", "a b c quote for"}, {"a for b as role:c", "a b role:c as for"},
		{"a | b and c", "a b quote c and"}, {"a | b for c", "a b quote c for"}, {"a | b | c", "a b quote c quote"}, {"a | b as role:c", "a b role:c as quote"},
		{"a as role:b and c", "a role:b as c and"}, {"a as role:b for c", "a role:b as c for"}, {"a as role:b | c", "a role:b as c quote"}, {"a as role:b as role:c", "a role:b as role:c as"},
		{"(a and b) as role:c", "a b and role:c as"}, {"a | (b and c)", "a b c and quote"}, {"(a | b) | c", "a b quote c quote"}, {"a | (b | c)", "a b c quote quote"},
		{"((a) and ((b)))", "a b and"}, {"(a as role:b) as role:c", "a role:b as role:c as"}, {"role:a as role:b", "role:a role:b as"}, {"D and D", "D D and"},
	} {
		wantRead(t, c[0], terms(c[1]))
	}
}

func TestReadIsTheModel(t *testing.T) {
	signs := []api.Token{bare(api.TokAnd), bare(api.TokFor), bare(api.TokQuote), bare(api.TokAs)}
	eachList(5, signs, func(l []api.Token) {
		all := tokens("key:k")
		for i, sign := range l {
			atom := api.Token{Kind: api.TokAtom, Of: api.Role, Name: string(rune('a' + i))}
			all = append(all, sign, atom)
		}
		x, n, e := expr.Read(all)
		wantTerms(t, "a list", x, n, e, modelPostfix(all))
	})
	for _, sign := range []string{"and", "for", "|", "as"} {
		for _, other := range []string{"and", "for", "|", "as"} {
			for _, third := range []string{"and", "for", "|"} {
				for _, text := range []string{"(a S role:b) T role:c U d", "a U (role:b S role:c) T role:d", "a U (role:b S role:c T role:d)", "(a U role:b S role:c) T role:d", "(a S role:b) U (c T role:d)", "a U (role:b U (role:c T role:d S role:e))"} {
					text = strings.NewReplacer("S", sign, "T", other, "U", third).Replace(text)
					wantRead(t, text, modelPostfix(tokens(text)))
				}
			}
		}
	}
}

func TestReadAllShortLists(t *testing.T) {
	letters := map[string]api.Token{
		"a": {Kind: api.TokAtom, Of: api.Name, Name: "x"}, "r": {Kind: api.TokAtom, Of: api.Role, Name: "x"}, "&": bare(api.TokQuote), "s": bare(api.TokAs), "(": bare(api.TokOpen), ")": bare(api.TokClose),
	}
	eachList(7, []string{"a", "r", "&", "s", "(", ")"}, func(written []string) {
		var l []api.Token
		for _, w := range written {
			l = append(l, letters[w])
		}
		text := strings.Join(written, "")
		x, n, e := expr.Read(l)
		if at := modelFault(text); at >= 0 {
			wantFault(t, text, x, n, e, at, api.ErrForm)
		} else {
			wantTerms(t, text, x, n, e, modelPostfix(l))
		}
	})
}

func TestReadMisplaced(t *testing.T) {
	for _, c := range []struct {
		text string
		n    int
	}{
		{"", 0}, {"and", 0}, {"for", 0}, {"|", 0}, {"as", 0}, {")", 0}, {"1", 0}, {"=", 0}, {"(", 1}, {"a b", 1}, {"a (", 1}, {"a )", 1}, {"a 1", 1}, {"a ;", 1}, {"a and", 2}, {"a for", 2}, {"a |", 2}, {"a as", 2},
		{"a and and", 2}, {"a for |", 2}, {"a | for", 2}, {"a and as", 2}, {"a and )", 2}, {"a and 1", 2}, {"a and *", 2}, {"( )", 1}, {"( and", 1}, {"( as", 1}, {"( a", 2}, {"( a b", 2}, {"( a (", 2}, {"( a and", 3}, {"( a and )", 3}, {"( a ) )", 3}, {"( a ) b", 3}, {"( a ) (", 3}, {"( ( a )", 4}, {"( ( a ) and", 5}, {"( a ) and", 4}, {"( a ) 0", 3},
		{"a as b", 2}, {"a as key:r", 2}, {"a as chan:r", 2}, {"a as group:r", 2}, {"a as D", 2}, {"a as (", 2}, {"a as ( role:r )", 2}, {"a as as", 2}, {"a as )", 2}, {"a as 1", 2}, {"( a as", 3}, {"a as role:r role:r", 3}, {"a as role:r (", 3}, {"a as role:r as b", 4}, {"a as role:r )", 3},
		{"a and b as role:r | c d )", 7}, {"a ) and )", 1}, {"a , b ;", 1},
	} {
		wantRefused(t, c.text, c.n, api.ErrForm)
	}
}

func TestReadWhatIsNoTokenIsToldFirst(t *testing.T) {
	for _, none := range []api.Token{
		{}, {Kind: -1}, {Kind: 10}, {Kind: math.MaxInt}, {Kind: math.MinInt}, {Kind: api.TokAtom}, {Kind: api.TokAtom, Name: "a"}, {Kind: api.TokAtom, Name: "a", Of: 6}, {Kind: api.TokAtom, Name: "a", Of: -1}, {Kind: api.TokAtom, Name: "A", Of: api.Name}, {Kind: api.TokAtom, Name: "and", Of: api.Name}, {Kind: api.TokAtom, Of: api.Role}, {Kind: api.TokAtom, Name: strings.Repeat("a", api.MaxSay+1), Of: api.Role},
		{Kind: api.TokAnd, Name: "and"}, {Kind: api.TokAs, Of: api.Role}, {Kind: api.TokOpen, Name: "("}, {Kind: api.TokClose, Of: 1}, {Kind: api.TokNum}, {Kind: api.TokNum, Name: "01"}, {Kind: api.TokSign, Name: "=="}, {Kind: api.TokEnd, Name: "a"},
	} {
		for _, text := range []string{"", "a and", "a as", "a", ") a b", "1", "( (", "a and b", strings.Repeat("(", 200), strings.Repeat("a and ", 200)} {
			l := append(tokens(text), none)
			x, n, e := expr.Read(l)
			wantFault(t, text+" and no token", x, n, e, len(l)-1, api.ErrForm)
			x, n, e = expr.Read(append(slices.Clone(l), none, bare(api.TokEnd)))
			wantFault(t, text+" and no tokens", x, n, e, len(l)-1, api.ErrForm)
			x, n, e = expr.Read(append([]api.Token{none}, l...))
			wantFault(t, text+" behind no token", x, n, e, 0, api.ErrForm)
			x, n, e = expr.Read(append(slices.Clone(l), tokens(") b )")...))
			wantFault(t, text+" around no token", x, n, e, len(l)-1, api.ErrForm)
		}
	}
}

// nested is a text with that many parentheses around an atom.
func nested(deep int) string {
	return strings.Repeat("(", deep) + "a" + strings.Repeat(")", deep)
}

func TestReadAsDeepAsMayBe(t *testing.T) {
	for _, deep := range []int{0, 1, 2, 50, 99, 100} {
		wantRead(t, nested(deep), terms("a"))
		wantRead(t, nested(deep)+" and "+nested(deep)+" as role:r", terms("a a role:r as and"))
		wantRefused(t, nested(deep)+")", 2*deep+1, api.ErrForm)
		wantRefused(t, nested(deep)[:2*deep], 2*deep, api.ErrForm)
	}
	wantRead(t, strings.Repeat("(", 100)+"a"+strings.Repeat(") and a", 99)+")", terms("a"+strings.Repeat(" a and", 99)))
	wantRead(t, strings.Repeat("a and (", 99)+"a"+strings.Repeat(")", 99), terms(strings.Repeat("a ", 100)+strings.Repeat("and ", 99)))
	wantRefused(t, nested(101), 100, api.ErrMany)
	wantRefused(t, nested(400), 100, api.ErrMany)
	wantRefused(t, nested(100)+" and "+nested(101), 302, api.ErrMany)
	wantRefused(t, "a and "+nested(101), 102, api.ErrMany)
	wantRefused(t, strings.Repeat("(", 99)+"(a) and ("+nested(1), 104, api.ErrMany)
	// From the left on, the first one is told.
	wantRefused(t, strings.Repeat("(", 101)+") and", 100, api.ErrMany)
	wantRefused(t, strings.Repeat("(", 100)+")"+strings.Repeat("(", 101), 100, api.ErrForm)
	wantRefused(t, strings.Repeat("(", 100)+"a (", 101, api.ErrForm)
	wantRefused(t, strings.Repeat("(", 100)+"a as (", 102, api.ErrForm)
	wantRefused(t, strings.Repeat("a and ", 150)+nested(101), 400, api.ErrMany)
}

// row is a text of that many atoms with a sign between.
func row(atoms int, sign string) string {
	return "role:r" + strings.Repeat(" "+sign+" role:r", atoms-1)
}

func TestReadAsManyTermsAsMayBe(t *testing.T) {
	for _, sign := range []string{"and", "for", "|", "as"} {
		word := strings.Replace(sign, "|", "quote", 1)
		wantRead(t, row(100, sign), terms("role:r"+strings.Repeat(" role:r "+word, 99)))
		for _, atoms := range []int{101, 102, 150, 200, 201, 300} {
			wantRefused(t, row(atoms, sign), 2*atoms-1, api.ErrMany)
			wantRefused(t, "("+row(atoms, sign)+")", 2*atoms+1, api.ErrMany)
			wantRefused(t, row(atoms, sign)+" "+sign, 2*atoms, api.ErrForm)
			wantRefused(t, row(atoms, sign)+")", 2*atoms-1, api.ErrForm)
			wantRefused(t, "("+row(atoms, sign), 2*atoms, api.ErrForm)
			wantRefused(t, row(atoms, sign)+" role:r", 2*atoms-1, api.ErrForm)
		}
	}
}

func TestReadVeryManyTokens(t *testing.T) {
	many := slices.Repeat(tokens("a and"), 1000000)
	x, n, e := expr.Read(many)
	wantFault(t, "a and ..", x, n, e, len(many), api.ErrForm)
	x, n, e = expr.Read(many[:len(many)-1])
	wantFault(t, "a and .. a", x, n, e, len(many)-1, api.ErrMany)
	x, n, e = expr.Read(slices.Repeat(tokens("("), 1000000))
	wantFault(t, "( ..", x, n, e, 100, api.ErrMany)
	x, n, e = expr.Read(nil)
	wantFault(t, "none", x, n, e, 0, api.ErrForm)
	x, n, e = expr.Read([]api.Token{})
	wantFault(t, "no tokens", x, n, e, 0, api.ErrForm)
}

func TestArgumentsStayAsTheyWere(t *testing.T) {
	l := tokens("(a and b) for c|role:d as role:e")
	was := slices.Clone(l)
	x, _, _ := expr.Read(l)
	y, _, _ := expr.Read(l)
	want := slices.Clone(x)
	clear(l)
	if !slices.Equal(x, want) {
		t.Error("what was read changes with the tokens")
	}
	clear(y)
	if !slices.Equal(x, want) {
		t.Error("what was read changes with what was read then")
	}
	x = append(x[:len(x):len(x)], api.Term{}, api.Term{}, api.Term{})[:len(x)]
	copy(l, was)
	expr.Read(l)
	expr.Text(x)
	expr.May(x)
	expr.Deep(x)
	if !slices.Equal(l, was) || !slices.Equal(x, want) || !slices.Equal(x[:len(x)+3][len(x):], make([]api.Term, 3)) {
		t.Error("an argument was changed")
	}
}

// P5.2

func wantParseRefused(t *testing.T, text string, wantN int, wantE api.Errno) {
	t.Helper()
	x, n, e := expr.Parse(text)
	wantFault(t, "Parse "+text, x, n, e, wantN, wantE)
}

func wantTermsOf(t *testing.T, text string, want []api.Term) {
	t.Helper()
	x, n, e := expr.Parse(text)
	wantTerms(t, "Parse "+text, x, n, e, want)
}

func TestParseRefusesWhatAreNoTokens(t *testing.T) {
	wantParseRefused(t, "a and K", 6, api.ErrForm)
	wantParseRefused(t, ") b K", 4, api.ErrForm)
	wantParseRefused(t, nested(101)+" 12a", 204, api.ErrForm)
	wantParseRefused(t, "a b\xff", 3, api.ErrForm)
	wantParseRefused(t, "aé", 1, api.ErrForm)
	wantParseRefused(t, "key:", 0, api.ErrForm)
	wantParseRefused(t, "a and role:"+strings.Repeat("a", api.MaxSay+1), 6, api.ErrForm)
	wantParseRefused(t, strings.Repeat(" ", 4001), 0, api.ErrMany)
	wantParseRefused(t, "a"+strings.Repeat("#", 4000), 0, api.ErrMany)
	wantParseRefused(t, " "+strings.Repeat("a|", 501), 1001, api.ErrMany)
	wantParseRefused(t, strings.Repeat("a", 4001), 0, api.ErrMany)
	wantTermsOf(t, "a"+strings.Repeat(" ", 3999), terms("a"))
}

func TestParseTellsWhereATokenBegins(t *testing.T) {
	for _, c := range []struct {
		text string
		at   int
		e    api.Errno
	}{
		{"a  b", 3, api.ErrForm}, {" \t\n)", 3, api.ErrForm}, {"# x\n  and", 6, api.ErrForm}, {"a and key:k key:l", 12, api.ErrForm}, {"a as role:r(", 11, api.ErrForm}, {"a as (role:r)", 5, api.ErrForm}, {"a as b", 5, api.ErrForm}, {"a|12", 2, api.ErrForm}, {"a for=", 5, api.ErrForm}, {"(a))", 3, api.ErrForm}, {"(\n)", 2, api.ErrForm},
		{"", 0, api.ErrForm}, {"  ", 2, api.ErrForm}, {"# x", 3, api.ErrForm}, {"a and", 5, api.ErrForm}, {"a and  # é\n", 12, api.ErrForm}, {"(a", 2, api.ErrForm}, {"((a) \n", 6, api.ErrForm}, {"(", 1, api.ErrForm}, {"a as ", 5, api.ErrForm},
		{" " + nested(101), 101, api.ErrMany}, {"a for " + nested(101), 106, api.ErrMany}, {"a for" + strings.Repeat("\t(", 300), 206, api.ErrMany},
		{row(101, "and"), 0, api.ErrMany}, {"  (" + row(120, "|") + ") # x", 0, api.ErrMany}, {"#\n" + row(101, "and") + " role:r", 3 + len(row(101, "and")), api.ErrForm}, {row(101, "as") + " as # ", len(row(101, "as")) + 6, api.ErrForm}, {"(" + row(101, "for") + " \n", len(row(101, "for")) + 3, api.ErrForm},
	} {
		wantParseRefused(t, c.text, c.at, c.e)
	}
}

func TestParseIsAllAndRead(t *testing.T) {
	rng := rand.New(rand.NewSource(5))
	pieces := []string{"a", "role:r", "key:k", " and ", " for ", "|", " as role:r", " as ", "(", ")", " ", "#x\n", "D", "1", "K"}
	for range 50000 {
		var b strings.Builder
		for range rng.Intn(12) {
			b.WriteString(pieces[rng.Intn(len(pieces))])
		}
		text := b.String()
		l, at, e := token.All(text)
		if e != api.OK {
			wantParseRefused(t, text, at, e)
			continue
		}
		x, n, e := expr.Read(l)
		switch {
		case e == api.OK:
			wantTermsOf(t, text, x)
		case n == len(l):
			wantParseRefused(t, text, len(text), e)
		default:
			wantParseRefused(t, text, l[n].At, e)
		}
	}
}

// P5.3

func TestMayOfAllShortLists(t *testing.T) {
	pieces := append(terms("a role:r and as"), api.Term{Op: api.TokQuote}, atomTerm(api.Role, "R"), api.Term{Op: api.TokFor, Name: "for"})
	eachList(6, pieces, func(x []api.Term) {
		may := modelMay(x)
		if expr.May(x) != may {
			t.Fatalf("May(%v): not %t", x, may)
		}
		if d := expr.Deep(x); d != modelDeep(x) {
			t.Fatalf("Deep(%v): %d, not %d", x, d, modelDeep(x))
		}
		if may {
			wantWritten(t, x, modelText(x))
		} else if text, e := expr.Text(x); text != "" || e != api.ErrForm {
			t.Fatalf("Text(%v): %q, error %d", x, text, e)
		}
	})
}

// wantNone holds May, Text and Deep to what they tell of what may not be.
func wantNone(t *testing.T, x []api.Term) {
	t.Helper()
	if expr.May(x) || expr.Deep(x) != 0 {
		t.Errorf("%.300v: may be, or is %d deep", x, expr.Deep(x))
	}
	if text, e := expr.Text(x); text != "" || e != api.ErrForm {
		t.Errorf("%.300v: %q, error %d", x, text, e)
	}
}

func TestMayNot(t *testing.T) {
	wantNone(t, nil)
	wantNone(t, []api.Term{})
	for _, none := range []api.Term{
		{}, {Op: -1}, {Op: math.MinInt}, {Op: math.MaxInt}, {Op: 10}, {Op: api.TokEnd, Of: api.Name, Name: "a"}, {Op: api.TokOpen}, {Op: api.TokClose}, {Op: api.TokNum, Name: "1"}, {Op: api.TokSign, Name: "="},
		{Op: api.TokAtom}, atomTerm(api.Reserved, "a"), atomTerm(api.Name, "D"), atomTerm(api.Name, "and"), atomTerm(api.Name, "A"), atomTerm(api.Name, "key:a"), atomTerm(api.Role, ""), atomTerm(api.Kinds, "a"), atomTerm(-1, "a"), atomTerm(math.MaxInt, "a"), atomTerm(api.Key, strings.Repeat("a", api.MaxSay+1)),
		{Op: api.TokAnd, Name: "and"}, {Op: api.TokFor, Of: 1}, {Op: api.TokQuote, Of: -1}, {Op: api.TokAs, Of: api.Role}, {Op: api.TokAs, Name: "r"},
	} {
		wantNone(t, []api.Term{none})
		wantNone(t, append(terms("a role:r"), none))
		wantNone(t, append(terms("a role:r as"), none))
		wantNone(t, append([]api.Term{none}, terms("a and")...))
		wantNone(t, append([]api.Term{atomTerm(api.Name, "a"), none}, terms("and")...))
		wantNone(t, append(terms("a b"), none, api.Term{Op: api.TokAnd}))
	}
	for _, postfix := range []string{"a b", "and", "a and", "and a b", "a and b", "a b and and", "a b c and", "a b c and and and", "a b and c", "a as", "as", "a b as", "a key:r as", "a group:r as", "a chan:r as", "a D as", "role:r a as", "a role:r role:s as as", "a role:r role:s and as", "a role:r b quote as", "role:r as role:s"} {
		wantNone(t, terms(postfix))
	}
}

func TestWriteTwoSigns(t *testing.T) {
	for _, c := range [][2]string{
		{"a b and c and", "a and b and c"}, {"a b c and and", "a and ( b and c )"}, {"a b for c for", "a for b for c"}, {"a b c for for", "a for ( b for c )"}, {"a b quote c quote", "a | b | c"}, {"a b c quote quote", "a | ( b | c )"}, {"a role:b as role:c as", "a as role:b as role:c"},
		{"a b and c for", "( a and b ) for c"}, {"a b c for and", "a and b for c"}, {"a b for c and", "a for b and c"}, {"a b c and for", "a for ( b and c )"},
		{"a b and c quote", "( a and b ) | c"}, {"a b c quote and", "a and b | c"}, {"a b quote c and", "a | b and c"}, {"a b c and quote", "a | ( b and c )"},
		{"a b for c quote", "( a for b ) | c"}, {"a b c quote for", "a for b | c"}, {"a b quote c for", "a | b for c"}, {"a b c for quote", "a | ( b for c )"},
		{"a b and role:c as", "( a and b ) as role:c"}, {"a b for role:c as", "( a for b ) as role:c"}, {"a b quote role:c as", "( a | b ) as role:c"}, {"a b role:c as and", "a and b as role:c"}, {"a b role:c as quote", "a | b as role:c"}, {"a role:c as b quote", "a as role:c | b"},
		{"key:k chan:c group:g role:r D and and and and", "key:k and ( chan:c and ( group:g and ( role:r and D ) ) )"},
	} {
		wantWritten(t, terms(c[0]), c[1])
	}
	for _, text := range []string{"a", "D", "key:k", "chan:and", "group:for", "role:as", strings.Repeat("a", api.MaxSay)} {
		wantWritten(t, terms(text), text)
	}
}

func TestDeep(t *testing.T) {
	for postfix, want := range map[string]int{
		"a": 1, "D": 1, "a b and": 2, "a role:b as": 2, "a b and c and": 3, "a b c and and": 3, "a b and c d and and": 3, "a b and c for d e f quote and and": 4, "a role:b as role:c as role:d as": 4, "a b for c d for e for and": 4,
	} {
		if got := expr.Deep(terms(postfix)); got != want {
			t.Errorf("%s: %d deep, not %d", postfix, got, want)
		}
	}
}

// rows are expressions of that many atoms, of one sign: all done from the left on, and all from the right on.
func rows(atoms int, word string) (left, right []api.Term) {
	return terms("role:r" + strings.Repeat(" role:r "+word, atoms-1)), terms(strings.Repeat("role:r ", atoms) + strings.Repeat(word+" ", atoms-1))
}

func TestAsLongAsMayBe(t *testing.T) {
	for _, sign := range []string{"and", "for", "quote", "as"} {
		for _, atoms := range []int{2, 99, 100} {
			left, right := rows(atoms, sign)
			wantWritten(t, left, row(atoms, strings.Replace(sign, "quote", "|", 1)))
			if d := expr.Deep(left); d != atoms || !expr.May(left) {
				t.Errorf("%d times %s: %d deep", atoms, sign, d)
			}
			if sign != "as" {
				between := " " + strings.Replace(sign, "quote", "|", 1) + " "
				wantWritten(t, right, strings.Repeat("role:r"+between+"( ", atoms-2)+"role:r"+between+"role:r"+strings.Repeat(" )", atoms-2))
				if d := expr.Deep(right); d != atoms || !expr.May(right) {
					t.Errorf("%d times %s from the right: %d deep", atoms, sign, d)
				}
			}
		}
		for _, atoms := range []int{101, 102, 150, 100000} {
			left, right := rows(atoms, sign)
			wantNone(t, left)
			wantNone(t, right)
		}
		left, right := rows(100, sign)
		wantNone(t, append(left, left[0]))
		wantNone(t, append(right, right[198]))
	}
}

// P5.4

// wantBack holds what is written of an expression to be read as the same.
func wantBack(t *testing.T, x []api.Term) string {
	t.Helper()
	text, e := expr.Text(x)
	if e != api.OK {
		t.Fatalf("Text(%v): error %d", x, e)
	}
	wantRead(t, text, x)
	return text
}

func countOpen(text string) int { return strings.Count(text, "(") }

func TestWhatIsWrittenIsReadAsTheSame(t *testing.T) {
	for atoms := range 5 {
		eachTree(atoms+1, loosest, func(x []api.Term) {
			text := wantBack(t, x)
			if text != modelText(x) {
				t.Fatalf("%v: %q, not %q", x, text, modelText(x))
			}
		})
	}
}

func TestTheLongestTextsAreRead(t *testing.T) {
	for _, sign := range []int{api.TokAnd, api.TokFor, api.TokQuote} {
		var left, right []api.Term
		for i := range 100 {
			atom := atomTerm(api.Group, strings.Repeat("a", api.MaxSay))
			left = append(left, atom)
			right = append(right, atom)
			if i > 0 {
				left = append(left, api.Term{Op: sign})
			}
		}
		right = append(right, slices.Repeat([]api.Term{{Op: sign}}, 99)...)
		if text := wantBack(t, left); countOpen(text) != 0 {
			t.Errorf("%q has parentheses", text)
		}
		if text := wantBack(t, right); countOpen(text) != 98 {
			t.Errorf("%q: %d parentheses", text, countOpen(text))
		}
	}
}

// madeText is a text of an expression, with more parentheses than it needs here and there.
func madeText(rng *rand.Rand, atoms int) string {
	if atoms == 1 {
		text := []string{"a", "b", "key:k", "chan:c", "group:g", "role:r", "D"}[rng.Intn(7)]
		if rng.Intn(5) == 0 {
			return "(" + text + ")"
		}
		return text
	}
	left := 1 + rng.Intn(atoms-1)
	sign := []string{" and ", " for ", "|", " as "}[rng.Intn(4)]
	text := madeText(rng, left)
	if sign == " as " {
		text += " as role:x"
	} else {
		text += sign + madeText(rng, atoms-left)
	}
	if rng.Intn(3) == 0 {
		return "(" + text + ")"
	}
	return text
}

func TestWhatIsReadIsWrittenWithNoMoreParentheses(t *testing.T) {
	rng := rand.New(rand.NewSource(6))
	for range 20000 {
		made := madeText(rng, 1+rng.Intn(12))
		x, _, e := expr.Parse(made)
		if e != api.OK {
			t.Fatalf("%q: error %d", made, e)
		}
		text := wantBack(t, x)
		if countOpen(text) > countOpen(made) {
			t.Errorf("%q is written as %q", made, text)
		}
		if again, _ := expr.Text(x); again != text {
			t.Errorf("%q is written as %q then", text, again)
		}
	}
}

func TestNoParenthesesAreTooMany(t *testing.T) {
	rng := rand.New(rand.NewSource(7))
	for range 3000 {
		x, _, _ := expr.Parse(madeText(rng, 1+rng.Intn(8)))
		text, _ := expr.Text(x)
		words := strings.Fields(text)
		for i, word := range words {
			if word != "(" {
				continue
			}
			end, open := i, 1
			for open > 0 {
				end++
				open += strings.Count(words[end], "(") - strings.Count(words[end], ")")
			}
			less := slices.Delete(slices.Delete(slices.Clone(words), end, end+1), i, i+1)
			if y, _, e := expr.Parse(strings.Join(less, " ")); e == api.OK && slices.Equal(x, y) {
				t.Errorf("%q needs fewer parentheses", text)
			}
		}
	}
}
