package norm_test

import (
	"fmt"
	"math/rand"
	"slices"
	"strings"
	"testing"

	"attorney/api"
	"attorney/atom"
	"attorney/expr"
	"attorney/norm"
	"attorney/set"
	"attorney/token"
	"attorney/word"
)

// names are what the tests' table has: of each kind other names at other numbers, so that no kind's atoms are taken for another one's.
func names() [api.Kinds][]string {
	return [api.Kinds][]string{
		api.Key:     {"k", "k2", "and"},
		api.Channel: {"c9", "c", "for"},
		api.Name:    {"and", "a", "b", "for", "c", "d", "e", "as", "f"},
		api.Group:   {"g3", "g2", "g", "as"},
		api.Role:    {"r", "s", "a", "and", "q"},
	}
}

func tableOf(t testing.TB, l [api.Kinds][]string) *atom.Table {
	t.Helper()
	x, e := atom.Load(l)
	if e != api.OK {
		t.Fatalf("a table: error %d", e)
	}
	return x
}

func table(t testing.TB) *atom.Table {
	t.Helper()
	return tableOf(t, names())
}

// number tells the atom that a written one must be by names: 0, if there is none.
func number(written string) api.Atom {
	if written == "D" {
		return 1
	}
	kind, name := api.Name, written
	if before, behind, is := strings.Cut(written, ":"); is {
		kind, name = slices.Index([]string{"", "key", "chan", "", "group", "role"}, before), behind
	}
	i := slices.Index(names()[kind], name)
	if i < 0 {
		return 0
	}
	return api.Atom(8192*kind + i + 1)
}

// w is a word by its atoms as they are written, with blanks between.
func w(written string) api.Word {
	var l []byte
	for _, x := range strings.Fields(written) {
		a := number(x)
		if a == 0 {
			panic("no atom: " + x)
		}
		l = append(l, byte(a>>8), byte(a&255))
	}
	return api.Word(l)
}

// s is a set by its words, parted by commas, in the order in which they must stand.
func s(written string) api.Set {
	var l api.Set
	for _, x := range strings.Split(written, ",") {
		l = append(l, w(x))
	}
	return l
}

// terms is an expression by words in postfix form.
func terms(postfix string) []api.Term {
	var x []api.Term
	for _, written := range strings.Fields(postfix) {
		l, _, e := token.All(written)
		if e != api.OK || len(l) != 1 {
			panic("no term: " + written)
		}
		x = append(x, api.Term{Op: l[0].Kind, Of: l[0].Of, Name: l[0].Name})
	}
	return x
}

func same(a, b api.Set) bool { return slices.Equal(a, b) }

func wantSet(t *testing.T, what string, got api.Set, n int, e api.Errno, want api.Set) {
	t.Helper()
	if !same(got, want) || n != 0 || e != api.OK {
		t.Errorf("%.200s: %q, %d, error %d, not %q", what, got, n, e, want)
	}
}

func wantFault(t *testing.T, what string, got api.Set, n int, e api.Errno, wantN int, wantE api.Errno) {
	t.Helper()
	if len(got) != 0 || n != wantN || e != wantE {
		t.Errorf("%.200s: %q, %d, error %d, not %d, error %d", what, got, n, e, wantN, wantE)
	}
}

func wantRun(t *testing.T, postfix string, want api.Set) {
	t.Helper()
	got, n, e := norm.Run(table(t), terms(postfix))
	wantSet(t, "Run "+postfix, got, n, e, want)
}

func wantRunFault(t *testing.T, postfix string, wantN int, wantE api.Errno) {
	t.Helper()
	got, n, e := norm.Run(table(t), terms(postfix))
	wantFault(t, "Run "+postfix, got, n, e, wantN, wantE)
}

func wantRead(t *testing.T, text string, want api.Set) {
	t.Helper()
	got, n, e := norm.Read(table(t), text)
	wantSet(t, "Read "+text, got, n, e, want)
}

func wantReadFault(t *testing.T, text string, wantN int, wantE api.Errno) {
	t.Helper()
	got, n, e := norm.Read(table(t), text)
	wantFault(t, "Read "+text, got, n, e, wantN, wantE)
}

func wantShown(t *testing.T, x api.Set, want string) {
	t.Helper()
	if text, e := norm.Show(table(t), x); text != want || e != api.OK {
		t.Errorf("Show(%q): %q, error %d, not %q", x, text, e, want)
	}
}

func wantNotShown(t *testing.T, x api.Set, want api.Errno) {
	t.Helper()
	if text, e := norm.Show(table(t), x); text != "" || e != want {
		t.Errorf("Show(%q): %q, error %d, not error %d", x, text, e, want)
	}
}

func TestExamples(t *testing.T) {
	x := tableOf(t, [api.Kinds][]string{api.Name: {"a", "b"}, api.Role: {"r"}})
	const a, b, r, d = "\x60\x01", "\x60\x02", "\xa0\x01", "\x00\x01"
	for _, c := range []struct {
		text string
		set  api.Set
		back string
	}{
		{"a for b and a", api.Set{a, d + b, a + b}, "a and D | b and a | b"},
		{"a as role:r|b", api.Set{a + r + b}, "a as role:r | b"},
		{"b|role:r", api.Set{b + r}, "b as role:r"},
	} {
		got, n, e := norm.Read(x, c.text)
		wantSet(t, c.text, got, n, e, c.set)
		if text, e := norm.Show(x, got); text != c.back || e != api.OK {
			t.Errorf("%s: written %q, error %d", c.text, text, e)
		}
	}
}

// The model below tells by other means what an expression means: a set is its words without an order.

type meant map[api.Word]struct{}

func (m meant) put(l ...meant) meant {
	for _, x := range l {
		for w := range x {
			m[w] = struct{}{}
		}
	}
	return m
}

// modelQuote tells all words, and whether one is too long.
func modelQuote(a, b meant) (meant, bool) {
	m, long := meant{}, false
	for x := range a {
		for y := range b {
			m[x+y] = struct{}{}
			long = long || len(x+y) > 16
		}
	}
	return m, long
}

// modelDo tells what a sign makes of two parts, and its error.
func modelDo(op int, a, b meant) (meant, api.Errno) {
	m, long := modelQuote(a, b)
	switch {
	case op == api.TokAnd:
		m, long = meant{}.put(a, b), false
	case op == api.TokFor && !long && len(m) <= 16:
		delegated, _ := modelQuote(meant{"\x00\x01": {}}, b)
		m.put(delegated)
	}
	switch {
	case long:
		return nil, api.ErrSize
	case len(m) > 16:
		return nil, api.ErrMany
	}
	return m, api.OK
}

// modelRun tells what an expression that may be means, by its last term and the two parts ahead of it; and from which term on, as it stands in a longer one.
func modelRun(x []api.Term, from int) (meant, int, api.Errno) {
	n := len(x) - 1
	if x[n].Op == api.TokAtom {
		a := number(token.Word(api.Token{Kind: api.TokAtom, Of: x[n].Of, Name: x[n].Name}))
		if a == 0 {
			return nil, from + n, api.ErrNone
		}
		return meant{api.Word([]byte{byte(a >> 8), byte(a)}): {}}, 0, api.OK
	}
	k := 1
	for !expr.May(x[:k]) || !expr.May(x[k:n]) {
		k++
	}
	a, at, e := modelRun(x[:k], from)
	if e != api.OK {
		return nil, at, e
	}
	b, at, e := modelRun(x[k:n], from+k)
	if e != api.OK {
		return nil, at, e
	}
	m, e := modelDo(x[n].Op, a, b)
	if e != api.OK {
		return nil, from + n, e
	}
	return m, 0, api.OK
}

// rising is a model's set as it must be told: shorter words first.
func rising(m meant) api.Set {
	var l api.Set
	for n := 2; n <= 16; n += 2 {
		var as []string
		for w := range m {
			if len(w) == n {
				as = append(as, string(w))
			}
		}
		slices.Sort(as)
		for _, x := range as {
			l = append(l, api.Word(x))
		}
	}
	return l
}

// made is an expression of that many atoms, some of which the table may not have.
func made(rng *rand.Rand, atoms int, leaves []string, signs string) []api.Term {
	if atoms == 1 {
		return terms(leaves[rng.Intn(len(leaves))])
	}
	left := 1 + rng.Intn(atoms-1)
	sign := strings.Fields(signs)[rng.Intn(len(strings.Fields(signs)))]
	if sign == "as" {
		role := []string{"role:r", "role:s", "role:q", "role:and"}[rng.Intn(4)]
		return slices.Concat(made(rng, left, leaves, signs), terms(role+" as"))
	}
	return slices.Concat(made(rng, left, leaves, signs), made(rng, atoms-left, leaves, signs), terms(sign))
}

var leaves = []string{"a", "b", "c", "d", "key:k", "key:and", "chan:c", "group:g", "role:r", "role:a", "D"}

// everyTree calls for all expressions of n atoms a, b, c .. in this order, with one sign between.
func everyTree(n int, sign string, call func(x []api.Term)) {
	var trees func(l []string, call func(x []api.Term))
	trees = func(l []string, call func(x []api.Term)) {
		if len(l) == 1 {
			call(terms(l[0]))
			return
		}
		for k := 1; k < len(l); k++ {
			trees(l[:k], func(x []api.Term) {
				trees(l[k:], func(y []api.Term) { call(slices.Concat(x, y, terms(sign))) })
			})
		}
	}
	trees([]string{"c", "a", "role:r", "D", "a", "b", "key:k", "a"}[:n], call)
}

// P6.1

func TestRunOfEachAtomAlone(t *testing.T) {
	x := table(t)
	for kind, l := range names() {
		for i, name := range l {
			term := api.Term{Op: api.TokAtom, Of: kind, Name: name}
			got, n, e := norm.Run(x, []api.Term{term})
			if kind == api.Name && slices.Contains([]string{"and", "for", "as"}, name) {
				wantFault(t, name, got, n, e, 0, api.ErrForm)
				continue
			}
			a := 8192*kind + i + 1
			wantSet(t, fmt.Sprint(term), got, n, e, api.Set{api.Word([]byte{byte(a >> 8), byte(a)})})
		}
	}
	wantRun(t, "D", api.Set{"\x00\x01"})
}

func TestDIsKnownToEachTable(t *testing.T) {
	got, n, e := norm.Run(atom.New(), terms("D D |"))
	wantSet(t, "D | D", got, n, e, api.Set{"\x00\x01\x00\x01"})
	got, n, e = norm.Read(atom.New(), "D and D")
	wantSet(t, "D and D", got, n, e, api.Set{"\x00\x01"})
}

func TestRunOfEachSign(t *testing.T) {
	for _, c := range [][2]string{
		{"a b and", "a,b"}, {"b a and", "a,b"}, {"a a and", "a"}, {"a b c and and", "a,b,c"}, {"a b | c and", "c,a b"},
		{"a b |", "a b"}, {"b a |", "b a"}, {"a a |", "a a"}, {"a b and c d and |", "a c,a d,b c,b d"}, {"a role:r |", "a role:r"}, {"role:r a |", "role:r a"},
		{"a role:r as", "a role:r"}, {"role:r role:s as", "role:r role:s"}, {"a b and role:s as", "a role:s,b role:s"}, {"a role:r as role:s as", "a role:r role:s"}, {"D role:q as", "D role:q"},
		{"a b for", "D b,a b"}, {"b a for", "D a,b a"}, {"a a for", "D a,a a"}, {"D a for", "D a"}, {"a D for", "D D,a D"}, {"a b c for for", "D D c,D b c,a D c,a b c"}, {"a b for c for", "D c,D b c,a b c"}, {"a b and c for", "D c,a c,b c"}, {"a b c and for", "D b,D c,a b,a c"},
		{"a b for a and", "a,D b,a b"}, {"a b for D b | and", "D b,a b"}, {"key:and chan:for and group:as and role:and and", "key:and,chan:for,group:as,role:and"},
	} {
		wantRun(t, c[0], s(c[1]))
	}
}

func TestRunIsTheModel(t *testing.T) {
	rng := rand.New(rand.NewSource(1))
	x := table(t)
	told := map[api.Errno]int{}
	for range 40000 {
		l := leaves
		if rng.Intn(3) == 0 {
			l = append([]string{"x", "key:a", "chan:k", "group:r", "role:g"}[rng.Intn(5):], leaves...)
		}
		y := made(rng, 1+rng.Intn(14), l, []string{"and for | as", "and and |", "and |", "| as for", "and and and and for"}[rng.Intn(5)])
		got, n, e := norm.Run(x, y)
		want, wantN, wantE := modelRun(y, 0)
		told[wantE]++
		if wantE != api.OK {
			wantFault(t, fmt.Sprint(y), got, n, e, wantN, wantE)
		} else {
			wantSet(t, fmt.Sprint(y), got, n, e, rising(want))
		}
	}
	for _, e := range []api.Errno{api.OK, api.ErrNone, api.ErrSize, api.ErrMany} {
		if told[e] < 100 {
			t.Errorf("the error %d was told %d times: the cases are poor", e, told[e])
		}
	}
}

// together is that many words of two atoms, unlike each other, in one set.
func together(n int) string {
	var b strings.Builder
	for i := range n {
		fmt.Fprintf(&b, "%s %s | ", []string{"a", "b", "c", "d", "e"}[i/5], []string{"a", "b", "c", "d", "e"}[i%5])
		if i > 0 {
			b.WriteString("and ")
		}
	}
	return b.String()
}

// behind is that many atoms that quote each other, from the left on.
func behind(n int) string { return "a" + strings.Repeat(" b |", n-1) }

func TestRunAtTheBorders(t *testing.T) {
	x := table(t)
	got, n, e := norm.Run(x, terms(together(16)))
	if len(got) != 16 || !set.May(got) || n != 0 || e != api.OK {
		t.Errorf("16 words: %q, %d, error %d", got, n, e)
	}
	again, n, e := norm.Run(x, terms(together(16)+together(16)+"and"))
	wantSet(t, "16 words twice", again, n, e, got)
	wantRunFault(t, together(17), 17*4-2, api.ErrMany)
	wantRunFault(t, together(17)+"x and", 17*4-2, api.ErrMany)
	wantRunFault(t, "x "+together(17)+"and", 0, api.ErrNone)

	wantRun(t, behind(8), s("a b b b b b b b"))
	wantRunFault(t, behind(9), 16, api.ErrSize)
	wantRunFault(t, behind(9)+" x and", 16, api.ErrSize)
	wantRunFault(t, behind(7)+" x | b |", 13, api.ErrNone)
	wantRunFault(t, behind(4)+" "+behind(5)+" |", 16, api.ErrSize)

	wantRun(t, behind(7)+" role:r as", s("a b b b b b b role:r"))
	wantRunFault(t, behind(8)+" role:r as", 16, api.ErrSize)
	wantRunFault(t, behind(8)+" role:x as", 15, api.ErrNone)
	wantRunFault(t, "a role:x as", 1, api.ErrNone)

	wantRun(t, "a "+behind(7)+" for", s("D a b b b b b b,a a b b b b b b"))
	wantRunFault(t, "a "+behind(8)+" for", 16, api.ErrSize)

	for _, c := range [][2]string{{"a D and b and c and ", "for"}, {"a b and c and ", "for"}, {"a b and c and D and ", "|"}, {"a b and c and d and ", "|"}} {
		// Those that for adds are the ones of D: they are there already, or the 13th to the 16th.
		got, n, e := norm.Run(x, terms(c[0]+together(4)+c[1]))
		if len(got) != 16 || !set.May(got) || n != 0 || e != api.OK {
			t.Errorf("%s of %s: %q, %d, error %d", c[1], c[0], got, n, e)
		}
	}
	wantRunFault(t, "a b and c and d and "+together(4)+"for", 7+15, api.ErrMany)
	wantRunFault(t, "a b and c and d and e and "+together(4)+"for", 9+15, api.ErrMany)
	wantRunFault(t, "a b and c and d and e and "+together(4)+"|", 9+15, api.ErrMany)
	wantRunFault(t, "a b and c and "+together(6)+"|", 5+23, api.ErrMany)
	// Of Quote, what is too long is told ahead of what is too much.
	wantRunFault(t, together(5)+together(4)+"| "+behind(9)+" and", 19+15, api.ErrMany)
	wantRunFault(t, together(5)+behind(7)+" and "+together(4)+"|", 19+13+1+15, api.ErrSize)
	wantRunFault(t, together(5)+behind(7)+" and "+together(4)+"for", 19+13+1+15, api.ErrSize)
}

func TestRunOfWhatTheTableHasNot(t *testing.T) {
	for _, c := range []struct {
		postfix string
		n       int
	}{
		{"x", 0}, {"k", 0}, {"r", 0}, {"key:a", 0}, {"key:c", 0}, {"chan:k", 0}, {"group:a", 0}, {"role:b", 0}, {"role:k", 0}, {"key:k3", 0},
		{"x a and", 0}, {"a x and", 1}, {"a b and x |", 3}, {"a b x and and", 2}, {"x y and", 0}, {"a role:x as", 1}, {"x role:x as", 0}, {"D x for", 1}, {"a b | role:r as role:as as", 5},
	} {
		wantRunFault(t, c.postfix, c.n, api.ErrNone)
	}
	x := table(t)
	if got, n, e := norm.Run(atom.New(), terms("a")); len(got) != 0 || n != 0 || e != api.ErrNone {
		t.Errorf("an empty table: %q, %d, error %d", got, n, e)
	}
	norm.Run(x, terms("x"))
	norm.Read(x, "key:new and new")
	for kind, l := range names() {
		if kind > 0 && !slices.Equal(x.All(kind), l) {
			t.Errorf("the table has %q then", x.All(kind))
		}
	}
}

func TestRunOfWhatMayNotBe(t *testing.T) {
	x := table(t)
	for _, y := range [][]api.Term{
		nil, {}, terms("a b"), terms("and"), terms("a and"), terms("a b c and"), terms("a b as"), terms("a role:r role:s and as"), terms("x b"), terms("x y as"), terms("x and"), terms("1"), terms("("), terms("a ="), {{}},
		{{Op: api.TokAtom, Of: api.Name, Name: "and"}}, {{Op: api.TokAtom, Of: api.Name, Name: "D"}}, {{Op: api.TokAtom, Of: api.Reserved, Name: "a"}}, {{Op: api.TokAtom, Of: api.Reserved}}, {{Op: api.TokAtom, Of: 6, Name: "a"}}, {{Op: api.TokAtom, Of: -1, Name: "a"}}, {{Op: -1}}, {{Op: 1 << 40}},
		append(terms("a b"), api.Term{Op: api.TokAnd, Name: "and"}), append(terms("x y"), api.Term{Op: api.TokAs, Of: api.Role}),
		terms("x" + strings.Repeat(" x and", 100)), terms(behind(9) + " x"), terms(together(17) + "a"), make([]api.Term, 1000000),
	} {
		got, n, e := norm.Run(x, y)
		wantFault(t, fmt.Sprintf("%d terms, %v", len(y), y[:min(len(y), 9)]), got, n, e, 0, api.ErrForm)
	}
	for _, postfix := range []string{"a", "D", "a b and", "x", "and", behind(9)} {
		got, n, e := norm.Run(nil, terms(postfix))
		wantFault(t, "no table, "+postfix, got, n, e, 0, api.ErrForm)
	}
}

func TestRunOfAsManyTermsAsMayBe(t *testing.T) {
	for _, c := range [][2]string{{"a", "a"}, {"D", "D"}, {"role:r", "role:r"}} {
		wantRun(t, c[0]+strings.Repeat(" "+c[0]+" and", 99), s(c[1]))
		wantRun(t, strings.Repeat(c[0]+" ", 100)+strings.Repeat("and ", 99), s(c[1]))
	}
	wantRunFault(t, strings.Repeat("a ", 100)+strings.Repeat("| ", 99), 107, api.ErrSize)
	wantRunFault(t, strings.Repeat("a ", 99)+"x "+strings.Repeat("| ", 99), 99, api.ErrNone)
}

func TestRead(t *testing.T) {
	wantRead(t, "a", s("a"))
	wantRead(t, " # x\n key:k2|(a and\tb)", s("key:k2 a,key:k2 b"))
	wantRead(t, "a and b for c|d as role:q", s("a,D c d role:q,b c d role:q"))
	wantRead(t, "(a and b) for c for D", s("D D,D c D,a c D,b c D"))
	wantRead(t, "a as role:r as role:s|role:q", s("a role:r role:s role:q"))
	wantRead(t, "chan:c and group:g and key:and and role:and", s("key:and,chan:c,group:g,role:and"))
}

func TestReadTellsWhereATextIsWrong(t *testing.T) {
	for _, c := range []struct {
		text string
		at   int
		e    api.Errno
	}{
		{"", 0, api.ErrForm}, {"  ", 2, api.ErrForm}, {"a and", 5, api.ErrForm}, {"a  b", 3, api.ErrForm}, {"x and K", 6, api.ErrForm}, {"x and 12a", 6, api.ErrForm}, {"x as y", 5, api.ErrForm}, {"(x", 2, api.ErrForm}, {"x)", 1, api.ErrForm}, {"a and role:", 6, api.ErrForm},
		{"x and " + strings.Repeat("(", 101), 106, api.ErrMany}, {"x" + strings.Repeat("|x", 100), 0, api.ErrMany}, {strings.Repeat(" ", 4001), 0, api.ErrMany}, {" " + strings.Repeat("x|", 501), 1001, api.ErrMany},
	} {
		wantReadFault(t, c.text, c.at, c.e)
		got, n, e := norm.Read(nil, c.text)
		wantFault(t, "no table, "+c.text, got, n, e, 0, api.ErrForm)
	}
	for _, text := range []string{"a", "D", "x"} {
		got, n, e := norm.Read(nil, text)
		wantFault(t, "no table, "+text, got, n, e, 0, api.ErrForm)
	}
}

func TestReadTellsNoTermsNumber(t *testing.T) {
	for text, e := range map[string]api.Errno{
		"x": api.ErrNone, "a and x": api.ErrNone, "a and b and c and role:x": api.ErrNone, "  a as role:x": api.ErrNone, "k": api.ErrNone, "key:a": api.ErrNone,
		"a" + strings.Repeat("|a", 8): api.ErrSize, "a" + strings.Repeat(" as role:r", 8): api.ErrSize, "a for " + "a" + strings.Repeat("|a", 7): api.ErrSize,
		"(a and b and c)|(a and b and c and d and e and f)": api.ErrMany, "(a and b and c and d)for(a and b and c and d)": api.ErrMany, "a|x|a|a|a|a|a|a|a": api.ErrNone, "a|a|a|a|a|a|a|a|a|x": api.ErrSize,
	} {
		wantReadFault(t, text, 0, e)
	}
}

func TestReadIsParseAndRun(t *testing.T) {
	rng := rand.New(rand.NewSource(2))
	x := table(t)
	pieces := []string{"a", "b", "x", "role:r", "role:x", "key:k", "D", " and ", " for ", "|", " as role:r", " as ", "(", ")", " ", "#x\n", "1"}
	for range 30000 {
		var b strings.Builder
		for range rng.Intn(9) {
			b.WriteString(pieces[rng.Intn(len(pieces))])
		}
		text := b.String()
		got, n, e := norm.Read(x, text)
		y, at, wantE := expr.Parse(text)
		if wantE != api.OK {
			wantFault(t, text, got, n, e, at, wantE)
			continue
		}
		want, _, wantE := norm.Run(x, y)
		if wantE != api.OK {
			wantFault(t, text, got, n, e, 0, wantE)
		} else {
			wantSet(t, text, got, n, e, want)
		}
	}
}

func TestNothingIsShared(t *testing.T) {
	x := table(t)
	for _, postfix := range []string{"a", "a b and", "a b for", "a b |", "a role:r as"} {
		y := terms(postfix)
		was := slices.Clone(y)
		got, _, _ := norm.Run(x, y)
		want := slices.Clone(got)
		other, _, _ := norm.Run(x, y)
		if !slices.Equal(y, was) {
			t.Errorf("%s was changed", postfix)
		}
		clear(y)
		clear(other)
		if !same(got, want) {
			t.Errorf("%s: what was told turned into %q", postfix, got)
		}
		clear(got)
		got, n, e := norm.Run(x, was)
		wantSet(t, postfix, got, n, e, want)
	}
	y := s("a,b,a b")
	want := slices.Clone(y)
	if norm.Show(x, y); !same(y, want) {
		t.Errorf("a set turned into %q", y)
	}
}

func TestTheSameIsToldAgain(t *testing.T) {
	x := table(t)
	for range 3 {
		wantRunFault(t, "a x and", 1, api.ErrNone)
		got, n, e := norm.Run(x, terms("a b and"))
		wantSet(t, "a and b", got, n, e, s("a,b"))
		if text, e := norm.Show(x, got); text != "a and b" || e != api.OK {
			t.Errorf("%q, error %d", text, e)
		}
	}
	if a, e := x.Put(api.Name, "x"); a != 24577+9 || e != api.OK {
		t.Fatalf("Put: %d, error %d", a, e)
	}
	got, n, e := norm.Run(x, terms("a x and"))
	wantSet(t, "a and x", got, n, e, api.Set{w("a"), word.Of(24577 + 9)})
}

// P6.2

func TestShow(t *testing.T) {
	for written, want := range map[string]string{
		"a": "a", "D": "D", "key:and": "key:and", "chan:for": "chan:for", "group:as": "group:as", "role:and": "role:and",
		"a,b": "a and b", "key:k,chan:c,a,group:g,role:r": "key:k and chan:c and a and group:g and role:r", "b,a a": "b and a | a", "D b,a b": "D | b and a | b",
		"a b": "a | b", "a role:r": "a as role:r", "role:r a": "role:r | a", "role:r role:s": "role:r as role:s", "D role:r": "D as role:r", "a D": "a | D", "role:r D": "role:r | D",
		"a role:r role:s": "a as role:r as role:s", "a role:r b": "a as role:r | b", "a b role:r": "a | b | role:r", "role:r a role:s": "role:r | a | role:s", "role:r role:s a": "role:r as role:s | a", "a role:r b role:s role:q": "a as role:r | b | role:s | role:q",
		"a role:r,b c role:r,b role:s role:r": "a as role:r and b | c | role:r and b as role:s as role:r", "b a role:r,c role:r role:r": "b | a | role:r and c as role:r as role:r",
		"role:r role:r role:r role:r role:r role:r role:r role:r": "role:r" + strings.Repeat(" as role:r", 7),
	} {
		wantShown(t, s(written), want)
	}
}

// modelWord tells a word's text by the atoms as they are written: a row of roles behind the first one by as, all else by |.
func modelWord(atoms []string) string {
	n := 1
	for n < len(atoms) && strings.HasPrefix(atoms[n], "role:") {
		n++
	}
	return strings.Join(append([]string{strings.Join(atoms[:n], " as ")}, atoms[n:]...), " | ")
}

func TestShowOfAllShortWords(t *testing.T) {
	pieces := []string{"a", "key:k", "D", "role:r", "role:and"}
	var more func(l []string)
	more = func(l []string) {
		if len(l) > 0 {
			wantShown(t, s(strings.Join(l, " ")), modelWord(l))
			// Each word's beginning is its own: what parts one is no matter to the next.
			further := append([]string{"b"}, append(l, "b", "role:s")...)
			wantShown(t, api.Set{w(strings.Join(l, " ")), w(strings.Join(further, " "))}, modelWord(l)+" and "+modelWord(further))
		}
		if len(l) < 5 {
			for _, x := range pieces {
				more(append(slices.Clone(l), x))
			}
		}
	}
	more(nil)
}

func TestShowOfWhatMayNotBe(t *testing.T) {
	var seventeen api.Set
	for i := range 17 {
		seventeen = append(seventeen, word.Of(24578, api.Atom(1+i)))
	}
	for _, x := range []api.Set{
		nil, {}, {""}, {"a"}, {w("a") + "\x00"}, {w("a") + "\x00\x00"}, {"\x00\x00"}, {w("a a a a a a a a a")}, s("b,a"), s("a,a"), s("a b,a"), s("a,b,b"), s("b a,a b"), seventeen, seventeen[1:16:16][:0], append(s("a"), ""), append(s("b"), word.Of(24577)),
		{word.Of(8192), word.Of(2)}, {word.Of(0), word.Of(65535)}, make(api.Set, 100000),
	} {
		wantNotShown(t, x, api.ErrForm)
		if text, e := norm.Show(nil, x); text != "" || e != api.ErrForm {
			t.Errorf("no table, %q: %q, error %d", x, text, e)
		}
	}
	for _, x := range []api.Set{s("a"), s("D"), s("a,b c"), {word.Of(2)}} {
		if text, e := norm.Show(nil, x); text != "" || e != api.ErrForm {
			t.Errorf("no table, %q: %q, error %d", x, text, e)
		}
	}
}

func TestShowOfEachAtom(t *testing.T) {
	x := table(t)
	want := map[api.Atom]string{1: "D"}
	for kind, l := range names() {
		for i, name := range l {
			if kind != api.Name || !slices.Contains([]string{"and", "for", "as"}, name) {
				want[api.Atom(8192*kind+i+1)] = []string{"", "key:", "chan:", "", "group:", "role:"}[kind] + name
			}
		}
	}
	for i := 1; i < 1<<16; i++ {
		a := api.Atom(i)
		text, e := norm.Show(x, api.Set{word.Of(a)})
		written, is := want[a]
		if text != written || is != (e == api.OK) || !is && e != api.ErrNone {
			t.Fatalf("the atom %d: %q, error %d, not %q", a, text, e, written)
		}
	}
}

func TestShowOfWhatHasNoName(t *testing.T) {
	for _, a := range []api.Atom{2, 8191, 8192, 8196, 16384, 24576, 24577, 24580, 24584, 24586, 32768, 40960, 40966, 49151, 49152, 49153, 65535} {
		for n := 1; n <= api.MaxWord; n++ {
			for at := range n {
				l := slices.Repeat([]api.Atom{40961}, n)
				l[at] = a
				x := api.Set{word.Of(l...)}
				wantNotShown(t, x, api.ErrNone)
				others, _ := set.And(x, s("a,b c,D D D D D D D D"))
				wantNotShown(t, others, api.ErrNone)
			}
		}
	}
	if text, e := norm.Show(atom.New(), s("a")); text != "" || e != api.ErrNone {
		t.Errorf("an empty table: %q, error %d", text, e)
	}
	if text, e := norm.Show(atom.New(), s("D,D D")); text != "D and D | D" || e != api.OK {
		t.Errorf("an empty table: %q, error %d", text, e)
	}
}

// longest are the words of most atoms, of names as long as may be, by a table of their own.
func longest(t *testing.T, words int) (*atom.Table, api.Set, string) {
	t.Helper()
	var l []string
	for i := range words {
		l = append(l, strings.Repeat("z", api.MaxSay-1)+string(rune('a'+i)))
	}
	x := tableOf(t, [api.Kinds][]string{api.Group: l})
	var y api.Set
	var texts []string
	for i, name := range l {
		y = append(y, word.Of(slices.Repeat([]api.Atom{api.Atom(32769 + i)}, api.MaxWord)...))
		texts = append(texts, strings.Join(slices.Repeat([]string{"group:" + name}, api.MaxWord), " | "))
	}
	return x, y, strings.Join(texts, " and ")
}

func TestShowOfTheLongest(t *testing.T) {
	for _, words := range []int{1, 12, 13, 15, 16} {
		x, y, want := longest(t, words)
		if text, e := norm.Show(x, y); text != want || e != api.OK {
			t.Errorf("%d words: %q, error %d", words, text, e)
		}
	}
}

// P6.3

// wantBack holds a set's text to be read as that set.
func wantBack(t *testing.T, x *atom.Table, y api.Set) {
	t.Helper()
	text, e := norm.Show(x, y)
	if e != api.OK {
		t.Fatalf("Show(%q): error %d", y, e)
	}
	got, n, e := norm.Read(x, text)
	wantSet(t, text, got, n, e, y)
}

func TestASetsTextIsReadAsThatSet(t *testing.T) {
	rng := rand.New(rand.NewSource(3))
	x := table(t)
	for range 20000 {
		var l []api.Word
		for range 1 + rng.Intn(api.MaxSet) {
			var atoms []string
			for range 1 + rng.Intn(api.MaxWord) {
				atoms = append(atoms, leaves[rng.Intn(len(leaves))])
			}
			l = append(l, w(strings.Join(atoms, " ")))
		}
		y, e := set.Of(l...)
		if e != api.OK {
			t.Fatalf("%q: error %d", l, e)
		}
		atoms := 0
		for _, one := range y {
			atoms += word.Len(one)
		}
		if 2*atoms-1 > api.MaxExpr {
			text, _ := norm.Show(x, y)
			got, n, e := norm.Read(x, text)
			wantFault(t, text, got, n, e, 0, api.ErrMany)
			continue
		}
		wantBack(t, x, y)
	}
}

func TestLongTextsAreReadAsLongAsMayBe(t *testing.T) {
	for words := 1; words <= 12; words++ {
		x, y, _ := longest(t, words)
		wantBack(t, x, y)
	}
	x, y, text := longest(t, 13)
	got, n, e := norm.Read(x, text)
	wantFault(t, text, got, n, e, 0, api.ErrMany)
	wantBack(t, x, y[:12])
}

func TestWhatIsReadIsWrittenAndReadAgain(t *testing.T) {
	rng := rand.New(rand.NewSource(4))
	x := table(t)
	for range 20000 {
		y, _, e := norm.Run(x, made(rng, 1+rng.Intn(8), leaves, "and for | as"))
		if e == api.OK && len(y)*set.Heavy(y) <= 100 {
			wantBack(t, x, y)
		}
	}
}

func TestParenthesesAreNoMatter(t *testing.T) {
	x := table(t)
	for n := 1; n <= 8; n++ {
		for sign, want := range map[string]func(l []string) api.Set{
			"and": func(l []string) api.Set {
				m := meant{}
				for _, y := range l {
					m[w(y)] = struct{}{}
				}
				return rising(m)
			},
			"|": func(l []string) api.Set { return s(strings.Join(l, " ")) },
		} {
			everyTree(n, sign, func(y []api.Term) {
				var l []string
				for _, term := range y {
					if term.Op == api.TokAtom {
						l = append(l, token.Word(api.Token{Kind: term.Op, Of: term.Of, Name: term.Name}))
					}
				}
				got, at, e := norm.Run(x, y)
				wantSet(t, fmt.Sprint(y), got, at, e, want(l))
				text, _ := expr.Text(y)
				got, at, e = norm.Read(x, text)
				wantSet(t, text, got, at, e, want(l))
			})
		}
	}
}
