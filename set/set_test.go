package set_test

import (
	"slices"
	"strconv"
	"testing"

	"attorney/api"
	"attorney/set"
	"attorney/word"
)

// a, b and r are a key, another one, and a role.
const (
	a = api.Atom(8193)
	b = api.Atom(8194)
	r = api.Atom(40961)
)

// times is a word of one atom, so many times.
func times(x api.Atom, n int) api.Word { return word.Of(slices.Repeat([]api.Atom{x}, n)...) }

// singles is the set of the words of one atom each, from first on, n of them.
func singles(first api.Atom, n int) api.Set {
	var s api.Set
	for i := range n {
		s = append(s, word.Of(first+api.Atom(i)))
	}
	return s
}

// badWords may not be: none, torn, with 0, too long.
func badWords() []api.Word {
	return []api.Word{"", "\x01", "\x20\x01\x20", word.Of(0), word.Of(a, 0), word.Of(0, a), times(a, api.MaxWord+1), times(a, api.MaxWord) + "\x01", times(a, 5000)}
}

// badSets may not be, each for one reason.
func badSets() []api.Set {
	l := []api.Set{
		nil,
		{},
		singles(1, api.MaxSet+1),
		{word.Of(b), word.Of(a)},
		{word.Of(a, b), word.Of(b)},
		{word.Of(a), word.Of(a)},
		{word.Of(a), word.Of(b), word.Of(b)},
		{word.Of(a), word.Of(b), word.Of(a)},
		{word.Of(0x0100), word.Of(0x00ff)},
		append(singles(2, api.MaxSet-1), word.Of(1)),
	}
	for _, w := range badWords() {
		l = append(l, api.Set{w})
	}
	return l
}

// powers is a set of each word of some of these words, put right, but for none.
func powers(l ...api.Word) []api.Set {
	var all []api.Set
	for bits := 1; bits < 1<<len(l); bits++ {
		var s api.Set
		for i, w := range l {
			if bits>>i&1 == 1 {
				s = append(s, w)
			}
		}
		all = append(all, right(s))
	}
	return all
}

// right puts words right by going through them for the least one that is left, again and again.
func right(l []api.Word) api.Set {
	var s api.Set
	for len(s) < len(l) {
		least := -1
		for i, w := range l {
			isBehind := len(s) == 0 || word.Less(s[len(s)-1], w)
			if isBehind && (least < 0 || word.Less(w, l[least])) {
				least = i
			}
		}
		if least < 0 {
			return s
		}
		s = append(s, l[least])
	}
	return s
}

// each is each word of x with each one of y behind it, put right.
func each(x, y api.Set) api.Set {
	var l []api.Word
	for _, v := range x {
		for _, w := range y {
			l = append(l, v+w)
		}
	}
	return right(l)
}

// must panics, so that it can stand around a call of two answers.
func must(s api.Set, e api.Errno) api.Set {
	if e != api.OK {
		panic("error " + strconv.Itoa(int(e)))
	}
	return s
}

func wantSet(t *testing.T, what string, got api.Set, e api.Errno, want api.Set, wanted api.Errno) {
	t.Helper()
	if !slices.Equal(got, want) || e != wanted {
		t.Errorf("%s: %q, error %d, not %q, error %d", what, got, e, want, wanted)
	}
}

func TestExamples(t *testing.T) {
	got, e := set.Of(word.Of(a, b), word.Of(a), word.Of(a))
	wantSet(t, "Of", got, e, api.Set{"\x20\x01", "\x20\x01\x20\x02"}, api.OK)
	got, e = set.Quote(singles(a, 2), singles(b, 1))
	wantSet(t, "Quote", got, e, api.Set{"\x20\x01\x20\x02", "\x20\x02\x20\x02"}, api.OK)
	got, e = set.For(singles(a, 1), singles(b, 1))
	wantSet(t, "For", got, e, api.Set{"\x00\x01\x20\x02", "\x20\x01\x20\x02"}, api.OK)
}

// P3.1

func TestOfPutsRight(t *testing.T) {
	for _, c := range []struct{ l, want []api.Word }{
		{[]api.Word{word.Of(a)}, []api.Word{word.Of(a)}},
		{[]api.Word{word.Of(b), word.Of(a)}, []api.Word{word.Of(a), word.Of(b)}},
		{[]api.Word{word.Of(a), word.Of(a), word.Of(a)}, []api.Word{word.Of(a)}},
		{[]api.Word{word.Of(b), word.Of(a), word.Of(b), word.Of(a)}, []api.Word{word.Of(a), word.Of(b)}},
		{[]api.Word{word.Of(1, 1), word.Of(0xffff)}, []api.Word{word.Of(0xffff), word.Of(1, 1)}},
		{[]api.Word{word.Of(0x0100), word.Of(0x00ff), word.Of(0x01ff)}, []api.Word{word.Of(0x00ff), word.Of(0x0100), word.Of(0x01ff)}},
		{[]api.Word{word.Of(0x8000), word.Of(0x7fff)}, []api.Word{word.Of(0x7fff), word.Of(0x8000)}},
		{[]api.Word{times(1, 8), times(2, 7), times(1, 7), times(3, 6)}, []api.Word{times(3, 6), times(1, 7), times(2, 7), times(1, 8)}},
	} {
		got, e := set.Of(c.l...)
		wantSet(t, "Of", got, e, c.want, api.OK)
	}
}

func TestOfInWhateverOrder(t *testing.T) {
	l := []api.Word{word.Of(a), word.Of(b), word.Of(a, a), word.Of(a, b), word.Of(r)}
	want := api.Set{word.Of(a), word.Of(b), word.Of(r), word.Of(a, a), word.Of(a, b)}
	var permute func(i int)
	permute = func(i int) {
		if i == len(l) {
			got, e := set.Of(append(slices.Clone(l), l[0], l[2])...)
			wantSet(t, "Of", got, e, want, api.OK)
			return
		}
		for j := i; j < len(l); j++ {
			l[i], l[j] = l[j], l[i]
			permute(i + 1)
			l[i], l[j] = l[j], l[i]
		}
	}
	permute(0)
}

func TestOfHowMany(t *testing.T) {
	for n := range 40 {
		l := singles(1, n)
		slices.Reverse(l)
		want, wanted := singles(1, n), api.OK
		if n == 0 || n > api.MaxSet {
			want, wanted = nil, api.ErrMany
		}
		got, e := set.Of(l...)
		wantSet(t, "Of", got, e, want, wanted)
		got, e = set.Of(slices.Concat(l, l, l)...)
		wantSet(t, "Of each three times", got, e, want, wanted)
	}
}

func TestOfRefusesWordsThatMayNotBe(t *testing.T) {
	for _, bad := range badWords() {
		for _, n := range []int{1, 2, 16, 17, 30} {
			for at := range n {
				l := singles(1, n)
				l[at] = bad
				got, e := set.Of(l...)
				wantSet(t, "Of", got, e, nil, api.ErrForm)
			}
		}
	}
}

func TestOfLongLists(t *testing.T) {
	var l []api.Word
	for i := range 300000 {
		l = append(l, word.Of(api.Atom(16-i%16)))
	}
	got, e := set.Of(l...)
	wantSet(t, "Of", got, e, singles(1, 16), api.OK)
	got, e = set.Of(append(l, word.Of(17))...)
	wantSet(t, "Of one more", got, e, nil, api.ErrMany)
	got, e = set.Of(append(l, word.Of(17), word.Of(0))...)
	wantSet(t, "Of a bad one at the end", got, e, nil, api.ErrForm)
}

func TestOfSharesNothing(t *testing.T) {
	l := []api.Word{word.Of(b), word.Of(a), word.Of(b), word.Of(a, b)}
	s := must(set.Of(l[:3]...))
	if !slices.Equal(l, []api.Word{word.Of(b), word.Of(a), word.Of(b), word.Of(a, b)}) {
		t.Errorf("the argument turned into %q", l)
	}
	l[0], l[1] = word.Of(9), word.Of(9)
	wantSet(t, "the set", s, api.OK, singles(a, 2), api.OK)

	l = []api.Word{word.Of(a), word.Of(b)}
	s = must(set.Of(l...))
	s[0] = word.Of(9)
	_ = append(s[:1], word.Of(9))
	if !slices.Equal(l, []api.Word{word.Of(a), word.Of(b)}) {
		t.Errorf("the argument turned into %q with the answer", l)
	}
}

func TestMay(t *testing.T) {
	for n := range 40 {
		if got := set.May(singles(1, n)); got != (n >= 1 && n <= 16) {
			t.Errorf("%d words: may be: %v", n, got)
		}
	}
	for _, s := range []api.Set{{times(1, 8)}, {word.Of(0x00ff), word.Of(0x0100)}, {word.Of(0xffff), word.Of(1, 1)}, {word.Of(a), word.Of(b), word.Of(a, a), times(a, 8)}} {
		if !set.May(s) {
			t.Errorf("%q may not be", s)
		}
	}
	for _, s := range badSets() {
		if set.May(s) {
			t.Errorf("%q may be", s)
		}
	}
}

func TestMayWithABadWord(t *testing.T) {
	for _, bad := range badWords() {
		for n := 1; n <= api.MaxSet; n++ {
			for at := range n {
				s := singles(1, n)
				s[at] = bad
				if set.May(s) || set.May(right(s)) {
					t.Errorf("%q may be", s)
				}
			}
		}
	}
}

func TestMayAsksForEachPairOfWords(t *testing.T) {
	for n := 2; n <= api.MaxSet; n++ {
		for i := range n - 1 {
			s := singles(1, n)
			s[i], s[i+1] = s[i+1], s[i]
			if set.May(s) {
				t.Errorf("%q may be", s)
			}
			s = singles(1, n)
			s[i+1] = s[i]
			if set.May(s) {
				t.Errorf("%q may be", s)
			}
		}
	}
}

// P3.2

// made is what makes a set of two.
type made struct {
	name string
	of   func(a, b api.Set) (api.Set, api.Errno)
}

func allMade() []made {
	return []made{
		{"And", set.And},
		{"Quote", set.Quote},
		{"For", set.For},
		{"As, of the left one", func(x, _ api.Set) (api.Set, api.Errno) { return set.As(x, r) }},
	}
}

func TestSetsThatMayNotBeAreRefused(t *testing.T) {
	good := []api.Set{singles(a, 1), singles(1, api.MaxSet), {times(a, api.MaxWord)}}
	for _, m := range allMade() {
		for _, bad := range badSets() {
			for _, x := range append(good, bad) {
				got, e := m.of(bad, x)
				wantSet(t, m.name+" of a bad left one", got, e, nil, api.ErrForm)
				if m.name != "As, of the left one" {
					got, e = m.of(x, bad)
					wantSet(t, m.name+" of a bad right one", got, e, nil, api.ErrForm)
				}
			}
		}
	}
}

func TestAnd(t *testing.T) {
	all := powers(word.Of(a), word.Of(b), word.Of(a, b), word.Of(b, a), word.Of(0x00ff))
	for _, x := range all {
		for _, y := range all {
			got, e := set.And(x, y)
			wantSet(t, "And", got, e, right(slices.Concat(x, y)), api.OK)
		}
	}
}

func TestAndHowMany(t *testing.T) {
	for n := 1; n <= 16; n++ {
		for m := 1; m <= 16; m++ {
			for from := range n + 1 {
				x, y := singles(1, n), singles(api.Atom(1+from), m)
				want, wanted := singles(1, max(n, from+m)), api.OK
				if from+m > 16 {
					want, wanted = nil, api.ErrMany
				}
				got, e := set.And(x, y)
				wantSet(t, "And", got, e, want, wanted)
				got, e = set.And(y, x)
				wantSet(t, "And the other way", got, e, want, wanted)
			}
		}
	}
}

func TestQuote(t *testing.T) {
	all := powers(word.Of(a), word.Of(b), word.Of(a, a), word.Of(a, b))
	for _, x := range all {
		for _, y := range all {
			got, e := set.Quote(x, y)
			wantSet(t, "Quote", got, e, each(x, y), api.OK)
		}
	}
}

func TestQuoteCountsEachWordOnce(t *testing.T) {
	x := api.Set{times(a, 1), times(a, 2)}
	got, e := set.Quote(x, x)
	wantSet(t, "Quote", got, e, api.Set{times(a, 2), times(a, 3), times(a, 4)}, api.OK)

	// Of 20 pairs there are 11 words: more than MaxSet pairs are no error.
	y := api.Set{times(a, 1), times(a, 2), times(a, 3), times(a, 4)}
	x = must(set.And(y, singles(b, 1)))
	got, e = set.Quote(x, y)
	wantSet(t, "Quote of 20 pairs", got, e, each(x, y), api.OK)
	if len(got) != 11 {
		t.Errorf("%d words", len(got))
	}
}

func TestQuoteHowMany(t *testing.T) {
	for n := 1; n <= 16; n++ {
		for m := 1; m <= 16; m++ {
			x, y := singles(1, n), singles(100, m)
			want, wanted := each(x, y), api.OK
			if n*m > 16 {
				want, wanted = nil, api.ErrMany
			}
			got, e := set.Quote(x, y)
			wantSet(t, "Quote", got, e, want, wanted)
		}
	}
}

func TestQuoteHowLong(t *testing.T) {
	for n := 1; n <= 8; n++ {
		for m := 1; m <= 8; m++ {
			want, wanted := api.Set{times(1, n) + times(2, m)}, api.OK
			if n+m > 8 {
				want, wanted = nil, api.ErrSize
			}
			got, e := set.Quote(api.Set{times(1, n)}, api.Set{times(2, m)})
			wantSet(t, "Quote", got, e, want, wanted)
			if e != api.OK {
				continue
			}
			// One pair that is too long is enough, and goes ahead of ErrMany.
			for _, words := range []int{2, 15} {
				got, e = set.Quote(append(singles(1, words), times(9, 9-m)), api.Set{times(2, m)})
				wantSet(t, "Quote with a long one", got, e, nil, api.ErrSize)
				got, e = set.Quote(api.Set{times(2, n)}, append(singles(1, words), times(9, 9-n)))
				wantSet(t, "Quote of a long one", got, e, nil, api.ErrSize)
			}
		}
	}
}

func TestQuoteTellsErrSizeAheadOfErrMany(t *testing.T) {
	many := singles(1, 16)
	long := append(singles(1, 15), times(9, 8))
	for _, c := range []struct{ x, y api.Set }{{many, long}, {long, many}, {long, long}} {
		got, e := set.Quote(c.x, c.y)
		wantSet(t, "Quote", got, e, nil, api.ErrSize)
	}
	got, e := set.Quote(many, many)
	wantSet(t, "Quote of many", got, e, nil, api.ErrMany)
}

func TestAs(t *testing.T) {
	for _, x := range powers(word.Of(a), word.Of(b), word.Of(r), word.Of(a, r)) {
		got, e := set.As(x, r)
		wantSet(t, "As", got, e, each(x, api.Set{word.Of(r)}), api.OK)
	}
	x := singles(1, 16)
	got, e := set.As(x, r)
	wantSet(t, "As of 16 words", got, e, each(x, api.Set{word.Of(r)}), api.OK)
	got, e = set.As(api.Set{times(a, 7)}, r)
	wantSet(t, "As of 7 atoms", got, e, api.Set{times(a, 7) + word.Of(r)}, api.OK)
	got, e = set.As(api.Set{word.Of(a), times(a, 8)}, r)
	wantSet(t, "As of 8 atoms", got, e, nil, api.ErrSize)
}

func TestAsAsksForARole(t *testing.T) {
	x := singles(a, 1)
	for i := range 1 << 16 {
		role := api.Atom(i)
		want, wanted := api.Set{word.Of(a, role)}, api.OK
		if i < 5*8192 || i >= 6*8192 {
			want, wanted = nil, api.ErrArg
		}
		got, e := set.As(x, role)
		wantSet(t, "As", got, e, want, wanted)
	}
}

func TestAsTellsTheFirstError(t *testing.T) {
	for _, bad := range badSets() {
		for _, role := range []api.Atom{0, api.D, a, 40959, 49152, 65535} {
			got, e := set.As(bad, role)
			wantSet(t, "As of a bad set", got, e, nil, api.ErrForm)
		}
	}
	got, e := set.As(api.Set{times(a, 8)}, a)
	wantSet(t, "As of 8 atoms and no role", got, e, nil, api.ErrArg)
}

func TestFor(t *testing.T) {
	all := powers(word.Of(api.D), word.Of(a), word.Of(b), word.Of(a, b))
	for _, x := range all {
		for _, y := range all {
			want := right(slices.Concat(each(x, y), each(singles(api.D, 1), y)))
			wanted := api.OK
			if len(want) > 16 {
				want, wanted = nil, api.ErrMany
			}
			got, e := set.For(x, y)
			wantSet(t, "For", got, e, want, wanted)
		}
	}
}

func TestForHowMany(t *testing.T) {
	for n := 1; n <= 16; n++ {
		for m := 1; m <= 16; m++ {
			x, y := singles(2, n), singles(100, m)
			want, wanted := right(slices.Concat(each(x, y), each(singles(api.D, 1), y))), api.OK
			if n*m+m > 16 {
				want, wanted = nil, api.ErrMany
			}
			got, e := set.For(x, y)
			wantSet(t, "For", got, e, want, wanted)
		}
	}
	got, e := set.For(singles(api.D, 1), singles(100, 16))
	wantSet(t, "For of D", got, e, each(singles(api.D, 1), singles(100, 16)), api.OK)
}

func TestForHowLong(t *testing.T) {
	got, e := set.For(singles(a, 1), api.Set{times(b, 7)})
	wantSet(t, "For of 7 atoms", got, e, api.Set{word.Of(api.D) + times(b, 7), word.Of(a) + times(b, 7)}, api.OK)
	for _, c := range []struct{ x, y api.Set }{
		{singles(a, 1), api.Set{times(b, 8)}},
		{api.Set{times(a, 8)}, singles(b, 1)},
		{api.Set{word.Of(a), times(a, 4)}, api.Set{times(b, 5)}},
		{append(singles(1, 15), times(9, 8)), singles(1, 16)},
		{singles(1, 16), append(singles(1, 15), times(9, 8))},
	} {
		got, e := set.For(c.x, c.y)
		wantSet(t, "For", got, e, nil, api.ErrSize)
	}
}

func TestWhatIsMadeSharesNothing(t *testing.T) {
	for _, m := range allMade() {
		x, y := singles(a, 3)[:2], singles(b, 3)[:2]
		s := must(m.of(x, y))
		if !set.May(s) {
			t.Errorf("%s: %q may not be", m.name, s)
		}
		kept := slices.Clone(s)
		x[0], x[1], y[0], y[1] = "", "", "", ""
		wantSet(t, m.name, s, api.OK, kept, api.OK)

		x, y = singles(a, 3)[:2], singles(b, 3)[:2]
		s = must(m.of(x, y))
		for i := range s {
			s[i] = "changed"
		}
		_ = append(s, "changed")
		if !slices.Equal(x[:3], singles(a, 3)) || !slices.Equal(y[:3], singles(b, 3)) {
			t.Errorf("%s: the arguments turned into %q and %q", m.name, x[:3], y[:3])
		}
	}
	x := singles(a, 2)
	s := must(set.And(x, x))
	s[0] = "changed"
	wantSet(t, "And of one and itself: the argument", x, api.OK, singles(a, 2), api.OK)
}

// P3.3

// anyWords are lists that need not be sets.
func anyWords() []api.Set {
	return []api.Set{
		nil,
		{},
		{word.Of(a)},
		{word.Of(a), word.Of(a)},
		{word.Of(a), word.Of(b)},
		{word.Of(b), word.Of(a)},
		{word.Of(b), word.Of(a), word.Of(b)},
		{word.Of(a, b)},
		{word.Of(a, b), word.Of(a)},
		{""},
		{"", word.Of(a)},
		{"\x20\x01\x20"},
		{"\x20"},
		{word.Of(0)},
		{word.Of(0), ""},
		{times(a, 9)},
		{times(a, 5000)},
		singles(1, 17),
	}
}

// hasWord goes through a list.
func hasWord(s api.Set, w api.Word) bool {
	for _, v := range s {
		if v == w {
			return true
		}
	}
	return false
}

func TestHas(t *testing.T) {
	var words []api.Word
	for _, s := range anyWords() {
		words = append(words, s...)
	}
	for _, s := range anyWords() {
		for _, w := range words {
			if got := set.Has(s, w); got != hasWord(s, w) {
				t.Errorf("%q has %q: %v", s, w, got)
			}
		}
	}
	if set.Has(singles(a, 1), word.Of(a, b)) || set.Has(api.Set{word.Of(a, b)}, word.Of(a)) || !set.Has(api.Set{word.Of(b), word.Of(a)}, word.Of(a)) {
		t.Error("a part of a word is taken for it, or a word isn't found")
	}
}

func TestWithinAndSame(t *testing.T) {
	within := func(x, y api.Set) bool {
		for _, w := range x {
			if !hasWord(y, w) {
				return false
			}
		}
		return true
	}
	for _, x := range anyWords() {
		for _, y := range anyWords() {
			if got := set.Within(x, y); got != within(x, y) {
				t.Errorf("%q within %q: %v", x, y, got)
			}
			if got := set.Same(x, y); got != (within(x, y) && within(y, x)) {
				t.Errorf("%q the same as %q: %v", x, y, got)
			}
		}
	}
}

func TestWithinAndSamePlainly(t *testing.T) {
	one, both, back := api.Set{word.Of(a)}, singles(a, 2), api.Set{word.Of(b), word.Of(a)}
	for _, c := range []struct {
		x, y         api.Set
		within, same bool
	}{
		{one, one, true, true},
		{one, both, true, false},
		{both, one, false, false},
		{both, back, true, true},
		{nil, one, true, false},
		{one, nil, false, false},
		{nil, api.Set{}, true, true},
		{api.Set{word.Of(a), word.Of(a)}, one, true, true},
		{one, api.Set{word.Of(a), word.Of(a)}, true, true},
		{one, api.Set{word.Of(a, b)}, false, false},
	} {
		if set.Within(c.x, c.y) != c.within || set.Same(c.x, c.y) != c.same {
			t.Errorf("%q and %q: within %v, the same %v", c.x, c.y, set.Within(c.x, c.y), set.Same(c.x, c.y))
		}
	}
}

func TestHeavy(t *testing.T) {
	for _, c := range []struct {
		s    api.Set
		want int
	}{
		{nil, 0},
		{api.Set{}, 0},
		{api.Set{""}, 0},
		{api.Set{"\x20"}, 0},
		{api.Set{"\x20\x01\x20"}, 1},
		{singles(1, 16), 1},
		{api.Set{word.Of(a), word.Of(a, b), times(a, 8)}, 8},
		{api.Set{times(a, 3), word.Of(a), word.Of(a, b)}, 3},
		{api.Set{word.Of(a), times(a, 5), word.Of(b)}, 5},
		{api.Set{times(a, 5000), times(a, 9)}, 5000},
		{singles(0, 17), 1},
	} {
		if got := set.Heavy(c.s); got != c.want {
			t.Errorf("%d words: %d, not %d", len(c.s), got, c.want)
		}
	}
}

func TestLongListsAreAskedInTime(t *testing.T) {
	var s api.Set
	for i := range 300000 {
		s = append(s, word.Of(api.Atom(i>>16), api.Atom(i)))
	}
	back := slices.Clone(s)
	slices.Reverse(back)
	if !set.Same(s, back) || !set.Within(back[1:], s) || set.Within(back, s[1:]) || set.Same(s[1:], s) || set.Heavy(s) != 2 {
		t.Error("wrong of long lists")
	}
	if !slices.Equal(s[:2], api.Set{word.Of(0, 0), word.Of(0, 1)}) {
		t.Error("an argument was changed")
	}
}

// P3.4

func TestAndInWhateverBracketsAndOrder(t *testing.T) {
	all := powers(word.Of(a), word.Of(b), word.Of(a, b), word.Of(r))
	for _, x := range all {
		wantSet(t, "of one and itself", must(set.And(x, x)), api.OK, x, api.OK)
		for _, y := range all {
			xy := must(set.And(x, y))
			wantSet(t, "the other way round", must(set.And(y, x)), api.OK, xy, api.OK)
			for _, z := range all {
				got, e := set.And(xy, z)
				want, f := set.And(x, must(set.And(y, z)))
				wantSet(t, "in other brackets", got, e, want, f)
			}
		}
	}
}

func TestQuoteInWhateverBrackets(t *testing.T) {
	all := powers(word.Of(a), word.Of(b), word.Of(a, b))
	for _, x := range all {
		for _, y := range all {
			xy := must(set.Quote(x, y))
			for _, z := range all {
				got, e := set.Quote(xy, z)
				want, f := set.Quote(x, must(set.Quote(y, z)))
				wantSet(t, "in other brackets", got, e, want, f)
			}
		}
	}
}

func TestQuoteGoesOverAnd(t *testing.T) {
	all := powers(word.Of(a), word.Of(b), word.Of(a, b), word.Of(b, a))
	for _, x := range all {
		for _, y := range all {
			for _, z := range all {
				yz := must(set.And(y, z))
				got, e := set.Quote(x, yz)
				want, f := set.And(must(set.Quote(x, y)), must(set.Quote(x, z)))
				wantSet(t, "over And on the right", got, e, want, f)
				got, e = set.Quote(yz, x)
				want, f = set.And(must(set.Quote(y, x)), must(set.Quote(z, x)))
				wantSet(t, "over And on the left", got, e, want, f)
			}
		}
	}
}
