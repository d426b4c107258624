package word_test

import (
	"math"
	"slices"
	"strings"
	"testing"

	"attorney/api"
	"attorney/word"
)

// far is numbers that are no place in any word, some of which wrap round when they are doubled or added to.
var far = []int{math.MinInt, math.MinInt + 1, -1 << 62, -1000, -1, 1000, 1 << 62, math.MaxInt/2 + 1, math.MaxInt - 1, math.MaxInt}

// torn is a word with an odd byte at its end.
func torn(w api.Word) api.Word { return w + "\x01" }

// rising is the word of the atoms 1 to n.
func rising(n int) api.Word {
	var l []api.Atom
	for i := range n {
		l = append(l, api.Atom(i+1))
	}
	return word.Of(l...)
}

// allLists tells each list of at most so many of these atoms.
func allLists(most int, atoms ...api.Atom) [][]api.Atom {
	all := [][]api.Atom{nil}
	for first := 0; most > 0; most-- {
		last := len(all)
		for _, l := range all[first:last] {
			for _, a := range atoms {
				all = append(all, append(slices.Clone(l), a))
			}
		}
		first = last
	}
	return all
}

func allWords(most int, atoms ...api.Atom) []api.Word {
	var all []api.Word
	for _, l := range allLists(most, atoms...) {
		all = append(all, word.Of(l...))
	}
	return all
}

func wantWord(t *testing.T, what string, got api.Word, e api.Errno, want api.Word, wanted api.Errno) {
	t.Helper()
	if got != want || e != wanted {
		t.Errorf("%s: %q, error %d, not %q, error %d", what, got, e, want, wanted)
	}
}

func TestExamples(t *testing.T) {
	w := word.Of(8193, 1)
	if w != "\x20\x01\x00\x01" || word.Len(w) != 2 || word.At(w, 1) != 1 {
		t.Errorf("%q: %d atoms, %d at the place 1", w, word.Len(w), word.At(w, 1))
	}
	if at := word.Find(word.Of(1, 2, 1, 2), word.Of(1, 2), 1); at != 2 {
		t.Errorf("found at %d", at)
	}
	got, e := word.Swap(word.Of(1, 2, 3), 1, 1, word.Of(9, 9))
	wantWord(t, "Swap", got, e, word.Of(1, 9, 9, 3), api.OK)
}

// P2.1

func TestOfWritesTheHigherByteFirst(t *testing.T) {
	for _, c := range []struct {
		l    []api.Atom
		want api.Word
	}{
		{nil, ""},
		{[]api.Atom{0}, "\x00\x00"},
		{[]api.Atom{1, 256}, "\x00\x01\x01\x00"},
		{[]api.Atom{0x1234, 0xffff, 0, 0x80fe}, "\x12\x34\xff\xff\x00\x00\x80\xfe"},
	} {
		if got := word.Of(c.l...); got != c.want {
			t.Errorf("%d: %q, not %q", c.l, got, c.want)
		}
	}
}

func TestEachAtomIsToldBack(t *testing.T) {
	for i := range 1 << 16 {
		a := api.Atom(i)
		w := word.Of(7, a)
		if len(w) != 4 || word.At(w, 0) != 7 || word.At(w, 1) != a || !slices.Equal(word.Atoms(w), []api.Atom{7, a}) {
			t.Fatalf("atom %d: %q", a, w)
		}
		if word.May(word.Of(a)) != (a != 0) {
			t.Fatalf("atom %d alone: %v", a, word.May(word.Of(a)))
		}
	}
}

func TestOfMoreAtomsThanAWordMayHave(t *testing.T) {
	l := make([]api.Atom, 5000)
	for i := range l {
		l[i] = api.Atom(i + 1)
	}
	w := word.Of(l...)
	if word.Len(w) != 5000 || !slices.Equal(word.Atoms(w), l) || word.At(w, 4999) != 5000 || word.May(w) {
		t.Errorf("%d atoms, may be: %v", word.Len(w), word.May(w))
	}
}

func TestMayAndLenByBytes(t *testing.T) {
	for n := range 40 {
		w := api.Word(strings.Repeat("\x01", n))
		if got, want := word.May(w), n == 2 || n == 4 || n == 6 || n == 8 || n == 10 || n == 12 || n == 14 || n == 16; got != want {
			t.Errorf("%d bytes: may be: %v", n, got)
		}
		if got := word.Len(w); 2*got != n && 2*got+1 != n {
			t.Errorf("%d bytes: %d atoms", n, got)
		}
	}
}

func TestMayWithZero(t *testing.T) {
	for n := 1; n <= api.MaxWord; n++ {
		for at := range n {
			l := slices.Repeat([]api.Atom{1}, n)
			l[at] = 0
			if word.May(word.Of(l...)) {
				t.Errorf("%d may be", l)
			}
		}
	}
	for _, l := range [][]api.Atom{{0x0100}, {0x0001}, {0x0100, 0x0001}, {0x0100, 0x0001, 0x0100}} {
		if !word.May(word.Of(l...)) {
			t.Errorf("%d may not be: no atom of it is 0", l)
		}
	}
}

func TestAtEachPlace(t *testing.T) {
	for _, l := range allLists(4, 0, 1, 0x0203) {
		for _, w := range []api.Word{word.Of(l...), torn(word.Of(l...))} {
			for i := -3; i <= 8; i++ {
				want := api.Atom(0)
				if i >= 0 && i < len(l) {
					want = l[i]
				}
				if got := word.At(w, i); got != want {
					t.Errorf("%q at %d: %d, not %d", w, i, got, want)
				}
			}
			for _, i := range far {
				if got := word.At(w, i); got != 0 {
					t.Errorf("%q at %d: %d", w, i, got)
				}
			}
			if word.Len(w) != len(l) || !slices.Equal(word.Atoms(w), l) {
				t.Errorf("%q: %d, not %d", w, word.Atoms(w), l)
			}
		}
	}
}

func TestListsAreNotShared(t *testing.T) {
	l := []api.Atom{1, 2, 3}
	w := word.Of(l...)
	if !slices.Equal(l, []api.Atom{1, 2, 3}) {
		t.Errorf("the argument turned into %d", l)
	}
	l[0] = 9
	told := word.Atoms(w)
	told[1] = 9
	if w != "\x00\x01\x00\x02\x00\x03" || !slices.Equal(word.Atoms(w), []api.Atom{1, 2, 3}) {
		t.Errorf("the word turned into %q", w)
	}
}

// P2.2

func TestCat(t *testing.T) {
	for _, c := range []struct {
		l    []api.Word
		want api.Word
	}{
		{nil, ""},
		{[]api.Word{"", "", ""}, ""},
		{[]api.Word{word.Of(1, 2)}, word.Of(1, 2)},
		{[]api.Word{word.Of(3), word.Of(1, 2)}, word.Of(3, 1, 2)},
		{[]api.Word{"", word.Of(2, 1), "", word.Of(2, 1), ""}, word.Of(2, 1, 2, 1)},
		{[]api.Word{word.Of(0), word.Of(0, 5)}, word.Of(0, 0, 5)},
		{[]api.Word{rising(8)}, rising(8)},
		{[]api.Word{"", rising(8), ""}, rising(8)},
		{[]api.Word{rising(7), word.Of(8)}, rising(8)},
		{slices.Repeat([]api.Word{word.Of(4)}, 8), word.Of(4, 4, 4, 4, 4, 4, 4, 4)},
	} {
		got, e := word.Cat(c.l...)
		wantWord(t, "Cat", got, e, c.want, api.OK)
	}
}

func TestCatRefuses(t *testing.T) {
	a, long := word.Of(1), word.Of(make([]api.Atom, 1<<16)...)
	for i, c := range []struct {
		l []api.Word
		e api.Errno
	}{
		{[]api.Word{"\x01"}, api.ErrForm},
		{[]api.Word{torn(a)}, api.ErrForm},
		{[]api.Word{a, torn(a), a}, api.ErrForm},
		{[]api.Word{torn(a), torn(a)}, api.ErrForm},
		{[]api.Word{"\x01", "\x02"}, api.ErrForm},
		{[]api.Word{rising(9), "\x01"}, api.ErrForm},
		{[]api.Word{rising(8), a, a, torn("")}, api.ErrForm},
		{[]api.Word{torn(rising(8))}, api.ErrForm},
		{[]api.Word{long, torn(long)}, api.ErrForm},
		{[]api.Word{rising(9)}, api.ErrSize},
		{[]api.Word{rising(8), a}, api.ErrSize},
		{[]api.Word{a, "", rising(8)}, api.ErrSize},
		{[]api.Word{rising(5), rising(4)}, api.ErrSize},
		{slices.Repeat([]api.Word{a}, 9), api.ErrSize},
		{slices.Repeat([]api.Word{long}, 1<<16), api.ErrSize},
	} {
		if got, e := word.Cat(c.l...); got != "" || e != c.e {
			t.Errorf("case %d: %d bytes, error %d, not %d", i, len(got), e, c.e)
		}
	}
}

func TestCatLeavesItsArgument(t *testing.T) {
	l := []api.Word{word.Of(1), word.Of(2), word.Of(3)}
	_, _ = word.Cat(l[:2]...)
	if !slices.Equal(l, []api.Word{word.Of(1), word.Of(2), word.Of(3)}) {
		t.Errorf("the argument turned into %q", l)
	}
}

// foundIn tells what Find must, of lists of atoms.
func foundIn(w, v []api.Atom, from int) int {
	for i := range w {
		if i >= from && len(v) > 0 && i+len(v) <= len(w) && slices.Equal(w[i:i+len(v)], v) {
			return i
		}
	}
	return -1
}

func TestFind(t *testing.T) {
	for _, w := range allLists(5, 1, 2) {
		for _, v := range allLists(3, 1, 2) {
			for from := -2; from <= 7; from++ {
				want := foundIn(w, v, from)
				if got := word.Find(word.Of(w...), word.Of(v...), from); got != want {
					t.Errorf("%d in %d from %d: %d, not %d", v, w, from, got, want)
				}
				if got := word.Find(torn(word.Of(w...)), word.Of(v...), from); got != want {
					t.Errorf("%d in %d and a byte, from %d: %d, not %d", v, w, from, got, want)
				}
			}
		}
	}
}

func TestFindFromFarAway(t *testing.T) {
	w := word.Of(1, 2, 1, 2)
	for _, from := range far {
		want := -1
		if from < 0 {
			want = 1
		}
		if got := word.Find(w, word.Of(2), from); got != want {
			t.Errorf("from %d: %d, not %d", from, got, want)
		}
		if got := word.Find(w, word.Of(2, 2), from); got != -1 {
			t.Errorf("what isn't there, from %d: %d", from, got)
		}
	}
}

func TestFindOfWhatStandsNowhere(t *testing.T) {
	for _, c := range []struct{ w, v api.Word }{
		{"", ""},
		{"", word.Of(1)},
		{"", "\x01"},
		{word.Of(1, 2), ""},
		{word.Of(1, 2), "\x00"},
		{word.Of(1, 2), "\x00\x01\x00"},
		{torn(word.Of(1, 2)), torn(word.Of(1, 2))},
		{torn(word.Of(1, 2)), torn(word.Of(2))},
		{word.Of(1, 2), word.Of(1, 2, 3)},
		{torn(word.Of(0x0101)), word.Of(0x0101, 0x0101)},
		{"\x00", word.Of(0)},
		{"\x00\x01\x00", word.Of(0)},
		{word.Of(0x0102, 0x0304), word.Of(0x0203)},
		{word.Of(0x0101, 0x0100), word.Of(0x0001)},
	} {
		for from := -1; from <= 2; from++ {
			if got := word.Find(c.w, c.v, from); got != -1 {
				t.Errorf("%q in %q from %d: %d", c.v, c.w, from, got)
			}
		}
	}
}

func TestFindPassesOverWhatStandsBetweenAtoms(t *testing.T) {
	if got := word.Find(word.Of(0x0102, 0x0300, 0x0203), word.Of(0x0203), 0); got != 2 {
		t.Errorf("found at %d", got)
	}
	if got := word.Find(rising(5000), word.Of(4999, 5000), 17); got != 4998 {
		t.Errorf("found at %d in a long one", got)
	}
	if got := word.Find(word.Of(5, 0, 0), word.Of(0), 0); got != 1 {
		t.Errorf("0 found at %d", got)
	}
}

// P2.3

func TestSwap(t *testing.T) {
	for _, w := range allLists(3, 1, 2) {
		for _, v := range allLists(2, 8, 9) {
			for at := -2; at <= 5; at++ {
				for n := -2; n <= 5; n++ {
					want, wanted := api.Word(""), api.ErrRange
					if at >= 0 && n >= 0 && at+n <= len(w) {
						want, wanted = word.Of(slices.Concat(w[:at], v, w[at+n:])...), api.OK
					}
					got, e := word.Swap(word.Of(w...), at, n, word.Of(v...))
					wantWord(t, "Swap", got, e, want, wanted)
				}
			}
		}
	}
}

func TestSwapUpToTheLongest(t *testing.T) {
	for has := range 14 {
		w := rising(has)
		for at := range has + 1 {
			for n := range has - at + 1 {
				for put := range 14 {
					want, wanted := w[:2*at]+rising(put)+w[2*(at+n):], api.OK
					if has-n+put > 8 {
						want, wanted = "", api.ErrSize
					}
					got, e := word.Swap(w, at, n, rising(put))
					wantWord(t, "Swap", got, e, want, wanted)
				}
			}
		}
	}
}

func TestSwapRefuses(t *testing.T) {
	w := rising(8)
	for _, c := range []struct {
		w     api.Word
		at, n int
		v     api.Word
		e     api.Errno
	}{
		{torn(w), 0, 1, "", api.ErrForm},
		{w, 0, 1, torn(""), api.ErrForm},
		{torn(w), 0, 1, torn(w), api.ErrForm},
		{"\x01", 0, 0, "\x01", api.ErrForm},
		{torn(w), 9, 1, w, api.ErrForm},
		{w, -1, 1, torn(w), api.ErrForm},
		{w, 0, 0, torn(w), api.ErrForm},
		{w, 9, 0, w, api.ErrRange},
		{w, 8, 1, w, api.ErrRange},
		{w, 7, 2, w, api.ErrRange},
		{w, 0, 9, w, api.ErrRange},
		{w, -1, 1, w, api.ErrRange},
		{w, 1, -1, w, api.ErrRange},
		{w, -1, -1, "", api.ErrRange},
		{"", 0, 1, "", api.ErrRange},
		{"", 1, 0, "", api.ErrRange},
		{w, 0, 0, word.Of(1), api.ErrSize},
		{w, 8, 0, word.Of(1), api.ErrSize},
		{w, 3, 1, word.Of(1, 2), api.ErrSize},
		{rising(9), 0, 0, "", api.ErrSize},
		{"", 0, 0, rising(9), api.ErrSize},
	} {
		got, e := word.Swap(c.w, c.at, c.n, c.v)
		wantWord(t, "Swap", got, e, "", c.e)
	}
}

func TestPartsFarAway(t *testing.T) {
	w := rising(6)
	for _, x := range far {
		for _, y := range append([]int{0, 1, 6}, far...) {
			got, e := word.Swap(w, x, y, rising(8))
			wantWord(t, "Swap at", got, e, "", api.ErrRange)
			got, e = word.Swap(w, y, x, rising(8))
			wantWord(t, "Swap of", got, e, "", api.ErrRange)
			got, e = word.Sub(w, x, y)
			wantWord(t, "Sub at", got, e, "", api.ErrRange)
			got, e = word.Sub(w, y, x)
			wantWord(t, "Sub of", got, e, "", api.ErrRange)
		}
	}
}

func TestSub(t *testing.T) {
	for _, l := range allLists(4, 0, 7, 0x0102) {
		for at := -2; at <= 6; at++ {
			for n := -2; n <= 6; n++ {
				want, wanted := api.Word(""), api.ErrRange
				if at >= 0 && n >= 0 && at+n <= len(l) {
					want, wanted = word.Of(l[at:at+n]...), api.OK
				}
				got, e := word.Sub(word.Of(l...), at, n)
				wantWord(t, "Sub", got, e, want, wanted)
				got, e = word.Sub(torn(word.Of(l...)), at, n)
				wantWord(t, "Sub of a torn word", got, e, "", api.ErrForm)
			}
		}
	}
}

func TestSubOfALongWord(t *testing.T) {
	got, e := word.Sub(rising(5000), 1, 4999)
	wantWord(t, "Sub", got, e, rising(5000)[2:], api.OK)
	got, e = word.Sub(rising(5000), 5000, 0)
	wantWord(t, "Sub at the end", got, e, "", api.OK)
	got, e = word.Sub(rising(5000), 4999, 2)
	wantWord(t, "Sub beyond the end", got, e, "", api.ErrRange)
}

func TestLess(t *testing.T) {
	// Each is less than those behind it.
	row := []api.Word{
		"", "\x00", "\x01", "\xff",
		word.Of(0), word.Of(1), word.Of(0x00ff), word.Of(0x0100), word.Of(0x7fff), word.Of(0x8000), word.Of(0xffff),
		"\x00\x00\x00", "\xff\xff\xff",
		word.Of(0, 0), word.Of(0, 0xffff), word.Of(1, 0), word.Of(1, 0x00ff), word.Of(1, 0x0100), word.Of(0xffff, 0xffff),
		rising(8), word.Of(1, 2, 3, 4, 5, 6, 7, 9), word.Of(2, 0, 0, 0, 0, 0, 0, 0), rising(9), rising(5000),
	}
	for i, a := range row {
		for j, b := range row {
			if got := word.Less(a, b); got != (i < j) {
				t.Errorf("the word %d of the row less than the word %d: %v", i, j, got)
			}
		}
	}
}

// P2.4

func TestOfTwoWordsThatDifferJustOneIsLess(t *testing.T) {
	all := allWords(4, 1, 2, 256)
	for _, a := range all {
		for _, b := range all {
			if word.Less(a, b) == word.Less(b, a) && a != b {
				t.Errorf("%q and %q: %v both", a, b, word.Less(a, b))
			}
			if a == b && word.Less(a, b) {
				t.Errorf("%q is less than itself", a)
			}
		}
	}
}

func TestWhatIsLessStaysSoBehindOneMoreWord(t *testing.T) {
	all := allWords(3, 1, 256, 0xff00)
	for _, ahead := range allWords(2, 2, 0xffff) {
		for _, a := range all {
			for _, b := range all {
				x, _ := word.Cat(ahead, a)
				y, _ := word.Cat(ahead, b)
				if word.Less(x, y) != word.Less(a, b) {
					t.Errorf("%q and %q behind %q: %v", a, b, ahead, word.Less(x, y))
				}
			}
		}
	}
}

func TestSwappedThereAndBackItIsTheWord(t *testing.T) {
	for has := range api.MaxWord + 1 {
		w := rising(has)
		for at := range has + 1 {
			for n := range has - at + 1 {
				for _, v := range []api.Word{"", word.Of(9), word.Of(9, 1), rising(n), rising(5), rising(8 - has + n)} {
					part, e := word.Sub(w, at, n)
					wantWord(t, "Sub", part, e, rising(has)[2*at:2*(at+n)], api.OK)
					if has-n+word.Len(v) > api.MaxWord {
						continue
					}
					there, e := word.Swap(w, at, n, v)
					wantWord(t, "Swap there", there, e, w[:2*at]+v+w[2*(at+n):], api.OK)
					back, e := word.Swap(there, at, word.Len(v), part)
					wantWord(t, "Swap back", back, e, w, api.OK)
				}
			}
		}
	}
}
