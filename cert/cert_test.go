package cert_test

import (
	"cmp"
	"fmt"
	"math"
	"math/rand"
	"reflect"
	"regexp"
	"slices"
	"strings"
	"testing"

	"attorney/api"
	"attorney/cert"
)

// The first atoms of each kind, and D.
const (
	d  = 1
	k1 = 8193
	k2 = 8194
	c1 = 16385
	c2 = 16386
	n1 = 24577
	n2 = 24578
	g1 = 32769
	g2 = 32770
	r1 = 40961
	r2 = 40962
	x1 = 49153 // of no kind that has a name
)

// wordOf is a word by its atoms, two bytes each.
func wordOf(l ...int) api.Word {
	var b []byte
	for _, a := range l {
		b = append(b, byte(a/256), byte(a%256))
	}
	return api.Word(b)
}

// setOf is words in the order of sets, each once.
func setOf(l ...api.Word) api.Set {
	l = slices.Clone(l)
	slices.SortFunc(l, func(a, b api.Word) int { return cmp.Or(cmp.Compare(len(a), len(b)), cmp.Compare(a, b)) })
	return slices.Compact(l)
}

// one is the set of one word.
func one(l ...int) api.Set { return api.Set{wordOf(l...)} }

func certOf(kind, signer int, speaker api.Word, s api.Set) api.Cert {
	return api.Cert{Kind: kind, Signer: api.Atom(signer), Speaker: speaker, For: s, From: 5, To: 9, Serial: 3}
}

func boot() api.Cert    { return certOf(api.CertBoot, k1, wordOf(k2), one(n1, r1)) }
func session() api.Cert { return certOf(api.CertSession, k1, wordOf(k2), one(k1)) }
func channel() api.Cert { return certOf(api.CertChannel, k1, wordOf(c1), one(k1, r1)) }
func group() api.Cert   { return certOf(api.CertGroup, k1, wordOf(n1), one(g1)) }
func role() api.Cert    { return certOf(api.CertRole, k1, wordOf(c1), one(n1, r1)) }
func handOff() api.Cert {
	return certOf(api.CertHandOff, k1, wordOf(n2, n1), setOf(wordOf(g1, n2), wordOf(n1, n1, k1), wordOf(d, g1)))
}
func delegate() api.Cert {
	return certOf(api.CertDelegate, k1, wordOf(n2, n1), setOf(wordOf(d, n1), wordOf(n2, n1)))
}

// goodCerts is one of each kind, by the number of its kind less one.
func goodCerts() []api.Cert {
	return []api.Cert{boot(), session(), channel(), group(), role(), handOff(), delegate()}
}

// letters is a word as the kinds of its atoms.
func letters(w api.Word) string {
	l := ""
	for i := 0; i+1 < len(w); i += 2 {
		l += string("xkcngrxx"[w[i]/32])
	}
	return l
}

// mayWord and maySet are models of which words and sets may be.
func mayWord(w api.Word) bool {
	for i := 0; i+1 < len(w); i += 2 {
		if w[i] == 0 && w[i+1] == 0 {
			return false
		}
	}
	return len(w)%2 == 0 && len(w) >= 2 && len(w) <= 16
}

func maySet(s api.Set) bool {
	for _, w := range s {
		if !mayWord(w) {
			return false
		}
	}
	return len(s) >= 1 && len(s) <= 16 && slices.Equal(s, setOf(s...))
}

// like is a model of what each kind must be like, by the kinds of the atoms.
func like(c api.Cert) bool {
	if c.Kind == api.CertHandOff {
		return true
	}
	if c.Kind == api.CertDelegate {
		return len(c.Speaker) >= 4 && slices.Equal(c.For, setOf(c.Speaker, "\x00\x01"+c.Speaker[2:]))
	}
	l := []string{letters(c.Speaker)}
	for _, w := range c.For {
		l = append(l, letters(w))
	}
	what := strings.Join(l, " ")
	if c.Kind == api.CertSession {
		what += fmt.Sprint(" ", c.For[0] == wordOf(int(c.Signer)))
	}
	forms := []string{"", "k nr", "k k true", "c [a-z]+", "n g", "[kc] [a-z]+r"}
	return regexp.MustCompile("^(" + forms[c.Kind] + ")$").MatchString(what)
}

// checked is a model of Check.
func checked(c api.Cert) api.Errno {
	if !slices.Contains([]int{1, 2, 3, 4, 5, 6, 7}, c.Kind) {
		return api.ErrArg
	}
	for _, n := range []int64{c.From, c.To, c.Serial} {
		if n < 0 || n > 1<<62 {
			return api.ErrForm
		}
	}
	if c.Signer < 8192 || c.Signer > 16383 || !mayWord(c.Speaker) || !maySet(c.For) {
		return api.ErrForm
	}
	if c.To < c.From {
		return api.ErrRange
	}
	// A set's first word is its shortest.
	if len(c.For[0]) < len(c.Speaker) {
		return api.ErrSize
	}
	if !like(c) {
		return api.ErrDenied
	}
	return api.OK
}

func tell(c api.Cert) string {
	l := fmt.Sprintf("%.200q", []api.Word(c.For))
	return fmt.Sprintf("kind %d, signer %d, speaker %.40q, for %s, from %d to %d, serial %d", c.Kind, c.Signer, c.Speaker, l, c.From, c.To, c.Serial)
}

func wantCheck(t *testing.T, c api.Cert, want api.Errno) {
	t.Helper()
	if got := cert.Check(c); got != want {
		t.Errorf("%s: error %d, not %d", tell(c), got, want)
	}
	s, e := cert.Encode(c)
	if e != want || (s == "") != (e != api.OK) {
		t.Errorf("%s: bytes %q, error %d, not %d", tell(c), s, e, want)
	}
}

// with is a certificate of which something was changed.
func with(c api.Cert, change func(c *api.Cert)) api.Cert {
	c.For = slices.Clone(c.For)
	change(&c)
	return c
}

// full is a set of so many words of two atoms.
func full(n int) api.Set {
	var s api.Set
	for k := range n {
		s = append(s, wordOf(k1, k+1))
	}
	return s
}

func badWords() []api.Word {
	return []api.Word{"", "\x00", "\x20", "\x20\x01\x20", wordOf(0), wordOf(0, k1), wordOf(k1, 0), wordOf(k1, 0, k1), wordOf(1, 2, 3, 4, 5, 6, 7, 8, 9), wordOf(1, 2, 3, 4, 5, 6, 7, 8) + "\x01", api.Word(strings.Repeat("a", 1<<16))}
}

func badSets() []api.Set {
	l := []api.Set{nil, {}, {wordOf(k2), wordOf(k1)}, {wordOf(k1), wordOf(k1)}, {wordOf(k1, k1), wordOf(k1)}, full(17), full(300)}
	for _, w := range badWords() {
		l = append(l, api.Set{w}, api.Set{wordOf(k1), w}, api.Set{w, wordOf(1, 2, 3, 4, 5, 6, 7, 8)})
	}
	return l
}

// changes that each make one error of a certificate, by the order in which they are told.
func formErrors() []func(c *api.Cert) {
	return []func(c *api.Cert){
		func(c *api.Cert) { c.Signer = c1 },
		func(c *api.Cert) { c.Speaker = "" },
		func(c *api.Cert) { c.For = nil },
		func(c *api.Cert) { c.From = -1 },
		func(c *api.Cert) { c.To = api.MaxNum + 1 },
		func(c *api.Cert) { c.Serial = -1 },
	}
}

func wrongTimes(c *api.Cert) { c.From, c.To = 10, 9 }

// P8.1

func TestExamplesAreChecked(t *testing.T) {
	k, r, a, b, c := k1, r1, n1, n2, c1
	wantCheck(t, certOf(api.CertDelegate, k, wordOf(b, a), setOf(wordOf(d, a), wordOf(b, a))), api.OK)
	wantCheck(t, certOf(api.CertChannel, k, wordOf(c), one(k, r)), api.OK)
	wantCheck(t, certOf(api.CertChannel, k, wordOf(c), setOf(wordOf(k, r), wordOf(k))), api.ErrDenied)
	wantCheck(t, certOf(api.CertHandOff, k, wordOf(a, b), one(a)), api.ErrSize)
}

func TestOneOfEachKind(t *testing.T) {
	for i, c := range goodCerts() {
		if c.Kind != i+1 {
			t.Fatalf("kind %d at %d", c.Kind, i)
		}
		wantCheck(t, c, api.OK)
	}
}

func TestKindThatIsNone(t *testing.T) {
	for _, kind := range []int{0, -1, 8, 9, -7, 256 + 1, 1<<32 + 1, math.MinInt, math.MaxInt} {
		for _, c := range goodCerts() {
			wantCheck(t, with(c, func(c *api.Cert) { c.Kind = kind }), api.ErrArg)
		}
	}
	wantCheck(t, api.Cert{}, api.ErrArg)
}

func TestSignerIsAKey(t *testing.T) {
	for _, a := range []int{0, d, 8191, 16384, c1, n1, g1, r1, x1, 57344, 65535} {
		for _, c := range goodCerts() {
			wantCheck(t, with(c, func(c *api.Cert) { c.Signer = api.Atom(a) }), api.ErrForm)
		}
	}
	for _, a := range []int{8192, k1, k2, 12192, 12193, 16383} {
		for _, c := range goodCerts() {
			c := with(c, func(c *api.Cert) { c.Signer = api.Atom(a) })
			if c.Kind == api.CertSession {
				c.For = one(a)
			}
			wantCheck(t, c, api.OK)
		}
	}
}

func TestSpeakerAndForMayBe(t *testing.T) {
	for _, c := range goodCerts() {
		for _, w := range badWords() {
			wantCheck(t, with(c, func(c *api.Cert) { c.Speaker = w }), api.ErrForm)
		}
		for _, s := range badSets() {
			wantCheck(t, with(c, func(c *api.Cert) { c.For = s }), api.ErrForm)
		}
	}
	for _, s := range []api.Set{full(1), full(2), full(16), one(1, 2, 3, 4, 5, 6, 7, 8), one(65535)} {
		wantCheck(t, certOf(api.CertHandOff, k1, wordOf(65535), s), api.OK)
	}
	wantCheck(t, certOf(api.CertHandOff, k1, wordOf(1, 2, 3, 4, 5, 6, 7, 8), one(8, 7, 6, 5, 4, 3, 2, 1)), api.OK)
}

func TestNumbersAreWithinBounds(t *testing.T) {
	const most = api.MaxNum
	for _, c := range goodCerts() {
		for _, n := range []int64{-1, -5, math.MinInt64, most + 1, most + 2, math.MaxInt64} {
			wantCheck(t, with(c, func(c *api.Cert) { c.From = n }), api.ErrForm)
			wantCheck(t, with(c, func(c *api.Cert) { c.To = n }), api.ErrForm)
			wantCheck(t, with(c, func(c *api.Cert) { c.From, c.To = n, n }), api.ErrForm)
			wantCheck(t, with(c, func(c *api.Cert) { c.Serial = n }), api.ErrForm)
		}
		for _, l := range [][3]int64{{0, 0, 0}, {0, most, most}, {most, most, 1}, {most - 1, most, 0}, {7, 7, 7}, {0, 1, 1 << 61}} {
			wantCheck(t, with(c, func(c *api.Cert) { c.From, c.To, c.Serial = l[0], l[1], l[2] }), api.OK)
		}
	}
}

func TestFromIsNotAboveTo(t *testing.T) {
	for _, c := range goodCerts() {
		for _, l := range [][2]int64{{1, 0}, {10, 9}, {api.MaxNum, api.MaxNum - 1}, {api.MaxNum, 0}} {
			wantCheck(t, with(c, func(c *api.Cert) { c.From, c.To = l[0], l[1] }), api.ErrRange)
		}
	}
}

func TestNoWordGetsLonger(t *testing.T) {
	for kind := api.CertBoot; kind <= api.CertDelegate; kind++ {
		wantCheck(t, certOf(kind, k1, wordOf(n1, n2), one(n1)), api.ErrSize)
		wantCheck(t, certOf(kind, k1, wordOf(n1, n2), setOf(wordOf(n1), wordOf(n1, n2, n2))), api.ErrSize)
		wantCheck(t, certOf(kind, k1, wordOf(1, 2, 3, 4, 5, 6, 7, 8), setOf(wordOf(1, 2, 3, 4, 5, 6, 7), wordOf(1, 2, 3, 4, 5, 6, 7, 8))), api.ErrSize)
		wantCheck(t, certOf(kind, k1, wordOf(k1, k2), one(k1)), api.ErrSize)
	}
	wantCheck(t, certOf(api.CertHandOff, k1, wordOf(n1, n2), setOf(wordOf(n1, n1), wordOf(n1, n2, n2))), api.OK)
}

// What is told first, where several errors apply.
func TestErrorsInTheirOrder(t *testing.T) {
	for _, c := range goodCerts() {
		tooLong := func(c *api.Cert) { c.Speaker, c.For = wordOf(n1, n2), one(n1) }
		for _, wrong := range formErrors() {
			wantCheck(t, with(c, func(c *api.Cert) { wrong(c); c.Kind = 8 }), api.ErrArg)
			wantCheck(t, with(c, func(c *api.Cert) { wrongTimes(c); wrong(c) }), api.ErrForm)
			wantCheck(t, with(c, func(c *api.Cert) { tooLong(c); wrong(c) }), api.ErrForm)
		}
		wantCheck(t, with(c, func(c *api.Cert) { c.Kind = 0; wrongTimes(c) }), api.ErrArg)
		wantCheck(t, with(c, func(c *api.Cert) { c.Kind = 0; tooLong(c) }), api.ErrArg)
		wantCheck(t, with(c, func(c *api.Cert) { wrongTimes(c); tooLong(c) }), api.ErrRange)
		wantCheck(t, with(c, func(c *api.Cert) { wrongTimes(c); c.Kind, c.For = 3, full(3) }), api.ErrRange)
	}
}

func TestBoot(t *testing.T) {
	for _, c := range []api.Cert{
		boot(), certOf(api.CertBoot, k1, wordOf(k1), one(n2, r2)), certOf(api.CertBoot, k2, wordOf(16383), one(24576, 49151)),
	} {
		wantCheck(t, c, api.OK)
	}
	for _, w := range []api.Word{wordOf(d), wordOf(c1), wordOf(n1), wordOf(g1), wordOf(r1), wordOf(x1), wordOf(k1, k2), wordOf(8191), wordOf(16384)} {
		wantCheck(t, certOf(api.CertBoot, k1, w, one(n1, r1)), api.ErrDenied)
	}
	for _, s := range []api.Set{
		one(n1), one(r1), one(r1, n1), one(n1, n1), one(r1, r1), one(n1, r1, r1), one(n1, n1, r1), one(k1, r1), one(g1, r1), one(n1, g1), one(n1, x1),
		one(n1, 40959), one(24575, r1), one(n1, d), setOf(wordOf(n1, r1), wordOf(n1, r2)), setOf(wordOf(n1, r1), wordOf(n1, r1, r1)), setOf(wordOf(n1), wordOf(n1, r1)),
	} {
		wantCheck(t, certOf(api.CertBoot, k1, wordOf(k2), s), api.ErrDenied)
	}
}

func TestSession(t *testing.T) {
	for _, c := range []api.Cert{session(), certOf(api.CertSession, k2, wordOf(k2), one(k2)), certOf(api.CertSession, 16383, wordOf(8192), one(16383))} {
		wantCheck(t, c, api.OK)
	}
	for _, w := range []api.Word{wordOf(d), wordOf(c1), wordOf(n1), wordOf(g1), wordOf(r1), wordOf(x1)} {
		wantCheck(t, certOf(api.CertSession, k1, w, one(k1)), api.ErrDenied)
	}
	for _, s := range []api.Set{one(k2), one(n1), one(d), one(k1, k1), one(k1, r1), one(k2, k1), setOf(wordOf(k1), wordOf(k2)), setOf(wordOf(k1), wordOf(k1, k1))} {
		wantCheck(t, certOf(api.CertSession, k1, wordOf(k2), s), api.ErrDenied)
	}
}

func TestChannel(t *testing.T) {
	for _, s := range []api.Set{one(d), one(k1), one(c1), one(n1), one(k1, r1), one(x1), one(1, 2, 3, 4, 5, 6, 7, 8)} {
		wantCheck(t, certOf(api.CertChannel, k1, wordOf(c1), s), api.OK)
	}
	wantCheck(t, certOf(api.CertChannel, k1, wordOf(16384), one(k1)), api.OK)
	wantCheck(t, certOf(api.CertChannel, k1, wordOf(24575), one(k1)), api.OK)
	for _, w := range []api.Word{wordOf(d), wordOf(k1), wordOf(n1), wordOf(g1), wordOf(r1), wordOf(x1), wordOf(c1, c2), wordOf(c1, k1), wordOf(k1, c1)} {
		wantCheck(t, certOf(api.CertChannel, k1, w, one(k1, r1)), api.ErrDenied)
	}
	wantCheck(t, certOf(api.CertChannel, k1, wordOf(c1), full(2)), api.ErrDenied)
	wantCheck(t, certOf(api.CertChannel, k1, wordOf(c1), full(16)), api.ErrDenied)
}

func TestGroup(t *testing.T) {
	for _, c := range []api.Cert{group(), certOf(api.CertGroup, k1, wordOf(24576), one(40959)), certOf(api.CertGroup, k1, wordOf(32767), one(32768))} {
		wantCheck(t, c, api.OK)
	}
	for _, w := range []api.Word{wordOf(d), wordOf(k1), wordOf(c1), wordOf(g1), wordOf(g2), wordOf(r1), wordOf(x1)} {
		wantCheck(t, certOf(api.CertGroup, k1, w, one(g1)), api.ErrDenied)
	}
	for _, s := range []api.Set{one(n1), one(n2), one(k1), one(r1), one(d), one(g1, g1), one(g1, r1), one(n1, g1), setOf(wordOf(g1), wordOf(g2)), setOf(wordOf(g1), wordOf(g1, g1))} {
		wantCheck(t, certOf(api.CertGroup, k1, wordOf(n1), s), api.ErrDenied)
	}
}

func TestRole(t *testing.T) {
	for _, s := range []api.Set{one(n1, r1), one(r1, r1), one(k1, r2), one(d, r1), one(x1, 40960), one(n1, r1, r1), one(1, 2, 3, 4, 5, 6, 7, r1)} {
		wantCheck(t, certOf(api.CertRole, k1, wordOf(k2), s), api.OK)
		wantCheck(t, certOf(api.CertRole, k1, wordOf(c2), s), api.OK)
	}
	for _, w := range []api.Word{wordOf(d), wordOf(n1), wordOf(g1), wordOf(r1), wordOf(x1), wordOf(k1, k1), wordOf(k1, c1), wordOf(n1, r1)} {
		wantCheck(t, certOf(api.CertRole, k1, w, one(n1, r1)), api.ErrDenied)
	}
	for _, s := range []api.Set{one(r1), one(n1), one(n1, n2), one(r1, n1), one(n1, r1, n1), one(n1, g1), one(n1, x1), setOf(wordOf(n1, r1), wordOf(n2, r1)), setOf(wordOf(r1), wordOf(n1, r1))} {
		wantCheck(t, certOf(api.CertRole, k1, wordOf(k2), s), api.ErrDenied)
		wantCheck(t, certOf(api.CertRole, k1, wordOf(c2), s), api.ErrDenied)
	}
}

func TestHandOff(t *testing.T) {
	for _, w := range []api.Word{wordOf(d), wordOf(k1), wordOf(c1), wordOf(n1), wordOf(g1), wordOf(r1), wordOf(x1)} {
		for _, s := range []api.Set{one(d), one(g1), full(16), setOf(w), setOf(wordOf(r1), wordOf(1, 2, 3, 4, 5, 6, 7, 8))} {
			wantCheck(t, certOf(api.CertHandOff, k1, w, s), api.OK)
		}
	}
}

func TestDelegate(t *testing.T) {
	for _, c := range []api.Cert{
		delegate(),
		certOf(api.CertDelegate, k1, wordOf(d, n1), one(d, n1)),
		certOf(api.CertDelegate, k1, wordOf(2, n1), setOf(wordOf(d, n1), wordOf(2, n1))),
		certOf(api.CertDelegate, k1, wordOf(n1, d), setOf(wordOf(d, d), wordOf(n1, d))),
		certOf(api.CertDelegate, k1, wordOf(8, 7, 6, 5, 4, 3, 2, 1), setOf(wordOf(d, 7, 6, 5, 4, 3, 2, 1), wordOf(8, 7, 6, 5, 4, 3, 2, 1))),
	} {
		wantCheck(t, c, api.OK)
	}
	w := wordOf(n2, n1)
	for _, s := range []api.Set{
		one(n2, n1), one(d, n1), one(n2, d), setOf(w, wordOf(n2, d)), setOf(w, wordOf(d, n2)), setOf(w, wordOf(d, n1, n1)), setOf(w, wordOf(2, n1)),
		setOf(w, wordOf(d, n1), wordOf(d, d)), setOf(wordOf(n1, n2), wordOf(d, n1)), setOf(w, wordOf(d, n2, n1)), setOf(w, wordOf(d, d)), full(2),
	} {
		wantCheck(t, certOf(api.CertDelegate, k1, w, s), api.ErrDenied)
	}
	for _, a := range []int{d, n1, k1} {
		wantCheck(t, certOf(api.CertDelegate, k1, wordOf(a), setOf(wordOf(a), wordOf(d))), api.ErrDenied)
		wantCheck(t, certOf(api.CertDelegate, k1, wordOf(a), one(a)), api.ErrDenied)
	}
	wantCheck(t, certOf(api.CertDelegate, k1, wordOf(d, n1), setOf(wordOf(d, n1), wordOf(d, d))), api.ErrDenied)
}

// pool is words of up to three atoms, of all kinds.
func pool() []api.Word {
	atoms := []int{d, k1, k2, c1, n1, g1, r1, x1}
	l := []api.Word{"", wordOf(0), wordOf(n1, 0)}
	for _, a := range atoms {
		l = append(l, wordOf(a))
		for _, b := range atoms {
			l = append(l, wordOf(a, b))
		}
	}
	return append(l, wordOf(n1, n1, r1), wordOf(d, n1, r1), wordOf(k1, k1, k1), wordOf(1, 2, 3, 4, 5, 6, 7, r1))
}

func TestCheckOfAllShortWords(t *testing.T) {
	for kind := api.CertBoot; kind <= api.CertDelegate; kind++ {
		for _, speaker := range pool() {
			for _, w := range pool() {
				c := certOf(kind, k1, speaker, api.Set{w})
				wantCheck(t, c, checked(c))
				c.For = setOf(w, speaker)
				wantCheck(t, c, checked(c))
			}
		}
	}
}

func pick[T any](r *rand.Rand, l ...T) T { return l[r.Intn(len(l))] }

// someCert is a certificate that may be wrong anywhere, but mostly isn't.
func someCert(r *rand.Rand) api.Cert {
	c := goodCerts()[r.Intn(7)]
	words := pool()
	for range r.Intn(3) {
		switch r.Intn(7) {
		case 0:
			c.Kind = r.Intn(9)
		case 1:
			c.Signer = api.Atom(pick(r, k1, k2, 8192, 16383, 16384, 0, r.Intn(1<<16)))
		case 2:
			c.Speaker = pick(r, words...)
		case 3:
			c.For = api.Set{pick(r, words...)}
		case 4:
			c.For = setOf(pick(r, words...), pick(r, words...), c.Speaker)
		case 5:
			c.From = pick(r, 0, 5, 9, 10, -1, api.MaxNum, r.Int63n(api.MaxNum))
		case 6:
			c.To = pick(r, 0, 5, 9, -1, api.MaxNum, api.MaxNum+1, r.Int63n(api.MaxNum))
		}
	}
	c.Serial = pick(r, c.Serial, r.Int63n(api.MaxNum), 0)
	return c
}

func TestCheckOfAny(t *testing.T) {
	r := rand.New(rand.NewSource(1))
	told := map[api.Errno]int{}
	for range 20000 {
		c := someCert(r)
		want := checked(c)
		told[want]++
		wantCheck(t, c, want)
	}
	for _, e := range []api.Errno{api.OK, api.ErrArg, api.ErrForm, api.ErrRange, api.ErrSize, api.ErrDenied} {
		if told[e] < 100 {
			t.Errorf("error %d was told only %d times", e, told[e])
		}
	}
}

// P8.2

func TestHolds(t *testing.T) {
	at := func(from, to int64) api.Cert {
		return with(handOff(), func(c *api.Cert) { c.From, c.To = from, to })
	}
	for _, x := range []struct {
		from, to, t int64
		want        bool
	}{
		{5, 9, 5, true}, {5, 9, 9, true}, {5, 9, 7, true}, {5, 9, 4, false}, {5, 9, 10, false}, {5, 9, -5, false},
		{7, 7, 7, true}, {7, 7, 6, false}, {7, 7, 8, false},
		{0, api.MaxNum, 0, true}, {0, api.MaxNum, api.MaxNum, true}, {0, api.MaxNum, api.MaxNum + 1, false}, {0, api.MaxNum, -1, false},
		{9, 5, 7, false}, {9, 5, 5, false}, {9, 5, 9, false}, {-3, -1, -2, true}, {-3, -1, 0, false},
		{math.MinInt64, math.MaxInt64, 0, true}, {math.MinInt64, math.MaxInt64, math.MaxInt64, true}, {math.MinInt64, math.MaxInt64, math.MinInt64, true}, {math.MaxInt64, math.MinInt64, 0, false},
	} {
		if got := cert.Holds(at(x.from, x.to), x.t); got != x.want {
			t.Errorf("from %d to %d, at %d: %t", x.from, x.to, x.t, got)
		}
	}
	if !cert.Holds(api.Cert{}, 0) || cert.Holds(api.Cert{}, 1) || cert.Holds(api.Cert{}, -1) {
		t.Error("the zero certificate holds at 0 alone")
	}
}

func wantRules(t *testing.T, c api.Cert, want ...api.Rule) {
	t.Helper()
	if got := cert.Rules(c); !slices.Equal(got, want) {
		t.Errorf("%s: rules %q", tell(c), got)
	}
}

func TestRules(t *testing.T) {
	a, b := n1, n2
	wantRules(t, delegate(), api.Rule{From: wordOf(d, a), To: wordOf(b, a)}, api.Rule{From: wordOf(b, a), To: wordOf(b, a)})
	wantRules(t, boot(), api.Rule{From: wordOf(n1, r1), To: wordOf(k2)})
	l := []api.Rule{}
	for k := range 16 {
		l = append(l, api.Rule{From: wordOf(k1, k+1), To: wordOf(n2)})
	}
	wantRules(t, certOf(api.CertHandOff, k1, wordOf(n2), full(16)), l...)
}

func TestRulesOfAnyCertificate(t *testing.T) {
	wantRules(t, api.Cert{})
	wantRules(t, api.Cert{For: api.Set{}})
	// The order is For's, whatever it is, and a word that stands twice says its rule twice.
	s := api.Set{wordOf(n2, n1), "", wordOf(n1), wordOf(n1), "\x01"}
	var l []api.Rule
	for _, w := range s {
		l = append(l, api.Rule{From: w, To: "\x00\x02\x03"})
	}
	wantRules(t, api.Cert{Kind: -5, Speaker: "\x00\x02\x03", For: s, From: 9, To: 3}, l...)
	long := make(api.Set, 100000)
	got := cert.Rules(api.Cert{Speaker: "a", For: long})
	if len(got) != len(long) || got[0] != (api.Rule{To: "a"}) || got[len(got)-1] != got[0] {
		t.Errorf("%d rules", len(got))
	}
}

// different is changes of each part, each of which makes another certificate.
func different() []func(c *api.Cert) {
	return []func(c *api.Cert){
		func(c *api.Cert) { c.Kind++ },
		func(c *api.Cert) { c.Signer++ },
		func(c *api.Cert) { c.Speaker += "\x00\x01" },
		func(c *api.Cert) { c.Speaker = "" },
		func(c *api.Cert) { c.For[len(c.For)-1] += "\x00\x01" },
		func(c *api.Cert) { c.For[0] = "" },
		func(c *api.Cert) { c.For = c.For[:len(c.For)-1] },
		func(c *api.Cert) { c.For = append(c.For, wordOf(65535, 65535)) },
		func(c *api.Cert) { c.For = append(c.For, c.For[0]) },
		func(c *api.Cert) { c.For = nil },
		func(c *api.Cert) { c.From-- },
		func(c *api.Cert) { c.To++ },
		func(c *api.Cert) { c.Serial++ },
	}
}

func wantSame(t *testing.T, a, b api.Cert, want bool) {
	t.Helper()
	if cert.Same(a, b) != want || cert.Same(b, a) != want {
		t.Errorf("%s; %s: not %t", tell(a), tell(b), want)
	}
}

func TestSame(t *testing.T) {
	for i, a := range goodCerts() {
		for j, b := range goodCerts() {
			wantSame(t, a, b, i == j)
		}
		for _, change := range different() {
			b := with(a, change)
			wantSame(t, a, b, false)
			wantSame(t, b, with(a, change), true)
		}
	}
}

func TestSameOfAnyCertificate(t *testing.T) {
	wantSame(t, api.Cert{}, api.Cert{For: api.Set{}}, true)
	wantSame(t, api.Cert{}, api.Cert{For: api.Set{""}}, false)
	// Word by word: neither another order nor other numbers of a word are the same.
	a, b := wordOf(n1), wordOf(n2)
	for _, l := range [][2]api.Set{{{a, b}, {b, a}}, {{a, a}, {a}}, {{a, b, a}, {a, b, b}}, {{a + b}, {a, b}}} {
		wantSame(t, api.Cert{For: l[0]}, api.Cert{For: l[1]}, false)
		wantSame(t, api.Cert{For: l[0]}, api.Cert{For: slices.Clone(l[0])}, true)
	}
	r := rand.New(rand.NewSource(2))
	for range 5000 {
		a, b := someCert(r), someCert(r)
		wantSame(t, a, b, tell(a) == tell(b))
		wantSame(t, a, with(a, func(*api.Cert) {}), true)
	}
}

// P8.3

// num is a number's bytes.
func num(n int64) string {
	if n < 128 {
		return string([]byte{byte(n)})
	}
	return string([]byte{byte(n%128 + 128)}) + num(n/128)
}

// written is a model of a certificate's bytes, by the parts given: span is To less From.
func written(kind, signer int64, speaker api.Word, s api.Set, from, span, serial int64) string {
	l := num(kind) + num(signer) + num(int64(len(speaker)/2)) + string(speaker) + num(int64(len(s)))
	for _, w := range s {
		l += num(int64(len(w)/2)) + string(w)
	}
	return l + num(from) + num(span) + num(serial)
}

func bytesOf(c api.Cert) string {
	return written(int64(c.Kind), int64(c.Signer), c.Speaker, c.For, c.From, c.To-c.From, c.Serial)
}

func wantBytes(t *testing.T, c api.Cert, want string) {
	t.Helper()
	if s, e := cert.Encode(c); s != want || e != api.OK {
		t.Errorf("%s: %q, error %d, not %q", tell(c), s, e, want)
	}
	if got, e := cert.Decode(want); tell(got) != tell(c) || e != api.OK {
		t.Errorf("%q: %s, error %d, not %s", want, tell(got), e, tell(c))
	}
}

func wantNone(t *testing.T, s string) {
	t.Helper()
	if c, e := cert.Decode(s); !reflect.DeepEqual(c, api.Cert{}) || e != api.ErrForm {
		t.Errorf("%.200q: %s, error %d, not ErrForm", s, tell(c), e)
	}
}

// wider are good certificates with the edges of what may be.
func wider() []api.Cert {
	l := goodCerts()
	for _, c := range goodCerts() {
		for _, n := range [][3]int64{{0, 0, 0}, {0, api.MaxNum, api.MaxNum}, {api.MaxNum, api.MaxNum, 127}, {127, 255, 128}, {128, 16512, 16384}, {1, api.MaxNum, 0}} {
			l = append(l, with(c, func(c *api.Cert) { c.From, c.To, c.Serial = n[0], n[1], n[2] }))
		}
	}
	return append(l,
		certOf(api.CertHandOff, 16383, wordOf(65535), full(16)),
		certOf(api.CertHandOff, 8192, wordOf(1, 2, 3, 4, 5, 6, 7, 8), one(65535, 2, 3, 4, 5, 6, 256, 255)),
		certOf(api.CertDelegate, k1, wordOf(d, n1), one(d, n1)))
}

func TestBytes(t *testing.T) {
	wantBytes(t, boot(), "\x01\x81\x40\x01\x20\x02\x01\x02\x60\x01\xa0\x01\x05\x04\x03")
	wantBytes(t, with(delegate(), func(c *api.Cert) { c.From, c.To, c.Serial = 300, 300, 128 }),
		"\x07\x81\x40\x02\x60\x02\x60\x01\x02\x02\x00\x01\x60\x01\x02\x60\x02\x60\x01\xac\x02\x00\x80\x01")
	wantBytes(t, with(session(), func(c *api.Cert) { c.From, c.To, c.Serial = 0, api.MaxNum, api.MaxNum }),
		"\x02\x81\x40\x01\x20\x02\x01\x01\x20\x01\x00\x80\x80\x80\x80\x80\x80\x80\x80\x40\x80\x80\x80\x80\x80\x80\x80\x80\x40")
	for _, c := range wider() {
		wantBytes(t, c, bytesOf(c))
	}
}

func TestEncodeTellsCheckError(t *testing.T) {
	for want, c := range map[api.Errno]api.Cert{
		api.ErrArg:    with(boot(), func(c *api.Cert) { c.Kind, c.From = 8, -1 }),
		api.ErrForm:   with(boot(), func(c *api.Cert) { c.To = -1 }),
		api.ErrRange:  with(boot(), wrongTimes),
		api.ErrSize:   with(boot(), func(c *api.Cert) { c.Speaker = wordOf(k1, k1, k1) }),
		api.ErrDenied: with(boot(), func(c *api.Cert) { c.Speaker = wordOf(c1) }),
	} {
		if s, e := cert.Encode(c); s != "" || e != want {
			t.Errorf("%s: %q, error %d, not %d", tell(c), s, e, want)
		}
	}
}

func TestLessOrMoreBytesAreNone(t *testing.T) {
	wantNone(t, "")
	for _, c := range wider() {
		s := bytesOf(c)
		for n := range len(s) {
			wantNone(t, s[:n])
		}
		for _, more := range []string{"\x00", "\x01", s, strings.Repeat("\x00", 1000)} {
			wantNone(t, s+more)
		}
		wantNone(t, "\x00"+s)
		wantNone(t, s[1:])
	}
}

// Bytes of certificates that Check refuses.
func TestRefusedCertificatesAreNone(t *testing.T) {
	r := rand.New(rand.NewSource(3))
	for range 20000 {
		c := someCert(r)
		if c.From < 0 || c.To < c.From || c.Serial < 0 {
			continue
		}
		if checked(c) == api.OK {
			wantBytes(t, c, bytesOf(c))
		} else {
			wantNone(t, bytesOf(c))
		}
	}
	for _, s := range badSets() {
		c := with(handOff(), func(c *api.Cert) { c.For = s })
		wantNone(t, bytesOf(c))
	}
	for _, w := range badWords() {
		c := with(handOff(), func(c *api.Cert) { c.Speaker = w })
		wantNone(t, bytesOf(c))
	}
}

func TestNumbersThatMayNotBeAreNone(t *testing.T) {
	w, s := wordOf(n1), one(g1)
	good := []int64{api.CertGroup, k1, 5, 4, 3}
	tell := func(l []int64) string { return written(l[0], l[1], w, s, l[2], l[3], l[4]) }
	if _, e := cert.Decode(tell(good)); e != api.OK {
		t.Fatal(e)
	}
	const most = api.MaxNum
	bad := [][]int64{
		{0, 8, 9, 256 + 4, 1<<16 + 4, 1<<32 + 4, most},
		{0, 1, c1, 65536, 65536 + k1, 1<<32 + k1, most},
		{most + 1, most + 5, math.MaxInt64, most, most - 3},
		{most + 1, most, most - 4, math.MaxInt64, math.MaxInt64 - 4},
		{most + 1, math.MaxInt64},
	}
	for place, l := range bad {
		for _, n := range l {
			changed := slices.Clone(good)
			changed[place] = n
			wantNone(t, tell(changed))
		}
	}
	// To is what counts: both may be MaxNum together at most.
	for _, from := range []int64{0, 1, 5, most - 1, most} {
		changed := slices.Clone(good)
		changed[2], changed[3] = from, most-from
		if c, e := cert.Decode(tell(changed)); e != api.OK || c.From != from || c.To != most {
			t.Errorf("from %d: to %d, error %d", from, c.To, e)
		}
		changed[3]++
		wantNone(t, tell(changed))
	}
}

// A number in more bytes than it needs.
func TestOtherBytesOfTheSameAreNone(t *testing.T) {
	for _, s := range []string{
		"\x84\x00\x81\x40\x01\x60\x01\x01\x01\x80\x01\x05\x04\x03",
		"\x04\x81\xc0\x00\x01\x60\x01\x01\x01\x80\x01\x05\x04\x03",
		"\x04\x81\x40\x01\x60\x01\x01\x01\x80\x01\x85\x00\x04\x03",
		"\x04\x81\x40\x01\x60\x01\x01\x01\x80\x01\x05\x84\x00\x03",
		"\x04\x81\x40\x01\x60\x01\x01\x01\x80\x01\x05\x04\x83\x00",
		"\x04\x81\x40\x81\x00\x60\x01\x01\x01\x80\x01\x05\x04\x03",
		"\x04\x81\x40\x01\x60\x01\x81\x00\x01\x80\x01\x05\x04\x03",
	} {
		wantNone(t, s)
	}
	wantBytes(t, group(), "\x04\x81\x40\x01\x60\x01\x01\x01\x80\x01\x05\x04\x03")
}

// Whatever is read is written as the same bytes: nothing else stands for a certificate.
func TestChangedBytes(t *testing.T) {
	read := 0
	for _, c := range wider() {
		s := bytesOf(c)
		for place := range len(s) {
			for b := range 256 {
				changed := s[:place] + string([]byte{byte(b)}) + s[place+1:]
				got, e := cert.Decode(changed)
				if e != api.OK {
					wantNone(t, changed)
					continue
				}
				read++
				if checked(got) != api.OK || bytesOf(got) != changed {
					t.Fatalf("%q was read as %s", changed, tell(got))
				}
			}
		}
	}
	if read < 1000 {
		t.Errorf("only %d were read", read)
	}
}

func TestLongBytesAreNone(t *testing.T) {
	for _, s := range []string{"\x00", "\x01", "\x07", "\x80", "\xff"} {
		wantNone(t, strings.Repeat(s, 1<<20))
	}
	wantNone(t, bytesOf(handOff())+strings.Repeat("\x00", 1<<20))
}

// P8.4

func TestThereAndBack(t *testing.T) {
	r := rand.New(rand.NewSource(4))
	l := wider()
	for range 5000 {
		l = append(l, someCert(r))
	}
	back := map[string]string{}
	for _, c := range l {
		s, e := cert.Encode(c)
		if e != api.OK {
			continue
		}
		got, e := cert.Decode(s)
		if e != api.OK || !cert.Same(got, c) || tell(got) != tell(c) {
			t.Errorf("%s: %s, error %d", tell(c), tell(got), e)
		}
		if other, is := back[s]; is && other != tell(c) {
			t.Errorf("%s and %s have the same bytes", tell(c), other)
		}
		back[s] = tell(c)
	}
	if len(back) < 500 {
		t.Errorf("only %d certificates", len(back))
	}
}

func TestToIsNeverLonger(t *testing.T) {
	r := rand.New(rand.NewSource(5))
	longer := 0
	for range 20000 {
		c := someCert(r)
		for _, rule := range cert.Rules(c) {
			if len(rule.To) <= len(rule.From) {
				continue
			}
			longer++
			if cert.Check(c) == api.OK {
				t.Errorf("%s: from %q to %q", tell(c), rule.From, rule.To)
			}
		}
	}
	if longer < 100 {
		t.Errorf("only %d rules of the others are longer", longer)
	}
}

// R1 to R5

func TestArgumentsStayAsTheyWere(t *testing.T) {
	r := rand.New(rand.NewSource(6))
	l := wider()
	for range 500 {
		l = append(l, someCert(r))
	}
	l = append(l, api.Cert{Kind: 6, Signer: k1, Speaker: wordOf(n1), For: api.Set{wordOf(n2), wordOf(n1), wordOf(n1)}})
	for _, c := range l {
		before := tell(c)
		c.For = append(make(api.Set, 0, len(c.For)+4), c.For...)
		cert.Check(c)
		cert.Encode(c)
		cert.Holds(c, 7)
		cert.Same(c, c)
		rules := cert.Rules(c)
		if tell(c) != before || slices.ContainsFunc(c.For[len(c.For):cap(c.For)], func(w api.Word) bool { return w != "" }) {
			t.Fatalf("%s became %s", before, tell(c))
		}
		again := slices.Clone(rules)
		clear(c.For)
		if !slices.Equal(rules, again) {
			t.Fatalf("%s: its rules share its list", before)
		}
	}
}

func TestAnswersAreApart(t *testing.T) {
	c := handOff()
	a, b := cert.Rules(c), cert.Rules(c)
	clear(a)
	if !slices.Equal(b, cert.Rules(c)) || tell(c) != tell(handOff()) {
		t.Error("rules share a list")
	}
	s, _ := cert.Encode(c)
	x, _ := cert.Decode(s)
	y, _ := cert.Decode(s)
	clear(x.For)
	if !cert.Same(y, c) {
		t.Error("what is read shares a list")
	}
}

func TestSameCallsAnswerTheSame(t *testing.T) {
	r := rand.New(rand.NewSource(7))
	for range 500 {
		c := someCert(r)
		e, s := cert.Check(c), bytesOf(c)
		got, _ := cert.Decode(s)
		for range 3 {
			again, _ := cert.Decode(s)
			if cert.Check(c) != e || tell(again) != tell(got) {
				t.Fatalf("%s: another answer", tell(c))
			}
		}
	}
}

func TestLongLists(t *testing.T) {
	long := make(api.Set, 1<<20)
	for i := range long {
		long[i] = wordOf(k1, i%8000+1)
	}
	wantCheck(t, certOf(api.CertHandOff, k1, wordOf(k2), long), api.ErrForm)
	wantSame(t, api.Cert{For: long}, api.Cert{For: slices.Clone(long)}, true)
	wantSame(t, api.Cert{For: long}, api.Cert{For: long[1:]}, false)
	wide := api.Word(strings.Repeat("ab", 1<<20))
	wantCheck(t, certOf(api.CertHandOff, k1, wide, api.Set{wide}), api.ErrForm)
}
