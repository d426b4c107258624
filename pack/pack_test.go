package pack_test

import (
	"fmt"
	"math"
	"math/big"
	"math/rand"
	"slices"
	"strings"
	"testing"

	"attorney/api"
	"attorney/pack"
	"attorney/set"
)

// bytesOf is a text by its bytes.
func bytesOf(l ...byte) string { return string(l) }

// wordOf is a word by its atoms, two bytes each.
func wordOf(l ...int) api.Word {
	var b []byte
	for _, a := range l {
		b = append(b, byte(a/256), byte(a%256))
	}
	return api.Word(b)
}

// modelNum is a number's bytes by its bits, as a text of zeros and ones tells them.
func modelNum(n int64) string {
	bits := big.NewInt(n).Text(2)
	var l []byte
	for len(bits) > 7 {
		var b byte = 1
		for _, c := range bits[len(bits)-7:] {
			b = 2*b + byte(c-'0')
		}
		l = append(l, b)
		bits = bits[:len(bits)-7]
	}
	var b byte
	for _, c := range bits {
		b = 2*b + byte(c-'0')
	}
	return string(append(l, b))
}

func modelText(s string) string { return modelNum(int64(len(s))) + s }

func modelWord(w api.Word) string { return bytesOf(byte(len(w)/2)) + string(w) }

func modelSet(s api.Set) string {
	l := bytesOf(byte(len(s)))
	for _, w := range s {
		l += modelWord(w)
	}
	return l
}

// written is what comes of calls of a new Out.
func written(calls func(o *pack.Out)) (string, api.Errno) {
	var o pack.Out
	calls(&o)
	return o.Done()
}

func wantWritten(t *testing.T, what, want string, calls func(o *pack.Out)) {
	t.Helper()
	if got, e := written(calls); got != want || e != api.OK {
		t.Errorf("%s: %q, error %d, not %q", what, got, e, want)
	}
}

func wantUnwritten(t *testing.T, what string, calls func(o *pack.Out)) {
	t.Helper()
	if got, e := written(calls); got != "" || e != api.ErrForm {
		t.Errorf("%s: %q, error %d, not ErrForm", what, got, e)
	}
}

// call is one of an In's: it tells what was read as a text, to be held against another one.
type call struct {
	what string
	read func(i *pack.In) string
	zero string
}

func num(most int64) call {
	return call{fmt.Sprintf("Num(%d)", most), func(i *pack.In) string { return fmt.Sprint(i.Num(most)) }, "0"}
}

func text(most int) call {
	return call{fmt.Sprintf("Text(%d)", most), func(i *pack.In) string { return fmt.Sprintf("%q", i.Text(most)) }, `""`}
}

func aWord() call {
	return call{"Word()", func(i *pack.In) string { return fmt.Sprintf("%q", i.Word()) }, `""`}
}

func aSet() call {
	return call{"Set()", func(i *pack.In) string {
		if s := i.Set(); len(s) > 0 {
			return fmt.Sprintf("%q", s)
		}
		return "none"
	}, "none"}
}

// everyCall is one call of each kind.
func everyCall() []call { return []call{num(api.MaxNum), text(math.MaxInt), aWord(), aSet()} }

func wantRead(t *testing.T, c call, bytes, want string) {
	t.Helper()
	const behind = "\x05\x00"
	i := pack.From(bytes + behind)
	if got := c.read(i); got != want {
		t.Errorf("%s of %q: %s, not %s", c.what, bytes, got, want)
	}
	if i.Left() != len(behind) {
		t.Errorf("%s of %q: %d bytes left, not %d", c.what, bytes, i.Left(), len(behind))
	}
	if i.Num(5) != 5 || i.Num(0) != 0 || i.Left() != 0 || i.Done() != api.OK {
		t.Errorf("%s of %q: what stands behind isn't read then, error %d", c.what, bytes, i.Done())
	}
}

// wantReadWhole tells that nothing is read from less than all bytes, too.
func wantReadWhole(t *testing.T, c call, bytes, want string) {
	t.Helper()
	wantRead(t, c, bytes, want)
	for n := range len(bytes) {
		wantUnread(t, c, bytes[:n])
	}
}

// wantUnread asks the In again behind the error, too: with each call, and with bytes that would be right behind.
func wantUnread(t *testing.T, c call, bytes string) {
	t.Helper()
	i := pack.From(bytes)
	if got := c.read(i); got != c.zero {
		t.Errorf("%s of %q: %s, not %s", c.what, bytes, got, c.zero)
	}
	wantStopped(t, c.what+" of "+fmt.Sprintf("%.80q", bytes), i)
}

// wantStopped tells that an In has met ErrForm, and reads nothing any more.
func wantStopped(t *testing.T, what string, i *pack.In) {
	t.Helper()
	if n, e := i.Left(), i.Done(); n != 0 || e != api.ErrForm {
		t.Errorf("%s: %d left, error %d, not ErrForm", what, n, e)
	}
	for _, c := range everyCall() {
		if got := c.read(i); got != c.zero {
			t.Errorf("%s: then %s: %s, not %s", what, c.what, got, c.zero)
		}
	}
	if n, e := i.Left(), i.Done(); n != 0 || e != api.ErrForm {
		t.Errorf("%s: in the end %d left, error %d, not ErrForm", what, n, e)
	}
}

// wantNeither is wantUnread with right bytes behind those, which must not be read either.
func wantNeither(t *testing.T, c call, bytes string) {
	t.Helper()
	wantUnread(t, c, bytes)
	wantUnread(t, c, bytes+"\x01\x01\x00\x01")
}

// numbers are the edges of how many bytes a number has, and some between.
func numbers() []int64 {
	l := []int64{0, 1, 2, 5, 100, 300, 8193, api.MaxNum - 1, api.MaxNum}
	for bits := 7; bits < 62; bits += 7 {
		n := int64(1) << bits
		l = append(l, n-1, n, n+1)
	}
	r := rand.New(rand.NewSource(1))
	for range 300 {
		l = append(l, r.Int63n(api.MaxNum)>>r.Intn(62))
	}
	return l
}

// someWord is a word that may be.
func someWord(r *rand.Rand) api.Word {
	var l []int
	for range 1 + r.Intn(api.MaxWord) {
		l = append(l, 1+r.Intn(65535)>>r.Intn(16))
	}
	return wordOf(l...)
}

// someSet is a set that may be.
func someSet(r *rand.Rand) api.Set {
	var l []api.Word
	for range 1 + r.Intn(api.MaxSet) {
		l = append(l, someWord(r))
	}
	s, e := set.Of(l...)
	if e != api.OK {
		panic("no set")
	}
	return s
}

// full is a set of so many words.
func full(n int) api.Set {
	var s api.Set
	for k := range n {
		s = append(s, wordOf(k+1))
	}
	return s
}

// badWords may not be.
func badWords() []api.Word {
	return []api.Word{"", "\x00", "\x01", "\x00\x00", "\x00\x01\x00", wordOf(0), wordOf(1, 0), wordOf(0, 1), wordOf(1, 0, 1), wordOf(1, 2, 3, 4, 5, 6, 7, 8, 9), wordOf(1, 2, 3, 4, 5, 6, 7, 8) + "\x01", api.Word(strings.Repeat("a", 512)), api.Word(strings.Repeat("a", 516))}
}

// badSets may not be.
func badSets() []api.Set {
	l := []api.Set{nil, {}, {wordOf(2), wordOf(1)}, {wordOf(1), wordOf(1)}, {wordOf(1, 1), wordOf(2)}, full(17), full(256), full(257)}
	for _, w := range badWords() {
		l = append(l, api.Set{w}, api.Set{wordOf(1), w}, api.Set{w, wordOf(1, 2, 3, 4, 5, 6, 7, 8)})
	}
	return l
}

// P7.1

func TestZeroOutHasNoBytes(t *testing.T) {
	var o pack.Out
	for range 2 {
		if s, e := o.Done(); s != "" || e != api.OK {
			t.Errorf("%q, error %d", s, e)
		}
	}
	if s, e := new(pack.Out).Done(); s != "" || e != api.OK {
		t.Errorf("%q, error %d", s, e)
	}
}

func TestExampleIsWritten(t *testing.T) {
	s, e := set.Of(wordOf(1, 2), wordOf(8193))
	if e != api.OK {
		t.Fatal(e)
	}
	want := bytesOf(172, 2, 2, 97, 98, 2, 1, 32, 1, 2, 0, 1, 0, 2)
	wantWritten(t, "the example", want, func(o *pack.Out) {
		o.Num(300)
		o.Text("ab")
		o.Set(s)
	})
}

func TestNumIsWritten(t *testing.T) {
	for n, want := range map[int64]string{
		0: "\x00", 1: "\x01", 127: "\x7f", 128: "\x80\x01", 129: "\x81\x01", 255: "\xff\x01", 256: "\x80\x02", 16383: "\xff\x7f", 16384: "\x80\x80\x01",
		1<<56 - 1: "\xff\xff\xff\xff\xff\xff\xff\x7f", 1 << 56: "\x80\x80\x80\x80\x80\x80\x80\x80\x01",
		api.MaxNum - 1: "\xff\xff\xff\xff\xff\xff\xff\xff\x3f", api.MaxNum: "\x80\x80\x80\x80\x80\x80\x80\x80\x40",
	} {
		wantWritten(t, fmt.Sprint("Num ", n), want, func(o *pack.Out) { o.Num(n) })
	}
	for _, n := range numbers() {
		wantWritten(t, fmt.Sprint("Num ", n), modelNum(n), func(o *pack.Out) { o.Num(n) })
	}
}

func TestNumThatMayNotBe(t *testing.T) {
	for _, n := range []int64{-1, -2, -127, -128, -300, math.MinInt64, math.MinInt64 + 1, -api.MaxNum, api.MaxNum + 1, api.MaxNum + 128, math.MaxInt64} {
		wantUnwritten(t, fmt.Sprint("Num ", n), func(o *pack.Out) { o.Num(n) })
	}
}

func TestTextIsWritten(t *testing.T) {
	for _, s := range []string{"", "a", "ab", "\x00", "\xff\xfe", "äß", strings.Repeat("x", 127), strings.Repeat("x", 128), strings.Repeat("\x80", 20000)} {
		wantWritten(t, fmt.Sprintf("Text %.10q", s), modelText(s), func(o *pack.Out) { o.Text(s) })
	}
	wantWritten(t, "Text of 300 bytes", "\xac\x02"+strings.Repeat("y", 300), func(o *pack.Out) { o.Text(strings.Repeat("y", 300)) })
}

func TestWordIsWritten(t *testing.T) {
	wantWritten(t, "Word 8193", "\x01\x20\x01", func(o *pack.Out) { o.Word(wordOf(8193)) })
	wantWritten(t, "Word 1 2", "\x02\x00\x01\x00\x02", func(o *pack.Out) { o.Word(wordOf(1, 2)) })
	wantWritten(t, "Word of 8", "\x08"+string(wordOf(65535, 2, 3, 4, 5, 6, 256, 255)), func(o *pack.Out) { o.Word(wordOf(65535, 2, 3, 4, 5, 6, 256, 255)) })
	r := rand.New(rand.NewSource(2))
	for range 200 {
		w := someWord(r)
		wantWritten(t, fmt.Sprintf("Word %q", w), modelWord(w), func(o *pack.Out) { o.Word(w) })
	}
}

func TestWordThatMayNotBe(t *testing.T) {
	for _, w := range badWords() {
		wantUnwritten(t, fmt.Sprintf("Word %.20q", w), func(o *pack.Out) { o.Word(w) })
	}
}

func TestSetIsWritten(t *testing.T) {
	wantWritten(t, "Set of one", "\x01\x01\x00\x01", func(o *pack.Out) { o.Set(api.Set{wordOf(1)}) })
	wantWritten(t, "Set of 16", modelSet(full(16)), func(o *pack.Out) { o.Set(full(16)) })
	r := rand.New(rand.NewSource(3))
	for range 200 {
		s := someSet(r)
		wantWritten(t, fmt.Sprintf("Set %q", s), modelSet(s), func(o *pack.Out) { o.Set(s) })
	}
}

func TestSetThatMayNotBe(t *testing.T) {
	for _, s := range badSets() {
		wantUnwritten(t, fmt.Sprintf("Set %.60q", s), func(o *pack.Out) { o.Set(s) })
	}
}

// badWrites are calls that each meet an error.
func badWrites() []func(o *pack.Out) {
	return []func(o *pack.Out){
		func(o *pack.Out) { o.Num(-1) },
		func(o *pack.Out) { o.Num(api.MaxNum + 1) },
		func(o *pack.Out) { o.Word("\x01") },
		func(o *pack.Out) { o.Set(nil) },
		func(o *pack.Out) { o.Set(api.Set{wordOf(1), wordOf(0)}) },
	}
}

// goodWrites are calls that meet none.
func goodWrites() []func(o *pack.Out) {
	return []func(o *pack.Out){
		func(o *pack.Out) { o.Num(7) },
		func(o *pack.Out) { o.Text("t") },
		func(o *pack.Out) { o.Text("") },
		func(o *pack.Out) { o.Word(wordOf(1)) },
		func(o *pack.Out) { o.Set(api.Set{wordOf(1)}) },
	}
}

func TestOutKeepsItsError(t *testing.T) {
	for i, bad := range badWrites() {
		for j, good := range goodWrites() {
			what := fmt.Sprintf("bad %d, good %d", i, j)
			wantUnwritten(t, what+" ahead", func(o *pack.Out) { good(o); bad(o) })
			wantUnwritten(t, what+" behind", func(o *pack.Out) { bad(o); good(o) })
			wantUnwritten(t, what+", asked between", func(o *pack.Out) {
				good(o)
				bad(o)
				for range 2 {
					if s, e := o.Done(); s != "" || e != api.ErrForm {
						t.Errorf("%s: %q, error %d", what, s, e)
					}
				}
				good(o)
			})
		}
	}
}

func TestDoneTellsAllSoFar(t *testing.T) {
	var o pack.Out
	want := ""
	var told []string
	for k := range 200 {
		o.Num(int64(k))
		want += modelNum(int64(k))
		for range 2 {
			s, e := o.Done()
			if s != want || e != api.OK {
				t.Fatalf("behind %d: %q, error %d", k, s, e)
			}
			told = append(told, s)
		}
	}
	for k, s := range told {
		if !strings.HasPrefix(want, s) || len(s) < k/2 {
			t.Fatalf("what was told is something else later: %q", s)
		}
	}
}

func TestOutsAreApart(t *testing.T) {
	var a, b, c pack.Out
	a.Num(1)
	b.Num(-1)
	c.Num(3)
	a.Text("a")
	c.Word(wordOf(5))
	if s, e := a.Done(); s != "\x01\x01a" || e != api.OK {
		t.Errorf("%q, error %d", s, e)
	}
	if s, e := b.Done(); s != "" || e != api.ErrForm {
		t.Errorf("%q, error %d", s, e)
	}
	if s, e := c.Done(); s != "\x03\x01\x00\x05" || e != api.OK {
		t.Errorf("%q, error %d", s, e)
	}
}

func TestSetIsNotKeptNorChanged(t *testing.T) {
	r := rand.New(rand.NewSource(4))
	for range 50 {
		s := someSet(r)
		before := slices.Clone(s)
		var o pack.Out
		o.Set(s)
		if !slices.Equal(s, before) {
			t.Fatalf("%q became %q", before, s)
		}
		clear(s)
		if got, e := o.Done(); got != modelSet(before) || e != api.OK {
			t.Fatalf("%q, error %d, when the set was cleared", got, e)
		}
	}
	bad := api.Set{wordOf(2), wordOf(1), wordOf(2)}
	var o pack.Out
	o.Set(bad)
	if !slices.Equal(bad, api.Set{wordOf(2), wordOf(1), wordOf(2)}) {
		t.Errorf("a set that may not be became %q", bad)
	}
}

// P7.2

func TestExampleIsRead(t *testing.T) {
	i := pack.From(bytesOf(172, 2, 2, 97, 98, 2, 1, 32, 1, 2, 0, 1, 0, 2))
	if n := i.Left(); n != 14 {
		t.Errorf("%d left", n)
	}
	if n := i.Num(300); n != 300 {
		t.Errorf("%d", n)
	}
	if s, n := i.Text(2), i.Left(); s != "ab" || n != 9 {
		t.Errorf("%q, %d left", s, n)
	}
	if s, n := i.Set(), i.Left(); !slices.Equal(s, api.Set{wordOf(8193), wordOf(1, 2)}) || n != 0 {
		t.Errorf("%q, %d left", s, n)
	}
	if e := i.Done(); e != api.OK {
		t.Errorf("error %d", e)
	}
	wantNeither(t, num(api.MaxNum), "\x80\x00")
	wantUnread(t, num(5), "\x06")
}

func TestNumIsRead(t *testing.T) {
	for _, n := range numbers() {
		for _, most := range []int64{n, n + 1, api.MaxNum, math.MaxInt64} {
			wantRead(t, num(most), modelNum(n), fmt.Sprint(n))
		}
		for _, most := range []int64{n - 1, n / 2, -1, math.MinInt64} {
			if most < n {
				wantNeither(t, num(most), modelNum(n))
			}
		}
	}
}

func TestNumInOneWayOnly(t *testing.T) {
	// What may be above MaxNum in nine bytes, what goes on behind nine, and what has a last byte of 0.
	eight := strings.Repeat("\x80", 8)
	ones := strings.Repeat("\xff", 8)
	for _, b := range []string{
		"\x80\x00", "\x81\x00", "\xff\x00", "\x80\x80\x00", "\xff\xff\x00", eight + "\x00", ones + "\x00",
		eight + "\x41", "\x81" + eight[1:] + "\x40", ones + "\x40", ones + "\x7f", eight + "\x7f",
		eight + "\x80\x00", eight + "\x80\x01", eight + "\xc0\x00", ones + "\xff\x01", eight + "\x80\x80\x80\x80\x01", strings.Repeat("\x80", 9*7) + "\x01", strings.Repeat("\xff", 1000), strings.Repeat("\x80", 1000) + "\x01",
	} {
		for _, most := range []int64{api.MaxNum, math.MaxInt64, 0} {
			wantNeither(t, num(most), b)
		}
		wantNeither(t, text(math.MaxInt), b)
	}
	for _, b := range []string{"", "\x80", "\xff", "\xff\xff", eight, ones} {
		wantUnread(t, num(api.MaxNum), b)
		wantUnread(t, text(math.MaxInt), b)
	}
}

// All texts of up to two bytes, and some of three, are read just as a model's table tells.
func TestNumOfAllShortBytes(t *testing.T) {
	table := map[string]int64{}
	for _, third := range []int64{0, 1, 127} {
		for n := third << 14; n < (third+1)<<14; n++ {
			table[modelNum(n)] = n
		}
	}
	look := func(b string) {
		i := pack.From(b)
		got := i.Num(api.MaxNum)
		e := i.Done()
		if n, is := table[b]; is && (got != n || e != api.OK) || !is && e != api.ErrForm {
			t.Fatalf("%q: %d, error %d", b, got, e)
		}
	}
	for x := range 256 {
		look(bytesOf(byte(x)))
		for y := range 256 {
			look(bytesOf(byte(x), byte(y)))
			for _, z := range []byte{0, 1, 127, 128, 129, 255} {
				look(bytesOf(byte(x), byte(y), z))
			}
		}
	}
}

func TestTextIsRead(t *testing.T) {
	for _, s := range []string{"", "a", "ab", "\x00\xff", strings.Repeat("x", 127), strings.Repeat("x", 128), strings.Repeat("y", 300)} {
		for _, most := range []int{len(s), len(s) + 1, 1000, math.MaxInt} {
			wantRead(t, text(most), modelText(s), fmt.Sprintf("%q", s))
		}
		for _, most := range []int{len(s) - 1, -1, math.MinInt} {
			wantNeither(t, text(most), modelText(s))
		}
	}
}

func TestTextThatIsNone(t *testing.T) {
	for _, b := range []string{"", "\x01", "\x02a", "\x80", "\x80\x01a", "\x05abcd", modelNum(api.MaxNum), modelNum(api.MaxNum) + "abc", modelNum(1<<32) + "abc", modelNum(1<<32+1) + "abc", modelNum(api.MaxNum+1) + "abc", modelNum(math.MaxInt64) + "abc"} {
		wantUnread(t, text(math.MaxInt), b)
		wantUnread(t, text(math.MaxInt-1), b)
	}
	wantNeither(t, text(math.MaxInt), "\x82\x00ab")
	wantNeither(t, text(math.MaxInt), "\x80\x00")
}

func TestWordIsRead(t *testing.T) {
	wantRead(t, aWord(), "\x01\x20\x01", fmt.Sprintf("%q", wordOf(8193)))
	r := rand.New(rand.NewSource(5))
	for range 200 {
		w := someWord(r)
		wantReadWhole(t, aWord(), modelWord(w), fmt.Sprintf("%q", w))
	}
}

func TestWordThatIsNone(t *testing.T) {
	for _, b := range []string{"\x00", "\x01\x00\x00", "\x02\x00\x01\x00\x00", "\x02\x00\x00\x00\x01", "\x81\x00" + strings.Repeat("a", 2), "\x09" + strings.Repeat("a", 18), "\x80" + strings.Repeat("a", 256), "\x81" + strings.Repeat("a", 258), "\xff" + strings.Repeat("a", 510)} {
		wantNeither(t, aWord(), b)
	}
}

func TestSetIsRead(t *testing.T) {
	wantRead(t, aSet(), modelSet(full(16)), fmt.Sprintf("%q", full(16)))
	r := rand.New(rand.NewSource(6))
	for range 100 {
		s := someSet(r)
		wantReadWhole(t, aSet(), modelSet(s), fmt.Sprintf("%q", s))
	}
}

func TestSetThatIsNone(t *testing.T) {
	for _, b := range []string{
		"\x00", "\x00\x01\x00\x01",
		"\x02\x01\x00\x02\x01\x00\x01", "\x02\x01\x00\x01\x01\x00\x01", "\x02\x02\x00\x01\x00\x01\x01\x00\x02",
		"\x01\x00", "\x01\x01\x00\x00", "\x02\x01\x00\x01\x00", "\x01\x09" + strings.Repeat("a", 18), "\x81\x00\x01\x00\x01",
		modelSet(full(17)), modelSet(full(128)), modelSet(full(255)),
	} {
		wantNeither(t, aSet(), b)
	}
}

func TestLeftCountsDown(t *testing.T) {
	i := pack.From("\xac\x02\x02ab\x01\x00\x01\x01\x01\x00\x01\x80")
	for k, step := range []struct {
		c    call
		left int
	}{{num(300), 11}, {text(2), 8}, {aWord(), 5}, {aSet(), 1}, {num(api.MaxNum), 0}} {
		step.c.read(i)
		if n := i.Left(); n != step.left {
			t.Errorf("behind call %d: %d left, not %d", k, n, step.left)
		}
		if n := i.Left(); n != step.left {
			t.Errorf("behind call %d: asked again %d left, not %d", k, n, step.left)
		}
	}
	wantStopped(t, "at the end", i)
}

func TestInKeepsItsError(t *testing.T) {
	// Each call's bytes are right for the calls behind it, so that only the error can stop them.
	for _, bad := range []struct {
		c call
		b string
	}{{num(0), "\x01"}, {num(api.MaxNum), "\x80\x00"}, {text(0), "\x01"}, {aWord(), "\x00"}, {aSet(), "\x00"}, {aSet(), "\x01\x00"}} {
		for _, behind := range []string{"", "\x01\x01\x00\x01", "\x00", "\x01a"} {
			i := pack.From("\x07" + bad.b + behind)
			if n := i.Num(7); n != 7 {
				t.Fatalf("%d", n)
			}
			if got := bad.c.read(i); got != bad.c.zero {
				t.Errorf("%s of %q: %s", bad.c.what, bad.b, got)
			}
			if n := i.Left(); n != 0 {
				t.Errorf("%s of %q: %d left", bad.c.what, bad.b, n)
			}
			wantStopped(t, fmt.Sprintf("%s of %q", bad.c.what, bad.b), i)
		}
	}
}

func TestDoneOfIn(t *testing.T) {
	i := pack.From("")
	if n, e := i.Left(), i.Done(); n != 0 || e != api.OK {
		t.Errorf("nothing: %d left, error %d", n, e)
	}
	if e := i.Done(); e != api.OK {
		t.Errorf("nothing, again: error %d", e)
	}
	// Reading goes on behind a Done without an error: the bytes end there.
	i.Num(api.MaxNum)
	wantStopped(t, "a number of nothing", i)

	for _, s := range []string{"\x00", "\x01\x01\x00\x01"} {
		i = pack.From(s)
		if e := i.Done(); e != api.ErrForm {
			t.Errorf("%q left: error %d", s, e)
		}
		wantStopped(t, "left bytes", i)
	}
	i = pack.From("\x05\x06")
	if n, e := i.Num(5), i.Done(); n != 5 || e != api.ErrForm {
		t.Errorf("%d, error %d", n, e)
	}
	wantStopped(t, "a left byte", i)
}

func TestInsAreApart(t *testing.T) {
	s := "\x01\x02\x03"
	a, b, c := pack.From(s), pack.From(s), pack.From(s)
	if a.Num(1) != 1 || b.Num(0) != 0 || c.Num(9) != 1 || a.Num(2) != 2 || b.Num(9) != 0 || c.Num(9) != 2 {
		t.Error("one's place is another one's")
	}
	if a.Left() != 1 || b.Left() != 0 || c.Left() != 1 || b.Done() != api.ErrForm || c.Num(3) != 3 || c.Done() != api.OK || a.Num(3) != 3 || a.Done() != api.OK {
		t.Error("one's error is another one's")
	}
}

func TestReadSetsAreApart(t *testing.T) {
	want := full(3)
	b := modelSet(want) + modelSet(want)
	i := pack.From(b)
	x := i.Set()
	for k := range x {
		x[k] = wordOf(9)
	}
	_ = append(x, wordOf(9), wordOf(9), wordOf(9), wordOf(9))
	if y := i.Set(); !slices.Equal(y, want) || i.Done() != api.OK {
		t.Errorf("%q", y)
	}
	if y := pack.From(modelSet(want)).Set(); !slices.Equal(y, want) {
		t.Errorf("%q", y)
	}
}

// P7.3

// both is a call that writes, the one that reads it, and what that one must tell.
type both struct {
	write func(o *pack.Out)
	read  call
	want  string
	bytes string
}

func some(r *rand.Rand) both {
	switch r.Intn(4) {
	case 0:
		n := r.Int63n(api.MaxNum) >> r.Intn(62)
		return both{func(o *pack.Out) { o.Num(n) }, num(n + int64(r.Intn(3))), fmt.Sprint(n), modelNum(n)}
	case 1:
		s := strings.Repeat(string(rune('a'+r.Intn(26))), r.Intn(200))
		return both{func(o *pack.Out) { o.Text(s) }, text(len(s) + r.Intn(3)), fmt.Sprintf("%q", s), modelText(s)}
	case 2:
		w := someWord(r)
		return both{func(o *pack.Out) { o.Word(w) }, aWord(), fmt.Sprintf("%q", w), modelWord(w)}
	}
	s := someSet(r)
	return both{func(o *pack.Out) { o.Set(s) }, aSet(), fmt.Sprintf("%q", s), modelSet(s)}
}

func TestThereAndBack(t *testing.T) {
	r := rand.New(rand.NewSource(7))
	for range 500 {
		var l []both
		var o pack.Out
		want := ""
		for range r.Intn(12) {
			b := some(r)
			b.write(&o)
			want += b.bytes
			l = append(l, b)
		}
		s, e := o.Done()
		if s != want || e != api.OK {
			t.Fatalf("written %q, error %d, not %q", s, e, want)
		}
		i := pack.From(s)
		for _, b := range l {
			if got := b.read.read(i); got != b.want {
				t.Fatalf("%s: %s, not %s", b.read.what, got, b.want)
			}
			want = want[len(b.bytes):]
			if i.Left() != len(want) {
				t.Fatalf("%s: %d left, not %d", b.read.what, i.Left(), len(want))
			}
		}
		if e := i.Done(); e != api.OK {
			t.Fatalf("error %d", e)
		}
	}
}

// rewritten is what comes of writing what a call reads from bytes: the bytes, if it reads them to their end.
func rewritten(b string) [4]string {
	var l [4]string
	for k := range l {
		i := pack.From(b)
		var o pack.Out
		switch k {
		case 0:
			o.Num(i.Num(api.MaxNum))
		case 1:
			o.Text(i.Text(math.MaxInt))
		case 2:
			o.Word(i.Word())
		case 3:
			o.Set(i.Set())
		}
		s, e := o.Done()
		if i.Done() != api.OK {
			l[k] = "none"
		} else if e != api.OK {
			l[k] = "read, but not to be written"
		} else {
			l[k] = s
		}
	}
	return l
}

// What is read from bytes has just those bytes: so nothing has two ways, and unlike things have unlike bytes.
func TestOneWayOnly(t *testing.T) {
	r := rand.New(rand.NewSource(8))
	hits := [4]int{}
	look := func(b string) {
		for k, s := range rewritten(b) {
			if s == "none" {
				continue
			}
			hits[k]++
			if s != b {
				t.Fatalf("kind %d of %q is written %q", k, b, s)
			}
		}
	}
	for range 3000 {
		b := []byte(some(r).bytes)
		look(string(b))
		for range 3 {
			b[r.Intn(len(b))] ^= 1 << r.Intn(8)
			look(string(b))
		}
		look(string(b[:r.Intn(len(b))]))
		look(string(b) + "\x00")
	}
	for x := range 1 << 16 {
		look(bytesOf(byte(x>>8), byte(x)))
		look(bytesOf(1, byte(x>>8), byte(x)))
		look(bytesOf(1, 1, byte(x>>8), byte(x)))
	}
	for k, n := range hits {
		if n < 500 {
			t.Errorf("kind %d was read only %d times", k, n)
		}
	}
}

func TestSameCallsAnswerTheSame(t *testing.T) {
	r := rand.New(rand.NewSource(9))
	for range 100 {
		b := []byte(some(r).bytes)
		b[r.Intn(len(b))] ^= byte(r.Intn(2))
		if x, y := rewritten(string(b)), rewritten(string(b)); x != y {
			t.Fatalf("%q: %q, then %q", b, x, y)
		}
	}
}

// Long texts, and many calls, take no more than they must.
func TestGreatOnes(t *testing.T) {
	long := strings.Repeat("z", 20_000_000)
	var o pack.Out
	o.Text(long)
	for range 1_000_000 {
		o.Num(300)
	}
	s, e := o.Done()
	if len(s) != 4+len(long)+2_000_000 || e != api.OK {
		t.Fatalf("%d bytes, error %d", len(s), e)
	}
	i := pack.From(s)
	if i.Text(len(long)) != long {
		t.Fatal("a long text isn't read back")
	}
	for range 1_000_000 {
		if i.Num(300) != 300 {
			t.Fatal("a number isn't read back")
		}
	}
	if e := i.Done(); e != api.OK {
		t.Fatalf("error %d", e)
	}
	wantUnwritten(t, "a great set", func(o *pack.Out) { o.Set(make(api.Set, 5_000_000)) })
	wantUnwritten(t, "a great word", func(o *pack.Out) { o.Word(api.Word(long)) })
}
