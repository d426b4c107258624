package token_test

import (
	"math"
	"regexp"
	"slices"
	"strings"
	"testing"

	"attorney/api"
	"attorney/token"
)

func atomOf(of int, name string) api.Token {
	return api.Token{Kind: api.TokAtom, Of: of, Name: name}
}

func num(digits string) api.Token { return api.Token{Kind: api.TokNum, Name: digits} }

func sign(s string) api.Token { return api.Token{Kind: api.TokSign, Name: s} }

func bare(kind int) api.Token { return api.Token{Kind: kind} }

// placeless is the tokens without their places.
func placeless(l []api.Token) []api.Token {
	out := slices.Clone(l)
	for i := range out {
		out[i].At = 0
	}
	return out
}

// wantRead holds All to tokens, each with where it begins.
func wantRead(t *testing.T, text string, want ...api.Token) {
	t.Helper()
	l, at, e := token.All(text)
	if !slices.Equal(l, want) || at != 0 || e != api.OK {
		t.Errorf("All(%q): %v, %d, error %d, not %v", text, l, at, e, want)
	}
}

// wantRefused holds All to an error and its place.
func wantRefused(t *testing.T, text string, at int, e api.Errno) {
	t.Helper()
	l, gotAt, got := token.All(text)
	if len(l) != 0 || gotAt != at || got != e {
		t.Errorf("All(%.60q): %d tokens, %d, error %d, not %d, error %d", text, len(l), gotAt, got, at, e)
	}
}

func placed(x api.Token, at int) api.Token {
	x.At = at
	return x
}

func TestExamples(t *testing.T) {
	wantRead(t, "key:k1|alice as role:r # x",
		placed(atomOf(api.Key, "k1"), 0), placed(bare(api.TokQuote), 6), placed(atomOf(api.Name, "alice"), 7), placed(bare(api.TokAs), 13), placed(atomOf(api.Role, "r"), 16))
	wantRead(t, "a b)", placed(atomOf(api.Name, "a"), 0), placed(atomOf(api.Name, "b"), 2), placed(bare(api.TokClose), 3))
	for _, text := range []string{"K", "12a", "role:R"} {
		wantRefused(t, text, 0, api.ErrForm)
	}
}

// P4.1

var (
	blanksModel = regexp.MustCompile(`^(?:[ \t\n]|#[^\n]*)*`)
	signModel   = regexp.MustCompile(`^(?:(key|chan|group|role):([a-z][a-z0-9.-]*)|([a-z][a-z0-9.-]*)|(D)|([0-9]+)|([|()])|([=,;<>!?*]))`)
	tightModel  = regexp.MustCompile(`^[a-zA-Z0-9.:-]`)
)

// modelToken is the token that signModel's parts of a text make, and whether something may not stick to it.
func modelToken(m []string) (api.Token, bool) {
	kinds := map[string]int{"key": api.Key, "chan": api.Channel, "group": api.Group, "role": api.Role}
	fixed := map[string]int{"and": api.TokAnd, "for": api.TokFor, "as": api.TokAs, "|": api.TokQuote, "(": api.TokOpen, ")": api.TokClose}
	switch {
	case m[1] != "":
		return atomOf(kinds[m[1]], m[2]), true
	case m[3] != "" && fixed[m[3]] != 0:
		return bare(fixed[m[3]]), true
	case m[3] != "":
		return atomOf(api.Name, m[3]), true
	case m[4] != "":
		return atomOf(api.Reserved, "D"), true
	case m[5] != "":
		return num(m[5]), true
	case m[6] != "":
		return bare(fixed[m[6]]), false
	}
	return sign(m[7]), false
}

func modelRead(text string) ([]api.Token, int, api.Errno) {
	var l []api.Token
	at := 0
	for {
		at += len(blanksModel.FindString(text[at:]))
		if at == len(text) {
			return l, 0, api.OK
		}
		m := signModel.FindStringSubmatch(text[at:])
		if m == nil {
			return nil, at, api.ErrForm
		}
		x, tight := modelToken(m)
		long := x.Kind == api.TokAtom && len(x.Name) > 24
		wrong := x.Kind == api.TokNum && (len(x.Name) > 9 || len(x.Name) > 1 && x.Name[0] == '0')
		if long || wrong || tight && tightModel.MatchString(text[at+len(m[0]):]) {
			return nil, at, api.ErrForm
		}
		if len(l) == 1000 {
			return nil, at, api.ErrMany
		}
		l = append(l, placed(x, at))
		at += len(m[0])
	}
}

func wantModel(t *testing.T, text string) {
	t.Helper()
	want, at, e := modelRead(text)
	if e == api.OK {
		wantRead(t, text, want...)
	} else {
		wantRefused(t, text, at, e)
	}
}

func TestEachTokenAlone(t *testing.T) {
	long := "abcdefghij-0123456789.xy" // MaxSay bytes
	for text, want := range map[string]api.Token{
		"and": bare(api.TokAnd), "for": bare(api.TokFor), "as": bare(api.TokAs), "|": bare(api.TokQuote), "(": bare(api.TokOpen), ")": bare(api.TokClose),
		"D": atomOf(api.Reserved, "D"), "a": atomOf(api.Name, "a"), "z": atomOf(api.Name, "z"), "a.-9": atomOf(api.Name, "a.-9"), "a-": atomOf(api.Name, "a-"), "a.": atomOf(api.Name, "a."), "d": atomOf(api.Name, "d"), long: atomOf(api.Name, long),
		"an": atomOf(api.Name, "an"), "ands": atomOf(api.Name, "ands"), "as-": atomOf(api.Name, "as-"), "for1": atomOf(api.Name, "for1"), "key": atomOf(api.Name, "key"), "chan": atomOf(api.Name, "chan"), "group": atomOf(api.Name, "group"), "role": atomOf(api.Name, "role"),
		"key:k": atomOf(api.Key, "k"), "chan:c": atomOf(api.Channel, "c"), "group:g": atomOf(api.Group, "g"), "role:r": atomOf(api.Role, "r"), "key:key": atomOf(api.Key, "key"), "role:and": atomOf(api.Role, "and"), "group:for": atomOf(api.Group, "for"), "chan:as": atomOf(api.Channel, "as"), "key:" + long: atomOf(api.Key, long), "group:" + long: atomOf(api.Group, long),
		"0": num("0"), "9": num("9"), "10": num("10"), "123456789": num("123456789"), "999999999": num("999999999"), "100000000": num("100000000"),
		"=": sign("="), ",": sign(","), ";": sign(";"), "<": sign("<"), ">": sign(">"), "!": sign("!"), "?": sign("?"), "*": sign("*"),
	} {
		wantRead(t, text, want)
		wantRead(t, " \t\n"+text+"\n", placed(want, 3))
		wantRead(t, "# and\n"+text+"#\xff é D", placed(want, 6))
		wantRead(t, text+" "+text+"\t"+text+"\n"+text, want, placed(want, len(text)+1), placed(want, 2*len(text)+2), placed(want, 3*len(text)+3))
	}
}

func TestTextsWithoutTokens(t *testing.T) {
	for _, text := range []string{"", " ", "\t", "\n", "#", "# a", "#a\n", "#\n#\n", " \t\n # ( é \xff\n\t", "##", "#\r"} {
		wantRead(t, text)
	}
}

func TestEachByteAlone(t *testing.T) {
	for i := range 256 {
		text := string([]byte{byte(i)})
		wantModel(t, text)
		wantModel(t, "= "+text)
		wantModel(t, "#"+text+"a")
	}
	for _, r := range []rune{0x80, 0xe9, 0x3b1, 0x2028, 0xff10, 0xff41, 0xfffd, 0x1f600} {
		wantRefused(t, string(r), 0, api.ErrForm)
		wantRefused(t, "a "+string(r), 2, api.ErrForm)
		wantRead(t, "#"+string(r)+"\na", placed(atomOf(api.Name, "a"), 2+len(string(r))))
	}
}

func TestNoSignStandsThere(t *testing.T) {
	for _, c := range []struct {
		text string
		at   int
	}{
		{"K", 0}, {"A", 0}, {"E", 0}, {"-", 0}, {"-a", 0}, {".a", 0}, {":", 0}, {":a", 0}, {"a :b", 2}, {"key :k", 4}, {"\r", 0}, {"a\r\n", 1}, {"a\vb", 1}, {"\x00", 0}, {"a\x00", 1},
		{"\"a\"", 0}, {"(&)", 1}, {"a+b", 1}, {"a/b", 1}, {"a_b", 1}, {"[", 0}, {"a @", 2}, {"a\xff", 1}, {"\xff", 0}, {"(é)", 1}, {"  # x\n ~", 7}, {"1 2 K 12a", 4},
	} {
		wantRefused(t, c.text, c.at, api.ErrForm)
	}
}

func TestWhatMayNotStandBehind(t *testing.T) {
	for _, head := range []string{"a", "and", "for", "as", "key:k", "role:and", "key", "D", "0", "7", "123456789"} {
		for i := range 256 {
			c := string([]byte{byte(i)})
			wantModel(t, head+c)
			wantModel(t, "( "+head+c+"a")
		}
		for _, c := range []string{"A", "Z", ":", "K:k", ":A", ":1", ":-", ":.", ":|", ": k", "::"} {
			wantRefused(t, "# \n "+head+c, 4, api.ErrForm)
		}
	}
	for _, head := range []string{"D", "0", "7", "123456789"} {
		for _, c := range []string{"a", "z", "-", ".", "D", "and", "key:k", ":k"} {
			wantRefused(t, head+c, 0, api.ErrForm)
		}
	}
	for _, text := range []string{"D0", "DD", "00", "01", "1D", "key:k1:k2", "chan:chan:c", "name:a", "keys:a", "ke:a", "D:a", "and:a", "key:", "key:1", "role:R"} {
		wantRefused(t, text, 0, api.ErrForm)
	}
}

func TestSignsNeedNothingBehind(t *testing.T) {
	for _, s := range []string{"|", "(", ")", "=", ",", ";", "<", ">", "!", "?", "*"} {
		head, _, _ := token.All(s)
		for _, behind := range []string{"a", "D", "7", "key:k", "(", "*", "and"} {
			tail, _, _ := token.All(behind)
			wantRead(t, s+behind, head[0], placed(tail[0], 1))
			wantRead(t, behind+s, tail[0], placed(head[0], len(behind)))
		}
		for _, behind := range []string{"A", "-", ".", ":"} {
			wantRefused(t, s+behind, 1, api.ErrForm)
		}
	}
}

func TestNamesAndDigitsThatAreTooLong(t *testing.T) {
	name := strings.Repeat("n", api.MaxSay)
	for _, prefix := range []string{"", "key:", "chan:", "group:", "role:"} {
		wantModel(t, prefix+name)
		for _, c := range []string{"n", "0", "-", ".", strings.Repeat("x", 2000)} {
			wantRefused(t, "a "+prefix+name+c, 2, api.ErrForm)
		}
	}
	wantRefused(t, name+"n:k", 0, api.ErrForm)
	for _, digits := range []string{"1234567890", "0000000000", "000000001", "00", "09", strings.Repeat("1", 4000)} {
		wantRefused(t, digits, 0, api.ErrForm)
	}
}

func TestTheFirstFaultIsTold(t *testing.T) {
	wantRefused(t, "a 01 K", 2, api.ErrForm)
	wantRefused(t, "a K 01", 2, api.ErrForm)
	many := strings.Repeat("=", 1000)
	wantRefused(t, many+"K", 1000, api.ErrForm)
	wantRefused(t, many+" \n01", 1002, api.ErrForm)
	wantRefused(t, many+"aB", 1000, api.ErrForm)
	wantRefused(t, many+" a K", 1001, api.ErrMany)
	wantRefused(t, many[:999]+"K=", 999, api.ErrForm)
}

func TestHowManyTokens(t *testing.T) {
	l, at, e := token.All(strings.Repeat("a ", 1000) + "# b")
	if len(l) != 1000 || at != 0 || e != api.OK {
		t.Fatalf("%d tokens, %d, error %d", len(l), at, e)
	}
	for i, x := range l {
		if x != placed(atomOf(api.Name, "a"), 2*i) {
			t.Fatalf("the token %d: %v", i, x)
		}
	}
	wantRefused(t, strings.Repeat("a ", 1001), 2000, api.ErrMany)
	wantRefused(t, strings.Repeat("(", 1001), 1000, api.ErrMany)
	wantRefused(t, strings.Repeat("(", 1000)+"#\n\t a", 1004, api.ErrMany)
	wantRefused(t, strings.Repeat("(", 2500), 1000, api.ErrMany)
}

func TestHowManyBytes(t *testing.T) {
	for _, n := range []int{3999, 4000} {
		wantRead(t, strings.Repeat(" ", n))
		wantRead(t, strings.Repeat("\n", n-1)+"D", placed(atomOf(api.Reserved, "D"), n-1))
		wantRead(t, "#"+strings.Repeat("é\xff", (n-1)/3))
	}
	for _, n := range []int{4001, 4002, 1 << 20} {
		wantRefused(t, strings.Repeat(" ", n), 0, api.ErrMany)
		wantRefused(t, strings.Repeat(" ", n-1)+"K", 0, api.ErrMany)
		wantRefused(t, strings.Repeat("=", n), 0, api.ErrMany)
		wantRefused(t, strings.Repeat("K", n), 0, api.ErrMany)
	}
	wantRefused(t, strings.Repeat("é", 2000), 0, api.ErrForm)
	wantRefused(t, strings.Repeat("é", 2001), 0, api.ErrMany)
}

func TestAllTextsOfSomePieces(t *testing.T) {
	pieces := []string{"a", "as", "for", "key:", "role", ":", "D", "K", "0", "10", "-", ".", "|", "(", "*", " ", "\n", "#", "é", "\xc3"}
	var check func(text string, more int)
	check = func(text string, more int) {
		wantModel(t, text)
		for _, p := range pieces {
			if more > 0 {
				check(text+p, more-1)
			}
		}
	}
	check("", 4)
}

// P4.2

// allTokens is each token of such parts, those that may not be too.
func allTokens() []api.Token {
	names := []string{"", "D", "d", "a", "and", "for", "as", "an", "|", "(", ")", "key", "key:", "key:a", "role:r", "a b", " a", "a ", "aB", "é", "a\xff", "a:", "-a", "9a",
		strings.Repeat("n", api.MaxSay), strings.Repeat("n", api.MaxSay+1), "0", "00", "01", "7", "10", "123456789", "1234567890", "1 ", "-1", "1.", "=", ",", ";", "<", ">", "!", "?", "*", "=,", "==", "<>", "#", "&", "\n", ":", "\x00", "\xff"}
	kinds := []int{math.MinInt, -1, api.TokEnd, api.TokAtom, api.TokAnd, api.TokFor, api.TokQuote, api.TokAs, api.TokOpen, api.TokClose, api.TokNum, api.TokSign, 10, 11, 1 << 32, math.MaxInt}
	ofs := []int{math.MinInt, -1, api.Reserved, api.Key, api.Channel, api.Name, api.Group, api.Role, api.Kinds, 7, 1 << 32, math.MaxInt}
	var l []api.Token
	for _, kind := range kinds {
		for _, of := range ofs {
			for _, name := range names {
				l = append(l, api.Token{Kind: kind, Of: of, Name: name})
			}
		}
	}
	return l
}

func TestWordOfEachToken(t *testing.T) {
	may := 0
	for _, x := range allTokens() {
		want := ""
		// A token is written as it can be read: so what is written is looked for among what its parts could make.
		for _, text := range []string{x.Name, "key:" + x.Name, "chan:" + x.Name, "group:" + x.Name, "role:" + x.Name, "and", "for", "as", "|", "(", ")"} {
			if l, _, e := modelRead(text); e == api.OK && len(l) == 1 && l[0] == x && strings.TrimSpace(text) == text {
				want = text
			}
		}
		if want != "" {
			may++
		}
		for _, at := range []int{0, 1, -1, math.MaxInt} {
			if got := token.Word(placed(x, at)); got != want {
				t.Errorf("Word(%v): %q, not %q", x, got, want)
			}
		}
	}
	// D, eight names of four kinds and five of the kind Name, numbers, signs, and those that are always written in one way.
	if may != 1+4*8+5+4+8+6 {
		t.Errorf("%d of them may be", may)
	}
}

func TestWordOfNoToken(t *testing.T) {
	for _, x := range []api.Token{
		{}, bare(api.TokAtom), bare(api.TokNum), bare(api.TokSign), {Name: "a"}, {Name: "and", Of: api.Name},
		atomOf(api.Name, "and"), atomOf(api.Name, "for"), atomOf(api.Name, "as"), atomOf(api.Name, "D"), atomOf(api.Key, "D"), atomOf(api.Key, ""), atomOf(api.Name, "A"), atomOf(api.Name, strings.Repeat("a", 1<<20)),
		atomOf(api.Reserved, "a"), atomOf(api.Reserved, ""), atomOf(api.Reserved, "DD"), atomOf(api.Kinds, "a"), atomOf(-1, "a"),
		num("x"), num("01"), num("1234567890"), num(strings.Repeat("1", 1<<20)), num("="), sign("1"), sign("("), sign("|"), sign("=="), sign("a"), sign("\xff"),
	} {
		if got := token.Word(x); got != "" {
			t.Errorf("Word(%v): %q", x, got)
		}
	}
}

func TestWordOfATokenWithMoreThanItHas(t *testing.T) {
	for _, x := range []api.Token{{Kind: api.TokAnd, Name: "and"}, {Kind: api.TokOpen, Name: "a"}, {Kind: api.TokQuote, Of: api.Name}, {Kind: api.TokNum, Name: "1", Of: api.Key}, {Kind: api.TokSign, Name: "=", Of: -1}} {
		if got := token.Word(x); got != "" {
			t.Errorf("Word(%v): %q", x, got)
		}
	}
}

func wantText(t *testing.T, l []api.Token, want string, e api.Errno) {
	t.Helper()
	if got, gotE := token.Text(l); got != want || gotE != e {
		t.Errorf("Text of %d tokens: %.60q, error %d, not %.60q, error %d", len(l), got, gotE, want, e)
	}
}

func TestText(t *testing.T) {
	wantText(t, nil, "", api.OK)
	wantText(t, []api.Token{}, "", api.OK)
	wantText(t, []api.Token{num("0")}, "0", api.OK)
	wantText(t, []api.Token{
		bare(api.TokOpen), atomOf(api.Key, "k1"), bare(api.TokQuote), atomOf(api.Reserved, "D"), bare(api.TokClose), bare(api.TokFor), atomOf(api.Channel, "and"), bare(api.TokAs), atomOf(api.Role, "r"), bare(api.TokAnd), atomOf(api.Group, "g"), atomOf(api.Name, "key"), sign(";"), num("12"), num("3"), sign("<"), sign("="),
	}, "( key:k1 | D ) for chan:and as role:r and group:g key ; 12 3 < =", api.OK)
	wantText(t, []api.Token{placed(sign("="), -7), placed(sign(","), math.MaxInt), placed(num("5"), 3)}, "= , 5", api.OK)
}

func TestTextOfWrongTokens(t *testing.T) {
	good := atomOf(api.Name, "a")
	for _, bad := range []api.Token{{}, bare(api.TokEnd), bare(api.TokAtom), atomOf(api.Name, "as"), atomOf(api.Key, "K"), num("07"), sign("#"), bare(10), bare(-1)} {
		for i := range 3 {
			l := []api.Token{good, good, good}
			l[i] = bad
			wantText(t, l, "", api.ErrForm)
		}
		wantText(t, []api.Token{bad}, "", api.ErrForm)
	}
}

func TestTextAtItsLimits(t *testing.T) {
	full := slices.Repeat([]api.Token{bare(api.TokAnd)}, 1000) // 3999 bytes
	wantText(t, full, strings.Repeat(" and", 1000)[1:], api.OK)
	full[500] = atomOf(api.Name, "four")
	if got, e := token.Text(full); len(got) != 4000 || e != api.OK {
		t.Errorf("%d bytes, error %d", len(got), e)
	}
	full[999] = atomOf(api.Name, "four")
	wantText(t, full, "", api.ErrForm)

	wantText(t, slices.Repeat([]api.Token{sign("=")}, 1000), strings.Repeat(" =", 1000)[1:], api.OK)
	wantText(t, slices.Repeat([]api.Token{sign("=")}, 1001), "", api.ErrMany)
	wantText(t, slices.Repeat([]api.Token{atomOf(api.Name, "five5")}, 1001), "", api.ErrMany)
	wantText(t, make([]api.Token, 1001), "", api.ErrMany)
	wantText(t, make([]api.Token, 1000), "", api.ErrForm)
	wantText(t, make([]api.Token, 1<<20), "", api.ErrMany)
	long := slices.Repeat([]api.Token{atomOf(api.Group, strings.Repeat("n", api.MaxSay))}, 1000)
	wantText(t, long, "", api.ErrForm)
	wantText(t, long[:129], strings.Repeat(" group:"+strings.Repeat("n", api.MaxSay), 129)[1:], api.OK)
	wantText(t, long[:130], "", api.ErrForm)
}

// P4.3

func TestWhatIsWrittenIsReadAsItWas(t *testing.T) {
	var may []api.Token
	for _, x := range allTokens() {
		if token.Word(x) != "" {
			may = append(may, x)
			wantRead(t, token.Word(x), x)
		}
	}
	for _, x := range may {
		for _, y := range may {
			l := []api.Token{x, y, x}
			text, e := token.Text(l)
			if e != api.OK {
				t.Fatalf("Text(%v): error %d", l, e)
			}
			got, _, e := token.All(text)
			if !slices.Equal(placeless(got), l) || e != api.OK {
				t.Fatalf("%q: %v, error %d, not %v", text, got, e, l)
			}
		}
	}
}

func TestWhatIsReadCanBeWritten(t *testing.T) {
	for _, text := range []string{"", "a", "(a|b)for c#d", "a=1,b=2;c<3>4!5?6*7", "key:k as role:r and D|D", "\n a\t"} {
		l, _, e := token.All(text)
		if e != api.OK {
			t.Fatalf("%q: error %d", text, e)
		}
		again, e := token.Text(l)
		if e != api.OK {
			t.Fatalf("%q: error %d", text, e)
		}
		wantModel(t, again)
		if got, _, e := token.All(again); !slices.Equal(placeless(got), placeless(l)) || e != api.OK {
			t.Errorf("%q, and then %q: %v, error %d", text, again, got, e)
		}
	}
	// What was read without blanks can be too long with them.
	l, _, e := token.All(strings.Repeat("group:ggggg|", 300))
	if len(l) != 600 || e != api.OK {
		t.Fatalf("%d tokens, error %d", len(l), e)
	}
	wantText(t, l, "", api.ErrForm)
}

func TestListsStayAsTheyWere(t *testing.T) {
	l := []api.Token{placed(num("1"), 5), placed(sign("="), 9)}
	was := slices.Clone(l)
	for range 2 {
		wantText(t, l, "1 =", api.OK)
	}
	if !slices.Equal(l, was) {
		t.Errorf("the list turned into %v", l)
	}
	x, _, _ := token.All("a b")
	y, _, _ := token.All("a b")
	x[0].Name = "changed"
	if y[0].Name != "a" {
		t.Error("two answers share their tokens")
	}
}
