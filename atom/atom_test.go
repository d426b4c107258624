package atom_test

import (
	"math"
	"slices"
	"strconv"
	"strings"
	"testing"

	"attorney/api"
	"attorney/atom"
)

var namedKinds = []int{api.Key, api.Channel, api.Name, api.Group, api.Role}

var otherKinds = []int{math.MinInt, -api.Span, -1, api.Reserved, api.Kinds, api.Kinds + 1, 8, 1 << 16, math.MaxInt}

// put asks for a name that the table must take.
func put(t *testing.T, x *atom.Table, kind int, name string) api.Atom {
	t.Helper()
	a, e := x.Put(kind, name)
	if e != api.OK {
		t.Fatalf("Put(%d, %q): error %d", kind, name, e)
	}
	return a
}

// wantNames holds a table to the names that it must have, by each of its questions.
func wantNames(t *testing.T, x *atom.Table, want [api.Kinds][]string) {
	t.Helper()
	for kind, names := range want {
		if x.Len(kind) != len(names) || !slices.Equal(x.All(kind), names) {
			t.Errorf("kind %d: %d names, %q, not %q", kind, x.Len(kind), x.All(kind), names)
		}
		for i, name := range names {
			a := api.Atom(kind*api.Span + i + 1)
			if got, is := x.Find(kind, name); got != a || !is {
				t.Errorf("Find(%d, %q): %d, %v, not %d", kind, name, got, is, a)
			}
			if got, is := x.Name(a); got != name || !is {
				t.Errorf("Name(%d): %q, %v, not %q", a, got, is, name)
			}
		}
	}
}

// P1.1

func TestKindAndNumberMakeEachAtom(t *testing.T) {
	for i := range 1 << 16 {
		a := api.Atom(i)
		kind, number := atom.Kind(a), atom.Number(a)
		if kind < 0 || number < 0 || number >= api.Span || kind*api.Span+number != i {
			t.Fatalf("atom %d: kind %d, number %d", i, kind, number)
		}
	}
}

func TestKindAndNumberAtBorders(t *testing.T) {
	for _, c := range []struct {
		a            api.Atom
		kind, number int
	}{{0, 0, 0}, {api.D, 0, 1}, {8191, 0, 8191}, {8192, 1, 0}, {8193, 1, 1}, {16385, 2, 1}, {24577, 3, 1}, {36768, 4, 4000}, {40961, 5, 1}, {49152, 6, 0}, {65535, 7, 8191}} {
		if atom.Kind(c.a) != c.kind || atom.Number(c.a) != c.number {
			t.Errorf("atom %d: kind %d, number %d", c.a, atom.Kind(c.a), atom.Number(c.a))
		}
	}
}

func TestMayByLength(t *testing.T) {
	for n := range api.MaxSay + 3 {
		if got, want := atom.May(strings.Repeat("z", n)), n >= 1 && n <= api.MaxSay; got != want {
			t.Errorf("%d bytes: %v", n, got)
		}
	}
	if atom.May(strings.Repeat("a", 1<<20)) {
		t.Error("a long text may be a name")
	}
}

func TestMayByEachByte(t *testing.T) {
	const letters, further = "abcdefghijklmnopqrstuvwxyz", "0123456789-."
	for i := range 256 {
		c := string([]byte{byte(i)})
		if got, want := atom.May(c), strings.Contains(letters, c); got != want {
			t.Errorf("%q alone: %v", c, got)
		}
		if got, want := atom.May(c+"b"), strings.Contains(letters, c); got != want {
			t.Errorf("%q ahead: %v", c, got)
		}
		for _, name := range []string{"a" + c, "a" + c + "z", strings.Repeat("m", api.MaxSay-1) + c} {
			if got, want := atom.May(name), strings.Contains(letters+further, c); got != want {
				t.Errorf("%q: %v", name, got)
			}
		}
	}
}

func TestMayOfOtherTexts(t *testing.T) {
	for _, name := range []string{"and", "for", "as", "a.b-9", "a--", "a..", "k1"} {
		if !atom.May(name) {
			t.Errorf("%q may not be a name", name)
		}
	}
	for _, name := range []string{"D", "key:k1", "a b", " a", "a ", "é", "aé", "a\xff", "a\x00", "a\n", "aA", "a_b"} {
		if atom.May(name) {
			t.Errorf("%q may be a name", name)
		}
	}
}

func TestNewHasNoNames(t *testing.T) {
	x := atom.New()
	wantNames(t, x, [api.Kinds][]string{})
	for i := range 1 << 16 {
		if name, is := x.Name(api.Atom(i)); is != (api.Atom(i) == api.D) {
			t.Fatalf("atom %d: %q, %v", i, name, is)
		}
	}
	put(t, x, api.Key, "a")
	if atom.New().Len(api.Key) != 0 {
		t.Error("a new table has another one's name")
	}
}

// P1.2

func TestPutNumbersNamesAsTheyCome(t *testing.T) {
	x := atom.New()
	for _, c := range []struct {
		kind int
		name string
		want api.Atom
	}{{api.Key, "k1", 8193}, {api.Name, "k1", 24577}, {api.Key, "k2", 8194}, {api.Key, "k1", 8193}, {api.Channel, "c", 16385}, {api.Group, "g", 32769}, {api.Role, "r", 40961}, {api.Role, "a", 40962}, {api.Role, "r", 40961}} {
		if a := put(t, x, c.kind, c.name); a != c.want {
			t.Errorf("Put(%d, %q): %d, not %d", c.kind, c.name, a, c.want)
		}
	}
	wantNames(t, x, [api.Kinds][]string{nil, {"k1", "k2"}, {"c"}, {"k1"}, {"g"}, {"r", "a"}})
}

func TestPutRefusesAndKeepsTheTable(t *testing.T) {
	x := atom.New()
	put(t, x, api.Key, "a")
	for _, kind := range otherKinds {
		for _, name := range []string{"a", "new", "", "K"} {
			if a, e := x.Put(kind, name); a != 0 || e != api.ErrArg {
				t.Errorf("Put(%d, %q): %d, %d", kind, name, a, e)
			}
		}
	}
	for _, kind := range namedKinds {
		for _, name := range []string{"", "K", "D", "1a", "-a", ".a", "a b", "a:", strings.Repeat("a", api.MaxSay+1)} {
			if a, e := x.Put(kind, name); a != 0 || e != api.ErrForm {
				t.Errorf("Put(%d, %q): %d, %d", kind, name, a, e)
			}
		}
	}
	wantNames(t, x, [api.Kinds][]string{nil, {"a"}})
}

func TestPutOfAFullKind(t *testing.T) {
	for _, kind := range namedKinds {
		x := atom.New()
		var names []string
		for i := range api.MaxOf {
			names = append(names, "n"+strconv.Itoa(i))
			if a := put(t, x, kind, names[i]); int(a) != kind*api.Span+i+1 {
				t.Fatalf("kind %d, the name %d: %d", kind, i+1, a)
			}
		}
		for range 2 {
			if a, e := x.Put(kind, "more"); a != 0 || e != api.ErrMany {
				t.Errorf("kind %d: %d, %d", kind, a, e)
			}
		}
		if a, e := x.Put(kind, "More"); a != 0 || e != api.ErrForm {
			t.Errorf("kind %d, a wrong name: %d, %d", kind, a, e)
		}
		if a := put(t, x, kind, "n0"); int(a) != kind*api.Span+1 {
			t.Errorf("kind %d, the first name again: %d", kind, a)
		}
		other := api.Key + kind%api.Role
		if a := put(t, x, other, "more"); int(a) != other*api.Span+1 {
			t.Errorf("kind %d beside a full one: %d", other, a)
		}
		want := [api.Kinds][]string{}
		want[kind], want[other] = names, []string{"more"}
		wantNames(t, x, want)
	}
}

func TestFindOfWhatIsNotThere(t *testing.T) {
	x := atom.New()
	put(t, x, api.Key, "a")
	for _, kind := range append(slices.Clone(otherKinds), api.Channel, api.Name, api.Group, api.Role) {
		if a, is := x.Find(kind, "a"); a != 0 || is {
			t.Errorf("Find(%d): %d, %v", kind, a, is)
		}
	}
	for _, name := range []string{"", "b", "aa", "A", "D", "a ", strings.Repeat("a", 1000)} {
		if a, is := x.Find(api.Key, name); a != 0 || is {
			t.Errorf("Find(%q): %d, %v", name, a, is)
		}
	}
	wantNames(t, x, [api.Kinds][]string{nil, {"a"}})
}

func TestNameOfEachAtom(t *testing.T) {
	x := atom.New()
	want := map[api.Atom]string{api.D: "D"}
	for _, kind := range namedKinds {
		for _, name := range []string{"a", "b" + strconv.Itoa(kind)} {
			want[put(t, x, kind, name)] = name
		}
	}
	for i := range 1 << 16 {
		wanted, there := want[api.Atom(i)]
		if name, is := x.Name(api.Atom(i)); name != wanted || is != there {
			t.Errorf("Name(%d): %q, %v", i, name, is)
		}
	}
}

func TestLenAndAllOfNoKind(t *testing.T) {
	x := atom.New()
	for _, kind := range namedKinds {
		put(t, x, kind, "a")
	}
	for _, kind := range otherKinds {
		if x.Len(kind) != 0 || len(x.All(kind)) != 0 {
			t.Errorf("kind %d: %d, %q", kind, x.Len(kind), x.All(kind))
		}
	}
}

func TestAllSharesNothing(t *testing.T) {
	x := atom.New()
	put(t, x, api.Key, "a")
	put(t, x, api.Key, "b")
	l := x.All(api.Key)
	l[0] = "changed"
	_ = append(l[:1], "changed")
	wantNames(t, x, [api.Kinds][]string{nil, {"a", "b"}})

	l = x.All(api.Key)
	put(t, x, api.Key, "c")
	_ = append(l, "changed")
	wantNames(t, x, [api.Kinds][]string{nil, {"a", "b", "c"}})
	if !slices.Equal(l, []string{"a", "b"}) {
		t.Errorf("a list that was told turned into %q", l)
	}
}

// P1.3

func TestLoad(t *testing.T) {
	for _, l := range [][api.Kinds][]string{
		{},
		{nil, {"b", "a"}, {"a"}, {"a", "b", "c"}, {"z.1"}, {"r"}},
		{nil, {}, nil, nil, nil, {"r", "q"}},
	} {
		x, e := atom.Load(l)
		if e != api.OK {
			t.Fatalf("%q: error %d", l, e)
		}
		wantNames(t, x, l)
	}
}

func TestLoadPassesReservedOver(t *testing.T) {
	x, e := atom.Load([api.Kinds][]string{{"D", "?", "a", "a"}, {"a"}})
	if e != api.OK {
		t.Fatalf("error %d", e)
	}
	wantNames(t, x, [api.Kinds][]string{nil, {"a"}})
}

func TestLoadTellsTheFirstError(t *testing.T) {
	for _, c := range []struct {
		l [api.Kinds][]string
		e api.Errno
	}{
		{[api.Kinds][]string{nil, {"K"}}, api.ErrForm},
		{[api.Kinds][]string{nil, nil, nil, nil, nil, {"a", ""}}, api.ErrForm},
		{[api.Kinds][]string{nil, {"a", "a"}}, api.ErrTwice},
		{[api.Kinds][]string{nil, {"a", "b", "a"}}, api.ErrTwice},
		{[api.Kinds][]string{nil, {"a"}, nil, nil, nil, {"a", "r", "r"}}, api.ErrTwice},
		{[api.Kinds][]string{nil, {"a", "a", "?"}}, api.ErrTwice},
		{[api.Kinds][]string{nil, {"a", "?", "a"}}, api.ErrForm},
		{[api.Kinds][]string{nil, {"?", "?"}}, api.ErrForm},
		{[api.Kinds][]string{nil, {"a", "a"}, {"?"}}, api.ErrTwice},
		{[api.Kinds][]string{nil, {"?"}, {"a", "a"}}, api.ErrForm},
	} {
		if x, e := atom.Load(c.l); x != nil || e != c.e {
			t.Errorf("%q: %v, error %d, not %d", c.l, x != nil, e, c.e)
		}
	}
}

// numbered tells n names of a kind, unlike each other.
func numbered(n int) []string {
	var l []string
	for i := range n {
		l = append(l, "n"+strconv.Itoa(i))
	}
	return l
}

func TestLoadOfFullKinds(t *testing.T) {
	l := [api.Kinds][]string{}
	for _, kind := range namedKinds {
		l[kind] = numbered(api.MaxOf)
	}
	x, e := atom.Load(l)
	if e != api.OK {
		t.Fatalf("error %d", e)
	}
	wantNames(t, x, l)

	for _, c := range []struct {
		last string
		e    api.Errno
	}{{"more", api.ErrMany}, {"n7", api.ErrTwice}, {"N", api.ErrForm}} {
		l[api.Group] = append(numbered(api.MaxOf), c.last, "n8")
		if x, e := atom.Load(l); x != nil || e != c.e {
			t.Errorf("%q behind a full list: %v, error %d", c.last, x != nil, e)
		}
	}
}

func TestLoadSharesNothing(t *testing.T) {
	l := [api.Kinds][]string{nil, {"a", "b"}}
	x, e := atom.Load(l)
	if e != api.OK {
		t.Fatalf("error %d", e)
	}
	put(t, x, api.Key, "c")
	if !slices.Equal(l[api.Key], []string{"a", "b"}) {
		t.Errorf("the argument turned into %q", l[api.Key])
	}
	l[api.Key][0] = "changed"
	wantNames(t, x, [api.Kinds][]string{nil, {"a", "b", "c"}})
}

// P1.4

func TestUnlikeNamesHaveUnlikeAtoms(t *testing.T) {
	x := atom.New()
	first := map[api.Atom]string{}
	for _, name := range append(numbered(200), "a", "aa", "a.", "a-", "a0") {
		for _, kind := range namedKinds {
			a := put(t, x, kind, name)
			if other, taken := first[a]; taken {
				t.Fatalf("%q of kind %d has the atom of %s", name, kind, other)
			}
			first[a] = strconv.Itoa(kind) + " " + name
		}
	}
	for a, said := range first {
		kind, name := int(said[0]-'0'), said[2:]
		if got := put(t, x, kind, name); got != a || atom.Kind(a) != kind {
			t.Errorf("%s has the atom %d, and had %d", said, got, a)
		}
	}
}

func TestLoadOfWhatATableHasIsTheSame(t *testing.T) {
	x := atom.New()
	for i, name := range numbered(300) {
		put(t, x, namedKinds[i*i%len(namedKinds)], name)
	}
	l := [api.Kinds][]string{}
	for kind := range l {
		l[kind] = x.All(kind)
	}
	y, e := atom.Load(l)
	if e != api.OK {
		t.Fatalf("error %d", e)
	}
	wantNames(t, y, l)
	for _, kind := range namedKinds {
		if a, b := put(t, x, kind, "next"), put(t, y, kind, "next"); a != b {
			t.Errorf("kind %d: the next name is %d and %d", kind, a, b)
		}
	}
}
