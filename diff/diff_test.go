package diff

import (
	"fmt"
	"math/rand"
	"regexp"
	"slices"
	"strings"
	"testing"

	"hostler/api"
)

// form is what a name may look like.
var form = regexp.MustCompile(`\A[a-z0-9.\-]{1,16}\z`)

// plainCheck is what is wrong with a list, told without the package.
func plainCheck(l []string) api.Errno {
	if len(l) > 16 {
		return api.ErrLong
	}
	for _, s := range l {
		if !form.MatchString(s) {
			return api.ErrName
		}
	}
	for i := range l {
		for j := range i {
			if l[i] == l[j] {
				return api.ErrThere
			}
		}
	}
	return api.OK
}

// plainDiff is who came, who went and who is of both.
func plainDiff(old, new []string) (came, went, both []string) {
	if plainCheck(old) != api.OK || plainCheck(new) != api.OK {
		return nil, nil, nil
	}
	for _, s := range new {
		if !slices.Contains(old, s) {
			came = append(came, s)
		}
	}
	for _, s := range old {
		if slices.Contains(new, s) {
			both = append(both, s)
		} else {
			went = append(went, s)
		}
	}
	return came, went, both
}

// plainJoin is the joined list.
func plainJoin(old, new []string) []string {
	if plainCheck(old) != api.OK || plainCheck(new) != api.OK {
		return old
	}
	came, _, both := plainDiff(old, new)
	return slices.Concat(both, came)
}

// plainText is the text of a list.
func plainText(l []string) string {
	s := ""
	for i, name := range l {
		if i > 0 {
			s += ","
		}
		s += name
	}
	if len(l) == 0 {
		return "-"
	}
	return s
}

// plainRead is the list of a text.
func plainRead(s string) ([]string, api.Errno) {
	if s == "" {
		return nil, api.ErrForm
	}
	if s == "-" {
		return nil, api.OK
	}
	l := []string{""}
	for i := range len(s) {
		if s[i] == ',' {
			l = append(l, "")
		} else {
			l[len(l)-1] += s[i : i+1]
		}
	}
	if e := plainCheck(l); e != api.OK {
		return nil, e
	}
	return l, api.OK
}

// holdCheck holds Check of a list against the plain one.
func holdCheck(t *testing.T, l []string) {
	t.Helper()
	if got, want := Check(l), plainCheck(l); got != want {
		t.Errorf("Check of %q: %d, want %d", l, got, want)
	}
}

func wantCheck(t *testing.T, l []string, want api.Errno) {
	t.Helper()
	if got := Check(l); got != want {
		t.Errorf("Check of %q: %d, want %d", l, got, want)
	}
	holdCheck(t, l)
}

// holdDiff holds Diff and Join of two lists against the plain ones; the lists stay as they were.
func holdDiff(t *testing.T, old, new []string) {
	t.Helper()
	oldWas, newWas := slices.Clone(old), slices.Clone(new)
	wantCame, wantWent, wantBoth := plainDiff(old, new)
	came, went, both := Diff(old, new)
	if !slices.Equal(came, wantCame) || !slices.Equal(went, wantWent) || !slices.Equal(both, wantBoth) {
		t.Errorf("Diff of %q and %q: %q, %q, %q, want %q, %q, %q", old, new, came, went, both, wantCame, wantWent, wantBoth)
	}
	if got, want := Join(old, new), plainJoin(old, new); !slices.Equal(got, want) {
		t.Errorf("Join of %q and %q: %q, want %q", old, new, got, want)
	}
	if !slices.Equal(old, oldWas) || !slices.Equal(new, newWas) {
		t.Errorf("%q and %q were changed: %q, %q", oldWas, newWas, old, new)
	}
}

// wantDiff is the same, of what must come out, written as texts.
func wantDiff(t *testing.T, old, new, came, went, both, join string) {
	t.Helper()
	l, m := names(old), names(new)
	a, b, c := Diff(l, m)
	if !slices.Equal(a, names(came)) || !slices.Equal(b, names(went)) || !slices.Equal(c, names(both)) {
		t.Errorf("Diff of %q and %q: %q, %q, %q, want %q, %q, %q", old, new, a, b, c, came, went, both)
	}
	if got := Join(l, m); !slices.Equal(got, names(join)) {
		t.Errorf("Join of %q and %q: %q, want %q", old, new, got, join)
	}
	holdDiff(t, l, m)
}

// holdRead holds Read of a text against the plain one; what is read is written as that text.
func holdRead(t *testing.T, s string) {
	t.Helper()
	want, err := plainRead(s)
	l, e := Read(s)
	if !slices.Equal(l, want) || e != err {
		t.Errorf("Read of %q: %q, %d, want %q, %d", s, l, e, want, err)
	}
	if e == api.OK && Text(l) != s {
		t.Errorf("%q is written as %q", s, Text(l))
	}
}

func wantRead(t *testing.T, s string, want []string, err api.Errno) {
	t.Helper()
	if l, e := Read(s); !slices.Equal(l, want) || e != err {
		t.Errorf("Read of %q: %q, %d, want %q, %d", s, l, e, want, err)
	}
	holdRead(t, s)
}

// names is a list, written with blanks between.
func names(s string) []string {
	return strings.Fields(s)
}

// many is n names that may be.
func many(n int) []string {
	var l []string
	for i := range n {
		l = append(l, fmt.Sprintf("h-%d.x", i))
	}
	return l
}

// put is the list with another name at a place.
func put(l []string, at int, s string) []string {
	l = slices.Clone(l)
	l[at] = s
	return l
}

// badNames are names that may not be, without commas.
func badNames() []string {
	return []string{"", " ", "A", "Z", "_", "/", ":", "`", "{", "@", "[", "a b", " a", "a ", "a\n", "\na", "a\x00", "\x00", "\xff", "a\xff", "\xc3", "é", "ａ", "ß", "١", "\u2010", "·", "aB", "Ab", "a_b", "a/b", "a:1", "a+b", "a*", "?", "!", "0123456789abcdefg", strings.Repeat("-", 17), strings.Repeat(".", 17), strings.Repeat("é", 8), strings.Repeat("x", 1000), strings.Repeat("\xff", 16)}
}

// badLists are lists that may not be, for each of the reasons and for several.
func badLists() [][]string {
	return [][]string{{""}, {"A"}, {"a", ""}, {"", "a"}, {"a", "a"}, {"a", "b", "a"}, {"a", "a", "?"}, {"?", "?"}, {"a,b"}, {strings.Repeat("x", 17)}, many(17), many(40), append(many(16), "h-0.x"), append(many(16), "?"), put(many(16), 15, "h-0.x"), put(many(16), 8, "?"), make([]string, 17), make([]string, 2)}
}

// goodLists are lists that may be.
func goodLists() [][]string {
	return [][]string{nil, {}, {"a"}, {"b"}, {"-"}, {"."}, {"a", "b"}, {"b", "a"}, {"c", "a"}, {"a", "b", "c"}, {"d", "c", "a", "e"}, {"h-3.x"}, {"h-15.x", "q", "h-0.x"}, many(15), many(16), reversed(many(16)), moved(many(16), 5), other(many(16))}
}

func reversed(l []string) []string {
	l = slices.Clone(l)
	slices.Reverse(l)
	return l
}

// moved is the list with its first n at the end.
func moved(l []string, n int) []string {
	return slices.Concat(l[n:], l[:n])
}

// other is a list that shares nothing with l.
func other(l []string) []string {
	l = slices.Clone(l)
	for i := range l {
		l[i] = "o" + l[i]
	}
	return l
}

// someNames is a list that may be, out of few names, so that two of them share some.
func someNames(r *rand.Rand) []string {
	l := many(20)
	l[0], l[1], l[2], l[3] = "-", ".", "0", "0123456789abcdef"
	r.Shuffle(len(l), func(i, j int) { l[i], l[j] = l[j], l[i] })
	return l[:r.Intn(17)]
}

// anyNames is a list that may be, or often not.
func anyNames(r *rand.Rand) []string {
	l := slices.Clone(someNames(r))
	bad := badNames()
	for range r.Intn(4) {
		switch at := r.Intn(len(l) + 1); r.Intn(4) {
		case 0:
			l = slices.Insert(l, at, bad[r.Intn(len(bad))])
		case 1:
			if len(l) > 0 {
				l = slices.Insert(l, at, l[r.Intn(len(l))])
			}
		case 2:
			l = slices.Insert(l, at, fmt.Sprintf("n%d", at))
		}
	}
	return l
}

// P9.1: the chapter's example.
func TestExample(t *testing.T) {
	came, went, both := Diff([]string{"a", "b"}, []string{"c", "a"})
	if !slices.Equal(came, []string{"c"}) || !slices.Equal(went, []string{"b"}) || !slices.Equal(both, []string{"a"}) {
		t.Errorf("Diff: %q, %q, %q", came, went, both)
	}
	if l := Join([]string{"a", "b"}, []string{"c", "a"}); !slices.Equal(l, []string{"a", "c"}) {
		t.Errorf("Join: %q", l)
	}
}

// P9.1: names by their length.
func TestNameLength(t *testing.T) {
	for n := range 40 {
		for _, b := range []string{"a", "z", "0", "9", ".", "-"} {
			if got, want := Name(strings.Repeat(b, n)), n >= 1 && n <= 16; got != want {
				t.Errorf("Name of %d times %q: %v", n, b, got)
			}
		}
	}
	for s, want := range map[string]bool{"": false, "a": true, "0123456789abcdef": true, "0123456789abcdefg": false, strings.Repeat("a", 1<<16): false, strings.Repeat("a", 1<<16+1): false, "éééééééé": false} {
		if got := Name(s); got != want {
			t.Errorf("Name of %q: %v", s, got)
		}
	}
}

// P9.1: names by each byte, alone and at each place.
func TestNameBytes(t *testing.T) {
	good := "abcdefghijklmnopqrstuvwxyz0123456789.-"
	for b := range 256 {
		one := string([]byte{byte(b)})
		want := strings.Contains(good, one)
		for _, s := range []string{one, one + "bc", "a" + one + "c", "ab" + one} {
			if got := Name(s); got != want {
				t.Errorf("Name of %q: %v", s, got)
			}
		}
		for at := range 16 {
			s := "0123456789abcdef"[:at] + one + "0123456789abcdef"[at+1:]
			if got := Name(s); got != want {
				t.Errorf("Name of %q: %v", s, got)
			}
			// Whatever it is made of, it is too long then.
			if Name(s + "a") {
				t.Errorf("Name of %q", s+"a")
			}
		}
	}
	for _, s := range badNames() {
		if Name(s) || form.MatchString(s) {
			t.Errorf("Name of %q", s)
		}
	}
}

// P9.1: dots and hyphens may stand anywhere, and alone.
func TestNameAnywhere(t *testing.T) {
	for _, s := range names("- . -- .. -. .- -a a- .a a. a--b a..b 0 00 01 9z db-1.x 127.0.0.1 ---------------- ................") {
		if !Name(s) {
			t.Errorf("Name of %q", s)
		}
	}
}

// P9.1: how many names a list may have.
func TestCheckHowMany(t *testing.T) {
	wantCheck(t, nil, api.OK)
	wantCheck(t, []string{}, api.OK)
	for n := range 17 {
		wantCheck(t, many(n), api.OK)
	}
	for _, n := range []int{17, 18, 32, 33, 256, 272, 1 << 16, 1<<16 + 1} {
		wantCheck(t, many(n), api.ErrLong)
	}
}

// P9.1: a name that may not be, at each place.
func TestCheckName(t *testing.T) {
	for _, n := range []int{1, 2, 3, 15, 16} {
		for at := range n {
			for _, bad := range append(badNames(), ",", "a,b") {
				wantCheck(t, put(many(n), at, bad), api.ErrName)
			}
		}
	}
}

// P9.1: a name that stands twice, side by side and apart.
func TestCheckTwice(t *testing.T) {
	for _, n := range []int{2, 3, 15, 16} {
		for i := range n {
			for j := range n {
				if i != j {
					wantCheck(t, put(many(n), i, many(n)[j]), api.ErrThere)
				}
			}
		}
	}
	for _, s := range []string{"a a", "a a a", "a b a", "a b b", "a b a b", "- -", ". .", "a - b -"} {
		wantCheck(t, names(s), api.ErrThere)
	}
	// They are alike, but not the same.
	for _, s := range []string{"a aa", "a a.", "a -a", "a. a-", "a b ab", "0 00", "0123456789abcdef 0123456789abcde"} {
		wantCheck(t, names(s), api.OK)
	}
}

// P9.1, R1: of several errors, the first of the row, wherever they stand.
func TestCheckFirst(t *testing.T) {
	long := many(17)
	for i := range 17 {
		wantCheck(t, put(long, i, "?"), api.ErrLong)
		wantCheck(t, put(long, i, long[(i+5)%17]), api.ErrLong)
		for j := range 17 {
			wantCheck(t, put(put(long, i, "?"), j, long[(j+1)%17]), api.ErrLong)
		}
	}
	wantCheck(t, make([]string, 17), api.ErrLong)
	wantCheck(t, append(many(16), "h-0.x"), api.ErrLong)
	wantCheck(t, append(many(16), ""), api.ErrLong)
	wantCheck(t, make([]string, 16), api.ErrName)
	for _, n := range []int{3, 16} {
		for i := range n {
			for j := range n {
				if i != j {
					l := put(many(n), j, many(n)[(j+1)%n])
					wantCheck(t, put(l, i, "A"), api.ErrName)
				}
			}
		}
	}
	for _, s := range []string{"? ?", "a a ?", "? a a", "a ? a", "? a ? a"} {
		wantCheck(t, names(s), api.ErrName)
	}
}

// P9.1: Check of any lists.
func TestCheckOfAny(t *testing.T) {
	for _, l := range slices.Concat(goodLists(), badLists()) {
		holdCheck(t, l)
	}
	r := rand.New(rand.NewSource(9))
	for range 20000 {
		l := anyNames(r)
		was := slices.Clone(l)
		holdCheck(t, l)
		if !slices.Equal(l, was) {
			t.Errorf("%q was changed: %q", was, l)
		}
		if l = someNames(r); Check(l) != api.OK {
			t.Errorf("Check of %q: %d", l, Check(l))
		}
	}
}

// P9.1: Diff and Join of lists that may be.
func TestDiff(t *testing.T) {
	for _, x := range []struct{ old, new, came, went, both, join string }{
		{"", "", "", "", "", ""},
		{"", "b a", "b a", "", "", "b a"},
		{"b a", "", "", "b a", "", ""},
		{"a", "a", "", "", "a", "a"},
		{"a", "b", "b", "a", "", "b"},
		{"c a b", "c a b", "", "", "c a b", "c a b"},
		{"c a b", "b c a", "", "", "c a b", "c a b"},
		{"a b c", "c b a", "", "", "a b c", "a b c"},
		{"z x y", "c a b", "c a b", "z x y", "", "c a b"},
		{"a b c", "d c a e", "d e", "b", "a c", "a c d e"},
		{"a b c", "d c a", "d", "b", "a c", "a c d"},
		{"z b y a x", "x 2 a 1 z 0", "2 1 0", "b y", "z a x", "z a x 2 1 0"},
		{"- .", ". 0", "0", "-", ".", ". 0"},
		{"a", "aa a-", "aa a-", "a", "", "aa a-"},
	} {
		wantDiff(t, x.old, x.new, x.came, x.went, x.both, x.join)
	}
	full := many(16)
	spaced := strings.Join(full, " ")
	wantDiff(t, spaced, spaced, "", "", spaced, spaced)
	wantDiff(t, "", spaced, spaced, "", "", spaced)
	wantDiff(t, spaced, "", "", spaced, "", "")
	wantDiff(t, spaced, strings.Join(reversed(full), " "), "", "", spaced, spaced)
	apart := strings.Join(other(full), " ")
	wantDiff(t, spaced, apart, apart, spaced, "", apart)
}

// P9.1: Diff and Join of each pair of lists, those that may not be among them.
func TestDiffOfPairs(t *testing.T) {
	l := slices.Concat(goodLists(), badLists())
	for _, old := range l {
		for _, new := range l {
			holdDiff(t, old, new)
		}
	}
}

// P9.1: Diff and Join of all lists of few names.
func TestDiffOfShort(t *testing.T) {
	l := [][]string{nil}
	for from, n := 0, 1; n <= 3; n++ {
		end := len(l)
		for ; from < end; from++ {
			for _, s := range []string{"b", "a", "-", "?"} {
				l = append(l, slices.Concat(l[from], []string{s}))
			}
		}
	}
	if len(l) != 1+4+16+64 {
		t.Fatal(len(l))
	}
	for _, old := range l {
		for _, new := range l {
			holdDiff(t, old, new)
		}
	}
}

// P9.1: Diff of lists of which either or both may not be: none, none, none; Join: old.
func TestDiffOfBad(t *testing.T) {
	none := func(old, new []string) {
		t.Helper()
		came, went, both := Diff(old, new)
		if len(came) != 0 || len(went) != 0 || len(both) != 0 {
			t.Errorf("Diff of %q and %q: %q, %q, %q", old, new, came, went, both)
		}
		if l := Join(old, new); !slices.Equal(l, old) {
			t.Errorf("Join of %q and %q: %q", old, new, l)
		}
		holdDiff(t, old, new)
	}
	for _, bad := range badLists() {
		for _, good := range goodLists() {
			none(bad, good)
			none(good, bad)
		}
		for _, worse := range badLists() {
			none(bad, worse)
		}
	}
	long := many(1 << 16)
	none(long, long)
	none(long, nil)
	none(nil, long)
}

// P9.1, P9.2: any two lists.
func TestDiffOfAny(t *testing.T) {
	r := rand.New(rand.NewSource(90))
	for range 8000 {
		holdDiff(t, anyNames(r), anyNames(r))
		holdDiff(t, someNames(r), someNames(r))
	}
}

// rises tells whether the names of part stand in the same row in l.
func rises(part, l []string) bool {
	last := -1
	for _, s := range part {
		at := slices.Index(l, s)
		if at <= last {
			return false
		}
		last = at
	}
	return true
}

// P9.2: those that came and those of both are new, those that went and those of both are old, each once and in its row.
func TestMadeUp(t *testing.T) {
	hold := func(old, new []string) {
		t.Helper()
		came, went, both := Diff(old, new)
		sorted := func(l ...[]string) []string { return slices.Sorted(slices.Values(slices.Concat(l...))) }
		if !slices.Equal(sorted(came, both), sorted(new)) || !slices.Equal(sorted(went, both), sorted(old)) {
			t.Errorf("Diff of %q and %q: %q, %q, %q", old, new, came, went, both)
		}
		if !rises(came, new) || !rises(went, old) || !rises(both, old) {
			t.Errorf("Diff of %q and %q: %q, %q, %q: a row is not kept", old, new, came, went, both)
		}
		join := Join(old, new)
		if !slices.Equal(sorted(join), sorted(new)) || Check(join) != api.OK || !slices.Equal(join, slices.Concat(both, came)) {
			t.Errorf("Join of %q and %q: %q", old, new, join)
		}
	}
	for _, old := range goodLists() {
		for _, new := range goodLists() {
			hold(old, new)
		}
	}
	r := rand.New(rand.NewSource(91))
	for range 10000 {
		hold(someNames(r), someNames(r))
	}
}

// spoil writes over a list, as far as it has memory.
func spoil(l []string) {
	l = l[:cap(l)]
	for i := range l {
		l[i] = "spoilt"
	}
}

// R4: what is answered shares no memory with what was handed in, nor do two lists of one answer.
func TestNewMemory(t *testing.T) {
	l := slices.Concat(goodLists(), badLists())
	for _, old := range l {
		for _, new := range l {
			oldWas, newWas := slices.Clone(old), slices.Clone(new)
			for k := range 3 {
				a, b, c := Diff(old, new)
				lists := [][]string{a, b, c}
				var was [3][]string
				for i := range lists {
					was[i] = slices.Clone(lists[i])
				}
				spoil(lists[k])
				for i := range lists {
					if i != k && !slices.Equal(lists[i], was[i]) {
						t.Errorf("Diff of %q and %q: lists %d and %d share memory", old, new, k, i)
					}
				}
			}
			spoil(Join(old, new))
			if !slices.Equal(old, oldWas) || !slices.Equal(new, newWas) {
				t.Fatalf("%q and %q: an answer shares their memory", oldWas, newWas)
			}
		}
	}
	for _, s := range []string{"-", "a", "a,b", "a,b,c"} {
		first, _ := Read(s)
		spoil(first)
		holdRead(t, s)
	}
}

// R4: a list's memory behind its end is neither read nor written.
func TestBehindTheEnd(t *testing.T) {
	whole := names("a b c d e f")
	old, new := whole[:2], names("b x y z q r")[:2]
	came, went, both := Diff(old, new)
	if Text(came) != "x" || Text(went) != "a" || Text(both) != "b" || Text(Join(old, new)) != "b,x" || Text(Join(old, []string{"?"})) != "a,b" {
		t.Errorf("%q, %q, %q", came, went, both)
	}
	spoil(Join(whole[:0], []string{"?"}))
	spoil(Join(old, []string{"?"}))
	spoil(Join(old, nil))
	if !slices.Equal(whole, names("a b c d e f")) {
		t.Errorf("%q", whole)
	}
}

// P9.1: Text of any list.
func TestText(t *testing.T) {
	for _, x := range []struct {
		l    []string
		want string
	}{
		{nil, "-"},
		{[]string{}, "-"},
		{[]string{"a"}, "a"},
		{[]string{"-"}, "-"},
		{[]string{"-", "-"}, "-,-"},
		{[]string{"db-1.x", "a", "0"}, "db-1.x,a,0"},
		{[]string{""}, ""},
		{[]string{"", ""}, ","},
		{[]string{"A", "\xff", "a b"}, "A,\xff,a b"},
		{[]string{"a", "a"}, "a,a"},
		{[]string{"a,b", ","}, "a,b,,"},
	} {
		if got := Text(x.l); got != x.want {
			t.Errorf("Text of %q: %q, want %q", x.l, got, x.want)
		}
	}
	r := rand.New(rand.NewSource(92))
	for range 5000 {
		l := anyNames(r)
		was := slices.Clone(l)
		if got, want := Text(l), plainText(l); got != want || !slices.Equal(l, was) {
			t.Errorf("Text of %q: %q, want %q", l, got, want)
		}
	}
	for _, l := range slices.Concat(goodLists(), badLists()) {
		if got, want := Text(l), plainText(l); got != want {
			t.Errorf("Text of %q: %q, want %q", l, got, want)
		}
	}
}

// P9.1: Read of texts that are lists.
func TestRead(t *testing.T) {
	wantRead(t, "-", nil, api.OK)
	for _, s := range []string{"a", "0", ".", "--", "a,b", "b,a", "-,a", "a,-", "-,.", "a,-,b", "db-1.x,db-2.x", "0123456789abcdef", "-0", "a,aa"} {
		wantRead(t, s, strings.Split(s, ","), api.OK)
	}
	for n := 1; n <= 16; n++ {
		wantRead(t, strings.Join(many(n), ","), many(n), api.OK)
	}
}

// P9.1: Read of texts that are none, or whose lists may not be: the error, and no list.
func TestReadErrors(t *testing.T) {
	wantRead(t, "", nil, api.ErrForm)
	for _, s := range []string{",", ",,", "a,", ",a", "a,,b", ",a,", "-,", ",-", "-,,-", "a,b,", ",a,b", "a,,", ",,a", "a, b", "a ,b", " a", "a ", " ", "- ", " -", "\n", "-\n", "a\n", "a\n,b", "a;b", "a b", "A", "a,B", "_", "?", "\x00", "\xff", "\xff,a", "a,\xc3", "a,é", "é", "a，b", "０", "0123456789abcdefg", "a,0123456789abcdefg", "a,a,?", "?,a,a", "a,a,", ",a,a", "?,?", ",,,,,,,,,,,,,,,"} {
		wantRead(t, s, nil, api.ErrName)
	}
	for _, s := range []string{"a,a", "a,b,a", "a,b,b", "-,-", "-,a,-", ".,.", "a,b,c,d,e,f,g,h,i,j,k,l,m,n,o,a"} {
		wantRead(t, s, nil, api.ErrThere)
	}
	for _, n := range []int{17, 18, 33, 1000} {
		wantRead(t, strings.Join(many(n), ","), nil, api.ErrLong)
	}
	for _, s := range []string{",,,,,,,,,,,,,,,,", strings.Join(many(16), ",") + ",", "," + strings.Join(many(16), ","), strings.Join(many(16), ",") + ",h-0.x", strings.Join(many(16), ",") + ",?", strings.Repeat("a,", 16) + "a", strings.Repeat("?,", 16), strings.Repeat("-,", 16) + "-"} {
		wantRead(t, s, nil, api.ErrLong)
	}
}

// P9.1: each byte there is, alone, in a name and between two.
func TestReadBytes(t *testing.T) {
	for b := range 256 {
		one := string([]byte{byte(b)})
		for _, s := range []string{one, one + "a", "a" + one, "a" + one + "b", one + ",a", "a," + one, "a," + one + ",b", "-" + one, one + "-"} {
			holdRead(t, s)
		}
	}
}

// P9.1: any text: those of lists with bytes put in, taken out and changed, and any bytes.
func TestReadOfAny(t *testing.T) {
	r := rand.New(rand.NewSource(93))
	letters := "ab09.-,,,-AZ_ \t\n\x00\xff"
	for range 20000 {
		b := []byte(Text(anyNames(r)))
		for range r.Intn(3) {
			if len(b) == 0 {
				break
			}
			at := r.Intn(len(b))
			letter := letters[r.Intn(len(letters))]
			switch r.Intn(3) {
			case 0:
				b[at] = letter
			case 1:
				b = slices.Delete(b, at, at+1)
			case 2:
				b = slices.Insert(b, at, letter)
			}
		}
		holdRead(t, string(b))
	}
	for range 20000 {
		b := make([]byte, r.Intn(8))
		for i := range b {
			b[i] = letters[r.Intn(len(letters))]
		}
		holdRead(t, string(b))
		r.Read(b)
		holdRead(t, string(b))
	}
}

// P9.1, T0: a long text ends soon, whatever it is made of.
func TestReadLong(t *testing.T) {
	for piece, want := range map[string]api.Errno{"a": api.ErrName, ",": api.ErrLong, "a,": api.ErrLong, ",a": api.ErrLong, "-": api.ErrName, "\xff": api.ErrName, "?,": api.ErrLong} {
		s := strings.Repeat(piece, 1<<22)
		if l, e := Read(s); len(l) != 0 || e != want {
			t.Errorf("Read of many %q: %d names, %d, want %d", piece, len(l), e, want)
		}
	}
}

// P9.1: what is written of a list that may be is read as it was; but for the one name -, which is written as none is.
func TestWrittenIsRead(t *testing.T) {
	hold := func(l []string) {
		t.Helper()
		want := l
		if slices.Equal(l, []string{"-"}) {
			want = nil
		}
		if got, e := Read(Text(l)); !slices.Equal(got, want) || e != api.OK {
			t.Errorf("%q is written as %q, and read as %q, %d", l, Text(l), got, e)
		}
	}
	for _, l := range goodLists() {
		hold(l)
	}
	for _, s := range []string{"-", "- a", "a -", "--", "- --"} {
		hold(names(s))
	}
	r := rand.New(rand.NewSource(94))
	for range 10000 {
		hold(someNames(r))
	}
}

// R6: what a call answers does not hang on those ahead of it.
func TestNothingIsKept(t *testing.T) {
	Diff(names("a b"), names("b c"))
	Join(names("x y"), names("y z"))
	Read("a,a")
	Check(names("q q"))
	for range 100 {
		wantDiff(t, "y b x", "c x b a", "c a", "y", "b x", "b x c a")
		wantRead(t, "q,a", names("q a"), api.OK)
	}
}
