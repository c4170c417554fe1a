package admin

import (
	"fmt"
	"math"
	"math/rand"
	"regexp"
	"slices"
	"strings"
	"testing"

	"hostler/api"
)

// The errors by hand: those of package api are held against them once.
const (
	errName = 11
	errLine = 12
	errLong = 13
)

// The least and the greatest int.
const (
	lowest = math.MinInt
	most   = math.MaxInt
)

// verbWords is the verbs' words in the row of their numbers.
func verbWords() []string {
	return []string{"drain", "undrain", "force", "eject", "status", "tick"}
}

// errorWords is the errors' words in the row of their numbers, from 1 on.
func errorWords() []string {
	return strings.Fields("arg form big kind none there full state guard config name line long")
}

// stateWords is the states' names in the row of their numbers.
func stateWords() []string {
	return []string{"active", "draining", "quarantined", "retired"}
}

// goodNames are such as may be.
func goodNames() []string {
	return []string{"a", "z", "0", "9", ".", "-", "db-1", "a.b", "drain", "status", "12", "-1", "abcdefghijklmnop"}
}

// badWords are names that may not be, and that have no blank.
func badWords() []string {
	return []string{"A", "Z", "a_b", "a,b", "a/b", "a:b", "a`b", "a{b", "ä", "?", "a\x00", "\x00", "a\n", "a\tb", "\xff", "a\x80b", "abcdefghijklmnopq", strings.Repeat("a", 300)}
}

// badNames are names that may not be.
func badNames() []string {
	return append(badWords(), "", " ", "a ", " a", "a b", strings.Repeat("a", 10000))
}

// realName is layer 9's rule of a name, in other words than the program's.
func realName(s string) bool {
	return len(s) >= 1 && len(s) <= 16 && strings.Trim(s, "abcdefghijklmnopqrstuvwxyz0123456789.-") == ""
}

// plainParse is the chapter's row of errors, one by one.
func plainParse(line string) (Cmd, int) {
	if len(line) > 400 {
		return Cmd{}, errLong
	}
	words := strings.Split(line, " ")
	verb := slices.Index(verbWords(), words[0])
	if verb < 0 {
		return Cmd{}, errLine
	}
	if verb >= 4 {
		if len(words) != 1 {
			return Cmd{}, errLine
		}
		return Cmd{verb, ""}, 0
	}
	if len(words) != 2 {
		return Cmd{}, errLine
	}
	if !realName(words[1]) {
		return Cmd{}, errName
	}
	return Cmd{verb, words[1]}, 0
}

// plainPrint is the same of Print.
func plainPrint(c Cmd) (string, int) {
	if c.Verb < 0 || c.Verb > 5 {
		return "", errLine
	}
	if c.Verb >= 4 {
		if c.Name != "" {
			return "", errLine
		}
		return verbWords()[c.Verb], 0
	}
	if !realName(c.Name) {
		return "", errName
	}
	return verbWords()[c.Verb] + " " + c.Name, 0
}

// plainRow is a host's line as fmt tells it.
func plainRow(name string, state, making, idle, busy int) string {
	word := "?"
	if state >= 0 && state < 4 {
		word = stateWords()[state]
	}
	return fmt.Sprintf("%s %s %d %d %d", name, word, making, idle, busy)
}

// hostLine is the form of a host's line.
var hostLine = regexp.MustCompile(`^([a-z0-9.-]{1,16}) (active|draining|quarantined|retired) (0|-?[1-9][0-9]{0,8}) (0|-?[1-9][0-9]{0,8}) (0|-?[1-9][0-9]{0,8})$`)

// plainParts is what a host's line says.
func plainParts(s string) (string, string, []int, bool) {
	m := hostLine.FindStringSubmatch(s)
	if m == nil {
		return "", "", nil, false
	}
	l := make([]int, 3)
	for i := range l {
		fmt.Sscan(m[3+i], &l[i])
	}
	return m[1], m[2], l, true
}

// holdParse holds Parse of a line against the plain one, and against Print: what is parsed is printed as it was.
func holdParse(t *testing.T, line string) {
	t.Helper()
	want, err := plainParse(line)
	c, e := Parse(line)
	if c != want || int(e) != err {
		t.Errorf("Parse of %q: %+v, %d, want %+v, %d", line, c, e, want, err)
	}
	if e == api.OK {
		if s, e := Print(c); s != line || e != api.OK {
			t.Errorf("Print of what %q is parsed as: %q, %d", line, s, e)
		}
	}
	if c2, e2 := Parse(line); c2 != c || e2 != e {
		t.Errorf("Parse of %q: %+v, %d, then %+v, %d", line, c, e, c2, e2)
	}
}

// holdPrint is the same of Print.
func holdPrint(t *testing.T, c Cmd) {
	t.Helper()
	want, err := plainPrint(c)
	s, e := Print(c)
	if s != want || int(e) != err {
		t.Errorf("Print of %+v: %q, %d, want %q, %d", c, s, e, want, err)
	}
	if e == api.OK {
		if c2, e := Parse(s); c2 != c || e != api.OK {
			t.Errorf("Parse of %q, which %+v is printed as: %+v, %d", s, c, c2, e)
		}
	}
	if s2, e2 := Print(c); s2 != s || e2 != e {
		t.Errorf("Print of %+v: %q, %d, then %q, %d", c, s, e, s2, e2)
	}
}

// holdParts is the same of Parts.
func holdParts(t *testing.T, s string) {
	t.Helper()
	name, state, l, is := plainParts(s)
	gotName, gotState, got, gotIs := Parts(s)
	if gotName != name || gotState != state || !slices.Equal(got, l) || gotIs != is {
		t.Errorf("Parts of %q: %q, %q, %v, %t, want %q, %q, %v, %t", s, gotName, gotState, got, gotIs, name, state, l, is)
	}
}

// wantParse tells a line whose answer is written down by hand.
func wantParse(t *testing.T, line string, want Cmd, err int) {
	t.Helper()
	if c, e := Parse(line); c != want || int(e) != err {
		t.Errorf("Parse of %q: %+v, %d, want %+v, %d", line, c, e, want, err)
	}
	holdParse(t, line)
}

// refuse tells lines that all have one error.
func refuse(t *testing.T, err int, lines ...string) {
	t.Helper()
	for _, line := range lines {
		wantParse(t, line, Cmd{}, err)
	}
}

// P19.1: the errors' numbers, and those of the verbs, are as the document has them.
func TestNumbers(t *testing.T) {
	if api.ErrName != errName || api.ErrLine != errLine || api.ErrLong != errLong || api.MaxLine != 400 || api.MaxName != 16 {
		t.Error("the numbers of package api are not the document's")
	}
	if l := []int{Drain, Undrain, Force, Eject, Status, Tick}; !slices.Equal(l, []int{0, 1, 2, 3, 4, 5}) {
		t.Error(l)
	}
}

// P19.1: the chapter's example.
func TestExample(t *testing.T) {
	wantParse(t, "drain db-1", Cmd{Verb: 0, Name: "db-1"}, 0)
}

// P19.1: Parse tells each verb, and the name where one belongs.
func TestParseTells(t *testing.T) {
	for verb, word := range verbWords()[:4] {
		for _, name := range goodNames() {
			wantParse(t, word+" "+name, Cmd{verb, name}, 0)
		}
	}
	wantParse(t, "status", Cmd{4, ""}, 0)
	wantParse(t, "tick", Cmd{5, ""}, 0)
}

// P19.1: ErrLine: the first word is none of these; the line is split at single blanks, and nothing else.
func TestParseWords(t *testing.T) {
	refuse(t, errLine, "", " ", "  ", "   ", "a", "a b", "drains", "statu", "ticks", "go", "drain,a", "\x00", "\xff\xfe")
	for _, word := range verbWords() {
		for _, line := range []string{word, word + " a"} {
			refuse(t, errLine, " "+line, "  "+line, strings.ToUpper(line), strings.ToUpper(line[:1])+line[1:], line[1:], "x"+line, "\t"+line, "\n"+line, "\x00"+line)
			refuse(t, errLine, line+"  ", line+" b ", line+"  b")
		}
		for cut := range word {
			refuse(t, errLine, word[:cut], word[:cut]+" a")
		}
		for _, behind := range []string{"x", "s", ".", "\x00", "\t", "\n", "\r\n", "\xa0", "\u00a0"} {
			refuse(t, errLine, word+behind, word+behind+"a", word+behind+" a")
		}
		for b := range 256 {
			if b != ' ' {
				refuse(t, errLine, word+string([]byte{byte(b)})+"a")
			}
		}
	}
}

// P19.1: ErrLine: more or fewer words. An empty word is a word, too.
func TestParseCount(t *testing.T) {
	for _, word := range verbWords()[:4] {
		refuse(t, errLine, word, word+" a b", word+" a b c", word+"  a", word+" a ", word+"  ", word+" a  b", word+strings.Repeat(" ", 300), word+strings.Repeat(" a", 190))
		refuse(t, errName, word+" ")
	}
	for _, word := range verbWords()[4:] {
		refuse(t, errLine, word+" ", word+" a", word+" a b", word+"  ", word+"  a", word+strings.Repeat(" ", 300), word+" A", word+" "+word)
	}
}

// P19.1: ErrName: no name, for each reason that layer 9 knows.
func TestParseName(t *testing.T) {
	for _, word := range verbWords()[:4] {
		for _, name := range badWords() {
			refuse(t, errName, word+" "+name)
		}
		wantParse(t, word+" "+strings.Repeat("x", 16), Cmd{slices.Index(verbWords(), word), strings.Repeat("x", 16)}, 0)
		refuse(t, errName, word+" "+strings.Repeat("x", 17))
	}
	for b := range 256 {
		for _, name := range []string{string([]byte{byte(b)}), string([]byte{'a', byte(b)}), string([]byte{byte(b), 'a'})} {
			holdParse(t, "force "+name)
		}
	}
}

// P19.1: ErrLong: more than 400 bytes.
func TestParseLong(t *testing.T) {
	for _, at := range []int{399, 400, 401, 402, 10000} {
		nameErr, lineErr := errName, errLine
		if at > 400 {
			nameErr, lineErr = errLong, errLong
		}
		refuse(t, nameErr, "drain "+strings.Repeat("a", at-6))
		refuse(t, lineErr, "drain"+strings.Repeat(" ", at-5), strings.Repeat("a", at), strings.Repeat(" ", at), "status"+strings.Repeat(" ", at-6), "drain a"+strings.Repeat(" ", at-7), strings.Repeat("\x00", at))
	}
}

// P19.1: of several errors, the first of the chapter's row is told.
func TestParseRow(t *testing.T) {
	long := strings.Repeat("A", 400)
	refuse(t, errLong, "gone "+long, "drain "+long, "drain a "+long, "status "+long, "Drain A "+long)
	refuse(t, errLine, "gone A", "gone  ", "Drain A", "gone "+strings.Repeat("a", 17))
	refuse(t, errLine, "drain A b", "drain a B", "drain  A", "drain A ", "drain "+strings.Repeat("a", 17)+" a", "status A", "tick "+strings.Repeat("a", 17))
}

// P19.1: Print tells each verb's line.
func TestPrint(t *testing.T) {
	for verb, word := range verbWords()[:4] {
		for _, name := range goodNames() {
			if s, e := Print(Cmd{verb, name}); s != word+" "+name || e != api.OK {
				t.Error(verb, name, s, e)
			}
		}
	}
	for verb, word := range map[int]string{4: "status", 5: "tick"} {
		if s, e := Print(Cmd{Verb: verb}); s != word || e != api.OK {
			t.Error(verb, s, e)
		}
	}
}

// P19.1: Print: ErrLine: no such verb, or a name where none belongs; then ErrName.
func TestPrintErrors(t *testing.T) {
	for _, name := range append(badNames(), goodNames()...) {
		for _, verb := range []int{lowest, lowest + 1, -1000, -6, -2, -1, 6, 7, 10, 256, 1 << 32, most - 1, most} {
			if s, e := Print(Cmd{verb, name}); s != "" || e != errLine {
				t.Errorf("%d, %q: %q, %d", verb, name, s, e)
			}
		}
		for verb := 4; verb <= 5; verb++ {
			if s, e := Print(Cmd{verb, name}); name != "" && (s != "" || e != errLine) {
				t.Errorf("%d, %q: %q, %d", verb, name, s, e)
			}
		}
	}
	for _, name := range badNames() {
		for verb := range 4 {
			if s, e := Print(Cmd{verb, name}); s != "" || e != errName {
				t.Errorf("%d, %q: %q, %d", verb, name, s, e)
			}
		}
	}
}

// P19.1: Answer tells ok, the error's word, or the number of an error that there isn't.
func TestAnswer(t *testing.T) {
	if s := Answer(0); s != "ok" {
		t.Error(s)
	}
	for i, word := range errorWords() {
		if s := Answer(api.Errno(i + 1)); s != word {
			t.Error(i+1, s, word)
		}
	}
	for n, want := range map[int]string{
		14: "error 14", 15: "error 15", 100: "error 100", -1: "error -1", -2: "error -2", -13: "error -13", 256: "error 256",
		most: "error 9223372036854775807", lowest: "error -9223372036854775808",
	} {
		if s := Answer(api.Errno(n)); s != want {
			t.Error(n, s, want)
		}
	}
	for n := -1000; n < 1000; n++ {
		if s := Answer(api.Errno(n)); (n < 0 || n > 13) && s != fmt.Sprint("error ", n) {
			t.Error(n, s)
		}
	}
}

// P19.1: Row tells any name, the state's name or a question mark, and any numbers.
func TestRow(t *testing.T) {
	for state, word := range stateWords() {
		if s := Row("db-1", state, 1, 2, 3); s != "db-1 "+word+" 1 2 3" {
			t.Error(s)
		}
	}
	for _, state := range []int{lowest, -1000, -2, -1, 4, 5, 1000, most} {
		if s := Row("db-1", state, 1, 2, 3); s != "db-1 ? 1 2 3" {
			t.Error(state, s)
		}
	}
	if s := Row("a", 0, lowest, 0, most); s != "a active -9223372036854775808 0 9223372036854775807" {
		t.Error(s)
	}
	if s := Row("", 1, 0, 0, 0); s != " draining 0 0 0" {
		t.Error(s)
	}
	numbers := []int{lowest, -1000000000, -10, -1, 0, 1, 9, 10, 999999999, 1000000000, most}
	for _, name := range append(badNames(), goodNames()...) {
		for _, n := range numbers {
			for state := -1; state <= 4; state++ {
				for _, l := range [][3]int{{n, 4, 5}, {4, n, 5}, {4, 5, n}} {
					if s, want := Row(name, state, l[0], l[1], l[2]), plainRow(name, state, l[0], l[1], l[2]); s != want {
						t.Errorf("%q, want %q", s, want)
					}
				}
			}
		}
	}
}

// P19.1: Parts tells what Row was given, if the name may be, there is such a state, and no number is too long.
func TestPartsOfRow(t *testing.T) {
	numbers := []int{lowest, -1000000000, -999999999, -10, -1, 0, 1, 9, 10, 999999999, 1000000000, most}
	for _, name := range append(badNames(), goodNames()...) {
		for state := -1; state <= 4; state++ {
			for _, n := range numbers {
				for _, l := range [][]int{{n, 4, 5}, {4, n, 5}, {4, 5, n}} {
					s := Row(name, state, l[0], l[1], l[2])
					gotName, word, got, is := Parts(s)
					may := realName(name) && state >= 0 && state < 4 && n > -1000000000 && n < 1000000000
					if is != may {
						t.Errorf("%q: %t", s, is)
					}
					if may && (gotName != name || word != stateWords()[state] || !slices.Equal(got, l)) {
						t.Errorf("%q: %q, %q, %v", s, gotName, word, got)
					}
					holdParts(t, s)
				}
			}
		}
	}
}

// noLine tells texts that are no host's line: all but the false are zero values then.
func noLine(t *testing.T, texts ...string) {
	t.Helper()
	for _, s := range texts {
		if name, state, l, is := Parts(s); name != "" || state != "" || len(l) != 0 || is {
			t.Errorf("Parts of %q: %q, %q, %v, %t", s, name, state, l, is)
		}
		holdParts(t, s)
	}
}

// P19.1: Parts of a text that hasn't the words of a host's line, or not one blank between each: none.
func TestPartsWords(t *testing.T) {
	noLine(t, "", " ", "    ", "     ", "db", "db active", "db active 1", "db active 1 2", "db active 1 2 3 4", "db active 1 2 3 ", " db active 1 2 3", "db active 1 2 3  ")
	noLine(t, "db  active 1 2 3", "db active  1 2 3", "db active 1  2 3", "db active 1 2  3", "db active 1 2 ", "db active  2 3", "db  1 2 3", " active 1 2 3")
	noLine(t, "db\tactive 1 2 3", "db active 1 2\t3", "db active 1 2 3\n", "db active 1 2 3\x00", "db active 1,2,3", "active db 1 2 3", "1 2 3 db active")
	noLine(t, strings.Repeat(" ", 100000), strings.Repeat("1 ", 100000), "db active 1 2 3"+strings.Repeat(" 4", 100000))
}

// P19.1: Parts: the name may be, and the state's name is one of layer 10.
func TestPartsNames(t *testing.T) {
	for _, name := range badNames() {
		noLine(t, name+" active 1 2 3")
	}
	noLine(t, "db ? 1 2 3", "db gone 1 2 3", "db Active 1 2 3", "db ACTIVE 1 2 3", "db activ 1 2 3", "db actives 1 2 3", "db active\x00 1 2 3", "db 0 1 2 3", "db drain 1 2 3", "db ok 1 2 3")
	for _, word := range stateWords() {
		noLine(t, "db "+strings.ToUpper(word)+" 1 2 3", "db "+word[1:]+" 1 2 3", "db "+word+"d 1 2 3", "db ?"+word+" 1 2 3")
		if name, state, l, is := Parts("db " + word + " 1 2 3"); name != "db" || state != word || !slices.Equal(l, []int{1, 2, 3}) || !is {
			t.Error(word, name, state, l, is)
		}
	}
}

// P19.1: Parts: numbers are as Row writes them, of 9 digits at most.
func TestPartsNumbers(t *testing.T) {
	bad := []string{"00", "01", "03", "-0", "-01", "+1", "+0", "+", "-", "--1", "", "a", "1a", "a1", "1_0", "1.0", "1e3", "0x1", "0b1", "0o7", "1\x00", "\x001", "1\n", "٣", "1\xff", "?", "1-", "1-1", "1000000000", "-1000000000", "0000000001", "000000001", "-000000001", "9223372036854775807", "-9223372036854775808", "9223372036854775808", strings.Repeat("1", 100), strings.Repeat("0", 100), strings.Repeat("-", 100)}
	for _, word := range bad {
		noLine(t, "db active "+word+" 2 3", "db active 1 "+word+" 3", "db active 1 2 "+word)
	}
	good := map[string]int{"0": 0, "1": 1, "-1": -1, "10": 10, "-10": -10, "99999999": 99999999, "100000000": 100000000, "123456789": 123456789, "999999999": 999999999, "-999999999": -999999999, "-100000000": -100000000}
	for word, n := range good {
		for i := range 3 {
			words, want := []string{"4", "5", "6"}, []int{4, 5, 6}
			words[i], want[i] = word, n
			s := "db retired " + strings.Join(words, " ")
			if name, state, l, is := Parts(s); name != "db" || state != "retired" || !slices.Equal(l, want) || !is {
				t.Errorf("%q: %q, %q, %v, %t", s, name, state, l, is)
			}
			holdParts(t, s)
		}
	}
}

// P19.1 and rule R4: a list that was answered is the caller's own, its room behind it, too.
func TestPartsMemory(t *testing.T) {
	_, _, l, _ := Parts("db active 1 2 3")
	_, _, other, _ := Parts("db active 1 2 3")
	for i := range l {
		l[i] = -7
	}
	l = append(l, 8, 9)
	for i := range l[:cap(l)] {
		l[:cap(l)][i] = -9
	}
	if !slices.Equal(other, []int{1, 2, 3}) {
		t.Error(other)
	}
	if name, state, again, is := Parts("db active 1 2 3"); name != "db" || state != "active" || !slices.Equal(again, []int{1, 2, 3}) || !is {
		t.Error(name, state, again, is)
	}
	if s := Row("db", 0, 1, 2, 3); s != "db active 1 2 3" {
		t.Error(s)
	}
}

// picker draws pieces of texts.
type picker struct{ *rand.Rand }

func (p picker) of(l []string) string { return l[p.Intn(len(l))] }

// name is a name, mostly one that may be.
func (p picker) name() string {
	switch p.Intn(6) {
	case 0:
		return p.of(badNames())
	case 1:
		return p.of(goodNames())
	}
	letters := "abcxyz019.-"
	if p.Intn(4) == 0 {
		letters += "A_ \x00\xff"
	}
	b := make([]byte, p.Intn(19))
	for i := range b {
		b[i] = letters[p.Intn(len(letters))]
	}
	return string(b)
}

// number is a number's word, mostly one that may be.
func (p picker) number() string {
	switch p.Intn(5) {
	case 0:
		b := make([]byte, p.Intn(12))
		for i := range b {
			b[i] = "0123456789-+ "[p.Intn(13)]
		}
		return string(b)
	case 1:
		return fmt.Sprint(p.Intn(2e9) - 1e9)
	case 2:
		return fmt.Sprint(int(p.Uint64()))
	}
	return fmt.Sprint(p.Intn(20) - 5)
}

// bytes is any bytes.
func (p picker) bytes() string {
	b := make([]byte, p.Intn(30))
	p.Read(b)
	return string(b)
}

// bend is a text, often with a byte of it another, gone, or twice.
func (p picker) bend(s string) string {
	if s == "" || p.Intn(2) == 0 {
		return s
	}
	at := p.Intn(len(s))
	switch p.Intn(4) {
	case 0:
		return s[:at] + s[at+1:]
	case 1:
		return s[:at] + s[at:at+1] + s[at:]
	case 2:
		return s[:at] + string([]byte{byte(p.Intn(256))}) + s[at+1:]
	}
	return s[:at] + p.of([]string{" ", "a", "0", "-", "A", "\x00"}) + s[at:]
}

// line is a line, or nearly one.
func (p picker) line() string {
	words := []string{p.of(append(verbWords(), "gone", "", "Drain"))}
	for range p.Intn(4) {
		words = append(words, p.name())
	}
	s := strings.Join(words, " ")
	if p.Intn(50) == 0 {
		s += strings.Repeat("a", max(0, 398+p.Intn(6)-len(s)))
	}
	return p.bend(s)
}

// host is a host's line, or nearly one.
func (p picker) host() string {
	words := []string{p.name(), p.of(append(stateWords(), stateWords()...))}
	if p.Intn(8) == 0 {
		words[1] = p.of([]string{"?", "", "gone", "Active", "drain"})
	}
	for range 3 {
		words = append(words, p.number())
	}
	if p.Intn(8) == 0 {
		words = words[:p.Intn(6)]
	} else if p.Intn(8) == 0 {
		words = append(words, p.number())
	}
	s := strings.Join(words, " ")
	if p.Intn(2) == 0 {
		return s
	}
	return p.bend(s)
}

// cmd is a command, or nearly one.
func (p picker) cmd() Cmd {
	c := Cmd{Verb: p.Intn(8) - 1, Name: p.name()}
	if p.Intn(3) == 0 {
		c.Name = ""
	}
	if p.Intn(20) == 0 {
		c.Verb = int(p.Uint64())
	}
	return c
}

// P19.1: the calls answer as above, of any lines.
func TestAny(t *testing.T) {
	p := picker{rand.New(rand.NewSource(19))}
	parsed, parts := 0, 0
	for range 100000 {
		line, host := p.line(), p.host()
		for _, s := range []string{line, host, p.bytes()} {
			holdParse(t, s)
			holdParts(t, s)
		}
		holdPrint(t, p.cmd())
		if _, e := Parse(line); e == api.OK {
			parsed++
		}
		if _, _, _, is := Parts(host); is {
			parts++
		}
		if t.Failed() {
			return
		}
	}
	if parsed < 5000 || parts < 5000 {
		t.Error("too few of the lines were such as may be:", parsed, parts)
	}
}

// P19.1: no verb, error, state or number that is drawn is told otherwise than the chapter says.
func TestAnyNumbers(t *testing.T) {
	p := picker{rand.New(rand.NewSource(191))}
	draw := func() int { return int(p.Uint64()) >> p.Intn(64) }
	for range 20000 {
		name, state, a, b, c := p.bytes(), draw(), draw(), draw(), draw()
		if s, want := Row(name, state, a, b, c), plainRow(name, state, a, b, c); s != want {
			t.Errorf("%q, want %q", s, want)
		}
		e := draw()
		want := fmt.Sprint("error ", e)
		if e == 0 {
			want = "ok"
		} else if e > 0 && e < 14 {
			want = errorWords()[e-1]
		}
		if s := Answer(api.Errno(e)); s != want {
			t.Error(e, s, want)
		}
	}
}

// P19.2: what is printed is parsed as it was, and what is parsed is printed so.
func TestThereAndBack(t *testing.T) {
	p := picker{rand.New(rand.NewSource(192))}
	for _, verb := range []int{lowest, -1, 0, 1, 2, 3, 4, 5, 6, most} {
		for _, name := range append(badNames(), goodNames()...) {
			holdBack(t, Cmd{verb, name})
		}
	}
	printed := 0
	for range 50000 {
		if holdBack(t, p.cmd()) {
			printed++
		}
		line := p.line()
		c, e := Parse(line)
		if e != api.OK {
			continue
		}
		if s, e := Print(c); s != line || e != api.OK {
			t.Errorf("%q is parsed as %+v, and that is printed as %q, %d", line, c, s, e)
		}
	}
	if printed < 5000 {
		t.Error("too few were printed:", printed)
	}
}

// holdBack holds that what the command is printed as is parsed as it, and tells whether it is printed.
func holdBack(t *testing.T, c Cmd) bool {
	t.Helper()
	s, e := Print(c)
	if e != api.OK {
		return false
	}
	if got, e := Parse(s); got != c || e != api.OK {
		t.Errorf("%+v is printed as %q, and that is parsed as %+v, %d", c, s, got, e)
	}
	return true
}

// T0: what ends a parse is caught within it, in whatever row the calls come, and from however many at once.
func TestNoPanic(t *testing.T) {
	done := make(chan bool)
	for n := range 8 {
		go func() {
			p := picker{rand.New(rand.NewSource(int64(n)))}
			for range 2000 {
				line := p.line()
				want, err := plainParse(line)
				if c, e := Parse(line); c != want || int(e) != err {
					t.Errorf("%q: %+v, %d", line, c, e)
				}
				Parts(p.bytes())
			}
			done <- true
		}()
	}
	for range 8 {
		<-done
	}
}
