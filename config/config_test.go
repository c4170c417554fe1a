package config

import (
	"math"
	"math/big"
	"math/rand"
	"reflect"
	"regexp"
	"strings"
	"testing"

	"hostler/api"
)

const (
	maxSpan = 1 << 20
	example = "64 2 4 3 10 20 100 10 30 1 50 3 40 5 2"
)

// The fields whose upper bound is another field.
const (
	perHost = 1
	life    = 6
	jitter  = 7
	warm    = 9
)

// plain is a config's numbers in their row, told without the package.
type plain [15]int

func exampleNumbers() plain {
	return plain{64, 2, 4, 3, 10, 20, 100, 10, 30, 1, 50, 3, 40, 5, 2}
}

// config lays the numbers into api.Config's fields as that type has them.
func (p plain) config() api.Config {
	var c api.Config
	v := reflect.ValueOf(&c).Elem()
	for i, n := range p {
		v.Field(i).SetInt(int64(n))
	}
	return c
}

// numbers is a config's numbers, as api.Config has them.
func numbers(c api.Config) plain {
	var p plain
	v := reflect.ValueOf(c)
	for i := range p {
		p[i] = int(v.Field(i).Int())
	}
	return p
}

// text is the numbers' text.
func (p plain) text() string {
	s := ""
	for i, n := range p {
		if i > 0 {
			s += " "
		}
		s += big.NewInt(int64(n)).String()
	}
	return s
}

// with is the numbers with another one at a place.
func (p plain) with(n, v int) plain {
	p[n] = v
	return p
}

// least and most are a field's bounds.
func (p plain) least(n int) int {
	return [15]int{1, 1, 1, 0, 1, 1, 1, 0, 1, 0, 1, 1, 1, 1, 0}[n]
}

func (p plain) most(n int) int {
	return [15]int{1024, 8, 32, 16, maxSpan, maxSpan, maxSpan, p[life], maxSpan, p[perHost], maxSpan, 16, maxSpan, maxSpan, 256}[n]
}

// first is the place of the first one that may not be; -1: all may be.
func (p plain) first() int {
	for n, v := range p {
		if v < p.least(n) || v > p.most(n) {
			return n
		}
	}
	return -1
}

// form is what a text may look like, whatever its numbers.
var form = regexp.MustCompile(`^(0|-?[1-9][0-9]{0,8})( (0|-?[1-9][0-9]{0,8})){14}$`)

// plainRead is what a text says.
func plainRead(s string) (plain, api.Errno) {
	if !form.MatchString(s) {
		return plain{}, api.ErrForm
	}
	var p plain
	for i, word := range strings.Split(s, " ") {
		v, _ := new(big.Int).SetString(word, 10)
		p[i] = int(v.Int64())
	}
	if p.first() >= 0 {
		return plain{}, api.ErrConfig
	}
	return p, api.OK
}

// holdCheck holds Check of the numbers against the plain one.
func holdCheck(t *testing.T, p plain) {
	t.Helper()
	want, err := p.first(), api.OK
	if want >= 0 {
		err = api.ErrConfig
	}
	if n, e := Check(p.config()); n != want || e != err {
		t.Errorf("Check of %v: %d, %d, want %d, %d", p, n, e, want, err)
	}
}

// holdRead holds Read of a text against the plain one; what is read is written as that text.
func holdRead(t *testing.T, s string) {
	t.Helper()
	want, err := plainRead(s)
	c, e := Read(s)
	if numbers(c) != want || e != err {
		t.Errorf("Read of %q: %v, %d, want %v, %d", s, numbers(c), e, want, err)
	}
	if e == api.OK && Text(c) != s {
		t.Errorf("%q is written as %q", s, Text(c))
	}
}

func wantErr(t *testing.T, s string, want api.Errno) {
	t.Helper()
	if c, e := Read(s); e != want || c != (api.Config{}) {
		t.Errorf("Read of %q: %v, %d, want %d", s, c, e, want)
	}
	holdRead(t, s)
}

// odd are numbers beside all bounds.
func odd() []int {
	return []int{math.MinInt, math.MinInt + 1, -1 << 32, -1 << 31, -maxSpan, -1024, -9, -2, -1, 0, 1, 2, 7, 8, 9, 10, 15, 16, 17, 31, 32, 33, 255, 256, 257, 1023, 1024, 1025, maxSpan - 1, maxSpan, maxSpan + 1, 999_999_999, 1_000_000_000, 1 << 31, 1 << 32, 1<<32 + 1, 1 << 62, math.MaxInt - 1, math.MaxInt}
}

// noPlaces are places at which there is no field.
func noPlaces() []int {
	return []int{math.MinInt, -1 << 32, -16, -15, -2, -1, 15, 16, 17, 30, 1 << 31, 1 << 32, 1<<32 + 1, math.MaxInt}
}

// anyNumber is a number of any size.
func anyNumber(r *rand.Rand) int {
	return int(r.Uint64()) >> r.Intn(64)
}

// mayBe is numbers that may be, often at their bounds.
func mayBe(r *rand.Rand) plain {
	var p plain
	for n := range p {
		least, most := p.least(n), p.most(n)
		switch r.Intn(4) {
		case 0:
			p[n] = least
		case 1:
			p[n] = most
		default:
			p[n] = least + r.Intn(most-least+1)
		}
	}
	return p
}

// P8.1: the chapter's example may be, is written so, and is read.
func TestExample(t *testing.T) {
	c := api.Config{Cap: 64, PerHost: 2, Total: 4, Queue: 3, Wait: 10, Drain: 20, Life: 100, Jitter: 10, Idle: 30, Warm: 1, Window: 50, Errors: 3, Quarantine: 40, Back: 5, Guard: 2}
	if n, e := Check(c); n != -1 || e != api.OK {
		t.Errorf("Check: %d, %d", n, e)
	}
	if s := Text(c); s != example {
		t.Errorf("Text: %q", s)
	}
	if got, e := Read(example); got != c || e != api.OK {
		t.Errorf("Read: %v, %d", got, e)
	}
}

// P8.1: each field just below, at and just past its bounds, all others as they may be.
func TestCheckBounds(t *testing.T) {
	base := exampleNumbers().with(jitter, 0).with(warm, 0) // so that Life and PerHost may be anything from 1 on
	for n, x := range [15][2]int{{1, 1024}, {1, 8}, {1, 32}, {0, 16}, {1, 1048576}, {1, 1048576}, {1, 1048576}, {0, 100}, {1, 1048576}, {0, 2}, {1, 1048576}, {1, 16}, {1, 1048576}, {1, 1048576}, {0, 256}} {
		least, most := x[0], x[1]
		for _, v := range []int{least, least + 1, most - 1, most} {
			if got, e := Check(base.with(n, v).config()); got != -1 || e != api.OK {
				t.Errorf("field %d, %d: %d, %d", n, v, got, e)
			}
		}
		for _, v := range []int{math.MinInt, least - 2, least - 1, most + 1, most + 2, math.MaxInt} {
			if got, e := Check(base.with(n, v).config()); got != n || e != api.ErrConfig {
				t.Errorf("field %d, %d: %d, %d", n, v, got, e)
			}
		}
	}
}

// P8.1: Jitter's upper bound is Life, Warm's is PerHost, whatever those are.
func TestCheckOfTwo(t *testing.T) {
	for _, v := range []int{1, 2, 99, maxSpan - 1, maxSpan} {
		p := exampleNumbers().with(life, v)
		for _, x := range []struct{ jitter, want int }{{-1, jitter}, {0, -1}, {v - 1, -1}, {v, -1}, {v + 1, jitter}} {
			if n, _ := Check(p.with(jitter, x.jitter).config()); n != x.want {
				t.Errorf("Life %d, Jitter %d: %d", v, x.jitter, n)
			}
		}
	}
	for v := 1; v <= 8; v++ {
		p := exampleNumbers().with(perHost, v)
		for _, x := range []struct{ warm, want int }{{-1, warm}, {0, -1}, {v - 1, -1}, {v, -1}, {v + 1, warm}} {
			if n, _ := Check(p.with(warm, x.warm).config()); n != x.want {
				t.Errorf("PerHost %d, Warm %d: %d", v, x.warm, n)
			}
		}
	}
}

// P8.1: the place is that of the first one, of several that may not be.
func TestCheckFirst(t *testing.T) {
	for a := range 15 {
		for b := range 15 {
			for _, v := range [][2]int{{-1, -1}, {-1, maxSpan + 1}, {maxSpan + 1, -1}, {math.MaxInt, maxSpan + 1}, {math.MinInt, math.MaxInt}, {math.MaxInt, math.MinInt}} {
				n, e := Check(exampleNumbers().with(a, v[0]).with(b, v[1]).config())
				if n != min(a, b) || e != api.ErrConfig {
					t.Errorf("fields %d and %d, %v: %d, %d", a, b, v, n, e)
				}
			}
		}
	}
	for _, c := range []api.Config{{}, plain{-1, -1, -1, -1, -1, -1, -1, -1, -1, -1, -1, -1, -1, -1, -1}.config()} {
		if n, e := Check(c); n != 0 || e != api.ErrConfig {
			t.Errorf("Check of %v: %d, %d", c, n, e)
		}
	}
}

// P8.1, R5: Check of any numbers.
func TestCheckOfAny(t *testing.T) {
	for n := range 15 {
		for _, v := range odd() {
			p := exampleNumbers().with(n, v)
			holdCheck(t, p)
			for m := range 15 {
				holdCheck(t, p.with(m, v))
			}
		}
	}
	r := rand.New(rand.NewSource(8))
	for range 20000 {
		p := mayBe(r)
		holdCheck(t, p)
		if n, e := Check(p.config()); n != -1 || e != api.OK {
			t.Errorf("Check of %v: %d, %d", p, n, e)
		}
		for range r.Intn(4) {
			p[r.Intn(15)] = anyNumber(r)
		}
		holdCheck(t, p)
	}
}

// P8.1: Text of any numbers, the least and the greatest int among them.
func TestText(t *testing.T) {
	for _, x := range []struct {
		p    plain
		want string
	}{
		{plain{}, "0 0 0 0 0 0 0 0 0 0 0 0 0 0 0"},
		{plain{1, 2, 3, 4, 5, 6, 7, 8, 9, 10, 11, 12, 13, 14, 15}, "1 2 3 4 5 6 7 8 9 10 11 12 13 14 15"},
		{plain{-1, 0, 1, -10, 10, -100, 100, 1000000000, -1000000000, 999999999, -999999999, 0, 1, math.MinInt, math.MaxInt}, "-1 0 1 -10 10 -100 100 1000000000 -1000000000 999999999 -999999999 0 1 -9223372036854775808 9223372036854775807"},
	} {
		if got := Text(x.p.config()); got != x.want {
			t.Errorf("Text of %v: %q, want %q", x.p, got, x.want)
		}
	}
	r := rand.New(rand.NewSource(80))
	for range 5000 {
		var p plain
		for n := range p {
			p[n] = anyNumber(r)
		}
		if got := Text(p.config()); got != p.text() {
			t.Errorf("Text of %v: %q, want %q", p, got, p.text())
		}
	}
}

// P8.1: too few numbers, too many, and none.
func TestReadHowMany(t *testing.T) {
	words := strings.Split(example+" "+example+" "+example, " ")
	for n := range len(words) + 1 {
		s := strings.Join(words[:n], " ")
		if n == 15 {
			if _, e := Read(s); e != api.OK {
				t.Errorf("Read of %q: %d", s, e)
			}
			continue
		}
		wantErr(t, s, api.ErrForm)
	}
	for _, s := range []string{"", " ", "  ", "64", "64 ", " 64", "-", "a", "\n", "\x00", strings.Repeat(" ", 14), strings.Repeat(" ", 15), strings.Repeat(" ", 16)} {
		wantErr(t, s, api.ErrForm)
	}
	// Were the form not asked first, its numbers would be told: too few or too many that may not be either.
	for _, s := range []string{"0", "0 0 0 0 0 0 0 0 0 0 0 0 0 0", "0 0 0 0 0 0 0 0 0 0 0 0 0 0 0 0", "0 0 0 0 0 0 0 0 0 0 0 0 0 0 x", "0 0 0 0 0 0 0 0 0 0 0 0 0 0 0 x"} {
		wantErr(t, s, api.ErrForm)
	}
}

// P8.1: bytes laid between the text's, ahead of it and behind it.
func TestReadBetween(t *testing.T) {
	for _, more := range []string{" ", "  ", "\t", "\n", "\r", "\r\n", "\v", "\f", "\x00", "\u00a0", "\u2003", "\ufeff", ",", ".", "_", "+", "a", "x", "e", "\xff", "\xc3", "é", "٣", "\u2212"} {
		for at := range len(example) + 1 {
			// A lone blank within a number makes one number too many.
			wantErr(t, example[:at]+more+example[at:], api.ErrForm)
		}
	}
	for _, blank := range []string{"\t", "\n", "\r", "\v", "\f", "\x00", "\u00a0", "\u2003", "  ", "", ",", "_"} {
		words := strings.Split(example, " ")
		for n := 1; n < len(words); n++ {
			wantErr(t, strings.Join(words[:n], " ")+blank+strings.Join(words[n:], " "), api.ErrForm)
		}
		wantErr(t, strings.ReplaceAll(example, " ", blank), api.ErrForm)
	}
}

// P8.1: words that are no numbers as a text has them, at each place.
func TestReadWords(t *testing.T) {
	words := strings.Split(example, " ")
	for n, word := range words {
		put := func(w string) string {
			l := append([]string(nil), words...)
			l[n] = w
			return strings.Join(l, " ")
		}
		for _, w := range []string{
			"0" + word, "00" + word, "00", "000", "-0", "-00", "-0" + word, "--" + word, "--1", "-", "+", "+" + word, "+0", "-+1", "+-1", word + "-", word + "+", "1-1",
			"", "a", "x1", "1x", "0x1", "0X1", "0b1", "0o7", "1_0", "1e1", "1E1", "1.0", ".5", "1.", "1,0", "inf", "nan", "true", "cap", "\"1\"", "'1'", "(1)", "#1", "1\n", "\n1", "\t1", "1\t", "1\r", "\x00", "1\x00", "\x001",
			"\xff", "1\xff", "\xff1", "\xc3\x28", "\xe2\x82", "٣", "１", "²", "½", "Ⅷ", "\u22121", "é", "/", ":", "1/", "1:",
			"1234567890", "1000000000", "-1000000000", "-1234567890", "0000000001", "0123456789", "00123456789", "4294967297", "18446744073709551617", "18446744073709551617" + word, "9223372036854775807", "-9223372036854775808", "9223372036854775808", "-9223372036854775809", strings.Repeat("1", 1000), strings.Repeat("0", 1000), strings.Repeat("-", 1000), "-" + strings.Repeat("9", 1000),
		} {
			wantErr(t, put(w), api.ErrForm)
		}
		for _, w := range []string{"999999999", "100000000", "123456789", "-1", "-9", "-10", "-99999999", "-100000000", "-123456789", "-999999999", "1048577"} {
			wantErr(t, put(w), api.ErrConfig)
		}
	}
}

// P8.1: a text whose config may not be: Check's error, and none.
func TestReadMayNotBe(t *testing.T) {
	for n := range 15 {
		for _, v := range odd() {
			p := exampleNumbers().with(n, v)
			holdRead(t, p.text())
			for m := range 15 {
				holdRead(t, p.with(m, v).text())
			}
		}
	}
	for _, s := range []string{"0 0 0 0 0 0 0 0 0 0 0 0 0 0 0", "64 2 4 3 10 20 100 101 30 1 50 3 40 5 2", "64 2 4 3 10 20 100 10 30 3 50 3 40 5 2", "1025 2 4 3 10 20 100 10 30 1 50 3 40 5 2", "64 2 4 3 10 20 100 10 30 1 50 3 40 5 257"} {
		wantErr(t, s, api.ErrConfig)
	}
	// A form that is wrong behind a field that may not be is told ahead of it.
	for _, s := range []string{"0 2 4 3 10 20 100 10 30 1 50 3 40 5 02", "-1 2 4 3 10 20 100 10 30 1 50 3 40 5 2 ", "1025 2 4 3 10 20 100 10 30 1 50 3 40 5 x"} {
		wantErr(t, s, api.ErrForm)
	}
}

// P8.1: any text: those of configs with bytes put in, taken out and changed, and any bytes.
func TestReadOfAny(t *testing.T) {
	r := rand.New(rand.NewSource(81))
	letters := "0123456789  -- 00+\t\n_xe\x00\xff"
	for range 30000 {
		b := []byte(mayBe(r).text())
		for range r.Intn(3) {
			at := r.Intn(len(b))
			letter := letters[r.Intn(len(letters))]
			switch r.Intn(3) {
			case 0:
				b[at] = letter
			case 1:
				b = append(b[:at], b[at+1:]...)
			case 2:
				b = append(b[:at], append([]byte{letter}, b[at:]...)...)
			}
		}
		holdRead(t, string(b))
	}
	for range 5000 {
		b := make([]byte, r.Intn(60))
		r.Read(b)
		holdRead(t, string(b))
	}
}

// P8.1, T0: a long text ends soon, whatever it is made of.
func TestReadLong(t *testing.T) {
	for _, piece := range []string{" ", "0", "1", "-", "1 ", " 1", example + " ", "\xff", "+"} {
		wantErr(t, strings.Repeat(piece, 1<<20/len(piece)), api.ErrForm)
		wantErr(t, example+strings.Repeat(piece, 1<<20/len(piece)), api.ErrForm)
		wantErr(t, example+" "+strings.Repeat(piece, 1<<20/len(piece)), api.ErrForm)
	}
}

// P8.1: Field and Set at each place, with any number; what was handed in stays.
func TestFields(t *testing.T) {
	for _, p := range []plain{{}, exampleNumbers(), {-1, -2, -3, -4, -5, -6, -7, -8, -9, -10, -11, -12, -13, -14, -15}, {1, 2, 3, 4, 5, 6, 7, 8, 9, 10, 11, 12, 13, math.MinInt, math.MaxInt}} {
		c := p.config()
		for n := range 15 {
			if v, ok := Field(c, n); v != p[n] || !ok {
				t.Errorf("Field(%v, %d): %d, %v", p, n, v, ok)
			}
			for _, v := range odd() {
				got, ok := Set(c, n, v)
				if numbers(got) != p.with(n, v) || !ok || numbers(c) != p {
					t.Errorf("Set(%v, %d, %d): %v, %v", p, n, v, numbers(got), ok)
				}
				if f, ok := Field(got, n); f != v || !ok {
					t.Errorf("Field of what Set(%v, %d, %d) answered: %d, %v", p, n, v, f, ok)
				}
			}
		}
		if numbers(c) != p {
			t.Errorf("%v was changed: %v", p, c)
		}
	}
}

// P8.1: at other places there is none; Set's config is the one that was handed in.
func TestNoFields(t *testing.T) {
	for _, p := range []plain{{}, exampleNumbers(), {-1, -2, -3, -4, -5, -6, -7, -8, -9, -10, -11, -12, -13, -14, -15}} {
		for _, n := range noPlaces() {
			c := p.config()
			if v, ok := Field(c, n); v != 0 || ok {
				t.Errorf("Field(%v, %d): %d, %v", p, n, v, ok)
			}
			for _, v := range odd() {
				if got, ok := Set(c, n, v); numbers(got) != p || ok || numbers(c) != p {
					t.Errorf("Set(%v, %d, %d): %v, %v", p, n, v, got, ok)
				}
			}
		}
	}
}

// P8.1: the names, each that of api.Config's field at its place.
func TestName(t *testing.T) {
	fields := reflect.TypeOf(api.Config{})
	for n, want := range []string{"cap", "perhost", "total", "queue", "wait", "drain", "life", "jitter", "idle", "warm", "window", "errors", "quarantine", "back", "guard"} {
		if got := Name(n); got != want || got != strings.ToLower(fields.Field(n).Name) {
			t.Errorf("Name(%d) = %q, want %q", n, got, want)
		}
	}
	for _, n := range noPlaces() {
		if got := Name(n); got != "" {
			t.Errorf("Name(%d) = %q", n, got)
		}
	}
	if fields.NumField() != 15 {
		t.Errorf("api.Config has %d fields", fields.NumField())
	}
}

// P8.2: what is written of a config that may be is read as it was.
func TestWrittenIsRead(t *testing.T) {
	r := rand.New(rand.NewSource(82))
	for range 20000 {
		c := mayBe(r).config()
		if got, e := Read(Text(c)); got != c || e != api.OK {
			t.Errorf("%v is written as %q, and read as %v, %d", c, Text(c), got, e)
		}
	}
	least := plain{1, 1, 1, 0, 1, 1, 1, 0, 1, 0, 1, 1, 1, 1, 0}
	most := plain{1024, 8, 32, 16, maxSpan, maxSpan, maxSpan, maxSpan, maxSpan, 8, maxSpan, 16, maxSpan, maxSpan, 256}
	for _, p := range []plain{least, most, exampleNumbers()} {
		if got, e := Read(Text(p.config())); numbers(got) != p || e != api.OK {
			t.Errorf("%v is read as %v, %d", p, got, e)
		}
	}
}

// P8.2: what is written of any config is of the form, if its numbers have 9 digits at most; then Check's error is told.
func TestWrittenOfAny(t *testing.T) {
	r := rand.New(rand.NewSource(83))
	for range 20000 {
		p := mayBe(r)
		for range 1 + r.Intn(3) {
			p[r.Intn(15)] = anyNumber(r)
		}
		want := api.OK
		if p.first() >= 0 {
			want = api.ErrConfig
		}
		for _, v := range p {
			if v > 999_999_999 || v < -999_999_999 {
				want = api.ErrForm
			}
		}
		c, e := Read(Text(p.config()))
		if e != want || e == api.OK && numbers(c) != p || e != api.OK && c != (api.Config{}) {
			t.Errorf("%v is read as %v, %d, want %d", p, c, e, want)
		}
	}
}

// R6: what a call answers does not hang on those ahead of it.
func TestNothingIsKept(t *testing.T) {
	c := exampleNumbers().config()
	Set(c, 0, 0)
	Read("1 1 1 0 1 1 1 0 1 0 1 1 1 1 0")
	Read("x")
	if n, e := Check(c); n != -1 || e != api.OK || Text(c) != example || Name(0) != "cap" {
		t.Error("a call knows of another")
	}
}
