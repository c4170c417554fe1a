package reader

import (
	"math"
	"math/rand"
	"slices"
	"strings"
	"testing"

	"hostler/api"
)

const maxCap = 1024

func allCaps() []int {
	return []int{math.MinInt, -1024, -1, 0, 1, 2, 4, 255, 256, 257, 300, 1023, 1024, 1025, 65535, 1 << 32, math.MaxInt}
}

// realCap is layer 2's 'the nearer one of both', in other words than the program's.
func realCap(cap int) int {
	switch {
	case cap <= 0:
		return 0
	case cap < maxCap:
		return cap
	}
	return maxCap
}

// data is that many bytes, of all values, and of other ones for another seed.
func data(size, seed int) string {
	b := make([]byte, size)
	for i := range b {
		b[i] = byte(i*7 + seed*31 + i>>8)
	}
	return string(b)
}

// raw is a frame's bytes, or those of none: neither the kind nor the size is asked.
func raw(kind, size int, text string) string {
	return string([]byte{byte(kind), byte(size / 256), byte(size % 256)}) + text
}

// aRow is frames of all kinds and of sizes up to the cap, and their bytes, one behind the other.
func aRow(cap int) ([]api.Frame, string) {
	var l []api.Frame
	b := ""
	for i, size := range []int{0, 1, cap, 0, 0, cap - 1, 2, 3, 257, cap, 5, 0} {
		f := api.Frame{Kind: i%8 + 1, Data: data(min(max(size, 0), cap), i)}
		l = append(l, f)
		b += raw(f.Kind, len(f.Data), f.Data)
	}
	return l, b
}

// told is all that a reader tells of bytes: the frames of all pieces, and the error at the end.
type told struct {
	frames []api.Frame
	err    api.Errno
}

func (x told) equal(y told) bool { return x.err == y.err && slices.Equal(x.frames, y.frames) }

// slow goes through bytes one by one, as the chapters tell them, and shares nothing with the program: what is told of them, and what is left.
type slow struct {
	told
	cap  int
	left string
}

func (s *slow) add(b string) {
	for i := 0; i < len(b) && s.err == api.OK; i++ {
		s.left += b[i : i+1]
		if len(s.left) < 3 {
			continue
		}
		kind, size := int(s.left[0]), int(s.left[1])*256+int(s.left[2])
		switch {
		case kind < 1 || kind > 8:
			s.err, s.left = api.ErrKind, ""
		case size > realCap(s.cap):
			s.err, s.left = api.ErrBig, ""
		case len(s.left) == 3+size:
			s.frames, s.left = append(s.frames, api.Frame{Kind: kind, Data: s.left[3:]}), ""
		}
	}
}

// want is how many bytes at least are missing.
func (s *slow) want() int {
	switch {
	case s.err != api.OK:
		return 0
	case len(s.left) < 3:
		return 3 - len(s.left)
	}
	return 3 + int(s.left[1])*256 + int(s.left[2]) - len(s.left)
}

// feed gives a reader the pieces, and holds each call against the slow way.
func feed(t *testing.T, cap int, pieces []string) told {
	t.Helper()
	r := New(cap)
	s := slow{cap: cap}
	var x told
	for i, p := range pieces {
		ahead := len(s.frames)
		s.add(p)
		l, e := r.Feed(p)
		if !slices.Equal(l, s.frames[ahead:]) || e != s.err {
			t.Fatalf("cap %d, piece %d of %q: %#v, %d, want %#v, %d", cap, i, pieces, l, e, s.frames[ahead:], s.err)
		}
		if r.Err() != s.err || r.Left() != len(s.left) || r.Want() != s.want() {
			t.Fatalf("cap %d, behind piece %d of %q: error %d, left %d, want %d; it should be %d, %d, %d", cap, i, pieces, r.Err(), r.Left(), r.Want(), s.err, len(s.left), s.want())
		}
		if r.Left() > realCap(cap)+2 || len(r.held) != r.Left() {
			t.Fatalf("cap %d, behind piece %d of %q: it has %d bytes, and tells %d", cap, i, pieces, len(r.held), r.Left())
		}
		x.frames, x.err = append(x.frames, l...), e
	}
	return x
}

// bytewise is each byte on its own.
func bytewise(b string) []string {
	var l []string
	for i := range len(b) {
		l = append(l, b[i:i+1])
	}
	return l
}

// P3.1: a row of calls, written out.
func TestReader(t *testing.T) {
	hello, query := api.Frame{Kind: 1}, api.Frame{Kind: 3, Data: "abc"}
	r := New(4)
	if r.Left() != 0 || r.Err() != api.OK || r.Want() != 3 {
		t.Errorf("a new one: left %d, error %d, want %d", r.Left(), r.Err(), r.Want())
	}
	for i, x := range []struct {
		b          string
		l          []api.Frame
		e          api.Errno
		left, want int
	}{
		{"", nil, api.OK, 0, 3},
		{"\x03", nil, api.OK, 1, 2},
		{"\x00", nil, api.OK, 2, 1},
		{"", nil, api.OK, 2, 1},
		{"\x03", nil, api.OK, 3, 3},
		{"ab", nil, api.OK, 5, 1},
		{"c", []api.Frame{query}, api.OK, 0, 3},
		{"\x01\x00\x00\x03\x00\x03abc\x01\x00\x00\x02", []api.Frame{hello, query, hello}, api.OK, 1, 2},
		{"\x00\x04\xff", nil, api.OK, 4, 3},
		{"\x00\x09\n\x03\x00\x03ab", []api.Frame{{Kind: 2, Data: "\xff\x00\x09\n"}}, api.OK, 5, 1},
		{"c\x01\x00\x00\x04\x00\x05zzzzz\x01\x00\x00", []api.Frame{query, hello}, api.ErrBig, 0, 0},
		{"\x01\x00\x00", nil, api.ErrBig, 0, 0},
		{"\x09\x00\x00", nil, api.ErrBig, 0, 0},
		{"", nil, api.ErrBig, 0, 0},
	} {
		l, e := r.Feed(x.b)
		if !slices.Equal(l, x.l) || e != x.e || r.Err() != x.e || r.Left() != x.left || r.Want() != x.want {
			t.Fatalf("piece %d: %#v, %d, error %d, left %d, want %d; it should be %#v, %d, %d, %d", i, l, e, r.Err(), r.Left(), r.Want(), x.l, x.e, x.left, x.want)
		}
	}
}

// P3.1: the chapter's example.
func TestTwoBytes(t *testing.T) {
	r := New(16)
	if l, e := r.Feed("\x03\x00"); len(l) != 0 || e != api.OK || r.Want() != 1 {
		t.Errorf("frames %#v, %d, want %d", l, e, r.Want())
	}
}

// P3.1: what is wanted while the head isn't whole is the head's bytes, whatever those that are there say.
func TestWantAheadOfAHead(t *testing.T) {
	for first := range 256 {
		one := New(maxCap)
		if _, e := one.Feed(string([]byte{byte(first)})); e != api.OK || one.Want() != 2 || one.Left() != 1 {
			t.Fatalf("the byte %d: %d, left %d, want %d", first, e, one.Left(), one.Want())
		}
		for second := range 256 {
			two := New(maxCap)
			if _, e := two.Feed(string([]byte{byte(first), byte(second)})); e != api.OK || two.Want() != 1 || two.Left() != 2 {
				t.Fatalf("the bytes %d, %d: %d, left %d, want %d", first, second, e, two.Left(), two.Want())
			}
		}
	}
}

// P3.1: so many bytes as are wanted, and no fewer, make a frame whole.
func TestWantIsWhatItTakes(t *testing.T) {
	for _, size := range []int{0, 1, 2, 255, 256, 257, 1023, 1024} {
		b := raw(6, size, data(size, 1))
		for at := 3; at < len(b); at++ {
			r := New(maxCap)
			r.Feed(b[:at])
			if r.Want() != len(b)-at {
				t.Fatalf("%d of %d bytes: want %d", at, len(b), r.Want())
			}
			if l, e := r.Feed(b[at : len(b)-1]); len(l) != 0 || e != api.OK || r.Want() != 1 {
				t.Fatalf("all but the last byte: %d frames, %d, want %d", len(l), e, r.Want())
			}
			if l, e := r.Feed(b[len(b)-1:]); len(l) != 1 || l[0] != (api.Frame{Kind: 6, Data: b[3:]}) || e != api.OK || r.Want() != 3 {
				t.Fatalf("the last byte: %d frames, %d, want %d", len(l), e, r.Want())
			}
		}
	}
}

// P3.2: the same bytes whole, byte by byte, and in pieces of many sizes, with pieces of none between.
func TestSameBytesInAnyPieces(t *testing.T) {
	for _, cap := range []int{1, 5, 300, maxCap} {
		frames, b := aRow(cap)
		want := told{frames: frames}
		for name, pieces := range map[string][]string{
			"whole":             {b},
			"byte by byte":      bytewise(b),
			"with none between": slices.Concat([]string{"", ""}, []string{b[:7], "", b[7:8], "", "", b[8:]}, []string{""}),
		} {
			if got := feed(t, cap, pieces); !got.equal(want) {
				t.Errorf("cap %d, %s: %d frames, %d, want %d frames", cap, name, len(got.frames), got.err, len(frames))
			}
		}
		for _, size := range []int{2, 3, 4, 7, 100, 1000} {
			pieces := slices.Collect(chunks(b, size))
			if got := feed(t, cap, pieces); !got.equal(want) {
				t.Errorf("cap %d, pieces of %d: %d frames, %d, want %d frames", cap, size, len(got.frames), got.err, len(frames))
			}
		}
	}
}

func chunks(b string, size int) func(yield func(string) bool) {
	return func(yield func(string) bool) {
		for len(b) > size {
			if !yield(b[:size]) {
				return
			}
			b = b[size:]
		}
		yield(b)
	}
}

// P3.2: cut anywhere into two, and into three.
func TestSameBytesCutAnywhere(t *testing.T) {
	frames, b := aRow(300)
	for at := range len(b) + 1 {
		if got := feed(t, 300, []string{b[:at], b[at:]}); !got.equal(told{frames: frames}) {
			t.Fatalf("cut at %d: %d frames, %d, want %d frames", at, len(got.frames), got.err, len(frames))
		}
	}
	frames, b = aRow(5)
	for i := range len(b) + 1 {
		for j := i; j <= len(b); j++ {
			if got := feed(t, 5, []string{b[:i], b[i:j], b[j:]}); !got.equal(told{frames: frames}) {
				t.Fatalf("cut at %d and %d: %d frames, %d, want %d frames", i, j, len(got.frames), got.err, len(frames))
			}
		}
	}
}

// P3.1: a frame of just the cap comes through, one of a byte more is ErrBig, under caps that may be and others.
func TestCaps(t *testing.T) {
	for _, cap := range allCaps() {
		size := realCap(cap)
		fits := raw(4, size, data(size, 2))
		for _, pieces := range [][]string{{fits}, bytewise(fits), {fits[:3], fits[3:]}} {
			if got := feed(t, cap, pieces); !got.equal(told{frames: []api.Frame{{Kind: 4, Data: fits[3:]}}}) {
				t.Errorf("cap %d, %d bytes: %d frames, %d", cap, size, len(got.frames), got.err)
			}
		}
		big := raw(4, size+1, data(size+1, 2))
		for _, pieces := range [][]string{{big}, {big[:3]}, bytewise(big), {fits + big}, {fits, big}} {
			got := feed(t, cap, pieces)
			if got.err != api.ErrBig || len(got.frames) > 1 {
				t.Errorf("cap %d, %d bytes: %d frames, %d", cap, size+1, len(got.frames), got.err)
			}
		}
	}
}

type badHead struct {
	b string
	e api.Errno
}

// badHeads are heads that may not be under a cap of 300.
func badHeads() []badHead {
	return []badHead{
		{raw(0, 0, ""), api.ErrKind}, {raw(9, 0, ""), api.ErrKind}, {raw(255, 65535, ""), api.ErrKind}, {raw(9, 301, ""), api.ErrKind},
		{raw(1, 301, ""), api.ErrBig}, {raw(8, 1025, ""), api.ErrBig}, {raw(3, 65535, ""), api.ErrBig},
	}
}

// P3.1, P3.2: a bad head first, and behind each of a row of frames, in any two pieces: the frames ahead of it are told, none behind it.
func TestBadHeads(t *testing.T) {
	frames, b := aRow(300)
	end := 0
	for i := range len(frames) + 1 {
		for _, x := range badHeads() {
			text := b[:end] + x.b + b[end:]
			want := told{frames: frames[:i], err: x.e}
			if got := feed(t, 300, []string{text}); !got.equal(want) {
				t.Fatalf("%v behind %d frames: %d frames, %d, want %d", []byte(x.b), i, len(got.frames), got.err, x.e)
			}
			for at := max(end-2, 0); at < min(end+6, len(text)); at++ {
				if got := feed(t, 300, []string{text[:at], text[at:]}); !got.equal(want) {
					t.Fatalf("%v behind %d frames, cut at %d: %d frames, %d, want %d", []byte(x.b), i, at, len(got.frames), got.err, x.e)
				}
			}
			if got := feed(t, 300, bytewise(text[:min(end+20, len(text))])); !got.equal(want) {
				t.Fatalf("%v behind %d frames, byte by byte: %d frames, %d, want %d", []byte(x.b), i, len(got.frames), got.err, x.e)
			}
		}
		if i < len(frames) {
			end += 3 + len(frames[i].Data)
		}
	}
}

// P3.1: the frames ahead of an error come with it, in the call in which its head is whole, and not ahead of that.
func TestFramesAheadOfAnError(t *testing.T) {
	hello := api.Frame{Kind: 1}
	for _, x := range badHeads() {
		r := New(300)
		if l, e := r.Feed(raw(1, 0, "") + x.b[:2]); !slices.Equal(l, []api.Frame{hello}) || e != api.OK || r.Left() != 2 {
			t.Errorf("two bytes of %v: %#v, %d, left %d", []byte(x.b), l, e, r.Left())
		}
		if l, e := r.Feed(x.b[2:]); len(l) != 0 || e != x.e {
			t.Errorf("the third byte of %v: %#v, %d, want %d", []byte(x.b), l, e, x.e)
		}
		whole := New(300)
		if l, e := whole.Feed(raw(1, 0, "") + raw(1, 0, "") + x.b); !slices.Equal(l, []api.Frame{hello, hello}) || e != x.e {
			t.Errorf("%v behind two frames: %#v, %d, want %d", []byte(x.b), l, e, x.e)
		}
	}
}

// P3.1: behind an error nothing is told but it, whatever comes, and no bytes are kept.
func TestBytesBehindAnError(t *testing.T) {
	_, row := aRow(300)
	for _, x := range badHeads() {
		r := New(300)
		r.Feed(raw(2, 1, "q") + x.b + "\x01\x00")
		for i, b := range []string{"", "\x00", "\x01\x00\x00", row, "\xff\xff\xff", raw(3, 301, ""), raw(0, 0, ""), "\x03", ""} {
			if l, e := r.Feed(b); len(l) != 0 || e != x.e {
				t.Errorf("piece %d behind %v: %d frames, %d, want %d", i, []byte(x.b), len(l), e, x.e)
			}
			if r.Err() != x.e || r.Left() != 0 || r.Want() != 0 || r.held != "" {
				t.Errorf("piece %d behind %v: error %d, left %d, want %d", i, []byte(x.b), r.Err(), r.Left(), r.Want())
			}
		}
	}
}

// P3.2: at most the cap, and 2 more, are kept between two pieces; and so many are, once.
func TestMostBytesKept(t *testing.T) {
	for _, cap := range allCaps() {
		size := realCap(cap)
		b := strings.Repeat(raw(6, size, data(size, 4)), 3)
		r := New(cap)
		most := 0
		for _, p := range bytewise(b) {
			r.Feed(p)
			most = max(most, r.Left())
		}
		if most != size+2 || r.Left() != 0 {
			t.Errorf("cap %d: at most %d bytes were kept, want %d; %d are left", cap, most, size+2, r.Left())
		}
		for at := range min(len(b), 2*size+6) {
			r := New(cap)
			if r.Feed(b[:at]); r.Left() != at%(size+3) || len(r.held) != r.Left() {
				t.Fatalf("cap %d, %d bytes: %d are kept, want %d", cap, at, r.Left(), at%(size+3))
			}
		}
	}
}

// P3.2: many frames in one piece leave none of it behind.
func TestManyFramesInOnePiece(t *testing.T) {
	r := New(8)
	l, e := r.Feed(strings.Repeat("\x03\x00\x02ab", 50000) + "\x03\x00\x02a")
	if len(l) != 50000 || e != api.OK || r.Left() != 4 || r.Want() != 1 {
		t.Fatalf("%d frames, %d, left %d, want %d", len(l), e, r.Left(), r.Want())
	}
	if l, e := r.Feed("b"); len(l) != 1 || l[0] != (api.Frame{Kind: 3, Data: "ab"}) || e != api.OK || r.Left() != 0 {
		t.Errorf("%#v, %d, left %d", l, e, r.Left())
	}
}

// someBytes are bytes that are now and then frames: small ones for the most part, so that many heads are good.
func someBytes(r *rand.Rand) string {
	b := make([]byte, r.Intn(60))
	for i := range b {
		switch r.Intn(8) {
		case 0:
			b[i] = byte(r.Intn(256))
		case 1, 2, 3:
			b[i] = 0
		default:
			b[i] = byte(r.Intn(9))
		}
	}
	return string(b)
}

// somePieces are the bytes in pieces, some of none.
func somePieces(r *rand.Rand, b string) []string {
	var l []string
	for len(b) > 0 {
		n := r.Intn(min(len(b), 9) + 1)
		l, b = append(l, b[:n]), b[n:]
	}
	return append(l, "")
}

// P3.1, P3.2, T0: any bytes in any pieces under any cap, held against the slow way.
func TestAnyBytesInAnyPieces(t *testing.T) {
	r := rand.New(rand.NewSource(3))
	for range 30000 {
		b := someBytes(r)
		cap := allCaps()[r.Intn(len(allCaps()))]
		whole := feed(t, cap, []string{b})
		for range 3 {
			if pieces := somePieces(r, b); !feed(t, cap, pieces).equal(whole) {
				t.Fatalf("cap %d, %q: other than the whole", cap, pieces)
			}
		}
	}
}

// R6: two readers are apart, and asking one changes nothing.
func TestReadersAreApart(t *testing.T) {
	a, b := New(4), New(4)
	a.Feed("\x03\x00")
	b.Feed("\x09\x00\x00")
	for range 2 {
		if a.Left() != 2 || a.Want() != 1 || a.Err() != api.OK || b.Left() != 0 || b.Want() != 0 || b.Err() != api.ErrKind {
			t.Errorf("left %d, %d, want %d, %d, errors %d, %d", a.Left(), b.Left(), a.Want(), b.Want(), a.Err(), b.Err())
		}
	}
	if l, e := a.Feed("\x01q"); len(l) != 1 || l[0].Data != "q" || e != api.OK {
		t.Errorf("%#v, %d", l, e)
	}
}

// R4: lists that are answered are new memory.
func TestFramesAreNewMemory(t *testing.T) {
	r := New(4)
	first, _ := r.Feed("\x03\x00\x01a\x03\x00\x01b\x03\x00")
	was := slices.Clone(first)
	second, _ := r.Feed("\x01c\x03\x00\x01d")
	if !slices.Equal(first, was) {
		t.Errorf("a later call has changed frames to %#v", first)
	}
	clear(first)
	if !slices.Equal(second, []api.Frame{{Kind: 3, Data: "c"}, {Kind: 3, Data: "d"}}) {
		t.Errorf("frames are %#v", second)
	}
}

// P3.1, R7: each call on a nil reader.
func TestNilReader(t *testing.T) {
	var r *Reader
	for _, b := range []string{"", "\x03", "\x03\x00\x02ab", "\x09\x00\x00"} {
		if l, e := r.Feed(b); len(l) != 0 || e != api.ErrArg {
			t.Errorf("Feed(%q) of nil: %#v, %d", b, l, e)
		}
		if r.Left() != 0 || r.Want() != 0 || r.Err() != api.ErrArg {
			t.Errorf("nil: left %d, want %d, error %d", r.Left(), r.Want(), r.Err())
		}
	}
}

// P3.1: Split, written out.
func TestSplit(t *testing.T) {
	for _, x := range []struct {
		b    string
		at   []int
		want []string
	}{
		{"", nil, []string{""}}, {"", []int{0}, []string{""}}, {"", []int{-1, 0, 1, math.MaxInt}, []string{""}},
		{"a", nil, []string{"a"}}, {"a", []int{-1, 0, 1, 2}, []string{"a"}},
		{"abcdef", nil, []string{"abcdef"}}, {"abcdef", []int{3}, []string{"abc", "def"}},
		{"abcdef", []int{1, 2, 3, 4, 5}, []string{"a", "b", "c", "d", "e", "f"}},
		{"abcdef", []int{0, 1, 2, 3, 4, 5, 6, 7}, []string{"a", "b", "c", "d", "e", "f"}},
		{"abcdef", []int{0}, []string{"abcdef"}}, {"abcdef", []int{6}, []string{"abcdef"}}, {"abcdef", []int{7}, []string{"abcdef"}}, // at an end there is nothing to cut
		{"abcdef", []int{-1, -2, math.MinInt}, []string{"abcdef"}}, {"abcdef", []int{-3, 2}, []string{"ab", "cdef"}}, {"abcdef", []int{2, -3, 4}, []string{"ab", "cd", "ef"}},
		{"abcdef", []int{4, 2}, []string{"abcd", "ef"}}, {"abcdef", []int{4, 1, 2, 5}, []string{"abcd", "e", "f"}}, {"abcdef", []int{5, 4, 3, 2, 1}, []string{"abcde", "f"}},
		{"abcdef", []int{2, 2, 2}, []string{"ab", "cdef"}}, {"abcdef", []int{2, 1, 2, 9, 4, -1}, []string{"ab", "cd", "ef"}},
		{"abcdef", []int{9, 2}, []string{"ab", "cdef"}}, {"abcdef", []int{math.MaxInt, 2, 1 << 32, 3}, []string{"ab", "c", "def"}}, {"abcdef", []int{1<<32 + 2}, []string{"abcdef"}},
		{"é\xff\x00", []int{1, 3}, []string{"\xc3", "\xa9\xff", "\x00"}}, // bytes, not runes
	} {
		was := slices.Clone(x.at)
		if got := Split(x.b, x.at...); !slices.Equal(got, x.want) {
			t.Errorf("Split(%q, %v) = %q, want %q", x.b, x.at, got, x.want)
		}
		if !slices.Equal(x.at, was) {
			t.Errorf("Split changed its places to %v, they were %v", x.at, was)
		}
	}
	if got := Split("ab", 1); !slices.Equal(got, []string{"a", "b"}) {
		t.Errorf("Split = %q", got)
	}
}

// P3.1, T0: at any places the pieces are the bytes again, and only the piece of no bytes is empty.
func TestSplitAnywhere(t *testing.T) {
	r := rand.New(rand.NewSource(4))
	for range 20000 {
		b := someBytes(r)
		at := make([]int, r.Intn(12))
		for i := range at {
			at[i] = r.Intn(len(b)+20) - 10
		}
		l := Split(b, at...)
		if strings.Join(l, "") != b || slices.Contains(l, "") != (b == "") {
			t.Fatalf("Split(%q, %v) = %q", b, at, l)
		}
		last, place := 0, 0
		for _, p := range l[:len(l)-1] {
			place += len(p)
			if !slices.Contains(at, place) || place <= last {
				t.Fatalf("Split(%q, %v) = %q: cut at %d", b, at, l, place)
			}
			last = place
		}
		if got, want := feed(t, 8, l), feed(t, 8, []string{b}); !got.equal(want) {
			t.Fatalf("%q: %#v, want %#v", l, got, want)
		}
	}
}
