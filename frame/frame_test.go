package frame

import (
	"bytes"
	"math"
	"math/rand"
	"slices"
	"strings"
	"testing"

	"hostler/api"
)

const maxCap = 1024

// oddKinds are no kinds: beside 1 to 8, below 0, and great ones whose lowest byte would be a kind.
func oddKinds() []int {
	return []int{0, 9, 10, 15, 127, 128, 255, 256, 257, 264, 1<<16 + 3, 1<<32 + 1, 1<<62 + 8, math.MaxInt, -1, -2, -8, -248, -255, -256, math.MinInt, math.MinInt + 1}
}

func allKinds() []int {
	return append([]int{1, 2, 3, 4, 5, 6, 7, 8}, oddKinds()...)
}

func allCaps() []int {
	return []int{math.MinInt, -1024, -1, 0, 1, 2, 4, 254, 255, 256, 257, 1023, 1024, 1025, 65535, 1 << 20, 1 << 32, math.MaxInt}
}

// wantCap is the chapter's 'the nearer one of both', in other words than the program's.
func wantCap(cap int) int {
	switch {
	case cap <= 0:
		return 0
	case cap < maxCap:
		return cap
	}
	return maxCap
}

// sizes are those of Data at which an answer could turn under the cap.
func sizes(cap int) []int {
	c := wantCap(cap)
	l := []int{0, 1, 2, 255, 256, 257, 1023, 1024, 1025, 65535, c, c + 1}
	if c > 0 {
		l = append(l, c-1)
	}
	return l
}

func wantErr(kind, size, cap int) api.Errno {
	if !slices.Contains([]int{1, 2, 3, 4, 5, 6, 7, 8}, kind) {
		return api.ErrKind
	}
	if size > wantCap(cap) {
		return api.ErrBig
	}
	return api.OK
}

// data is that many bytes, of all values, and of other ones for another seed.
func data(size, seed int) string {
	b := make([]byte, size)
	for i := range b {
		b[i] = byte(i*7 + seed*31 + i>>8)
	}
	return string(b)
}

// raw is a frame's bytes, or those of none: neither the kind nor the size is asked.
func raw(kind byte, size int, text string) []byte {
	return append([]byte{kind, byte(size / 256), byte(size % 256)}, text...)
}

func TestMaxCapIsTheLimit(t *testing.T) {
	if api.MaxCap != maxCap {
		t.Fatalf("MaxCap is %d, want %d", api.MaxCap, maxCap)
	}
}

// P2.1: Right, written out.
func TestRight(t *testing.T) {
	for _, x := range []struct {
		kind, size, cap int
		want            api.Errno
	}{
		{1, 0, 0, api.OK}, {8, 0, 0, api.OK}, {3, 1, 0, api.ErrBig}, {3, 2, 2, api.OK}, {3, 3, 2, api.ErrBig},
		{0, 0, 9, api.ErrKind}, {9, 0, 9, api.ErrKind}, {-1, 0, 9, api.ErrKind}, {math.MinInt, 0, 9, api.ErrKind}, {math.MaxInt, 0, 9, api.ErrKind}, {257, 0, 9, api.ErrKind},
		{0, 3, 2, api.ErrKind}, {9, 1025, 1024, api.ErrKind}, // both apply: the first one
		{1, 0, -5, api.OK}, {1, 1, -5, api.ErrBig}, {1, 1, math.MinInt, api.ErrBig},
		{1, 1024, 1024, api.OK}, {1, 1025, 1024, api.ErrBig}, {1, 1024, 1023, api.ErrBig},
		{1, 1024, 1025, api.OK}, {1, 1025, 1025, api.ErrBig}, {1, 1024, math.MaxInt, api.OK}, {1, 1025, math.MaxInt, api.ErrBig}, {1, 70000, math.MaxInt, api.ErrBig},
	} {
		if got := Right(api.Frame{Kind: x.kind, Data: data(x.size, 0)}, x.cap); got != x.want {
			t.Errorf("Right of kind %d and %d bytes, cap %d: %d, want %d", x.kind, x.size, x.cap, got, x.want)
		}
	}
}

// P2.1: Right and Write of all edges, and nothing beside an error.
func TestRightAndWriteAtAllEdges(t *testing.T) {
	for _, kind := range allKinds() {
		for _, cap := range allCaps() {
			for _, size := range sizes(cap) {
				f := api.Frame{Kind: kind, Data: data(size, kind)}
				want := wantErr(kind, size, cap)
				if got := Right(f, cap); got != want {
					t.Errorf("Right of kind %d and %d bytes, cap %d: %d, want %d", kind, size, cap, got, want)
				}
				var bytesWanted []byte
				if want == api.OK {
					bytesWanted = raw(byte(kind), size, f.Data)
				}
				if b, e := Write(f, cap); e != want || !bytes.Equal(b, bytesWanted) {
					t.Errorf("Write of kind %d and %d bytes, cap %d: %d bytes, %d, want %d bytes, %d", kind, size, cap, len(b), e, len(bytesWanted), want)
				}
			}
		}
	}
}

// P2.1: Write, its bytes written out.
func TestWrite(t *testing.T) {
	for _, x := range []struct {
		f    api.Frame
		cap  int
		want string
	}{
		{api.Frame{Kind: api.Query, Data: "ab"}, 2, "\x03\x00\x02ab"},
		{api.Frame{Kind: api.Hello}, 0, "\x01\x00\x00"},
		{api.Frame{Kind: api.Close}, 1024, "\x08\x00\x00"},
		{api.Frame{Kind: api.Error, Data: "\x00\xff\n"}, 9, "\x07\x00\x03\x00\xff\n"},
		{api.Frame{Kind: api.Begin, Data: "é"}, 9, "\x02\x00\x02\xc3\xa9"},
		{api.Frame{Kind: api.Commit, Data: strings.Repeat("c", 255)}, 999, "\x04\x00\xff" + strings.Repeat("c", 255)},
		{api.Frame{Kind: api.Rollback, Data: strings.Repeat("r", 256)}, 999, "\x05\x01\x00" + strings.Repeat("r", 256)},
		{api.Frame{Kind: api.Reply, Data: strings.Repeat("x", 300)}, 300, "\x06\x01\x2c" + strings.Repeat("x", 300)},
		{api.Frame{Kind: api.Reply, Data: strings.Repeat("y", 1024)}, 9999, "\x06\x04\x00" + strings.Repeat("y", 1024)},
	} {
		if b, e := Write(x.f, x.cap); e != api.OK || string(b) != x.want {
			t.Errorf("Write of %+v, cap %d: %q, %d, want %q", x.f, x.cap, b, e, x.want)
		}
	}
}

// P2.1: Head, written out.
func TestHead(t *testing.T) {
	for _, x := range []struct {
		b          string
		cap        int
		kind, size int
		e          api.Errno
	}{
		{"", 9, 0, 0, api.ErrForm}, {"\x01", 9, 0, 0, api.ErrForm}, {"\x01\x00", 9, 0, 0, api.ErrForm},
		{"\x00\x00", 9, 0, 0, api.ErrForm}, {"\xff\xff", 0, 0, 0, api.ErrForm}, // too few bytes come ahead of what is wrong with them
		{"\x01\x00\x00", 0, 1, 0, api.OK}, {"\x03\x00\x02", 2, 3, 2, api.OK}, {"\x03\x00\x02abc", 2, 3, 2, api.OK}, {"\x08\x04\x00", 1024, 8, 1024, api.OK},
		{"\x08\x01\x02", 1024, 8, 258, api.OK}, {"\x08\x02\x01", 1024, 8, 513, api.OK},
		{"\x00\x00\x00", 9, 0, 0, api.ErrKind}, {"\x09\x00\x00", 9, 0, 0, api.ErrKind}, {"\xff\x00\x00", 9, 0, 0, api.ErrKind}, {"\x09\xff\xff", 9, 0, 0, api.ErrKind},
		{"\x03\x00\x03", 2, 0, 0, api.ErrBig}, {"\x03\x00\x01", 0, 0, 0, api.ErrBig}, {"\x03\x00\x01", -7, 0, 0, api.ErrBig}, {"\x03\x04\x01", 99999, 0, 0, api.ErrBig}, {"\x03\xff\xff", math.MaxInt, 0, 0, api.ErrBig},
	} {
		kind, size, e := Head([]byte(x.b), x.cap)
		if kind != x.kind || size != x.size || e != x.e {
			t.Errorf("Head(%q, %d) = %d, %d, %d, want %d, %d, %d", x.b, x.cap, kind, size, e, x.kind, x.size, x.e)
		}
	}
}

// P2.1: Head of all first bytes, at all edges of a size.
func TestHeadOfAllKinds(t *testing.T) {
	for first := range 256 {
		for _, cap := range allCaps() {
			for _, size := range sizes(cap) {
				wantKind, wantSize := first, size
				want := wantErr(first, size, cap)
				if want != api.OK {
					wantKind, wantSize = 0, 0
				}
				for _, text := range []string{"", "x"} {
					kind, n, e := Head(raw(byte(first), size, text), cap)
					if kind != wantKind || n != wantSize || e != want {
						t.Fatalf("Head of %d and size %d, cap %d: %d, %d, %d, want %d, %d, %d", first, size, cap, kind, n, e, wantKind, wantSize, want)
					}
				}
			}
		}
	}
}

// P2.1: Head of all sizes that two bytes can tell.
func TestHeadOfAllSizes(t *testing.T) {
	for size := range 1 << 16 {
		kind, n, e := Head(raw(5, size, ""), math.MaxInt)
		if size <= maxCap && (kind != 5 || n != size || e != api.OK) || size > maxCap && (kind != 0 || n != 0 || e != api.ErrBig) {
			t.Fatalf("Head of size %d: %d, %d, %d", size, kind, n, e)
		}
	}
}

// P2.1: Head and Read of nil.
func TestNoBytes(t *testing.T) {
	if kind, n, e := Head(nil, 9); kind != 0 || n != 0 || e != api.ErrForm {
		t.Errorf("Head(nil) = %d, %d, %d", kind, n, e)
	}
	if f, n, e := Read(nil, 9); f != (api.Frame{}) || n != 0 || e != api.ErrForm {
		t.Errorf("Read(nil) = %+v, %d, %d", f, n, e)
	}
	if l, n, e := All(nil, 9); len(l) != 0 || n != 0 || e != api.OK {
		t.Errorf("All(nil) = %+v, %d, %d", l, n, e)
	}
}

// P2.1: Read, written out.
func TestRead(t *testing.T) {
	for _, x := range []struct {
		b   string
		cap int
		f   api.Frame
		n   int
		e   api.Errno
	}{
		{"", 4, api.Frame{}, 0, api.ErrForm}, {"\x01", 4, api.Frame{}, 0, api.ErrForm}, {"\x09\x00", 4, api.Frame{}, 0, api.ErrForm},
		{"\x00\x00\x00", 4, api.Frame{}, 0, api.ErrKind}, {"\x09\x00\x02a", 4, api.Frame{}, 0, api.ErrKind}, {"\x09\x00\x05", 4, api.Frame{}, 0, api.ErrKind},
		{"\x01\x00\x05", 4, api.Frame{}, 0, api.ErrBig}, {"\x01\x00\x05abcde", 4, api.Frame{}, 0, api.ErrBig}, {"\x01\x00\x01a", 0, api.Frame{}, 0, api.ErrBig},
		{"\x01\x00\x02", 4, api.Frame{}, 0, api.ErrForm}, {"\x01\x00\x02a", 4, api.Frame{}, 0, api.ErrForm},
		{"\x01\x00\x00", 4, api.Frame{Kind: 1}, 3, api.OK}, {"\x01\x00\x00", -4, api.Frame{Kind: 1}, 3, api.OK},
		{"\x03\x00\x02ab", 4, api.Frame{Kind: 3, Data: "ab"}, 5, api.OK}, {"\x03\x00\x02abc", 4, api.Frame{Kind: 3, Data: "ab"}, 5, api.OK},
		{"\x03\x00\x02\x00\xff\x09", 2, api.Frame{Kind: 3, Data: "\x00\xff"}, 5, api.OK}, // what stands behind is not asked
		{"\x08\x04\x00" + strings.Repeat("z", 1024), 4000, api.Frame{Kind: 8, Data: strings.Repeat("z", 1024)}, 1027, api.OK},
		{"\x08\x04\x00" + strings.Repeat("z", 1023), 4000, api.Frame{}, 0, api.ErrForm},
		{"\x08\x04\x01" + strings.Repeat("z", 1025), 4000, api.Frame{}, 0, api.ErrBig},
	} {
		f, n, e := Read([]byte(x.b), x.cap)
		if f != x.f || n != x.n || e != x.e {
			t.Errorf("Read(%q, %d) = %+v, %d, %d, want %+v, %d, %d", x.b, x.cap, f, n, e, x.f, x.n, x.e)
		}
	}
}

// P2.1: All, written out.
func TestAll(t *testing.T) {
	hello, query := api.Frame{Kind: 1}, api.Frame{Kind: 3, Data: "q"}
	for _, x := range []struct {
		b   string
		cap int
		l   []api.Frame
		n   int
		e   api.Errno
	}{
		{"", 4, nil, 0, api.OK}, {"\x01", 4, nil, 0, api.OK}, {"\x01\x00", 4, nil, 0, api.OK}, {"\x09\xff", 4, nil, 0, api.OK},
		{"\x01\x00\x00", 4, []api.Frame{hello}, 3, api.OK},
		{"\x01\x00\x00\x03\x00\x01q", 4, []api.Frame{hello, query}, 7, api.OK},
		{"\x01\x00\x00\x03\x00\x01q\x02\x00", 4, []api.Frame{hello, query}, 7, api.OK},
		{"\x01\x00\x00\x03\x00\x01q\xff\xff", 4, []api.Frame{hello, query}, 7, api.OK}, // no head yet, so no error
		{"\x01\x00\x00\x03\x00\x02q", 4, []api.Frame{hello}, 3, api.OK},
		{"\x03\x00\x02q", 4, nil, 0, api.OK},
		{"\x00\x00\x00", 4, nil, 0, api.ErrKind}, {"\x03\x00\x05", 4, nil, 0, api.ErrBig}, {"\x09\x00\x05", 4, nil, 0, api.ErrKind},
		{"\x01\x00\x00\x09\x00\x00", 4, []api.Frame{hello}, 3, api.ErrKind},
		{"\x01\x00\x00\x03\x00\x05", 4, []api.Frame{hello}, 3, api.ErrBig},
		{"\x01\x00\x00\x03\x00\x01q\x03\x00\x05abcde\x01\x00\x00", 4, []api.Frame{hello, query}, 7, api.ErrBig}, // none behind the error
		{"\x03\x00\x01q\x00\x00\x00\x03\x00\x05", 4, []api.Frame{query}, 4, api.ErrKind},                        // the first of two
		{"\x03\x00\x01q\x03\x00\x05\x00\x00\x00", 4, []api.Frame{query}, 4, api.ErrBig},
		{"\x03\x00\x01q", 0, nil, 0, api.ErrBig}, {"\x01\x00\x00\x03\x00\x01q", -1, []api.Frame{hello}, 3, api.ErrBig},
	} {
		l, n, e := All([]byte(x.b), x.cap)
		if !slices.Equal(l, x.l) || n != x.n || e != x.e {
			t.Errorf("All(%q, %d) = %+v, %d, %d, want %+v, %d, %d", x.b, x.cap, l, n, e, x.l, x.n, x.e)
		}
	}
}

// P2.1: who may say what, and the kinds' names.
func TestWhoMaySayWhat(t *testing.T) {
	for _, x := range []struct {
		kind         int
		client, host bool
		name         string
	}{
		{api.Hello, true, true, "hello"}, {api.Begin, true, false, "begin"}, {api.Query, true, false, "query"}, {api.Commit, true, false, "commit"},
		{api.Rollback, true, false, "rollback"}, {api.Reply, false, true, "reply"}, {api.Error, false, true, "error"}, {api.Close, true, true, "close"},
	} {
		if Client(x.kind) != x.client || Host(x.kind) != x.host || Name(x.kind) != x.name {
			t.Errorf("kind %d: %v, %v, %q, want %v, %v, %q", x.kind, Client(x.kind), Host(x.kind), Name(x.kind), x.client, x.host, x.name)
		}
	}
	for _, kind := range oddKinds() {
		if Client(kind) || Host(kind) || Name(kind) != "" {
			t.Errorf("kind %d, which is none: %v, %v, %q", kind, Client(kind), Host(kind), Name(kind))
		}
	}
}

// P2.2: what is written is read as it was, of every kind and every size, and whatever stands behind it.
func TestWrittenIsReadAsItWas(t *testing.T) {
	for kind := 1; kind <= 8; kind++ {
		for size := range maxCap + 1 {
			f := api.Frame{Kind: kind, Data: data(size, kind)}
			for _, cap := range []int{size, maxCap, math.MaxInt} {
				b, e := Write(f, cap)
				if e != api.OK {
					t.Fatalf("Write of kind %d, %d bytes, cap %d: %d", kind, size, cap, e)
				}
				if hk, hn, e := Head(b, cap); hk != kind || hn != size || e != api.OK {
					t.Fatalf("Head of kind %d, %d bytes, cap %d: %d, %d, %d", kind, size, cap, hk, hn, e)
				}
				for _, behind := range []string{"", "\x00", "\xff\xff\xff"} {
					got, n, e := Read(append(slices.Clone(b), behind...), cap)
					if got != f || n != len(b) || e != api.OK {
						t.Fatalf("Read of kind %d, %d bytes, cap %d: kind %d, %d bytes, %d, %d", kind, size, cap, got.Kind, len(got.Data), n, e)
					}
				}
			}
		}
	}
}

// P2.2: a frame without its last byte, or without more, is not whole.
func TestCutFrameIsNotRead(t *testing.T) {
	for _, size := range []int{0, 1, 2, 255, 256, 1024} {
		b, _ := Write(api.Frame{Kind: 7, Data: data(size, 3)}, maxCap)
		for n := range b {
			if f, k, e := Read(b[:n], maxCap); f != (api.Frame{}) || k != 0 || e != api.ErrForm {
				t.Fatalf("Read of %d of %d bytes: kind %d, %d, %d", n, len(b), f.Kind, k, e)
			}
			if l, k, e := All(b[:n], maxCap); len(l) != 0 || k != 0 || e != api.OK {
				t.Fatalf("All of %d of %d bytes: %d frames, %d, %d", n, len(b), len(l), k, e)
			}
		}
	}
}

// aRow is frames of all kinds and many sizes, their bytes one behind the other, and where each one ends.
func aRow(t *testing.T, cap int) ([]api.Frame, []byte, []int) {
	t.Helper()
	var l []api.Frame
	var b []byte
	var ends []int
	for i, size := range []int{0, 1, cap, 0, 0, cap - 1, 2, 3, 257, cap, 5, 0} {
		f := api.Frame{Kind: i%8 + 1, Data: data(size, i)}
		w, e := Write(f, cap)
		if e != api.OK {
			t.Fatalf("Write of frame %d: %d", i, e)
		}
		l, b = append(l, f), append(b, w...)
		ends = append(ends, len(b))
	}
	return l, b, ends
}

// P2.2: frames one behind the other are read one by one.
func TestFramesAreReadOneByOne(t *testing.T) {
	want, b, _ := aRow(t, 300)
	rest := b
	for i, f := range want {
		got, n, e := Read(rest, 300)
		if got != f || e != api.OK {
			t.Fatalf("frame %d: kind %d, %d bytes, %d, want kind %d, %d bytes", i, got.Kind, len(got.Data), e, f.Kind, len(f.Data))
		}
		rest = rest[n:]
	}
	if len(rest) != 0 {
		t.Errorf("%d bytes are left", len(rest))
	}
	l, n, e := All(b, 300)
	if !slices.Equal(l, want) || n != len(b) || e != api.OK {
		t.Errorf("All: %d frames, %d of %d bytes, %d", len(l), n, len(b), e)
	}
}

// P2.1, P2.2: cut anywhere, All reads the whole ones ahead of the cut, and the others out of what it left.
func TestFramesCutAnywhere(t *testing.T) {
	want, b, ends := aRow(t, 300)
	for at := range len(b) + 1 {
		whole, end := 0, 0
		for whole < len(ends) && ends[whole] <= at {
			end = ends[whole]
			whole++
		}
		l, n, e := All(b[:at], 300)
		if !slices.Equal(l, want[:whole]) || n != end || e != api.OK {
			t.Fatalf("cut at %d: %d frames, %d bytes, %d, want %d frames, %d bytes", at, len(l), n, e, whole, end)
		}
		l, n, e = All(b[n:], 300)
		if !slices.Equal(l, want[whole:]) || n != len(b)-end || e != api.OK {
			t.Fatalf("behind the cut at %d: %d frames, %d bytes, %d, want %d frames, %d bytes", at, len(l), n, e, len(want)-whole, len(b)-end)
		}
	}
}

// P2.1: a bad head behind whole frames is told as soon as its three bytes are there, with the frames ahead of it.
func TestBadHeadBehindFrames(t *testing.T) {
	want, b, ends := aRow(t, 300)
	for i := range len(want) + 1 {
		end := 0
		if i > 0 {
			end = ends[i-1]
		}
		for _, x := range []struct {
			head []byte
			e    api.Errno
		}{{raw(0, 0, ""), api.ErrKind}, {raw(9, 0, ""), api.ErrKind}, {raw(255, 65535, ""), api.ErrKind}, {raw(3, 301, ""), api.ErrBig}, {raw(8, 65535, ""), api.ErrBig}} {
			for bytesThere := range 4 {
				wantErrno := api.OK
				if bytesThere == 3 {
					wantErrno = x.e
				}
				l, n, e := All(append(slices.Clone(b[:end]), x.head[:bytesThere]...), 300)
				if !slices.Equal(l, want[:i]) || n != end || e != wantErrno {
					t.Fatalf("%d bytes of %v behind %d frames: %d frames, %d, %d, want %d, %d", bytesThere, x.head, i, len(l), n, e, end, wantErrno)
				}
			}
			l, n, e := All(slices.Concat(b[:end], x.head, b[end:]), 300)
			if !slices.Equal(l, want[:i]) || n != end || e != x.e {
				t.Fatalf("%v between frames, behind %d: %d frames, %d, %d, want %d, %d", x.head, i, len(l), n, e, end, x.e)
			}
		}
	}
}

// slowAll goes through bytes one by one, as the chapter tells a frame, and shares nothing with the program.
func slowAll(b []byte, cap int) (l []api.Frame, used int, e api.Errno) {
	var held []byte
	for _, x := range b {
		held = append(held, x)
		if len(held) < 3 {
			continue
		}
		size := int(held[1])*256 + int(held[2])
		if e := wantErr(int(held[0]), size, cap); e != api.OK {
			return l, used, e
		}
		if len(held) == 3+size {
			l = append(l, api.Frame{Kind: int(held[0]), Data: string(held[3:])})
			used += len(held)
			held = nil
		}
	}
	return l, used, api.OK
}

// someBytes are bytes that are now and then frames: small ones for the most part, so that many heads are good.
func someBytes(r *rand.Rand) []byte {
	b := make([]byte, r.Intn(60))
	for i := range b {
		switch r.Intn(8) {
		case 0:
			b[i] = byte(r.Intn(256))
		case 1, 2, 3:
			b[i] = 0
		default:
			b[i] = byte(r.Intn(9))
		}
	}
	return b
}

// P2.1, T0: any bytes under any cap, All and Read held against the slow way.
func TestAnyBytes(t *testing.T) {
	r := rand.New(rand.NewSource(2))
	for range 200000 {
		b := someBytes(r)
		cap := allCaps()[r.Intn(len(allCaps()))]
		want, used, wantErrno := slowAll(b, cap)
		l, n, e := All(b, cap)
		if !slices.Equal(l, want) || n != used || e != wantErrno {
			t.Fatalf("All(%v, %d) = %+v, %d, %d, want %+v, %d, %d", b, cap, l, n, e, want, used, wantErrno)
		}
		f, n, e := Read(b, cap)
		switch {
		case len(want) > 0:
			if f != want[0] || n != 3+len(want[0].Data) || e != api.OK {
				t.Fatalf("Read(%v, %d) = %+v, %d, %d, want %+v", b, cap, f, n, e, want[0])
			}
		case wantErrno != api.OK:
			if f != (api.Frame{}) || n != 0 || e != wantErrno {
				t.Fatalf("Read(%v, %d) = %+v, %d, %d, want the error %d", b, cap, f, n, e, wantErrno)
			}
		default:
			if f != (api.Frame{}) || n != 0 || e != api.ErrForm {
				t.Fatalf("Read(%v, %d) = %+v, %d, %d, want ErrForm", b, cap, f, n, e)
			}
		}
	}
}

// R4: what is handed in is not changed, not even behind its end.
func TestBytesAreLeftAsTheyWere(t *testing.T) {
	_, b, _ := aRow(t, 300)
	b = append(b, 9, 9, 9)
	was := slices.Clone(b)
	for _, part := range [][]byte{b, b[:len(b)-3], b[:40], b[:2]} {
		Head(part, 300)
		Read(part, 300)
		All(part, 300)
	}
	if !bytes.Equal(b, was) {
		t.Error("the bytes were changed")
	}
}

// R4: what is answered is new memory: it stays, whatever becomes of the bytes and of other answers.
func TestAnswersAreNewMemory(t *testing.T) {
	want, b, _ := aRow(t, 300)
	own := slices.Clone(b)
	f, _, _ := Read(own[3:], 300)
	l, _, _ := All(own, 300)
	other, _, _ := All(own, 300)
	clear(own)
	clear(other)
	if f != want[1] || !slices.Equal(l, want) {
		t.Error("frames that were answered have changed")
	}
	first, _ := Write(want[2], 300)
	second, _ := Write(want[2], 300)
	clear(first)
	if !bytes.Equal(second, raw(3, 300, want[2].Data)) {
		t.Error("bytes that were answered have changed")
	}
}
