package file_test

import (
	"math"
	"strings"
	"testing"

	"countermand/file"
)

// none is a file that isn't there.
var none = file.File{}

// of answers a file that is there, with these bytes.
func of(text string) file.File { return file.File{Is: true, Text: text} }

// noughts answers so many bytes 0.
func noughts(n int) string { return strings.Repeat("\x00", n) }

// bytes32 are 32 bytes, none like another.
const bytes32 = "0123456789abcdefghijklmnopqrstuv"

// noPlaces are numbers that are neither places nor sizes of any file.
var noPlaces = []int{-1, -2, -32, -256, 33, 34, 64, 255, 256, 1 << 16, 1 << 31, 1 << 32, 1<<32 + 1, -1 << 31, -1 << 32, 1 - 1<<32,
	math.MaxInt, math.MaxInt - 1, math.MaxInt - 31, math.MaxInt - 32, math.MinInt, math.MinInt + 1, math.MinInt + 31}

// goods are files that can be.
func goods() []file.File {
	all := []file.File{none, of("\x00"), of("\xff"), of("\x00a\x00"), of(noughts(31)), of(noughts(32)), of(strings.Repeat("\xff", 32)), of("\xc3\xa9\xe2\x82\xac\xed\xa0\x80")}
	for n := range 33 {
		all = append(all, of(bytes32[:n]))
	}
	return all
}

// bads are files that can't be.
func bads() []file.File {
	all := []file.File{of(bytes32 + "w"), of(noughts(33)), of(strings.Repeat("z", 64)), of(strings.Repeat("z", 256)), of(strings.Repeat("z", 1<<16+1))}
	for _, text := range []string{"x", "\x00", bytes32[:31], bytes32, bytes32 + "w", noughts(64), strings.Repeat("z", 1<<16)} {
		all = append(all, file.File{Text: text})
	}
	return all
}

// is tells a fault if a file is another one than it should be, or can't be.
func is(t *testing.T, name string, got, want file.File) {
	t.Helper()
	if got != want {
		t.Errorf("%s: %.120q (%v), want %.120q (%v)", name, got.Text, got.Is, want.Text, want.Is)
	}
	if !file.Good(got) {
		t.Errorf("%s: %.120q (%v) can't be", name, got.Text, got.Is)
	}
}

// P9.1: a file is there, with at most 32 bytes, or it isn't, and has none.
func TestGood(t *testing.T) {
	for _, f := range goods() {
		if !file.Good(f) {
			t.Errorf("%q (%v) can't be", f.Text, f.Is)
		}
	}
	for _, f := range bads() {
		if file.Good(f) {
			t.Errorf("%.80q (%v), of %d bytes, can be", f.Text, f.Is, len(f.Text))
		}
	}
}

// P9.1: the byte at a place, as a number from 0 to 255.
func TestAt(t *testing.T) {
	for _, c := range []struct {
		f    file.File
		at   int
		want int
	}{
		{of("abc"), 0, 'a'},
		{of("abc"), 1, 'b'},
		{of("abc"), 2, 'c'},
		{of("abc"), 3, -1},
		{of("abc"), -1, -1},
		{of("\x00"), 0, 0},
		{of("\x00"), 1, -1},
		{of("\x7f\x80\xfe\xff"), 0, 127},
		{of("\x7f\x80\xfe\xff"), 1, 128},
		{of("\x7f\x80\xfe\xff"), 2, 254},
		{of("\x7f\x80\xfe\xff"), 3, 255},
		{of("é€"), 1, 0xa9},
		{of("é€"), 4, 0xac},
		{of("é€"), 5, -1},
		{of(""), 0, -1},
		{none, 0, -1},
		{none, -1, -1},
		{none, 31, -1},
		{of(bytes32), 30, 'u'},
		{of(bytes32), 31, 'v'},
		{of(bytes32), 32, -1},
	} {
		if got := file.At(c.f, c.at); got != c.want {
			t.Errorf("At(%q, %d): %d, want %d", c.f.Text, c.at, got, c.want)
		}
	}
}

// P9.1: at no place there is a byte.
func TestAtNoPlace(t *testing.T) {
	for _, f := range goods() {
		for _, at := range append([]int{len(f.Text), len(f.Text) + 1, 32}, noPlaces...) {
			if got := file.At(f, at); got != -1 {
				t.Errorf("At(%q, %d): %d", f.Text, at, got)
			}
		}
	}
}

// P9.1: each byte can be asked.
func TestAtEveryByte(t *testing.T) {
	for b := range 256 {
		f := of("a" + string([]byte{byte(b)}))
		if got := file.At(f, 1); got != b {
			t.Errorf("%d is %d", b, got)
		}
	}
}

// P9.1 and P9.2: a byte within the text, behind it, and further behind.
func TestPut(t *testing.T) {
	for _, c := range []struct {
		name string
		f    file.File
		at   int
		b    byte
		want file.File
	}{
		{"the chapter's example", of("a"), 2, 'c', of("a\x00c")},
		{"the first", of("abc"), 0, 'x', of("xbc")},
		{"in between", of("abc"), 1, 'x', of("axc")},
		{"the last", of("abc"), 2, 'x', of("abx")},
		{"just behind", of("abc"), 3, 'x', of("abcx")},
		{"far behind", of("abc"), 31, 'x', of("abc" + noughts(28) + "x")},
		{"the same", of("abc"), 1, 'b', of("abc")},
		{"a byte 0", of("abc"), 1, 0, of("a\x00c")},
		{"a byte 0 behind", of("abc"), 4, 0, of("abc\x00\x00")},
		{"no letter", of("abc"), 1, 0xff, of("a\xffc")},
		{"half a letter", of("é"), 1, 0x80, of("\xc3\x80")},
		{"an empty one, first", of(""), 0, 'x', of("x")},
		{"an empty one, last", of(""), 31, 'x', of(noughts(31) + "x")},
		{"not there, first", none, 0, 'x', of("x")},
		{"not there, a byte 0", none, 0, 0, of("\x00")},
		{"not there, further", none, 3, 'x', of("\x00\x00\x00x")},
		{"not there, last", none, 31, 'x', of(noughts(31) + "x")},
		{"a full one, first", of(bytes32), 0, 'x', of("x" + bytes32[1:])},
		{"a full one, last", of(bytes32), 31, 'x', of(bytes32[:31] + "x")},
		{"nearly full, last", of(bytes32[:31]), 31, 'x', of(bytes32[:31] + "x")},
	} {
		is(t, c.name, file.Put(c.f, c.at, c.b), c.want)
	}
}

// P9.1: at no such place a file is as it was, and isn't there, if it wasn't.
func TestPutAtNoPlace(t *testing.T) {
	for _, f := range goods() {
		for _, at := range append([]int{32}, noPlaces...) {
			for _, b := range []byte{0, 'x', 255} {
				is(t, "Put", file.Put(f, at, b), f)
			}
		}
	}
}

// P9.2: a byte that was put is there, and no other one is changed; what had no byte up to that has a byte 0.
func TestPutEverywhere(t *testing.T) {
	for _, f := range goods() {
		for at := range 32 {
			for b := range 256 {
				after := file.Put(f, at, byte(b))
				if !after.Is || !file.Good(after) || len(after.Text) != max(len(f.Text), at+1) {
					t.Fatalf("Put(%q, %d, %d): %q (%v)", f.Text, at, b, after.Text, after.Is)
				}
				for i := range 33 {
					want := file.At(f, i)
					if i == at {
						want = b
					} else if i < at && want == -1 {
						want = 0
					}
					if got := file.At(after, i); got != want {
						t.Fatalf("Put(%q, %d, %d) has %d at %d, want %d", f.Text, at, b, got, i, want)
					}
				}
			}
		}
	}
}

// P9.1: the first bytes, and bytes 0 behind these.
func TestCut(t *testing.T) {
	for _, c := range []struct {
		name string
		f    file.File
		size int
		want file.File
	}{
		{"to nothing", of("abc"), 0, of("")},
		{"shorter", of("abc"), 1, of("a")},
		{"by one", of("abc"), 2, of("ab")},
		{"as it is", of("abc"), 3, of("abc")},
		{"by one more", of("abc"), 4, of("abc\x00")},
		{"longer", of("abc"), 6, of("abc\x00\x00\x00")},
		{"the longest", of("abc"), 32, of("abc" + noughts(29))},
		{"too long", of("abc"), 33, of("abc")},
		{"below 0", of("abc"), -1, of("abc")},
		{"an empty one, as it is", of(""), 0, of("")},
		{"an empty one, longer", of(""), 2, of("\x00\x00")},
		{"an empty one, the longest", of(""), 32, of(noughts(32))},
		{"a full one, as it is", of(bytes32), 32, of(bytes32)},
		{"a full one, by one", of(bytes32), 31, of(bytes32[:31])},
		{"a full one, to nothing", of(bytes32), 0, of("")},
		{"a full one, too long", of(bytes32), 33, of(bytes32)},
		{"noughts", of("\x00\x00\x00"), 2, of("\x00\x00")},
		{"half a letter", of("aé"), 2, of("a\xc3")},
	} {
		is(t, c.name, file.Cut(c.f, c.size), c.want)
	}
}

// P9.1: every file, to every size.
func TestCutEverywhere(t *testing.T) {
	for _, f := range goods() {
		for size := range 33 {
			want := f
			if f.Is {
				want.Text = (f.Text + noughts(32))[:size]
			}
			is(t, "Cut", file.Cut(f, size), want)
		}
		for _, size := range noPlaces {
			is(t, "Cut to no size", file.Cut(f, size), f)
		}
	}
}

// P9.1: what was cut off doesn't come again.
func TestCutForgets(t *testing.T) {
	is(t, "cut twice", file.Cut(file.Cut(of("secret"), 2), 6), of("se"+noughts(4)))
	is(t, "put behind", file.Put(file.Cut(of("secret"), 1), 4, 'x'), of("s\x00\x00\x00x"))
}

// P9.1: a file as it is, there.
func TestMake(t *testing.T) {
	for _, f := range goods() {
		is(t, "Make", file.Make(f), of(f.Text))
	}
	is(t, "one that isn't there", file.Make(none), of(""))
}

// P9.1: one that isn't there stays so, but by Put and Make.
func TestNotThere(t *testing.T) {
	for size := -2; size < 36; size++ {
		is(t, "Cut", file.Cut(none, size), none)
	}
	is(t, "cut, then put", file.Put(file.Cut(none, 5), 1, 'x'), of("\x00x"))
	is(t, "made, then cut", file.Cut(file.Make(none), 2), of("\x00\x00"))
	if file.Make(none) == none {
		t.Error("one that is there, and empty, is like one that isn't")
	}
}

// P9.1, with rule 1: of files that can't be nothing is made that can't be, and no byte is told.
func TestBad(t *testing.T) {
	for _, f := range bads() {
		for _, at := range append([]int{0, 1, 31, 32}, noPlaces...) {
			if got := file.At(f, at); got != -1 {
				t.Errorf("At(%.80q, %d): %d", f.Text, at, got)
			}
			is(t, "Put", file.Put(f, at, 'x'), none)
			is(t, "Cut", file.Cut(f, at), none)
		}
		is(t, "Make", file.Make(f), none)
	}
}
