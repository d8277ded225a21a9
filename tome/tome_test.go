package tome_test

import (
	"fmt"
	"math"
	"strings"
	"testing"

	"countermand/file"
	"countermand/tome"
)

// none is a file that isn't there.
var none = file.File{}

// of answers a file that is there, with these bytes.
func of(text string) file.File { return file.File{Is: true, Text: text} }

// bytes32 are 32 bytes, none like another.
const bytes32 = "0123456789abcdefghijklmnopqrstuv"

// noNumbers are numbers of no file.
var noNumbers = []int{-1, -2, -6, 6, 7, 12, 64, 255, 256, 1 << 16, 1 << 31, 1 << 32, 1<<32 + 1, -1 << 32, 1 - 1<<32, math.MaxInt, math.MaxInt - 5, math.MinInt, math.MinInt + 1}

// kept is one file of a tome, with its version.
type kept struct {
	f       file.File
	version int
}

// numbered is one file that is gone over.
type numbered struct {
	i int
	f file.File
}

// gone answers what a tome goes over.
func gone(x *tome.Tome) []numbered {
	var all []numbered
	for i, f := range x.All() {
		all = append(all, numbered{i, f})
	}
	return all
}

// bytesOf tells a tome's bytes another way: none of its texts has more than a byte can tell of.
func bytesOf(want [6]kept) string {
	s := ""
	for i, k := range want {
		if k.f.Is {
			s += string([]byte{byte(i), byte(len(k.f.Text))}) + k.f.Text
		}
	}
	return s
}

// has tells a fault if a tome has other files, versions or bytes than it should.
func has(t *testing.T, name string, x *tome.Tome, want [6]kept) {
	t.Helper()
	var there []numbered
	for i, k := range want {
		if f, v := x.Get(i); f != k.f || v != k.version {
			t.Errorf("%s: file %d is %q (%v), of %d, want %q (%v), of %d", name, i, f.Text, f.Is, v, k.f.Text, k.f.Is, k.version)
		}
		if k.f.Is {
			there = append(there, numbered{i, k.f})
		}
	}
	if got := gone(x); fmt.Sprint(got) != fmt.Sprint(there) {
		t.Errorf("%s: All goes over %v, want %v", name, got, there)
	}
	if got := x.Bytes(); got != bytesOf(want) {
		t.Errorf("%s: bytes %x, want %x", name, got, bytesOf(want))
	}
	for _, i := range noNumbers {
		if f, v := x.Get(i); f != none || v != 0 {
			t.Errorf("%s: there is a file %d: %q (%v), of %d", name, i, f.Text, f.Is, v)
		}
	}
}

// set sets a file that can be, of a number that there is.
func set(t *testing.T, x *tome.Tome, i int, f file.File, version int) {
	t.Helper()
	if !x.Set(i, f, version) {
		t.Errorf("Set(%d, %q (%v), %d) is false", i, f.Text, f.Is, version)
	}
}

// P10.1: a new tome has no files, and all are of version 0.
func TestNew(t *testing.T) {
	has(t, "a new one", tome.New(), [6]kept{})
}

// P10.1: a file that is set is there, of that version, and no other one is changed.
func TestSet(t *testing.T) {
	for i := range 6 {
		for _, f := range []file.File{of(""), of("a"), of("\x00"), of("\xff\x00\xc3"), of("é€"), of(bytes32[:31]), of(bytes32), of(strings.Repeat("\x00", 32)), none} {
			for _, v := range []int{0, 1, 2, 1 << 40, -1, math.MaxInt, math.MinInt} {
				x, want := tome.New(), [6]kept{}
				set(t, x, i, f, v)
				want[i] = kept{f, v}
				has(t, fmt.Sprintf("Set(%d, %q (%v), %d)", i, f.Text, f.Is, v), x, want)
			}
		}
	}
}

// P10.1: a file is what was set last, of the version that was set last, an earlier one too.
func TestSetAgain(t *testing.T) {
	x, want := tome.New(), [6]kept{}
	for _, s := range []struct {
		i       int
		f       file.File
		version int
	}{
		{3, of("first"), 5},
		{3, of("second"), 9},
		{3, of("second"), 2},
		{5, of(""), 1},
		{3, none, 7},
		{5, of("x"), 0},
		{3, of(""), 7},
		{0, none, 4},
		{0, of("z"), 4},
		{5, none, -3},
		{5, none, 11},
	} {
		set(t, x, s.i, s.f, s.version)
		want[s.i] = kept{s.f, s.version}
		has(t, fmt.Sprintf("behind %+v", s), x, want)
	}
}

// P10.1: nothing happens, if there is no such number, or the file can't be.
func TestSetNothing(t *testing.T) {
	x, want := tome.New(), [6]kept{}
	for i := range 6 {
		want[i] = kept{of(bytes32[i : 2*i]), 10 + i}
		set(t, x, i, want[i].f, want[i].version)
	}
	set(t, x, 4, none, 3)
	want[4] = kept{none, 3}
	for _, i := range noNumbers {
		for _, f := range []file.File{none, of(""), of("a"), of(bytes32), of(bytes32 + "w"), {Text: "a"}} {
			if x.Set(i, f, 99) {
				t.Errorf("Set(%d, %q (%v)) is true", i, f.Text, f.Is)
			}
		}
	}
	for i := range 6 {
		for _, f := range []file.File{of(bytes32 + "w"), of(strings.Repeat("z", 64)), of(strings.Repeat("z", 1<<16)), {Text: "a"}, {Text: "\x00"}, {Text: bytes32}, {Text: bytes32 + "w"}} {
			if x.Set(i, f, 99) {
				t.Errorf("Set(%d, %.40q (%v)) is true", i, f.Text, f.Is)
			}
		}
	}
	has(t, "behind all of these", x, want)
}

// P10.1, with rule 9: the files that are there, by their numbers; it may be left, and begun again.
func TestAll(t *testing.T) {
	x := tome.New()
	set(t, x, 5, of("five"), 1)
	set(t, x, 1, of(""), 2)
	set(t, x, 3, of("three"), 3)
	set(t, x, 0, none, 4)
	all := x.All()
	for left := range 4 {
		var got []int
		for i := range all {
			if len(got) == left {
				break
			}
			got = append(got, i)
		}
		if want := []int{1, 3, 5}[:left]; fmt.Sprint(got) != fmt.Sprint(want) {
			t.Errorf("left behind %d: %d, want %d", left, got, want)
		}
	}
	if got, want := gone(x), []numbered{{1, of("")}, {3, of("three")}, {5, of("five")}}; fmt.Sprint(got) != fmt.Sprint(want) {
		t.Errorf("%v, want %v", got, want)
	}
}

// P10.1: of each file that is there, by numbers, the number, and its text.
func TestBytes(t *testing.T) {
	for _, c := range []struct {
		name string
		want [6]kept
		b    string
	}{
		{"none", [6]kept{}, ""},
		{"the chapter's example", [6]kept{2: {of("ab"), 1}}, "\x02\x02ab"},
		{"the first, empty", [6]kept{0: {of(""), 1}}, "\x00\x00"},
		{"the last, empty", [6]kept{5: {of(""), 1}}, "\x05\x00"},
		{"two", [6]kept{0: {of("a"), 1}, 5: {of("bc"), 1}}, "\x00\x01a\x05\x02bc"},
		{"all, empty", [6]kept{{of(""), 1}, {of(""), 1}, {of(""), 1}, {of(""), 1}, {of(""), 1}, {of(""), 1}}, "\x00\x00\x01\x00\x02\x00\x03\x00\x04\x00\x05\x00"},
		{"the longest", [6]kept{4: {of(bytes32), 1}}, "\x04\x20" + bytes32},
		{"no letters", [6]kept{1: {of("\x00\xff\x80"), 1}}, "\x01\x03\x00\xff\x80"},
		{"texts that look like files", [6]kept{1: {of("\x02\x01x"), 1}, 2: {of("\x03\x00"), 1}}, "\x01\x03\x02\x01x\x02\x02\x03\x00"},
	} {
		// From the last one on: bytes hang on the numbers, not on what was set first.
		x := tome.New()
		for i := 5; i >= 0; i-- {
			set(t, x, i, c.want[i].f, c.want[i].version)
		}
		if got := x.Bytes(); got != c.b {
			t.Errorf("%s: %x, want %x", c.name, got, c.b)
		}
		has(t, c.name, x, c.want)
		reads(t, c.name, c.b, c.want)
	}
}

// reads tells a fault if bytes aren't read as these files, all of version 0.
func reads(t *testing.T, name, b string, want [6]kept) {
	t.Helper()
	y, ok := tome.Read(b)
	if !ok {
		t.Errorf("%s: %x isn't read", name, b)
		return
	}
	for i := range want {
		want[i].version = 0
	}
	has(t, name+", read", y, want)
	if y.Bytes() != b {
		t.Errorf("%s: of %x is read what has the bytes %x", name, b, y.Bytes())
	}
}

// P10.1 and P10.2: what are no tome's bytes isn't read.
func TestReadNone(t *testing.T) {
	for _, c := range []struct{ name, b string }{
		{"a number alone", "\x02"},
		{"a number alone, behind a file", "\x01\x00\x02"},
		{"a text that is cut", "\x02\x03ab"},
		{"a text that is cut to nothing", "\x02\x01"},
		{"a byte too many", "\x02\x02abc"},
		{"no such number", "\x06\x00"},
		{"no such number, behind a file", "\x05\x00\x06\x00"},
		{"a number of two bytes", "\x80\x01\x00"},
		{"a number that isn't closed", "\x82"},
		{"a number of more bytes than it needs", "\x82\x00\x00"},
		{"a length of more bytes than it needs", "\x02\x82\x00ab"},
		{"a length that isn't closed", "\x02\x80"},
		{"a greatest number", "\xff\xff\xff\xff\xff\xff\xff\xff\xff\x01\x00"},
		{"a greatest length", "\x00\xff\xff\xff\xff\xff\xff\xff\xff\xff\x01"},
		{"a length beyond 64 bits", "\x00\xff\xff\xff\xff\xff\xff\xff\xff\xff\x03"},
		{"a file that is too long", "\x02\x21" + bytes32 + "w"},
		{"one that is far too long", "\x02\x80\x01" + strings.Repeat("z", 128)},
		{"the same number twice", "\x02\x00\x02\x00"},
		{"the first number twice", "\x00\x00\x00\x00"},
		{"the last number twice", "\x05\x01a\x05\x01a"},
		{"numbers that go back", "\x02\x00\x01\x00"},
		{"numbers that go back to 0", "\x05\x00\x00\x00"},
		{"numbers that go back later", "\x00\x00\x03\x00\x04\x00\x01\x00"},
		{"seven files", "\x00\x00\x01\x00\x02\x00\x03\x00\x04\x00\x05\x00\x06\x00"},
		{"text alone", "file"},
		{"bytes 0, an odd many", "\x00\x00\x00"},
	} {
		if x, ok := tome.Read(c.b); ok || x != nil {
			t.Errorf("%s: %x is read: %v, %v", c.name, c.b, x, ok)
		}
	}
}

// P10.2: all rows of up to five of ten bytes: those of a tome are read, and are just that tome's; others aren't.
func TestReadShort(t *testing.T) {
	letters := []byte{0, 1, 2, 3, 5, 6, 32, 33, 128, 255}
	read := 0
	var try func(b string, more int)
	try = func(b string, more int) {
		want, is := told(b)
		if y, ok := tome.Read(b); ok != is || ok != (y != nil) {
			t.Errorf("%x is read: %v, want %v", b, ok, is)
		} else if ok {
			read++
			reads(t, "short", b, want)
		}
		if more > 0 {
			for _, c := range letters {
				try(b+string([]byte{c}), more-1)
			}
		}
	}
	try("", 5)
	if read < 100 {
		t.Errorf("only %d of all are read", read)
	}
}

// told reads a tome's bytes another way: by places.
func told(b string) ([6]kept, bool) {
	var want [6]kept
	at, last := 0, -1
	for at < len(b) {
		if at+2 > len(b) {
			return want, false
		}
		i, n := int(b[at]), int(b[at+1])
		at += 2
		if i > 5 || i <= last || n > 32 || at+n > len(b) {
			return want, false
		}
		want[i].f = of(b[at : at+n])
		at, last = at+n, i
	}
	return want, true
}

// P10.1: whether both have the same bytes, whatever their versions.
func TestSame(t *testing.T) {
	holding := func(list ...kept) *tome.Tome {
		x := tome.New()
		for i, k := range list {
			set(t, x, i, k.f, k.version)
		}
		return x
	}
	for _, c := range []struct {
		name string
		a, b *tome.Tome
		want bool
	}{
		{"two new ones", tome.New(), tome.New(), true},
		{"nil and nil", nil, nil, true},
		{"nil and a new one", nil, tome.New(), true},
		{"nil and one with a file", nil, holding(kept{of(""), 0}), false},
		{"of other versions", holding(kept{of("a"), 1}, kept{none, 7}), holding(kept{of("a"), 2}), true},
		{"only versions", holding(kept{none, 1}), tome.New(), true},
		{"one is longer", holding(kept{of("a"), 1}), holding(kept{of("ab"), 1}), false},
		{"as long, another", holding(kept{of("a"), 1}), holding(kept{of("b"), 1}), false},
		{"empty and not there", holding(kept{of(""), 1}), holding(kept{none, 1}), false},
		{"of another number", holding(kept{of("a"), 1}), holding(kept{none, 1}, kept{of("a"), 1}), false},
		{"one has one more", holding(kept{of("a"), 1}), holding(kept{of("a"), 1}, kept{of(""), 1}), false},
		{"the last one is another", holding(kept{}, kept{}, kept{}, kept{}, kept{}, kept{of("x"), 1}), holding(kept{}, kept{}, kept{}, kept{}, kept{}, kept{of("y"), 1}), false},
	} {
		if got := tome.Same(c.a, c.b); got != c.want {
			t.Errorf("%s: %v", c.name, got)
		}
		if got := tome.Same(c.b, c.a); got != c.want {
			t.Errorf("%s, the other way round: %v", c.name, got)
		}
		if !tome.Same(c.a, c.a) || !tome.Same(c.b, c.b) {
			t.Errorf("%s: one isn't the same as itself", c.name)
		}
	}
}

// P10.1: a nil tome has no files, and gets none.
func TestNil(t *testing.T) {
	var x *tome.Tome
	has(t, "a nil one", x, [6]kept{})
	for i := -1; i < 8; i++ {
		if x.Set(i, of("a"), 1) || x.Set(i, none, 1) {
			t.Errorf("Set(%d) is true", i)
		}
	}
	has(t, "a nil one, behind Set", x, [6]kept{})
}
