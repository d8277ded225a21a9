package sheet_test

import (
	"fmt"
	"math"
	"slices"
	"strings"
	"testing"

	"countermand/file"
	"countermand/sheet"
	"countermand/tome"
)

// none is a file that isn't there.
var none = file.File{}

// of answers a file that is there, with these bytes.
func of(text string) file.File { return file.File{Is: true, Text: text} }

// bytes32 are 32 bytes, none like another.
const bytes32 = "0123456789abcdefghijklmnopqrstuv"

// noNumbers are numbers of no file.
var noNumbers = []int{-1, -2, -6, 6, 7, 12, 64, 255, 256, 1 << 16, 1 << 31, 1 << 32, 1<<32 + 1, -1 << 32, 1 - 1<<32, math.MaxInt, math.MaxInt - 5, math.MinInt, math.MinInt + 1}

// noPlaces are no places of a file, and no sizes of one.
var noPlaces = []int{-1, -2, -32, 33, 34, 64, 255, 256, 257, 1 << 16, 1 << 31, 1 << 32, 1<<32 + 1, math.MaxInt, math.MinInt}

// files are files that can be: none, short ones, ones with bytes 0, and the longest.
var files = []file.File{none, of(""), of("a"), of("\x00"), of("abc"), of("a\x00c\x00"), of("\xff\x80\x00"), of(bytes32[:31]), of(bytes32), of(strings.Repeat("\x00", 32))}

// kept is one file, and its version.
type kept struct {
	f       file.File
	version int
}

// tomeOf answers a tome of six files, file i of version i+1.
func tomeOf(all [6]file.File) *tome.Tome {
	x := tome.New()
	for i, f := range all {
		x.Set(i, f, i+1)
	}
	return x
}

// keeps answers what a tome has.
func keeps(x *tome.Tome) [6]kept {
	var all [6]kept
	for i := range all {
		all[i].f, all[i].version = x.Get(i)
	}
	return all
}

// has tells a fault if over a tome other files are there, or others were written, than these; and if asking changes the tome.
func has(t *testing.T, name string, s *sheet.Sheet, x *tome.Tome, want [6]file.File, written ...int) {
	t.Helper()
	before := keeps(x)
	was := [6]bool{}
	for _, i := range written {
		was[i] = true
	}
	for i := range want {
		if f, is := s.Get(x, i); f != want[i] || is != was[i] {
			t.Fatalf("%s: file %d is %q (%v), written: %v; want %q (%v), %v", name, i, f.Text, f.Is, is, want[i].Text, want[i].Is, was[i])
		}
	}
	for _, i := range noNumbers {
		if f, is := s.Get(x, i); f != none || is {
			t.Fatalf("%s: there is a file %d: %q (%v), written: %v", name, i, f.Text, f.Is, is)
		}
	}
	for i, f := range s.Draft().All() {
		if i < 0 || i > 5 || !was[i] || f != want[i] {
			t.Fatalf("%s: the draft has %d, %q (%v)", name, i, f.Text, f.Is)
		}
	}
	if got := s.Draft().Len(); got != len(written) {
		t.Fatalf("%s: %d were written, want %d", name, got, len(written))
	}
	if keeps(x) != before {
		t.Fatalf("%s: the tome is changed", name)
	}
}

// lands tells a fault if Over gives a tome other files or versions than it should, or changes the sheet (P14.2). It does so to a copy of the tome.
func lands(t *testing.T, name string, s *sheet.Sheet, x *tome.Tome, version int) {
	t.Helper()
	y := tome.New()
	want, n := keeps(x), 0
	for i, k := range want {
		y.Set(i, k.f, k.version)
		f, is := s.Get(x, i)
		if want[i].f = f; is {
			want[i].version = version
			n++
		}
	}
	list := fmt.Sprint(sorted(s))
	if got := s.Over(y, version); got != n {
		t.Fatalf("%s: Over is %d, want %d", name, got, n)
	}
	if got := keeps(y); got != want {
		t.Fatalf("%s: Over gives %v, want %v", name, got, want)
	}
	if got := fmt.Sprint(sorted(s)); got != list {
		t.Fatalf("%s: Over leaves %s in the draft, want %s", name, got, list)
	}
}

// sorted answers what a sheet's draft has, in the draft's order.
func sorted(s *sheet.Sheet) []string {
	var all []string
	for i, f := range s.Draft().All() {
		all = append(all, fmt.Sprintf("%d %q (%v)", i, f.Text, f.Is))
	}
	return all
}

// change is one call that changes a sheet's file, its name, and what layer 9 makes of a file by it.
type change struct {
	name string
	do   func(s *sheet.Sheet, x *tome.Tome, i int) bool
	made func(f file.File) file.File
}

func write(at int, b byte) change {
	return change{
		fmt.Sprintf("Write of %d at %d", b, at),
		func(s *sheet.Sheet, x *tome.Tome, i int) bool { return s.Write(x, i, at, b) },
		func(f file.File) file.File { return file.Put(f, at, b) },
	}
}

func cut(size int) change {
	return change{
		fmt.Sprintf("Cut to %d", size),
		func(s *sheet.Sheet, x *tome.Tome, i int) bool { return s.Cut(x, i, size) },
		func(f file.File) file.File { return file.Cut(f, size) },
	}
}

func create() change {
	return change{
		"Create",
		func(s *sheet.Sheet, x *tome.Tome, i int) bool { return s.Create(x, i) },
		func(f file.File) file.File { return file.Make(f) },
	}
}

func remove() change {
	return change{
		"Remove",
		func(s *sheet.Sheet, x *tome.Tome, i int) bool { return s.Remove(x, i) },
		func(f file.File) file.File { return none },
	}
}

// changes answers changes of every place and size, and of such as there aren't.
func changes() []change {
	all := []change{create(), remove()}
	for n := range 34 {
		all = append(all, write(n, 0), write(n, 'a'), write(n, 0xff), cut(n))
	}
	for _, n := range noPlaces {
		all = append(all, write(n, 'a'), cut(n))
	}
	return all
}

// P14.1, the chapter's example.
func TestChaptersExample(t *testing.T) {
	x, s := tome.New(), sheet.New()
	if !s.Create(x, 1) || !s.Rename(x, 1, 2) {
		t.Error("the calls answer false")
	}
	has(t, "behind both", s, x, [6]file.File{2: of("")}, 1, 2)
	lands(t, "behind both", s, x, 3)
}

// P14.1: an empty sheet wrote nothing: over each tome, nil too, are the tome's files.
func TestNew(t *testing.T) {
	s := sheet.New()
	if s == nil || s.Draft() == nil {
		t.Fatal("no sheet, or no draft")
	}
	has(t, "no files", s, tome.New(), [6]file.File{})
	has(t, "a nil tome", s, nil, [6]file.File{})
	all := [6]file.File{of("a"), none, of(""), of(bytes32), none, of("\x00")}
	has(t, "some files", s, tomeOf(all), all)
	lands(t, "some files", s, tomeOf(all), 9)
}

// P14.1 and P14.2: each change makes of a file, whether it was written or not, what layer 9 does, writes it, if that is another one, and changes no other file.
func TestEachChange(t *testing.T) {
	for _, c := range changes() {
		for k, f := range files {
			i := k % 6
			all := [6]file.File{of("zero"), of("one"), none, of("three"), of(""), of("five")}
			all[i] = f
			x, s := tomeOf(all), sheet.New()
			name := fmt.Sprintf("%s of %q (%v), %d", c.name, f.Text, f.Is, i)
			if !c.do(s, x, i) {
				t.Fatalf("%s is false", name)
			}
			var written []int
			if all[i] = c.made(f); all[i] != f {
				written = []int{i}
			}
			has(t, name, s, x, all, written...)
			lands(t, name, s, x, 7)
			twice(t, name, c, f)
		}
	}
}

// twice tells a fault if a change isn't done to a file that was written, where the tome has another one: it stays written, if it is changed or not.
func twice(t *testing.T, name string, c change, f file.File) {
	t.Helper()
	x, s := tomeOf([6]file.File{3: of("the tome's")}), sheet.New()
	becomes(s, x, 3, f)
	has(t, name+", ahead", s, x, [6]file.File{3: f}, 3)
	if !c.do(s, x, 3) {
		t.Fatalf("%s, written, is false", name)
	}
	has(t, name+", written", s, x, [6]file.File{3: c.made(f)}, 3)
	lands(t, name+", written", s, x, 7)
}

// becomes writes a file as another one, by the sheet's calls.
func becomes(s *sheet.Sheet, x *tome.Tome, i int, f file.File) {
	s.Remove(x, i)
	if f.Is {
		s.Create(x, i)
	}
	for at := range len(f.Text) {
		s.Write(x, i, at, f.Text[at])
	}
}

// P14.1: a change to what a file is already writes nothing, of a file that is the tome's; what was written, and is as the tome has it again, stays written.
func TestNothingNew(t *testing.T) {
	all := [6]file.File{of("abc"), none, of(""), of(bytes32), of("\x00"), none}
	x, s := tomeOf(all), sheet.New()
	for _, ok := range []bool{
		s.Write(x, 0, 1, 'b'), s.Cut(x, 0, 3), s.Create(x, 0), s.Rename(x, 0, 0), s.Write(x, 0, 32, 'x'), s.Cut(x, 0, 33),
		s.Remove(x, 1), s.Cut(x, 1, 4), s.Rename(x, 1, 0), s.Rename(x, 1, 5), s.Rename(x, 1, 1), s.Write(x, 1, -1, 'x'), s.Cut(x, 1, 0),
		s.Create(x, 2), s.Cut(x, 2, 0), s.Write(x, 3, 31, 'v'), s.Cut(x, 3, 32), s.Write(x, 4, 0, 0),
	} {
		if !ok {
			t.Error("a call that changes nothing is false")
		}
	}
	has(t, "nothing new", s, x, all)
	lands(t, "nothing new", s, x, 9)
	s.Write(x, 0, 1, 'x')
	s.Write(x, 0, 1, 'b')
	s.Create(x, 5)
	s.Remove(x, 5)
	s.Remove(x, 2)
	s.Create(x, 2)
	s.Cut(x, 3, 0)
	s.Cut(x, 3, 0)
	all[3] = of("")
	has(t, "there and back", s, x, all, 0, 2, 3, 5)
	lands(t, "there and back", s, x, 9)
}

// P14.1: what is new, and what isn't, is told over the tome that is handed in, not over another one.
func TestTwoTomes(t *testing.T) {
	x, y, s := tomeOf([6]file.File{of("a"), of("b"), of("c")}), tomeOf([6]file.File{of("z"), of("b")}), sheet.New()
	s.Write(x, 0, 0, 'a')
	has(t, "nothing over the first", s, y, [6]file.File{of("z"), of("b")})
	s.Write(y, 0, 0, 'a')
	has(t, "written over the second", s, y, [6]file.File{of("a"), of("b")}, 0)
	has(t, "and so over the first", s, x, [6]file.File{of("a"), of("b"), of("c")}, 0)
	s.Remove(y, 2)
	s.Write(y, 0, 1, '!')
	has(t, "no file to remove there", s, x, [6]file.File{of("a!"), of("b"), of("c")}, 0)
	s.Rename(y, 2, 1)
	s.Rename(x, 2, 3)
	has(t, "renamed in the first", s, y, [6]file.File{of("a!"), of("b"), none, of("c")}, 0, 2, 3)
	s.Remove(nil, 1)
	s.Create(nil, 4)
	has(t, "over no tome", s, nil, [6]file.File{of("a!"), none, none, of("c"), of("")}, 0, 2, 3, 4)
}

// P14.1: of any two numbers and files: the other one is what the first one was, and the first one isn't there; nothing, if the first one wasn't there, or both are the same.
func TestRename(t *testing.T) {
	for from := range 6 {
		for to := range 6 {
			for k, f := range files {
				for _, g := range []file.File{files[k], files[(k+3)%len(files)], none, of("other")} {
					rename(t, from, to, f, g)
				}
			}
		}
	}
}

// rename tells a fault if Rename of a file to another one, both the tome's, then both written, does something else than it should.
func rename(t *testing.T, from, to int, f, g file.File) {
	t.Helper()
	base := [6]file.File{of("zero"), of("one"), of("two"), of("three"), of("four"), of("five")}
	ahead := base
	ahead[to] = g
	ahead[from] = f
	want := ahead
	if f.Is && from != to {
		want[to], want[from] = f, none
	}
	var changed []int
	for i := range want {
		if want[i] != ahead[i] {
			changed = append(changed, i)
		}
	}
	name := fmt.Sprintf("%d to %d, %q (%v) and %q (%v)", from, to, f.Text, f.Is, g.Text, g.Is)
	x, s := tomeOf(ahead), sheet.New()
	if !s.Rename(x, from, to) {
		t.Fatalf("%s is false", name)
	}
	has(t, name, s, x, want, changed...)
	lands(t, name, s, x, 12)

	y, s := tomeOf(base), sheet.New()
	becomes(s, y, to, g)
	becomes(s, y, from, f)
	if !s.Rename(y, from, to) {
		t.Fatalf("%s, written, is false", name)
	}
	both := []int{from, to}
	if from == to {
		both = both[:1]
	}
	has(t, name+", written", s, y, want, both...)
	lands(t, name+", written", s, y, 12)
}

// P14.1: names that go round: two files change places by a third name.
func TestRenameRound(t *testing.T) {
	x, s := tomeOf([6]file.File{of("a"), of("b")}), sheet.New()
	s.Rename(x, 0, 4)
	s.Rename(x, 1, 0)
	s.Rename(x, 4, 1)
	has(t, "round", s, x, [6]file.File{of("b"), of("a")}, 0, 1, 4)
	lands(t, "round", s, x, 5)
	s.Rename(x, 4, 0)
	has(t, "of none", s, x, [6]file.File{of("b"), of("a")}, 0, 1, 4)
}

// P14.1: false, and nothing happens, if there is no such number; of a Rename, if there is none on either side.
func TestNoNumbers(t *testing.T) {
	all := [6]file.File{of("abc"), of("x"), none, of(""), of(bytes32), none}
	x, s := tomeOf(all), sheet.New()
	s.Write(x, 1, 0, 'y')
	s.Create(x, 2)
	all[1], all[2] = of("y"), of("")
	for _, i := range noNumbers {
		for _, y := range []*tome.Tome{x, tome.New(), nil} {
			for _, c := range []change{write(0, 'a'), write(31, 0), write(-1, 'a'), cut(0), cut(5), cut(99), create(), remove()} {
				if c.do(s, y, i) {
					t.Errorf("%s of %d is true", c.name, i)
				}
			}
			for _, j := range []int{0, 1, 2, 5, -1, 6, i} {
				if s.Rename(y, i, j) || s.Rename(y, j, i) {
					t.Errorf("Rename of %d and %d is true", i, j)
				}
			}
		}
	}
	has(t, "behind all of these", s, x, all, 1, 2)
	lands(t, "behind all of these", s, x, 8)
}

// P14.1: a nil sheet has nothing, and answers false: over it are the tome's files; its draft and its copy are nil.
func TestNilSheet(t *testing.T) {
	var s *sheet.Sheet
	all := [6]file.File{of("abc"), none, of("")}
	x := tomeOf(all)
	for i := -1; i < 7; i++ {
		for _, c := range []change{write(0, 'z'), write(0, 'a'), write(-1, 'a'), cut(1), cut(3), create(), remove()} {
			if c.do(s, x, i) || c.do(s, nil, i) {
				t.Errorf("%s of %d is true", c.name, i)
			}
		}
		for j := -1; j < 7; j++ {
			if s.Rename(x, i, j) || s.Rename(nil, i, j) {
				t.Errorf("Rename of %d to %d is true", i, j)
			}
		}
	}
	has(t, "nil", s, x, all)
	has(t, "nil, over a nil tome", s, nil, [6]file.File{})
	lands(t, "nil", s, x, 7)
	if s.Draft() != nil || s.Copy() != nil || s.Over(nil, 1) != 0 {
		t.Error("there is a draft, a copy, or something over")
	}
}

// P14.1: over a nil tome, which has no files, are what was written; nothing can be set in it.
func TestNilTome(t *testing.T) {
	s := sheet.New()
	if !s.Write(nil, 0, 2, 'c') || !s.Create(nil, 1) || !s.Remove(nil, 2) || !s.Cut(nil, 3, 4) || !s.Rename(nil, 1, 5) || !s.Rename(nil, 4, 0) {
		t.Error("the calls answer false")
	}
	has(t, "written", s, nil, [6]file.File{0: of("\x00\x00c"), 5: of("")}, 0, 1, 5)
	if n := s.Over(nil, 4); n != 0 {
		t.Errorf("%d are set in none", n)
	}
	has(t, "behind Over", s, nil, [6]file.File{0: of("\x00\x00c"), 5: of("")}, 0, 1, 5)
	lands(t, "over a tome", s, tomeOf([6]file.File{none, of("b"), of("c")}), 6)
}

// P14.1: Draft answers the draft itself: what is written later is seen in it, and each time it is the same.
func TestDraft(t *testing.T) {
	x, s := tome.New(), sheet.New()
	d := s.Draft()
	s.Write(x, 3, 0, 'a')
	if f, ok := d.Get(3); f != of("a") || !ok || d.Len() != 1 {
		t.Errorf("%q, %v of %d", f.Text, ok, d.Len())
	}
	s.Remove(x, 3)
	if f, ok := d.Get(3); f != none || !ok || s.Draft() != d {
		t.Errorf("%q, %v, or another draft", f.Text, ok)
	}
	if sheet.New().Draft() == d {
		t.Error("two sheets have one draft")
	}
}

// P14.1, with rule 4: a copy has the same, and neither knows what the other is told behind that.
func TestCopy(t *testing.T) {
	for n := range 7 {
		for i := range 6 {
			var all [6]file.File
			var written []int
			x, s := tome.New(), sheet.New()
			for k := range n {
				s.Write(x, k, 0, byte('a'+k))
				all[k], written = of("abcdef"[k:k+1]), append(written, k)
			}
			name := fmt.Sprintf("%d files, then %d", n, i)
			c := s.Copy()
			if c == nil || c == s || c.Draft() == s.Draft() {
				t.Fatalf("%s: no copy of its own", name)
			}
			has(t, name+", the copy", c, x, all, written...)
			more, moreWritten := all, append(slices.Clone(written), i)
			if more[i] = of("new"); i < n {
				moreWritten = written
			}
			becomes(c, x, i, of("new"))
			has(t, name+", the sheet, behind a change of its copy", s, x, all, written...)
			has(t, name+", the copy, changed", c, x, more, moreWritten...)
			c = s.Copy()
			becomes(s, x, i, of("new"))
			has(t, name+", the copy, behind a change of its sheet", c, x, all, written...)
			has(t, name+", the sheet, changed", s, x, more, moreWritten...)
		}
	}
}

// P14.1 and P14.2: Over sets those that were written, and no others, of that version, whatever it is, in each tome; the sheet keeps them.
func TestOver(t *testing.T) {
	for _, v := range []int{0, 1, 3, 1 << 40, -1, math.MaxInt, math.MinInt} {
		x, s := tomeOf([6]file.File{of("a"), of("b"), none, of("d"), of("e"), none}), sheet.New()
		s.Write(x, 0, 0, 'x')
		s.Remove(x, 1)
		s.Create(x, 2)
		s.Write(x, 3, 0, 'x')
		s.Write(x, 3, 0, 'd')
		want := [6]kept{{of("x"), v}, {none, v}, {of(""), v}, {of("d"), v}, {of("e"), 5}, {none, 6}}
		for range 2 {
			if n := s.Over(x, v); n != 4 {
				t.Errorf("%d files, want 4", n)
			}
			if got := keeps(x); got != want {
				t.Errorf("of version %d: %v, want %v", v, got, want)
			}
		}
		has(t, "behind Over", s, x, [6]file.File{of("x"), none, of(""), of("d"), of("e"), none}, 0, 1, 2, 3)
		s.Remove(x, 0)
		if got := keeps(x); got != want {
			t.Errorf("a change behind Over is seen in the tome: %v", got)
		}
		y := tomeOf([6]file.File{none, none, none, none, of("other"), of("more")})
		if n := s.Over(y, v); n != 4 {
			t.Errorf("%d files of another tome, want 4", n)
		}
		want[0].f, want[4].f, want[5].f = none, of("other"), of("more")
		if got := keeps(y); got != want {
			t.Errorf("of version %d, another tome: %v, want %v", v, got, want)
		}
	}
}
