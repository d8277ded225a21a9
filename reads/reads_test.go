package reads_test

import (
	"fmt"
	"math"
	"slices"
	"testing"

	"countermand/reads"
)

// thing is what may be read.
type thing struct {
	kind  reads.Kind
	index int
}

// things answers all things that there are, by kinds and indexes.
func things() []thing {
	var all []thing
	for _, k := range []reads.Kind{reads.Cell, reads.File, reads.Feed} {
		for i := range 8 {
			all = append(all, thing{k, i})
		}
	}
	return all
}

// noThings answers kinds and indexes of which there is no thing.
func noThings() []thing {
	var all []thing
	for _, x := range []int{math.MinInt, math.MinInt + 1, -1 << 32, 1 - 1<<32, -8, -2, -1, 8, 9, 16, 23, 24, 1 << 8, 1 << 16, 1 << 32, 1<<32 + 1, math.MaxInt - 1, math.MaxInt} {
		all = append(all, thing{reads.Cell, x}, thing{reads.File, x}, thing{reads.Feed, x}, thing{reads.Kind(x), 0}, thing{reads.Kind(x), 7}, thing{reads.Kind(x), x})
	}
	return append(all, thing{3, 0}, thing{3, 7}, thing{3, -1}, thing{-1, 8}, thing{3, 8}, thing{4, 1})
}

// world answers a Now at a time, with things of these versions; all others are of version 0.
func world(clock int, versions map[thing]int) reads.Now {
	n := reads.Now{Clock: clock}
	for x, version := range versions {
		n.Versions[x.kind][x.index] = version
	}
	return n
}

// entry answers the entry of a thing.
func entry(x thing, version int) reads.Entry {
	return reads.Entry{Kind: x.kind, Index: x.index, Version: version}
}

// list answers what was read, as All tells it.
func list(s *reads.Set) []reads.Entry {
	var all []reads.Entry
	for e := range s.All() {
		all = append(all, e)
	}
	return all
}

// has tells a fault if a set has another stamp, or other entries, than these.
func has(t *testing.T, name string, s *reads.Set, stamp int, want ...reads.Entry) {
	t.Helper()
	if got := s.Stamp(); got != stamp {
		t.Errorf("%s: the stamp is %d, want %d", name, got, stamp)
	}
	if got := s.Len(); got != len(want) {
		t.Errorf("%s: Len is %d, want %d", name, got, len(want))
	}
	if got := list(s); !slices.Equal(got, want) {
		t.Errorf("%s: %v, want %v", name, got, want)
	}
	for _, x := range append(things(), noThings()...) {
		is := slices.ContainsFunc(want, func(e reads.Entry) bool { return e.Kind == x.kind && e.Index == x.index })
		if got := s.Has(x.kind, x.index); got != is {
			t.Errorf("%s: Has(%d, %d) is %v", name, x.kind, x.index, got)
		}
	}
}

// notes tells a fault if Note answers otherwise.
func notes(t *testing.T, name string, s *reads.Set, now reads.Now, x thing, want bool) {
	t.Helper()
	if got := s.Note(now, x.kind, x.index); got != want {
		t.Errorf("%s: Note of %v is %v", name, x, got)
	}
}

// valid tells a fault if Valid answers otherwise.
func valid(t *testing.T, name string, s *reads.Set, now reads.Now, want bool) {
	t.Helper()
	if got := s.Valid(now); got != want {
		t.Errorf("%s: Valid is %v", name, got)
	}
}

// Some things.
var (
	cell0 = thing{reads.Cell, 0}
	cell1 = thing{reads.Cell, 1}
	cell7 = thing{reads.Cell, 7}
	file0 = thing{reads.File, 0}
	file1 = thing{reads.File, 1}
	feed2 = thing{reads.Feed, 2}
)

// P12.1: the kinds' numbers, and how many things there are of each.
func TestKinds(t *testing.T) {
	if reads.Cell != 0 || reads.File != 1 || reads.Feed != 2 || reads.Things != 8 {
		t.Errorf("%d, %d, %d; %d", reads.Cell, reads.File, reads.Feed, reads.Things)
	}
}

// P12.1: each thing has its own version.
func TestOf(t *testing.T) {
	n := reads.Now{Clock: 1000}
	for i, x := range things() {
		n.Versions[x.kind][x.index] = 100 + 7*i
	}
	for i, x := range things() {
		if got := n.Of(x.kind, x.index); got != 100+7*i {
			t.Errorf("Of(%d, %d) is %d, want %d", x.kind, x.index, got, 100+7*i)
		}
	}
	if got := (reads.Now{Clock: 9}).Of(reads.File, 3); got != 0 {
		t.Errorf("of a thing that wasn't changed: %d", got)
	}
}

// P12.1: 0, if there is none such.
func TestOfNoSuchThing(t *testing.T) {
	n := reads.Now{Clock: 1000}
	for _, x := range things() {
		n.Versions[x.kind][x.index] = 999
	}
	for _, x := range noThings() {
		if got := n.Of(x.kind, x.index); got != 0 {
			t.Errorf("Of(%d, %d) is %d", x.kind, x.index, got)
		}
	}
}

// P12.1: a new set is empty, of the stamp that it was given, and valid.
func TestNew(t *testing.T) {
	for _, stamp := range []int{0, 1, 2, 1 << 32, math.MaxInt, -1, math.MinInt} {
		s := reads.New(stamp)
		if s == nil {
			t.Fatalf("New(%d) is nil", stamp)
		}
		name := fmt.Sprintf("New(%d)", stamp)
		has(t, name, s, stamp)
		valid(t, name, s, reads.Now{}, true)
		valid(t, name, s, world(9, map[thing]int{cell0: 9, feed2: 3}), true)
	}
}

// P12.1: the chapter's example.
func TestExample(t *testing.T) {
	s := reads.New(0)
	notes(t, "example", s, reads.Now{}, cell0, true)
	has(t, "example", s, 0, entry(cell0, 0))
}

// P12.1: all things can be read, in any order, and are told in that order, each once, of its own version.
func TestNoteOfAll(t *testing.T) {
	now := reads.Now{Clock: 100}
	for i, x := range things() {
		now.Versions[x.kind][x.index] = 100 - i
	}
	for _, step := range []int{1, 5, 7, 11, 23} {
		s := reads.New(100)
		var want []reads.Entry
		for i := range 24 {
			x := things()[i*step%24]
			notes(t, fmt.Sprint("step ", step), s, now, x, true)
			want = append(want, entry(x, now.Of(x.kind, x.index)))
			has(t, fmt.Sprint(i, " of step ", step), s, 100, want...)
		}
		for _, x := range things() {
			notes(t, "again", s, now, x, true)
		}
		has(t, fmt.Sprint("again, of step ", step), s, 100, want...)
		valid(t, "all", s, now, true)
	}
}

// P12.1: of two things each is read as itself, whichever they are.
func TestNoteOfTwo(t *testing.T) {
	for i, x := range things() {
		for k, y := range things() {
			if i == k {
				continue
			}
			now := world(20, map[thing]int{x: 5, y: 9})
			s := reads.New(20)
			notes(t, "first", s, now, x, true)
			has(t, "first", s, 20, entry(x, 5))
			notes(t, "second", s, now, y, true)
			has(t, "second", s, 20, entry(x, 5), entry(y, 9))
		}
	}
}

// P12.1: of a thing that was read, whether its version is the same now; the set stays as it is.
func TestNoteAgain(t *testing.T) {
	for _, x := range things() {
		s := reads.New(6)
		first := world(6, map[thing]int{x: 4})
		notes(t, "first", s, first, x, true)
		for _, c := range []struct {
			name string
			now  reads.Now
			want bool
		}{
			{"the same", first, true},
			{"later, the same", world(9, map[thing]int{x: 4}), true},
			{"changed", world(7, map[thing]int{x: 7}), false},
			{"changed again", world(9, map[thing]int{x: 8}), false},
			{"of an earlier version", world(6, map[thing]int{x: 3}), false},
			{"of none", reads.Now{}, false},
			{"as it was", first, true},
		} {
			notes(t, c.name, s, c.now, x, c.want)
			has(t, c.name, s, 6, entry(x, 4))
		}
	}
}

// P12.1: what was read is asked of its own thing alone, though the set isn't valid any more.
func TestNoteAgainOfOne(t *testing.T) {
	s := reads.New(3)
	notes(t, "cell", s, reads.Now{Clock: 3}, cell0, true)
	notes(t, "file", s, reads.Now{Clock: 3}, file0, true)
	now := world(4, map[thing]int{file0: 4})
	valid(t, "file changed", s, now, false)
	notes(t, "file changed", s, now, cell0, true)
	notes(t, "file changed", s, now, file0, false)
	has(t, "file changed", s, 3, entry(cell0, 0), entry(file0, 0))
}

// P12.1: a thing of a version up to the stamp is read at the stamp; of a later one at the time now, if the set is valid.
func TestNoteAtTheStamp(t *testing.T) {
	const stamp, clock = 10, 15
	for _, version := range []int{0, 1, 9, 10, 11, 12, 14, 15} {
		for _, changed := range []bool{false, true} {
			now := world(clock, map[thing]int{cell0: 2, cell1: version})
			if changed {
				now.Versions[reads.Cell][0] = 13
			}
			name := fmt.Sprintf("version %d, changed %v", version, changed)
			s := reads.New(stamp)
			notes(t, name, s, world(stamp, map[thing]int{cell0: 2}), cell0, true)
			valid(t, name, s, now, !changed)
			switch {
			case version <= stamp:
				notes(t, name, s, now, cell1, true)
				has(t, name, s, stamp, entry(cell0, 2), entry(cell1, version))
			case changed:
				notes(t, name, s, now, cell1, false)
				has(t, name, s, stamp, entry(cell0, 2))
			default:
				notes(t, name, s, now, cell1, true)
				has(t, name, s, clock, entry(cell0, 2), entry(cell1, version))
			}
			valid(t, name+", behind", s, now, !changed)
		}
	}
}

// P12.1: of an empty set every version goes; the stamp is the time now only if the version is a greater one.
func TestNoteFirst(t *testing.T) {
	for stamp := range 8 {
		for version := range 8 {
			want := stamp
			if version > stamp {
				want = 7
			}
			name := fmt.Sprintf("stamp %d, version %d", stamp, version)
			s := reads.New(stamp)
			notes(t, name, s, world(7, map[thing]int{feed2: version}), feed2, true)
			has(t, name, s, want, entry(feed2, version))
		}
	}
}

// P12.1: the stamp goes on with each thing that is newer, and what was read up to then counts from there on.
func TestStampGoesOn(t *testing.T) {
	s := reads.New(0)
	notes(t, "at 0", s, reads.Now{}, cell0, true)
	now := world(3, map[thing]int{cell1: 1, file1: 3})
	notes(t, "at 3", s, now, cell1, true)
	has(t, "at 3", s, 3, entry(cell0, 0), entry(cell1, 1))
	notes(t, "at 3, up to the stamp", s, now, file1, true)
	has(t, "at 3, up to the stamp", s, 3, entry(cell0, 0), entry(cell1, 1), entry(file1, 3))
	now = world(5, map[thing]int{cell1: 1, file1: 3, feed2: 4})
	notes(t, "at 5", s, now, feed2, true)
	has(t, "at 5", s, 5, entry(cell0, 0), entry(cell1, 1), entry(file1, 3), entry(feed2, 4))
	now = world(7, map[thing]int{cell1: 1, file1: 6, feed2: 4, cell7: 7})
	notes(t, "at 7", s, now, cell7, false)
	has(t, "at 7", s, 5, entry(cell0, 0), entry(cell1, 1), entry(file1, 3), entry(feed2, 4))
	notes(t, "at 7, an older one", s, now, file0, true)
	has(t, "at 7, an older one", s, 5, entry(cell0, 0), entry(cell1, 1), entry(file1, 3), entry(feed2, 4), entry(file0, 0))
}

// P12.1: newer things are refused even if there was a time in between at which all was so.
func TestNoteTooLate(t *testing.T) {
	s := reads.New(0)
	notes(t, "at 0", s, reads.Now{}, cell0, true)
	now := world(2, map[thing]int{cell1: 1, cell0: 2})
	notes(t, "at 2", s, now, cell1, false)
	has(t, "at 2", s, 0, entry(cell0, 0))
	notes(t, "at 2, again", s, now, cell1, false)
	has(t, "at 2, again", s, 0, entry(cell0, 0))
}

// P12.1: what was refused can be read, if the set is valid by another Now: each call hangs on the Now that it was given.
func TestNoteByAnotherNow(t *testing.T) {
	s := reads.New(0)
	notes(t, "at 0", s, reads.Now{}, cell0, true)
	notes(t, "at 2", s, world(2, map[thing]int{cell1: 1, cell0: 2}), cell1, false)
	notes(t, "at 1", s, world(1, map[thing]int{cell1: 1}), cell1, true)
	has(t, "at 1", s, 1, entry(cell0, 0), entry(cell1, 1))
}

// P12.1: every thing that was read counts, wherever it stands, and no other one.
func TestValid(t *testing.T) {
	now := reads.Now{Clock: 50}
	for i, x := range things() {
		now.Versions[x.kind][x.index] = 2 * i
	}
	s := reads.New(50)
	for i, x := range things() {
		if i%3 != 1 {
			notes(t, "all but some", s, now, x, true)
		}
	}
	valid(t, "as it was", s, now, true)
	for i, x := range things() {
		for _, version := range []int{51, 52, 2*i + 1, 2*i - 1, math.MaxInt, 2*i + 1<<32} {
			other := now
			other.Clock = 52
			other.Versions[x.kind][x.index] = version
			valid(t, fmt.Sprintf("%v of version %d", x, version), s, other, i%3 == 1)
		}
	}
	later := now
	later.Clock = 99
	valid(t, "later", s, later, true)
	valid(t, "as it was, again", s, now, true)
}

// P12.1: a thing that there isn't is of version 0, like any that was never changed; each one is another.
func TestNoteOfNoSuchThing(t *testing.T) {
	now := reads.Now{Clock: 9}
	for _, x := range things() {
		now.Versions[x.kind][x.index] = 9
	}
	for _, x := range noThings() {
		s := reads.New(0)
		notes(t, "none such", s, now, x, true)
		has(t, "none such", s, 0, entry(x, 0))
		notes(t, "none such, again", s, reads.Now{}, x, true)
		has(t, "none such, again", s, 0, entry(x, 0))
		valid(t, "none such", s, now, true)
	}
	s := reads.New(4)
	var want []reads.Entry
	for _, x := range noThings() {
		e := entry(x, 0)
		if !slices.Contains(want, e) {
			want = append(want, e)
		}
		notes(t, "all of them", s, now, x, true)
	}
	has(t, "all of them", s, 4, want...)
	notes(t, "a thing", s, now, cell0, true)
	has(t, "a thing", s, 9, append(want, entry(cell0, 9))...)
}

// P12.1: a stamp below 0 is a number like others.
func TestStampBelowNought(t *testing.T) {
	s := reads.New(-5)
	notes(t, "at 2", s, reads.Now{Clock: 2}, cell0, true)
	has(t, "at 2", s, 2, entry(cell0, 0))
	s = reads.New(math.MaxInt)
	notes(t, "ahead of the stamp", s, world(5, map[thing]int{cell0: 1}), cell0, true)
	notes(t, "ahead of the stamp", s, world(5, map[thing]int{cell0: 2, cell1: 5}), cell1, true)
	has(t, "ahead of the stamp", s, math.MaxInt, entry(cell0, 1), entry(cell1, 5))
}

// P12.1: a nil set is valid, notes nothing, and has nothing.
func TestNil(t *testing.T) {
	var s *reads.Set
	has(t, "nil", s, 0)
	for _, now := range []reads.Now{{}, world(3, map[thing]int{cell0: 3, feed2: 1})} {
		valid(t, "nil", s, now, true)
		for _, x := range append(things(), noThings()...) {
			notes(t, "nil", s, now, x, false)
		}
	}
	has(t, "nil, behind what was refused", s, 0)
	if s.All() == nil || reads.New(0).All() == nil {
		t.Error("All can't be gone over")
	}
}

// P12.1, with rule 9: what is gone over may be left at any time, and gone over again, one within another too.
func TestAllLeft(t *testing.T) {
	s := reads.New(9)
	var want []reads.Entry
	for i, x := range things()[:6] {
		notes(t, "at first", s, world(9, map[thing]int{x: i}), x, true)
		want = append(want, entry(x, i))
	}
	all := s.All()
	for stop := range want {
		var got []reads.Entry
		for e := range all {
			got = append(got, e)
			if len(got) == stop+1 {
				break
			}
		}
		if !slices.Equal(got, want[:stop+1]) {
			t.Errorf("left behind %d: %v", stop+1, got)
		}
	}
	times := 0
	for e := range all {
		for o := range all {
			if o != want[times%6] || e != want[times/6] {
				t.Errorf("the %d. time: %v within %v", times, o, e)
			}
			times++
		}
	}
	if times != 36 {
		t.Errorf("%d times", times)
	}
	has(t, "gone over", s, 9, want...)
}

// P12.1, with rule 4: two sets know nothing of one another.
func TestTwoSets(t *testing.T) {
	s, o := reads.New(1), reads.New(2)
	notes(t, "one", s, world(8, map[thing]int{cell0: 4}), cell0, true)
	notes(t, "the other", o, world(9, map[thing]int{cell0: 9}), cell0, true)
	notes(t, "the other", o, world(9, map[thing]int{cell0: 9}), file1, true)
	has(t, "one", s, 8, entry(cell0, 4))
	has(t, "the other", o, 9, entry(cell0, 9), entry(file1, 0))
}

// P12.1, with rule 3: the Now that is handed in isn't changed, nor is what the caller writes into it behind the call seen, nor what it writes into entries.
func TestHandedIn(t *testing.T) {
	now := world(4, map[thing]int{cell0: 4, file1: 2})
	s := reads.New(1)
	notes(t, "first", s, now, cell0, true)
	notes(t, "second", s, now, file1, true)
	if valid(t, "both", s, now, true); now != world(4, map[thing]int{cell0: 4, file1: 2}) {
		t.Errorf("changed: %v", now)
	}
	now.Versions[reads.Cell][0], now.Clock = 7, 8
	for e := range s.All() {
		e.Version, e.Kind = 70, reads.Feed
	}
	all := list(s)
	all[1] = reads.Entry{}
	has(t, "written into", s, 4, entry(cell0, 4), entry(file1, 2))
}
