package wal_test

import (
	"fmt"
	"math"
	"slices"
	"strings"
	"testing"

	"countermand/api"
	"countermand/disk"
	"countermand/wafer"
	"countermand/wal"
)

// state is all that can be asked of a log.
type state struct {
	loads   []string
	size    int
	lasting int
	torn    bool
	area    int
}

// String tells a state in a line that isn't too long.
func (s state) String() string {
	return fmt.Sprintf("%.60q, size %d, %d last, torn %t, area %d", s.loads, s.size, s.lasting, s.torn, s.area)
}

// equal tells whether two states are the same.
func (s state) equal(o state) bool {
	return slices.Equal(s.loads, o.loads) && s.size == o.size && s.lasting == o.lasting && s.torn == o.torn && s.area == o.area
}

// of answers what a log has.
func of(l *wal.Log) state {
	return state{slices.Collect(l.All()), l.Size(), l.Lasting(), l.Torn(), l.Area()}
}

// has tells a fault if a log has other things than these.
func has(t *testing.T, name string, l *wal.Log, want state) {
	t.Helper()
	if got := of(l); !got.equal(want) {
		t.Errorf("%s: %v, want %v", name, got, want)
	}
}

// answers tells a fault if a call answered another error.
func answers(t *testing.T, name string, got, want api.Errno) {
	t.Helper()
	if got != want {
		t.Errorf("%s: %d, want %d", name, got, want)
	}
}

// open answers the log of an area that is there.
func open(t *testing.T, d *disk.Disk, area int) *wal.Log {
	t.Helper()
	l, errno := wal.Open(d, area)
	if errno != api.OK || l == nil {
		t.Fatalf("Open: %v, %d", l, errno)
	}
	return l
}

// with answers a disk whose areas have such bytes, safe ones and then some that wait.
func with(area int, safe, waits string) *disk.Disk {
	d := disk.New()
	d.Append(area, safe)
	d.Sync()
	if waits != "" {
		d.Append(area, waits)
	}
	return d
}

// long is a load as long as one can be.
var long = strings.Repeat("l", api.MaxLoad)

// P4.1: Open refuses a nil disk, and areas that aren't there; nothing comes of it.
func TestOpenRefuses(t *testing.T) {
	d := with(0, wafer.Row("a"), "x")
	for _, a := range []int{-1, 2, 3, 1 << 8, 1 << 32, 1<<32 + 1, -1 << 32, math.MaxInt, math.MinInt, math.MinInt + 1} {
		if l, errno := wal.Open(d, a); l != nil || errno != api.ErrArg {
			t.Errorf("area %d: %v, %d", a, l, errno)
		}
		if l, errno := wal.Open(nil, a); l != nil || errno != api.ErrNil {
			t.Errorf("nil, area %d: %v, %d", a, l, errno)
		}
	}
	for a := range 2 {
		if l, errno := wal.Open(nil, a); l != nil || errno != api.ErrNil {
			t.Errorf("nil, area %d: %v, %d", a, l, errno)
		}
	}
	if d.Waits() != 1 || d.Read(0) != wafer.Row("a")+"x" || d.Read(1) != "" {
		t.Errorf("the disk: %d wait, %q, %q", d.Waits(), d.Read(0), d.Read(1))
	}
}

// P4.1: what a log has hangs on the bytes of its area: records at the beginning, and whether there is more.
func TestOpen(t *testing.T) {
	turned := []byte(wafer.Close("turned"))
	turned[3] ^= 1
	tooLong := "\x04\x01" + strings.Repeat("t", api.MaxLoad+1+4)
	many := strings.Repeat(wafer.Close(""), api.MaxArea/6)
	for _, c := range []struct {
		name        string
		safe, waits string
		loads       []string
		size        int
		lasting     int
		torn        bool
	}{
		{"nothing", "", "", nil, 0, 0, false},
		{"a record", wafer.Row("a"), "", []string{"a"}, 7, 1, false},
		{"an empty record", wafer.Row(""), "", []string{""}, 6, 1, false},
		{"a long one", wafer.Row(long), "", []string{long}, 1030, 1, false},
		{"three", wafer.Row("a", "", "xyz"), "", []string{"a", "", "xyz"}, 22, 3, false},
		{"three, one of them safe", wafer.Row("a"), wafer.Row("", "xyz"), []string{"a", "", "xyz"}, 22, 1, false},
		{"three, none safe", "", wafer.Row("a", "", "xyz"), []string{"a", "", "xyz"}, 22, 0, false},
		{"one byte behind", wafer.Row("a", "b") + "\x00", "", []string{"a", "b"}, 14, 2, true},
		{"one byte behind, that waits", wafer.Row("a", "b"), "\x00", []string{"a", "b"}, 14, 2, true},
		{"a byte alone", "\x00", "", nil, 0, 0, true},
		{"a byte alone, that waits", "", "x", nil, 0, 0, true},
		{"a part of a record", wafer.Close("part")[:9], "", nil, 0, 0, true},
		{"a record whose rest waits", wafer.Close("part")[:9], wafer.Close("part")[9:], []string{"part"}, 10, 0, false},
		{"a part of the second one", wafer.Row("a") + wafer.Close("part")[:1], "", []string{"a"}, 7, 1, true},
		{"all but a byte of the second one", wafer.Row("a") + wafer.Close("part")[:9], "", []string{"a"}, 7, 1, true},
		{"a turned one between", wafer.Row("a") + string(turned) + wafer.Row("b"), "", []string{"a"}, 7, 1, true},
		{"a byte ahead of all", "\x00" + wafer.Row("a", "b"), "", nil, 0, 0, true},
		{"too long", wafer.Row("a") + tooLong, "", []string{"a"}, 7, 1, true},
		{"as many as go", many, "", make([]string, api.MaxArea/6), api.MaxArea / 6 * 6, api.MaxArea / 6, false},
		{"full, and torn", strings.Repeat("x", api.MaxArea), "", nil, 0, 0, true},
	} {
		for a := range 2 {
			d := with(a, c.safe, c.waits)
			waits := d.Waits()
			want := state{c.loads, c.size, c.lasting, c.torn, a}
			l := open(t, d, a)
			has(t, c.name, l, want)
			has(t, c.name+", again", l, want)
			has(t, c.name+", opened again", open(t, d, a), want)
			has(t, c.name+", the other area", open(t, d, 1-a), state{area: 1 - a})
			if d.Read(a) != c.safe+c.waits || d.Safe(a) != c.safe || d.Waits() != waits || d.Read(1-a) != "" {
				t.Errorf("%s: the disk is another one", c.name)
			}
		}
	}
}

// P4.1: records stand one behind the other, each as one change of the disk itself; Force makes them last.
func TestAppendAndForce(t *testing.T) {
	for a := range 2 {
		d := disk.New()
		l := open(t, d, a)
		var loads []string
		bytes := ""
		for i, load := range []string{"a", "", "xyz", "\x00\xff", "a", long, long[1:]} {
			answers(t, "Append", l.Append(load), api.OK)
			loads = append(loads, load)
			bytes += wafer.Close(load)
			has(t, "appended", l, state{loads, len(bytes), 0, false, a})
			if d.Read(a) != bytes || d.Safe(a) != "" || d.Waits() != i+1 || d.Read(1-a) != "" {
				t.Errorf("behind record %d: %d wait, %.40q", i, d.Waits(), d.Read(a))
			}
		}
		l.Force()
		has(t, "forced", l, state{loads, len(bytes), 7, false, a})
		if d.Read(a) != bytes || d.Safe(a) != bytes || d.Waits() != 0 || d.Safe(1-a) != "" {
			t.Errorf("forced: %d wait, %.40q", d.Waits(), d.Safe(a))
		}
		answers(t, "Append", l.Append("more"), api.OK)
		has(t, "one more", l, state{append(loads, "more"), len(bytes) + 10, 7, false, a})
		l.Force()
		l.Force()
		has(t, "forced again", l, state{append(loads, "more"), len(bytes) + 10, 8, false, a})
		has(t, "opened anew", open(t, d, a), state{append(loads, "more"), len(bytes) + 10, 8, false, a})
	}
}

// P4.1: Append behind records that were there already.
func TestAppendBehind(t *testing.T) {
	l := open(t, with(1, wafer.Row("old"), wafer.Row("new")), 1)
	answers(t, "Append", l.Append("newer"), api.OK)
	has(t, "appended", l, state{[]string{"old", "new", "newer"}, 29, 1, false, 1})
	l.Force()
	has(t, "forced", l, state{[]string{"old", "new", "newer"}, 29, 3, false, 1})
}

// P4.1: a load of more than MaxLoad bytes is refused, torn or not, full or not.
func TestTooLong(t *testing.T) {
	full := strings.Repeat(wafer.Close(long), api.MaxArea/1030)
	for _, bytes := range []string{"", wafer.Row("a"), "torn", full, strings.Repeat("x", api.MaxArea)} {
		d := with(0, bytes, "")
		l := open(t, d, 0)
		before := of(l)
		for _, more := range []int{1, 2, api.MaxLoad, api.MaxArea, 1 << 16} {
			answers(t, "Append", l.Append(long+strings.Repeat("m", more)), api.ErrLong)
			has(t, "refused", l, before)
		}
		if d.Read(0) != bytes || d.Waits() != 0 {
			t.Errorf("refused: %d wait, %.40q", d.Waits(), d.Read(0))
		}
	}
}

// P4.1: a torn log takes no more records, however short, and whether or not there is room, up to Clear.
func TestTorn(t *testing.T) {
	for _, c := range []struct {
		bytes string
		loads []string
	}{
		{"x", nil},
		{wafer.Row("a", "b") + wafer.Close("c")[:6], []string{"a", "b"}},
		{strings.Repeat("x", api.MaxArea), nil},
	} {
		d := with(0, c.bytes, "")
		l := open(t, d, 0)
		want := state{c.loads, 7 * len(c.loads), len(c.loads), true, 0}
		for _, load := range []string{"", "a", long} {
			answers(t, "Append", l.Append(load), api.ErrStale)
			has(t, "refused", l, want)
		}
		l.Force()
		has(t, "forced", l, want)
		answers(t, "Append, forced", l.Append("a"), api.ErrStale)
		if d.Read(0) != c.bytes || d.Waits() != 0 {
			t.Errorf("refused: %d wait, %.40q", d.Waits(), d.Read(0))
		}
		l.Clear()
		has(t, "cleared", l, state{lasting: len(c.loads)})
		if d.Read(0) != "" || d.Safe(0) != c.bytes || d.Waits() != 1 {
			t.Errorf("cleared: %d wait, %.40q", d.Waits(), d.Read(0))
		}
		answers(t, "Append, cleared", l.Append("new"), api.OK)
		has(t, "begun anew", l, state{[]string{"new"}, 9, len(c.loads), false, 0})
		lost := d.Copy()
		lost.Crash(0, 0)
		has(t, "opened anew, the Clear lost", open(t, lost, 0), want)
		l.Force()
		has(t, "begun anew, and forced", l, state{[]string{"new"}, 9, 1, false, 0})
	}
}

// P4.1: Clear of a log that is whole; it waits as any other change, though there is nothing to clear.
func TestClearOfWhole(t *testing.T) {
	d := with(1, wafer.Row("a", "b"), wafer.Row("c"))
	l := open(t, d, 1)
	l.Clear()
	has(t, "cleared", l, state{lasting: 2, area: 1})
	l.Clear()
	has(t, "cleared again", l, state{lasting: 2, area: 1})
	if d.Waits() != 3 {
		t.Errorf("%d wait", d.Waits())
	}
	l.Force()
	has(t, "forced", l, state{area: 1})
	answers(t, "Append", l.Append("d"), api.OK)
	has(t, "begun anew", l, state{[]string{"d"}, 7, 0, false, 1})
}

// P4.1: the disk's error where a record doesn't go in any more; a shorter one may.
func TestFull(t *testing.T) {
	for room := range 20 {
		d := disk.New()
		l := open(t, d, 0)
		var loads []string
		left := api.MaxArea - room
		for left > 0 {
			n := min(left-6, api.MaxLoad)
			if rest := left - 6 - n; 0 < rest && rest < 6 {
				n -= 6
			}
			answers(t, "Append", l.Append(long[:n]), api.OK)
			loads = append(loads, long[:n])
			left -= 6 + n
		}
		before := state{loads, api.MaxArea - room, 0, false, 0}
		has(t, "nearly full", l, before)
		for n := max(room-5, 0); n <= 20; n++ {
			answers(t, "Append of too much", l.Append(long[:n]), api.ErrFull)
		}
		answers(t, "Append of far too much", l.Append(long), api.ErrFull)
		has(t, "refused", l, before)
		if d.Waits() != len(loads) {
			t.Errorf("refused: %d wait", d.Waits())
		}
		if room >= 6 {
			answers(t, "Append of as much as goes", l.Append(long[:room-6]), api.OK)
			has(t, "full", l, state{append(loads, long[:room-6]), api.MaxArea, 0, false, 0})
		}
		answers(t, "Append to the other area", open(t, d, 1).Append(long), api.OK)
		l.Clear()
		answers(t, "Append, cleared", l.Append(long), api.OK)
	}
}

// P4.1: of a nil log there is nothing, and something to go over all the same.
func TestNil(t *testing.T) {
	var l *wal.Log
	for _, load := range []string{"", "a", long, long + "x", strings.Repeat("x", api.MaxArea+1)} {
		answers(t, "Append", l.Append(load), api.ErrNil)
	}
	l.Force()
	l.Clear()
	has(t, "nil", l, state{})
	for load := range l.All() {
		t.Errorf("%q", load)
	}
}

// P4.1, with rule 9: what is gone over may be left at any time, and gone over again.
func TestAllIsLeft(t *testing.T) {
	loads := []string{"a", "", "b", "c"}
	l := open(t, with(0, wafer.Row(loads...)+"x", ""), 0)
	all := l.All()
	for stop := range len(loads) + 1 {
		var got []string
		for load := range all {
			if len(got) == stop {
				break
			}
			got = append(got, load)
		}
		if !slices.Equal(got, loads[:stop]) {
			t.Errorf("%d: %q", stop, got)
		}
	}
	if got := slices.Collect(all); !slices.Equal(got, loads) {
		t.Errorf("again: %q", got)
	}
}

// P4.1: two logs on one disk have an area each; Force syncs the disk, so that all records of both last.
func TestTwoAreas(t *testing.T) {
	d := disk.New()
	l, o := open(t, d, 0), open(t, d, 1)
	l.Append("l")
	o.Append("oo")
	o.Append("o")
	has(t, "l", l, state{[]string{"l"}, 7, 0, false, 0})
	has(t, "o", o, state{[]string{"oo", "o"}, 15, 0, false, 1})
	l.Force()
	has(t, "l, forced", l, state{[]string{"l"}, 7, 1, false, 0})
	has(t, "o, forced", o, state{[]string{"oo", "o"}, 15, 2, false, 1})
	l.Clear()
	has(t, "l, cleared", l, state{lasting: 1})
	has(t, "o, behind it", o, state{[]string{"oo", "o"}, 15, 2, false, 1})
	o.Clear()
	o.Force()
	has(t, "l, forced again", l, state{})
	has(t, "o, forced again", o, state{area: 1})
}

// P4.1: one area's torn end is nothing to the other one.
func TestOneTornArea(t *testing.T) {
	d := with(0, "torn", "")
	l, o := open(t, d, 0), open(t, d, 1)
	answers(t, "the torn one", l.Append("a"), api.ErrStale)
	answers(t, "the other one", o.Append("a"), api.OK)
	o.Clear()
	has(t, "the torn one", l, state{torn: true})
	l.Clear()
	answers(t, "cleared", l.Append("a"), api.OK)
	has(t, "cleared", l, state{loads: []string{"a"}, size: 7})
}

// P4.1, with rule 4: logs on two disks know nothing of one another, though one disk was copied of the other.
func TestTwoDisks(t *testing.T) {
	d := with(0, wafer.Row("s"), "")
	l := open(t, d, 0)
	o := open(t, d.Copy(), 0)
	l.Append("l")
	o.Append("oo")
	o.Force()
	has(t, "l", l, state{[]string{"s", "l"}, 14, 1, false, 0})
	has(t, "o", o, state{[]string{"s", "oo"}, 15, 2, false, 0})
	l.Clear()
	has(t, "l, cleared", l, state{lasting: 1})
	has(t, "o, behind it", o, state{[]string{"s", "oo"}, 15, 2, false, 0})
}
