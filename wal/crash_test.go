package wal_test

import (
	"math"
	"slices"
	"testing"

	"countermand/api"
	"countermand/disk"
	"countermand/wafer"
)

// behind answers what the log of an area has behind a crash, opened anew; the disk itself has none.
func behind(t *testing.T, d *disk.Disk, area, keep, part int) state {
	t.Helper()
	o := d.Copy()
	o.Crash(keep, part)
	return of(open(t, o, area))
}

// P4.2: the chapter's example.
func TestCrashExample(t *testing.T) {
	d := disk.New()
	l := open(t, d, 0)
	l.Append("a")
	l.Append("b")
	d.Crash(1, 0)
	has(t, "example", open(t, d, 0), state{[]string{"a"}, 7, 1, false, 0})
}

// P4.2: wherever the power goes while records are appended, those that were forced are there, and some first ones of
// the others; of the one under way nothing, up to its last byte.
func TestCrashKeepsBeginnings(t *testing.T) {
	loads := []string{"a", "", "\x00\x00", "xyz", "\x00\x01a\x00", wafer.Row("in", "one"), "last"}
	for forced := range len(loads) + 1 {
		d := disk.New()
		l := open(t, d, 1)
		for i, load := range loads {
			if i == forced {
				l.Force()
			}
			answers(t, "Append", l.Append(load), api.OK)
		}
		if forced == len(loads) {
			l.Force()
		}
		for i, load := range loads[forced:] {
			whole := 6 + len(load)
			for part := range whole + 2 {
				n, torn := forced+i, 0 < part && part < whole
				if part >= whole {
					n++
				}
				want := state{loads[:n], len(wafer.Row(loads[:n]...)), n, torn, 1}
				if got := behind(t, d, 1, i, part); !got.equal(want) {
					t.Errorf("forced %d, kept %d and %d bytes: %v, want %v", forced, i, part, got, want)
				}
			}
		}
		all := state{loads, len(wafer.Row(loads...)), len(loads), false, 1}
		if got := behind(t, d, 1, math.MaxInt, 0); !got.equal(all) {
			t.Errorf("forced %d, kept all: %v", forced, got)
		}
	}
}

// P4.2: a long record that is cut at any place is none.
func TestCrashInLongRecord(t *testing.T) {
	d := disk.New()
	l := open(t, d, 0)
	l.Append("a")
	l.Force()
	l.Append(long)
	for part := range api.MaxLoad + 6 {
		if got := behind(t, d, 0, 0, part); !got.equal(state{[]string{"a"}, 7, 1, part > 0, 0}) {
			t.Errorf("%d bytes: %v", part, got)
		}
	}
	if got := behind(t, d, 0, 0, api.MaxLoad+6); !got.equal(state{[]string{"a", long}, 1037, 2, false, 0}) {
		t.Errorf("all bytes: %v", got)
	}
}

// P4.2: a Clear that wasn't forced came through, or not; what was forced ahead of it is there as long as it didn't.
func TestCrashBehindClear(t *testing.T) {
	d := disk.New()
	l := open(t, d, 0)
	l.Append("old")
	l.Append("older")
	l.Force()
	l.Clear()
	l.Append("new")
	l.Append("newer")
	old := []string{"old", "older"}
	for _, c := range []struct {
		name       string
		keep, part int
		want       state
	}{
		{"nothing", 0, 0, state{old, 20, 2, false, 0}},
		{"nothing, and no part of the Clear", 0, 9, state{old, 20, 2, false, 0}},
		{"the Clear", 1, 0, state{}},
		{"the Clear, and a part", 1, 8, state{torn: true}},
		{"the Clear, and a record", 1, 9, state{[]string{"new"}, 9, 1, false, 0}},
		{"the Clear, a record, and a part", 2, 1, state{[]string{"new"}, 9, 1, true, 0}},
		{"all", 3, 0, state{[]string{"new", "newer"}, 20, 2, false, 0}},
	} {
		if got := behind(t, d, 0, c.keep, c.part); !got.equal(c.want) {
			t.Errorf("%s: %v, want %v", c.name, got, c.want)
		}
	}
}

// P4.2: crash behind crash: each time the log is opened anew, cleared if it is torn, and gone on with.
func TestCrashBehindCrash(t *testing.T) {
	d := disk.New()
	var forced []string
	for round := range 40 {
		l := open(t, d, 0)
		if got := slices.Collect(l.All()); !slices.Equal(got, forced) {
			t.Fatalf("round %d: %q, want %q", round, got, forced)
		}
		if l.Torn() != (round > 0) {
			t.Fatalf("round %d: torn %t", round, l.Torn())
		}
		if round > 0 {
			answers(t, "Append to a torn one", l.Append("x"), api.ErrStale)
			loads := slices.Collect(l.All())
			l.Clear()
			for _, load := range loads {
				answers(t, "Append of an old one", l.Append(load), api.OK)
			}
		}
		load := long[:round]
		answers(t, "Append", l.Append(load), api.OK)
		l.Force()
		forced = append(forced, load)
		answers(t, "Append of one that is lost", l.Append("lost"), api.OK)
		d.Crash(0, 1+round%9)
	}
}
