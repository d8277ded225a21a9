package disk_test

import (
	"math"
	"testing"

	"countermand/disk"
)

// same answers the state of a disk with nothing that waits.
func same(a, b string) state {
	return state{[2]string{a, b}, [2]string{a, b}, 0}
}

// P3.1: how many changes come through, and how much of the next one.
func TestCrash(t *testing.T) {
	d := disk.New()
	d.Append(0, "one")
	d.Append(1, "two")
	d.Sync()
	d.Append(0, "345")
	d.Reset(1)
	d.Append(1, "67")
	d.Reset(0)
	d.Append(1, "8")
	d.Append(0, "")
	d.Append(0, "9")
	before := of(d)
	for _, c := range []struct {
		name       string
		keep, part int
		want       state
	}{
		{"nothing", 0, 0, same("one", "two")},
		{"a byte", 0, 1, same("one3", "two")},
		{"two bytes", 0, 2, same("one34", "two")},
		{"all bytes of the next one", 0, 3, same("one345", "two")},
		{"more bytes than there are", 0, 4, same("one345", "two")},
		{"far more bytes than there are", 0, math.MaxInt, same("one345", "two")},
		{"fewer bytes than none", 0, -1, same("one", "two")},
		{"far fewer bytes than none", 0, math.MinInt, same("one", "two")},
		{"keep below 0", -1, 0, same("one", "two")},
		{"keep below 0, and a byte", -1, 1, same("one3", "two")},
		{"keep far below 0, and two bytes", math.MinInt, 2, same("one34", "two")},
		{"one", 1, 0, same("one345", "two")},
		{"one, and no part of a Reset", 1, 1, same("one345", "two")},
		{"one, and no part of a Reset, however much", 1, math.MaxInt, same("one345", "two")},
		{"the Reset", 2, 0, same("one345", "")},
		{"the Reset, and a byte", 2, 1, same("one345", "6")},
		{"the Reset, and fewer than none", 2, -5, same("one345", "")},
		{"three", 3, 1, same("one345", "67")},
		{"four", 4, 0, same("", "67")},
		{"four, and a byte", 4, 1, same("", "678")},
		{"five, and all of nothing", 5, 7, same("", "678")},
		{"six", 6, 0, same("", "678")},
		{"six, and a byte", 6, 1, same("9", "678")},
		{"all", 7, 0, same("9", "678")},
		{"all, and a part of none", 7, 5, same("9", "678")},
		{"more than there are", 8, 1, same("9", "678")},
		{"far more than there are", math.MaxInt, math.MaxInt, same("9", "678")},
		{"far more than there are, without a part", math.MaxInt, math.MinInt, same("9", "678")},
	} {
		o := d.Copy()
		o.Crash(c.keep, c.part)
		has(t, c.name, o, c.want)
		o.Crash(9, 9)
		has(t, c.name+", and again", o, c.want)
		o.Append(0, "on")
		has(t, c.name+", and on", o, state{[2]string{c.want.read[0] + "on", c.want.read[1]}, c.want.safe, 1})
	}
	has(t, "the one that was copied", d, before)
}

// P3.1: the chapter's example.
func TestCrashExample(t *testing.T) {
	d := disk.New()
	d.Append(0, "abc")
	d.Crash(0, 2)
	has(t, "example", d, same("ab", ""))
}

// P3.2: what is safe stays so, whatever waits or is refused, and however often the power goes with nothing kept.
func TestSyncedIsSafe(t *testing.T) {
	d := disk.New()
	d.Append(0, "safe")
	d.Append(1, "sound")
	d.Sync()
	want := [2]string{"safe", "sound"}
	for i := range 200 {
		switch i % 7 {
		case 0:
			d.Reset(0)
		case 1:
			d.Append(0, "other")
		case 2:
			d.Reset(1)
		case 3:
			d.Append(1, string(make([]byte, 1<<15)))
		case 4:
			d.Append(2, "x")
		case 5:
			d.Append(1, "y")
		case 6:
			d.Copy().Sync()
		}
		if got := of(d).safe; got != want {
			t.Fatalf("behind step %d: %q", i, got)
		}
		if i%23 == 22 {
			d.Crash(0, 0)
			has(t, "behind a crash", d, same("safe", "sound"))
		}
	}
}

// first answers what areas have behind some first ones of changes (a letter for a byte that is appended: small ones
// to area 0, great ones to area 1; '0' and '1' for a Reset), written out byte by byte.
func first(changes string) state {
	var s [2]string
	for _, c := range changes {
		switch {
		case c == '0' || c == '1':
			s[c-'0'] = ""
		case c >= 'a':
			s[0] += string(c)
		default:
			s[1] += string(c)
		}
	}
	return same(s[0], s[1])
}

// P3.2: a crash leaves what some first ones of the changes come to, the one that was under way in part, if it was an
// Append; and each such beginning can be left.
func TestCrashLeavesBeginnings(t *testing.T) {
	groups := []string{"ab", "XYZ", "0", "c", "1", "W", "", "defg", "0", "0", "hi", "1"}
	for synced := range len(groups) + 1 {
		all := ""
		d := disk.New()
		for i, g := range groups {
			if i == synced {
				d.Sync()
			}
			change(d, g)
			all += g
		}
		if synced == len(groups) {
			d.Sync()
		}
		ahead := 0
		for i, g := range groups {
			if i >= synced {
				for part := range len(g) + 1 {
					o := d.Copy()
					o.Crash(i-synced, part)
					end := ahead + part
					if g == "0" || g == "1" {
						end = ahead
					}
					has(t, g, o, first(all[:end]))
				}
			}
			ahead += len(g)
		}
		d.Crash(len(groups)-synced, 0)
		has(t, "all", d, first(all))
	}
}

// change does a group of the letters of first to a disk, as one change.
func change(d *disk.Disk, group string) {
	switch {
	case group == "0":
		d.Reset(0)
	case group == "1":
		d.Reset(1)
	case group == "" || group[0] >= 'a':
		d.Append(0, group)
	default:
		d.Append(1, group)
	}
}
