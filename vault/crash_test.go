package vault_test

import (
	"fmt"
	"slices"
	"testing"

	"countermand/api"
	"countermand/disk"
	"countermand/vault"
	"countermand/wafer"
)

// begun answers a disk, and a vault of it, with an image "old", of the third epoch, a load "a" that was forced, and loads "b" and "" that weren't.
func begun(t *testing.T) (*disk.Disk, *vault.Vault) {
	t.Helper()
	d := with(wafer.Row("\x00\x01i"), wafer.Row("\x00\x02j", "\x01k"))
	v, _ := open(t, d)
	answers(t, "Settle", v.Settle("old"), api.OK)
	answers(t, "Append", v.Append("a"), api.OK)
	v.Force()
	answers(t, "Append", v.Append("b"), api.OK)
	answers(t, "Append", v.Append(""), api.OK)
	return d, v
}

// P5.2: while loads are appended: those that were forced are there, and some first ones of the others; of the one under way nothing, up to its last byte.
func TestCrashWhileLoadsCome(t *testing.T) {
	loads := []string{"a", "", "\x00\x09x", "\x01", wafer.Row("\x00\x09x"), long(1023), "last"}
	for forced := range len(loads) + 1 {
		d := disk.New()
		v, _ := open(t, d)
		v.Settle("i")
		for i, load := range loads {
			if i == forced {
				v.Force()
			}
			answers(t, "Append", v.Append(load), api.OK)
		}
		if forced == len(loads) {
			v.Force()
		}
		size := 9
		for i := range len(loads) + 1 {
			if i >= forced {
				crashAtEachByte(t, d, i-forced, loads[:i], loads[i:], size)
			}
			if i < len(loads) {
				size += 7 + len(loads[i])
			}
		}
	}
}

// crashAtEachByte lets the power go behind so many changes, and each of the bytes of the next one; behind are the loads that came through, and the size.
func crashAtEachByte(t *testing.T, d *disk.Disk, keep int, came, others []string, size int) {
	t.Helper()
	whole := 0
	if len(others) > 0 {
		whole = 7 + len(others[0])
	}
	for part := range whole + 1 {
		want := state{"i", came, 1, size}
		if part == whole && len(others) > 0 {
			want = state{"i", append(slices.Clone(came), others[0]), 1, size + whole}
		}
		o := d.Copy()
		o.Crash(keep, part)
		has(t, fmt.Sprintf("%d changes and %d bytes", keep, part), o, want)
	}
}

// P5.1 and P5.2: what each step of Settle does to the disk: at no moment the old image goes ahead of the new one's being forced.
func TestSteps(t *testing.T) {
	d, v := begun(t)
	forced := wafer.Row("\x00\x03old", "\x01a")
	old := forced + wafer.Row("\x01b", "\x01")
	young := wafer.Row("\x00\x04new")
	// Where the first area is the old one the other area had nothing, so that its Clear is seen by what waits alone.
	shaped(t, "ahead of all", d, shape{[2]string{old, ""}, [2]string{forced, ""}, 2})
	wants := []shape{
		{[2]string{old, ""}, [2]string{forced, ""}, 3},
		{[2]string{old, ""}, [2]string{old, ""}, 0},
		{[2]string{old, young}, [2]string{old, ""}, 1},
		{[2]string{old, young}, [2]string{old, young}, 0},
		{[2]string{"", young}, [2]string{old, young}, 1},
		{[2]string{"", young}, [2]string{"", young}, 0},
	}
	settled := d.Copy()
	steps := v.Steps("new")
	if len(steps) != len(wants) {
		t.Fatalf("%d steps", len(steps))
	}
	for i, step := range steps {
		step()
		shaped(t, fmt.Sprintf("step %d", i), d, wants[i])
	}
	w, _ := open(t, settled)
	answers(t, "Settle", w.Settle("new"), api.OK)
	shaped(t, "settled", settled, shapeOf(d))
}

// P5.1: whatever the other area has, a step clears it, and the clearing is forced, ahead of the image.
func TestStepsOverSomething(t *testing.T) {
	for second := range nothings() {
		first := wafer.Row("\x00\x03old", "\x01a")
		d := with(first, second)
		v, _ := open(t, d)
		steps := v.Steps("new")
		steps[0]()
		shaped(t, "cleared", d, shape{[2]string{first, ""}, [2]string{first, second}, 1})
		steps[1]()
		shaped(t, "cleared, and forced", d, still(first, ""))
		steps[2]()
		shaped(t, "appended", d, shape{[2]string{first, wafer.Row("\x00\x04new")}, [2]string{first, ""}, 1})
	}
}

// P5.2: wherever the power goes within Settle: the old image, with all that was forced, and some first ones of the others; or the new one.
func TestCrashWithinSettle(t *testing.T) {
	olds := []state{
		{"old", []string{"a"}, 3, 11 + 8},
		{"old", []string{"a", "b"}, 3, 11 + 16},
		{"old", []string{"a", "b", ""}, 3, 11 + 23},
	}
	young := state{"new", nil, 4, 11}
	for done := range 7 {
		for keep := range 5 {
			for part := range 14 {
				d, v := begun(t)
				for _, step := range v.Steps("new")[:done] {
					step()
				}
				d.Crash(keep, part)
				want := young
				switch {
				case done < 2:
					n := min(keep, 2)
					if n == 0 && part >= 8 || n == 1 && part >= 7 {
						n++
					}
					want = olds[n]
				case done == 2 || done == 3 && keep == 0 && part < 11:
					want = olds[2]
				}
				name := fmt.Sprintf("%d steps, %d changes, %d bytes", done, keep, part)
				has(t, name, d, want)
				goesOn(t, name, d, want)
			}
		}
	}
}

// goesOn tells a fault if a vault opened behind a crash doesn't outlive more of them: one within its Settle, one behind it.
func goesOn(t *testing.T, name string, d *disk.Disk, old state) {
	t.Helper()
	for done := range 7 {
		for part := range 13 {
			o := d.Copy()
			v, _ := open(t, o)
			for _, step := range v.Steps("next")[:done] {
				step()
			}
			o.Crash(0, part)
			want := old
			if done > 3 || done == 3 && part == 12 {
				want = state{"next", nil, old.epoch + 1, 12}
			}
			has(t, fmt.Sprintf("%s, again %d steps, %d bytes", name, done, part), o, want)
		}
	}
	o := d.Copy()
	v, _ := open(t, o)
	answers(t, "Append ahead of Settle", v.Append("x"), api.ErrStale)
	answers(t, "Settle", v.Settle("next"), api.OK)
	answers(t, "Append", v.Append("x"), api.OK)
	v.Force()
	answers(t, "Append", v.Append("lost"), api.OK)
	o.Crash(0, 10)
	has(t, name+", gone on", o, state{"next", []string{"x"}, old.epoch + 1, 12 + 8})
}

// P5.2: within the first Settle of a new disk: nothing, or the image.
func TestCrashWithinFirstSettle(t *testing.T) {
	for done := range 7 {
		for part := range 12 {
			d := disk.New()
			v, _ := open(t, d)
			for _, step := range v.Steps("one")[:done] {
				step()
			}
			d.Crash(0, part)
			want := state{}
			if done > 3 || done == 3 && part == 11 {
				want = state{"one", nil, 1, 11}
			}
			has(t, fmt.Sprintf("%d steps, %d bytes", done, part), d, want)
		}
	}
}

// P5.2: a long image that is cut at any place is none.
func TestCrashInLongImage(t *testing.T) {
	d, v := begun(t)
	for _, step := range v.Steps(long(1022))[:3] {
		step()
	}
	for part := range 1031 {
		o := d.Copy()
		o.Crash(0, part)
		want := state{"old", []string{"a", "b", ""}, 3, 34}
		if part == 1030 {
			want = state{long(1022), nil, 4, 1030}
		}
		has(t, fmt.Sprintf("%d bytes", part), o, want)
	}
}

// P5.2: all that Settle did lasts, and loads ahead of it don't come again.
func TestCrashBehindSettle(t *testing.T) {
	d, v := begun(t)
	answers(t, "Settle", v.Settle("new"), api.OK)
	for range 3 {
		d.Crash(0, 0)
		has(t, "settled", d, state{"new", nil, 4, 11})
	}
}
