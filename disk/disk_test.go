package disk_test

import (
	"fmt"
	"math"
	"strings"
	"testing"

	"countermand/api"
	"countermand/disk"
)

// state is all that can be asked of a disk.
type state struct {
	read, safe [2]string
	waits      int
}

// String tells a state in a line that isn't too long.
func (s state) String() string {
	return fmt.Sprintf("has %.40q, safe %.40q, %d wait", s.read, s.safe, s.waits)
}

// of answers what a disk has.
func of(d *disk.Disk) state {
	return state{[2]string{d.Read(0), d.Read(1)}, [2]string{d.Safe(0), d.Safe(1)}, d.Waits()}
}

// has tells a fault if a disk has other things than these.
func has(t *testing.T, name string, d *disk.Disk, want state) {
	t.Helper()
	if got := of(d); got != want {
		t.Errorf("%s: %v, want %v", name, got, want)
	}
}

// answers tells a fault if a call answered another error.
func answers(t *testing.T, name string, got, want api.Errno) {
	t.Helper()
	if got != want {
		t.Errorf("%s: %d, want %d", name, got, want)
	}
}

// noAreas are numbers of which there is no area.
var noAreas = []int{-1, 2, 3, 1 << 8, 1 << 32, 1<<32 + 1, -1 << 32, math.MaxInt, math.MinInt, math.MinInt + 1}

// P3.1: a new disk is empty.
func TestNew(t *testing.T) {
	d := disk.New()
	if d == nil {
		t.Fatal("nil")
	}
	has(t, "new", d, state{})
	has(t, "another one", disk.New(), state{})
	d.Sync()
	has(t, "synced", d, state{})
	d.Crash(1, 1)
	has(t, "behind a crash", d, state{})
}

// P3.1: each area has its bytes, one behind the other; nothing of it is safe up to Sync.
func TestAppendAndSync(t *testing.T) {
	d := disk.New()
	answers(t, "Append", d.Append(0, "ab"), api.OK)
	has(t, "one", d, state{read: [2]string{"ab", ""}, waits: 1})
	answers(t, "Append", d.Append(1, "\x00\xff"), api.OK)
	has(t, "two", d, state{read: [2]string{"ab", "\x00\xff"}, waits: 2})
	answers(t, "Append", d.Append(0, "c"), api.OK)
	has(t, "three", d, state{read: [2]string{"abc", "\x00\xff"}, waits: 3})
	d.Sync()
	abc := [2]string{"abc", "\x00\xff"}
	has(t, "synced", d, state{abc, abc, 0})
	d.Sync()
	has(t, "synced again", d, state{abc, abc, 0})
	answers(t, "Append", d.Append(1, "z"), api.OK)
	has(t, "one more", d, state{[2]string{"abc", "\x00\xffz"}, abc, 1})
}

// P3.1: a change that changes nothing waits too.
func TestIdleChangesWait(t *testing.T) {
	d := disk.New()
	answers(t, "Append", d.Append(0, ""), api.OK)
	has(t, "an empty Append", d, state{waits: 1})
	answers(t, "Reset", d.Reset(1), api.OK)
	has(t, "a Reset of nothing", d, state{waits: 2})
	answers(t, "Append", d.Append(1, "p"), api.OK)
	has(t, "an Append", d, state{read: [2]string{"", "p"}, waits: 3})
	d.Crash(2, 1)
	p := [2]string{"", "p"}
	has(t, "behind a crash", d, state{p, p, 0})
}

// P3.1: Reset empties one area; it isn't safe up to Sync.
func TestReset(t *testing.T) {
	d := disk.New()
	d.Append(0, "left")
	d.Append(1, "right")
	d.Sync()
	both := [2]string{"left", "right"}
	answers(t, "Reset", d.Reset(0), api.OK)
	has(t, "reset", d, state{[2]string{"", "right"}, both, 1})
	d.Append(0, "new")
	has(t, "written anew", d, state{[2]string{"new", "right"}, both, 2})
	answers(t, "Reset", d.Reset(1), api.OK)
	has(t, "the other one", d, state{[2]string{"new", ""}, both, 3})
	d.Sync()
	has(t, "synced", d, state{[2]string{"new", ""}, [2]string{"new", ""}, 0})
}

// P3.1: an area has at most MaxArea bytes; what would be more is refused whole.
func TestFull(t *testing.T) {
	most := strings.Repeat("m", api.MaxArea)
	for a := range 2 {
		for _, first := range []int{0, 1, 2, api.MaxArea / 2, api.MaxArea - 1, api.MaxArea} {
			d := disk.New()
			answers(t, "some", d.Append(a, most[:first]), api.OK)
			before := of(d)
			answers(t, "one too many", d.Append(a, most[first:]+"x"), api.ErrFull)
			answers(t, "far too many", d.Append(a, most+most+"x"), api.ErrFull)
			has(t, "refused", d, before)
			answers(t, "all that go", d.Append(a, most[first:]), api.OK)
			answers(t, "nothing more", d.Append(a, ""), api.OK)
			answers(t, "one more", d.Append(a, "x"), api.ErrFull)
			answers(t, "the other one", d.Append(1-a, most), api.OK)
			has(t, "full", d, state{read: [2]string{most, most}, waits: 4})
			d.Sync()
			has(t, "full and safe", d, state{[2]string{most, most}, [2]string{most, most}, 0})
			answers(t, "one more, behind Sync", d.Append(a, "x"), api.ErrFull)
		}
	}
}

// P3.1: whether there is room hangs on what the area has now, not on what is safe.
func TestRoomBehindReset(t *testing.T) {
	most, other := strings.Repeat("m", api.MaxArea), strings.Repeat("o", api.MaxArea)
	d := disk.New()
	d.Append(0, most)
	d.Sync()
	d.Reset(0)
	answers(t, "as many", d.Append(0, other), api.OK)
	answers(t, "one more", d.Append(0, "x"), api.ErrFull)
	has(t, "written anew", d, state{[2]string{other, ""}, [2]string{most, ""}, 2})

	lost := d.Copy()
	lost.Crash(0, 0)
	has(t, "the Reset is lost", lost, state{[2]string{most, ""}, [2]string{most, ""}, 0})
	answers(t, "full again", lost.Append(0, "x"), api.ErrFull)

	d.Crash(1, 5)
	has(t, "the Reset came through", d, state{[2]string{other[:5], ""}, [2]string{other[:5], ""}, 0})
	answers(t, "room again", d.Append(0, other[5:]), api.OK)
	answers(t, "one more", d.Append(0, "x"), api.ErrFull)
}

// P3.1: of no such area there is nothing, and nothing is done to it.
func TestNoSuchArea(t *testing.T) {
	d := disk.New()
	d.Append(0, "a")
	d.Append(1, "b")
	d.Sync()
	d.Append(0, "c")
	before := of(d)
	for _, a := range noAreas {
		answers(t, "Append", d.Append(a, "x"), api.ErrArg)
		answers(t, "an empty Append", d.Append(a, ""), api.ErrArg)
		answers(t, "Append of too much", d.Append(a, strings.Repeat("x", api.MaxArea+1)), api.ErrArg)
		answers(t, "Reset", d.Reset(a), api.ErrArg)
		if d.Read(a) != "" || d.Safe(a) != "" {
			t.Errorf("area %d: %q, %q", a, d.Read(a), d.Safe(a))
		}
		has(t, "refused", d, before)
	}
}

// P3.1: of a nil disk there is nothing.
func TestNil(t *testing.T) {
	var d *disk.Disk
	d.Sync()
	d.Crash(0, 0)
	d.Crash(1, 1)
	if d.Copy() != nil {
		t.Error("a copy of nil")
	}
	has(t, "nil", d, state{})
	for _, a := range append([]int{0, 1}, noAreas...) {
		answers(t, "Append", d.Append(a, "x"), api.ErrNil)
		answers(t, "Append of too much", d.Append(a, strings.Repeat("x", api.MaxArea+1)), api.ErrNil)
		answers(t, "Reset", d.Reset(a), api.ErrNil)
		if d.Read(a) != "" || d.Safe(a) != "" {
			t.Errorf("area %d", a)
		}
	}
}

// P3.1: a copy has all the same, what waits too, and goes its own way from there.
func TestCopy(t *testing.T) {
	d := disk.New()
	d.Append(0, "s")
	d.Sync()
	// Odd and even numbers of changes, so that some lists have spare room.
	for n := range 10 {
		before := of(d)
		a, b := d.Copy(), d.Copy()
		has(t, "a copy", a, before)
		a.Append(0, "from a")
		b.Reset(0)
		d.Append(1, "d")
		a.Append(1, "twice")
		read := before.read
		has(t, "a", a, state{[2]string{read[0] + "from a", read[1] + "twice"}, before.safe, before.waits + 2})
		has(t, "b", b, state{[2]string{"", read[1]}, before.safe, before.waits + 1})
		here := state{[2]string{read[0], read[1] + "d"}, before.safe, before.waits + 1}
		has(t, "d", d, here)
		// What waits shows only where it is done.
		gone := [2]string{read[0] + "from a", read[1] + "tw"}
		a.Crash(n+1, 2)
		has(t, "a, behind its crash", a, state{gone, gone, 0})
		b.Sync()
		has(t, "b, synced", b, state{[2]string{"", read[1]}, [2]string{"", read[1]}, 0})
		has(t, "d, behind all", d, here)
		kept := d.Copy()
		kept.Crash(n, 1)
		has(t, "d's changes", kept, state{here.read, here.read, 0})
	}
}

// P3.1, with rule 4: two disks know nothing of one another.
func TestTwoDisks(t *testing.T) {
	d, o := disk.New(), disk.New()
	d.Append(0, "d")
	o.Append(0, "o")
	d.Sync()
	has(t, "d", d, state{[2]string{"d", ""}, [2]string{"d", ""}, 0})
	has(t, "o", o, state{read: [2]string{"o", ""}, waits: 1})
	o.Crash(0, 0)
	has(t, "o, behind its crash", o, state{})
	has(t, "d, behind the other's crash", d, state{[2]string{"d", ""}, [2]string{"d", ""}, 0})
}
