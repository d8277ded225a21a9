package disk_test

import (
	"slices"
	"strings"
	"testing"

	"countermand/api"
	"countermand/disk"
)

// model is a disk told another way: what is safe, and the changes that wait; what areas have is worked out anew each
// time it is asked for.
type model struct {
	safe  [2]string
	waits []wait
}

// wait is a change that waits.
type wait struct {
	area  int
	bytes string
	reset bool
}

// behind answers what areas have behind changes.
func behind(s [2]string, waits []wait) [2]string {
	for _, w := range waits {
		if w.reset {
			s[w.area] = ""
		} else {
			s[w.area] = s[w.area] + w.bytes
		}
	}
	return s
}

// state answers what can be asked of a disk like the model.
func (m model) state() state {
	return state{behind(m.safe, m.waits), m.safe, len(m.waits)}
}

// with answers a model that has one more change.
func (m model) with(w wait) model {
	return model{m.safe, append(slices.Clone(m.waits), w)}
}

// crash answers the model behind a crash.
func (m model) crash(keep, part int) model {
	done := []wait{}
	for i, w := range m.waits {
		if i < keep {
			done = append(done, w)
		} else if i == keep || keep < 0 && i == 0 {
			if !w.reset {
				n := 0
				for n < part && n < len(w.bytes) {
					n++
				}
				done = append(done, wait{w.area, w.bytes[:n], false})
			}
			break
		}
	}
	return model{behind(m.safe, done), nil}
}

// call is one call, of a disk and of the model.
type call struct {
	name string
	disk func(*disk.Disk) api.Errno
	mod  func(model) (model, api.Errno)
}

// appends answers the call of Append.
func appends(name string, a int, s string) call {
	return call{name, func(d *disk.Disk) api.Errno { return d.Append(a, s) }, func(m model) (model, api.Errno) {
		if a != 0 && a != 1 {
			return m, api.ErrArg
		}
		if len(m.state().read[a])+len(s) > api.MaxArea {
			return m, api.ErrFull
		}
		return m.with(wait{a, s, false}), api.OK
	}}
}

// resets answers the call of Reset.
func resets(name string, a int) call {
	return call{name, func(d *disk.Disk) api.Errno { return d.Reset(a) }, func(m model) (model, api.Errno) {
		if a != 0 && a != 1 {
			return m, api.ErrArg
		}
		return m.with(wait{a, "", true}), api.OK
	}}
}

// crashes answers the call of Crash.
func crashes(name string, keep, part int) call {
	return call{name, func(d *disk.Disk) api.Errno { d.Crash(keep, part); return api.OK }, func(m model) (model, api.Errno) {
		return m.crash(keep, part), api.OK
	}}
}

// calls answers those of which all orders are tried.
func calls() []call {
	great := strings.Repeat("g", api.MaxArea-2)
	return []call{
		appends("Append(0, abc)", 0, "abc"),
		appends("Append(1, d)", 1, "d"),
		appends("Append(1, all but two bytes)", 1, great),
		appends("Append(0, nothing)", 0, ""),
		appends("Append(2, e)", 2, "e"),
		resets("Reset(0)", 0),
		resets("Reset(1)", 1),
		resets("Reset(-1)", -1),
		{"Sync", func(d *disk.Disk) api.Errno { d.Sync(); return api.OK }, func(m model) (model, api.Errno) {
			return model{m.state().read, nil}, api.OK
		}},
		crashes("Crash(0, 2)", 0, 2),
		crashes("Crash(1, 1)", 1, 1),
		crashes("Crash(2, -1)", 2, -1),
		crashes("Crash(-3, 9)", -3, 9),
		crashes("Crash(9, 0)", 9, 0),
	}
}

// tryAll does every row of so many calls to copies of a disk, and holds each against the model.
func tryAll(t *testing.T, all []call, d *disk.Disk, m model, rows int, names []string) {
	want := m.state()
	if got := of(d); got != want {
		t.Fatalf("%q: %v, want %v", names, got, want)
	}
	if rows == 0 {
		return
	}
	for _, c := range all {
		o := d.Copy()
		row := append(slices.Clone(names), c.name)
		got := c.disk(o)
		next, errno := c.mod(m)
		if got != errno {
			t.Fatalf("%q: %d, want %d", row, got, errno)
		}
		tryAll(t, all, o, next, rows-1, row)
	}
	if got := of(d); got != want {
		t.Fatalf("%q, behind what its copies did: %v", names, got)
	}
}

// P3.1 and P3.2: the calls in every order, up to four of them, each row held against the model behind every call.
func TestEveryOrder(t *testing.T) {
	tryAll(t, calls(), disk.New(), model{}, 4, nil)
}

// P3.1 and P3.2: the same without copies: long rows of calls to one disk.
func TestLongRows(t *testing.T) {
	all := calls()
	pick := uint32(7)
	for range 300 {
		d, m := disk.New(), model{}
		var names []string
		for range 60 {
			pick = pick*1664525 + 1013904223
			c := all[int(pick>>16)%len(all)]
			names = append(names, c.name)
			got := c.disk(d)
			var want api.Errno
			if m, want = c.mod(m); got != want || of(d) != m.state() {
				t.Fatalf("%q: %d and %v, want %d and %v", names, got, of(d), want, m.state())
			}
		}
	}
}

// P3.1: very many changes may wait.
func TestManyChanges(t *testing.T) {
	const many = 1 << 16
	d := disk.New()
	for i := range many {
		if i%4 == 0 {
			d.Reset(i / 4 % 2)
		} else {
			d.Append(i/4%2, string(rune('a'+i%26)))
		}
	}
	if d.Waits() != many {
		t.Fatalf("%d wait", d.Waits())
	}
	o := d.Copy()
	o.Crash(many-2, 0)
	last, before := d.Read(1), d.Read(0)
	if len(last) != 3 || len(before) != 3 {
		t.Fatalf("%q, %q", before, last)
	}
	has(t, "all but two", o, same(before, last[:1]))
	d.Sync()
	has(t, "synced", d, same(before, last))
}
