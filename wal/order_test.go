package wal_test

import (
	"slices"
	"testing"

	"countermand/api"
	"countermand/disk"
	"countermand/wafer"
	"countermand/wal"
)

// records is what an area has, told as loads instead of bytes.
type records struct {
	loads []string
	torn  bool
}

// wait is a change that waits: a record, or a Clear.
type wait struct {
	load  string
	clear bool
}

// model is a log told another way: what is safe, and the changes that wait.
type model struct {
	safe  records
	waits []wait
}

// behind answers what an area has behind changes.
func (r records) behind(waits []wait) records {
	for _, w := range waits {
		if w.clear {
			r = records{}
		} else {
			r.loads = append(slices.Clone(r.loads), w.load)
		}
	}
	return r
}

// size answers how many bytes records have: six more than their loads, each.
func (r records) size() int {
	n := 0
	for _, load := range r.loads {
		n += len(load) + 6
	}
	return n
}

// now answers what the area has.
func (m model) now() records { return m.safe.behind(m.waits) }

// state answers what can be asked of a log like the model.
func (m model) state(area int) state {
	r := m.now()
	return state{r.loads, r.size(), len(m.safe.loads), r.torn, area}
}

// appended answers the model behind Append.
func (m model) appended(load string) (model, api.Errno) {
	r := m.now()
	switch {
	case len(load) > 1024:
		return m, api.ErrLong
	case r.torn:
		return m, api.ErrStale
	case r.size()+len(load)+6 > 16384:
		return m, api.ErrFull
	}
	return model{m.safe, append(slices.Clone(m.waits), wait{load, false})}, api.OK
}

// crashed answers the model behind a crash.
func (m model) crashed(keep, part int) model {
	keep = min(keep, len(m.waits))
	r := m.safe.behind(m.waits[:keep])
	if keep < len(m.waits) && !m.waits[keep].clear && part > 0 {
		if part >= len(m.waits[keep].load)+6 {
			r = r.behind(m.waits[keep : keep+1])
		} else {
			r.torn = true
		}
	}
	return model{r, nil}
}

// player is a log on a disk, and the model of it.
type player struct {
	disk *disk.Disk
	area int
	log  *wal.Log
	mod  model
}

// newPlayer answers one whose area begins with a record that is safe, and one that waits; it is opened.
func newPlayer(t *testing.T, area int) *player {
	d := with(area, wafer.Row("s"), wafer.Row("w"))
	return &player{d, area, open(t, d, area), model{records{[]string{"s"}, false}, []wait{{"w", false}}}}
}

// call is one call, of a log and of the model; it tells whether both answered the same.
type call struct {
	name string
	do   func(t *testing.T, p *player) bool
}

// appends answers the call of Append.
func appends(name, load string) call {
	return call{name, func(t *testing.T, p *player) bool {
		next, want := p.mod.appended(load)
		p.mod = next
		return p.log.Append(load) == want
	}}
}

// crashes answers a crash, behind which the log is opened anew.
func crashes(name string, keep, part int) call {
	return call{name, func(t *testing.T, p *player) bool {
		p.mod = p.mod.crashed(keep, part)
		p.disk.Crash(keep, part)
		p.log = open(t, p.disk, p.area)
		return true
	}}
}

// calls answers those of which all orders are tried.
func calls() []call {
	return []call{
		appends("Append(abc)", "abc"),
		appends("Append()", ""),
		appends("Append(too long)", long+"x"),
		{"Force", func(t *testing.T, p *player) bool {
			p.log.Force()
			p.mod = model{p.mod.now(), nil}
			return true
		}},
		{"Clear", func(t *testing.T, p *player) bool {
			p.log.Clear()
			p.mod = model{p.mod.safe, append(slices.Clone(p.mod.waits), wait{"", true})}
			return true
		}},
		{"Open", func(t *testing.T, p *player) bool {
			p.log = open(t, p.disk, p.area)
			return true
		}},
		crashes("Crash(0, 0)", 0, 0),
		crashes("Crash(0, 3)", 0, 3),
		crashes("Crash(1, 7)", 1, 7),
		crashes("Crash(9, 0)", 9, 0),
	}
}

// same tells a fault if the log, or one opened anew on a copy of the disk, is otherwise than the model.
func (p *player) same(t *testing.T, names []string) {
	t.Helper()
	want := p.mod.state(p.area)
	if got := of(p.log); !got.equal(want) {
		t.Fatalf("%q: %v, want %v", names, got, want)
	}
	if got := of(open(t, p.disk.Copy(), p.area)); !got.equal(want) {
		t.Fatalf("%q, opened anew: %v, want %v", names, got, want)
	}
	if p.disk.Waits() != len(p.mod.waits) {
		t.Fatalf("%q: %d wait, want %d", names, p.disk.Waits(), len(p.mod.waits))
	}
	// A torn area has more bytes than its records, any other one those alone.
	if now := p.disk.Read(p.area); (now == wafer.Row(want.loads...)) == want.torn {
		t.Fatalf("%q: %.40q", names, now)
	}
	if p.disk.Read(1-p.area) != "" {
		t.Fatalf("%q: something in the other area", names)
	}
}

// play does one call.
func (p *player) play(t *testing.T, c call, names []string) {
	t.Helper()
	if !c.do(t, p) {
		t.Fatalf("%q: another answer", names)
	}
	p.same(t, names)
}

// P4.1 and P4.2: the calls in every order, four of them, each row held against the model behind every call.
func TestEveryOrder(t *testing.T) {
	all := calls()
	const rows = 4
	for area := range 2 {
		for row := range 10 * 10 * 10 * 10 {
			p := newPlayer(t, area)
			var names []string
			for i := range rows {
				at := row
				for range i {
					at /= len(all)
				}
				c := all[at%len(all)]
				names = append(names, c.name)
				p.play(t, c, names)
			}
		}
	}
}

// P4.1 and P4.2: long rows of calls, with records so long that areas get full.
func TestLongRows(t *testing.T) {
	all := append(calls(), appends("Append(long)", long), appends("Append(half as long)", long[:512]),
		crashes("Crash(3, 1029)", 3, 1029), crashes("Crash(2, 1030)", 2, 1030))
	pick := uint32(7)
	full := 0
	for range 40 {
		p := newPlayer(t, 1)
		var names []string
		for range 80 {
			pick = pick*1664525 + 1013904223
			at := int(pick>>16) % (len(all) * 3)
			if at >= len(all) {
				at = len(all) - 4 // mostly long records, so that there come to be many of them
			}
			names = append(names, all[at].name)
			before := p.mod
			p.play(t, all[at], names)
			if before.now().size() > 16384-1030 {
				full++
			}
		}
	}
	if full == 0 {
		t.Error("no area got full")
	}
}
