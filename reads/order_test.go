package reads_test

import (
	"fmt"
	"slices"
	"testing"

	"countermand/reads"
)

// change is that a thing was changed, at a time.
type change struct {
	what thing
	time int
}

// past is all changes that ever were, in order: of it each thing's version at each time can be told.
type past struct {
	changes []change
	clock   int
}

// at answers the version that a thing had at a time.
func (p *past) at(x thing, time int) int {
	for _, c := range slices.Backward(p.changes) {
		if c.what == x && c.time <= time {
			return c.time
		}
	}
	return 0
}

// now answers how things are.
func (p *past) now() reads.Now {
	n := reads.Now{Clock: p.clock}
	for _, x := range things() {
		n.Versions[x.kind][x.index] = p.at(x, p.clock)
	}
	return n
}

// set changes things, all at one time, so much later.
func (p *past) set(later int, all ...thing) {
	p.clock += later
	for _, x := range all {
		p.changes = append(p.changes, change{x, p.clock})
	}
}

// changed tells whether a thing was changed behind a time.
func (p *past) changed(x thing, time int) bool {
	return slices.ContainsFunc(p.changes, func(c change) bool { return c.what == x && c.time > time })
}

// read is a thing that was read, and when.
type read struct {
	what thing
	time int
}

// model is a set told another way: it knows when each thing was read, and asks the past.
type model struct {
	past  *past
	reads []read
	stamp int
}

// valid tells whether nothing that was read was changed behind that.
func (m *model) valid() bool {
	return !slices.ContainsFunc(m.reads, func(r read) bool { return m.past.changed(r.what, r.time) })
}

// note reads a thing.
func (m *model) note(x thing) bool {
	for _, r := range m.reads {
		if r.what == x {
			return !m.past.changed(x, r.time)
		}
	}
	if m.past.changed(x, m.stamp) {
		if !m.valid() {
			return false
		}
		m.stamp = m.past.clock
	}
	m.reads = append(m.reads, read{x, m.past.clock})
	return true
}

// entries answers what was read, in order.
func (m *model) entries() []reads.Entry {
	var all []reads.Entry
	for _, r := range m.reads {
		all = append(all, entry(r.what, m.past.at(r.what, r.time)))
	}
	return all
}

// player is a set, the model of it, and whether Note answered true up to now.
type player struct {
	set *reads.Set
	mod *model
	yes bool
}

// begin puts a new set in the place of the one there is, of a time that there was.
func (p *player) begin(stamp int) {
	p.set, p.mod, p.yes = reads.New(stamp), &model{past: p.mod.past, stamp: stamp}, true
}

// call is one thing that happens, and its name.
type call struct {
	name string
	do   func(t *testing.T, p *player)
}

// note answers the call of Note of a thing.
func note(x thing) call {
	return call{fmt.Sprint("note ", x), func(t *testing.T, p *player) {
		got, want := p.set.Note(p.mod.past.now(), x.kind, x.index), p.mod.note(x)
		if got != want {
			t.Errorf("Note of %v is %v", x, got)
		}
		p.yes = p.yes && got
	}}
}

// changes answers that things are changed, at one time, so much later.
func changes(later int, all ...thing) call {
	return call{fmt.Sprint("change ", all, " by ", later), func(t *testing.T, p *player) { p.mod.past.set(later, all...) }}
}

// begins answers that a new set begins, so long ago, or at the beginning.
func begins(ago int) call {
	return call{fmt.Sprint("begin ", ago, " ago"), func(t *testing.T, p *player) { p.begin(max(p.mod.past.clock-ago, 0)) }}
}

// play does one call, and holds the set against the model, and against P12.2.
func (p *player) play(t *testing.T, c call, names []string) {
	t.Helper()
	c.do(t, p)
	got, want, now := list(p.set), p.mod.entries(), p.mod.past.now()
	if !slices.Equal(got, want) || p.set.Len() != len(want) || p.set.Stamp() != p.mod.stamp || p.set.Valid(now) != p.mod.valid() {
		t.Errorf("%v at %d, want %v at %d, valid: %v", got, p.set.Stamp(), want, p.mod.stamp, p.mod.valid())
	}
	for _, e := range got {
		x := thing{e.Kind, e.Index}
		if !p.set.Has(e.Kind, e.Index) {
			t.Errorf("Has(%d, %d) is false", e.Kind, e.Index)
		}
		if was := p.mod.past.at(x, p.set.Stamp()); p.yes && was != e.Version {
			t.Errorf("%v was of version %d at the stamp, %d, and is %v", x, was, p.set.Stamp(), e)
		}
	}
	if stamp := p.set.Stamp(); stamp < 0 || stamp > p.mod.past.clock {
		t.Errorf("the stamp is %d, at %d", stamp, p.mod.past.clock)
	}
	if t.Failed() {
		t.Fatalf("behind %q", names)
	}
}

// run does a row of calls to a set of its own.
func run(t *testing.T, row []call) {
	t.Helper()
	p := &player{mod: &model{past: &past{}}}
	p.begin(0)
	var names []string
	for _, c := range row {
		names = append(names, c.name)
		p.play(t, c, names)
	}
}

// rows does every row of so many calls.
func rows(t *testing.T, all []call, length int, row []call) {
	if length == 0 {
		run(t, row)
		return
	}
	for _, c := range all {
		rows(t, all, length-1, append(slices.Clone(row), c))
	}
}

// P12.1 and P12.2: two things, read and changed in every order, seven times, each row held against the model and the past behind every call.
func TestEveryOrder(t *testing.T) {
	rows(t, []call{note(cell0), note(file0), changes(1, cell0), changes(1, file0)}, 7, nil)
}

// P12.1 and P12.2: the same with three things, some changed at one time, sets that begin at the time now and earlier, and times that go on by more than 1, five times.
func TestEveryOrderOfMore(t *testing.T) {
	rows(t, []call{
		note(cell0), note(cell1), note(feed2),
		changes(1, cell0), changes(2, cell1), changes(3, cell0, feed2), changes(1),
		begins(0), begins(2),
	}, 5, nil)
}

// P12.1 and P12.2: long rows over all things.
func TestLongRows(t *testing.T) {
	pick := uint32(12)
	next := func(many int) int {
		pick = pick*1664525 + 1013904223
		return int(pick>>16) % many
	}
	all := things()
	for range 300 {
		var row []call
		for range 120 {
			switch next(12) {
			case 0:
				row = append(row, changes(1, all[next(24)]))
			case 1:
				row = append(row, changes(1+next(4), all[next(24)], all[next(24)]))
			case 2:
				if next(4) == 0 {
					row = append(row, begins(next(6)))
				}
			default:
				row = append(row, note(all[next(24)]))
			}
		}
		run(t, row)
	}
}
