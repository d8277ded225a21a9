package acts_test

import (
	"fmt"
	"math"
	"slices"
	"testing"

	"countermand/acts"
)

// deed is one thing that was told, of a kind (in the order of a mark), of a socket or tally, with a number.
type deed struct {
	kind, at, number int
}

// model is acts told another way: one list of all deeds, whatever their kinds, as they were told.
type model []deed

// is tells whether a deed can be.
func (d deed) is() bool {
	return d.at >= 0 && d.at < []int{3, 3, 1, 4}[d.kind]
}

// told answers the deeds of one kind.
func (m model) told(kind int) model {
	var row model
	for _, d := range m {
		if d.kind == kind {
			row = append(row, d)
		}
	}
	return row
}

// bytes answers deeds as bytes that go out.
func (m model) bytes() []acts.Out {
	var row []acts.Out
	for _, d := range m {
		row = append(row, acts.Out{Sock: d.at, Byte: byte(d.number)})
	}
	return row
}

// undo answers what makes up for deeds.
func (m model) undo() []acts.Open {
	var row []acts.Open
	for _, d := range m {
		row = slices.Insert(row, 0, acts.Open{Tally: d.at, Delta: d.number * -1})
	}
	return row
}

// all answers what acts have of which this is the model.
func (m model) all() all {
	var a all
	a.output = append(m.told(0).bytes(), m.told(1).bytes()...)
	for _, d := range m.told(2) {
		a.notes = append(a.notes, d.number)
	}
	a.undo = m.told(3).undo()
	for _, d := range m {
		a.mark[d.kind]++
	}
	return a
}

// back answers what stays at a mark, and what doesn't.
func (m model) back(mark acts.Mark) (model, model) {
	var stay, gone model
	for _, d := range m {
		if mark[d.kind] > 0 {
			mark[d.kind]--
			stay = append(stay, d)
		} else {
			gone = append(gone, d)
		}
	}
	return stay, gone
}

// pair is acts, their model, what all tallies became by opens and what made up for them, and the marks that were taken, with the tallies of then.
type pair struct {
	a       *acts.Acts
	m       model
	tallies [4]int
	marks   []taken
}

// taken is a mark, with the tallies of then, which hold while no open of then went.
type taken struct {
	mark    acts.Mark
	tallies [4]int
}

// tell tells acts a deed.
func (p *pair) tell(d deed) bool {
	switch d.kind {
	case 0:
		return p.a.Send(d.at, byte(d.number))
	case 1:
		return p.a.Later(d.at, byte(d.number))
	case 2:
		return p.a.Note(d.number)
	}
	return p.a.Opened(d.at, d.number)
}

// do tells both a deed; it answers a fault.
func (p *pair) do(d deed) string {
	if p.tell(d) != d.is() {
		return fmt.Sprintf("%v isn't %v", d, d.is())
	}
	if d.is() {
		p.m = append(p.m, d)
		if d.kind == 3 {
			p.tallies[d.at] += d.number
		}
	}
	return ""
}

// flush lets both flush; it answers a fault.
func (p *pair) flush() string {
	got, want := p.a.Flush(), p.m.told(0).bytes()
	if !slices.Equal(got, want) {
		return fmt.Sprintf("Flush is %v, want %v", got, want)
	}
	p.m, _ = p.m.back(acts.Mark{0, math.MaxInt, math.MaxInt, math.MaxInt})
	return ""
}

// mark takes a mark.
func (p *pair) mark() string {
	p.marks = append(p.marks, taken{p.a.Mark(), p.tallies})
	return ""
}

// back lets both go back; it answers a fault.
func (p *pair) back(mark acts.Mark) string {
	stay, gone := p.m.back(mark)
	got, want := p.a.Back(mark), gone.told(3).undo()
	if !slices.Equal(got, want) {
		return fmt.Sprintf("Back(%v) is %v, want %v", mark, got, want)
	}
	p.m = stay
	for _, o := range got {
		p.tallies[o.Tally] += o.Delta
	}
	left := p.a.Mark()[3]
	p.marks = slices.DeleteFunc(p.marks, func(m taken) bool { return m.mark[3] > left })
	return ""
}

// last goes back at the mark that was taken last, if there is one: what tallies were then they are again.
func (p *pair) last() string {
	if len(p.marks) == 0 {
		return ""
	}
	m := p.marks[len(p.marks)-1]
	if wrong := p.back(m.mark); wrong != "" {
		return wrong
	}
	if p.tallies != m.tallies {
		return fmt.Sprintf("back at %v tallies are %v, and were %v", m.mark, p.tallies, m.tallies)
	}
	p.marks = p.marks[:len(p.marks)-1]
	return ""
}

// nothing answers a fault if opens and what makes up for them don't come to nothing.
func (p *pair) nothing() string {
	left := p.tallies
	for _, o := range p.a.Undo() {
		left[o.Tally] += o.Delta
	}
	if left != [4]int{} {
		return fmt.Sprintf("of tallies %v is left", left)
	}
	return ""
}

// calls are those of the short rows.
var calls = []func(p *pair) string{
	func(p *pair) string { return p.do(deed{0, 0, 'a'}) },
	func(p *pair) string { return p.do(deed{0, 2, 'b'}) },
	func(p *pair) string { return p.do(deed{0, 3, 'c'}) },
	func(p *pair) string { return p.do(deed{1, 1, 'd'}) },
	func(p *pair) string { return p.do(deed{2, 0, 7}) },
	func(p *pair) string { return p.do(deed{3, 0, 5}) },
	func(p *pair) string { return p.do(deed{3, 3, math.MinInt}) },
	func(p *pair) string { return p.do(deed{3, 4, 1}) },
	(*pair).flush,
	(*pair).mark,
	(*pair).last,
	func(p *pair) string { return p.back(acts.Mark{1, 0, 1, 1}) },
	func(p *pair) string { return p.back(acts.Mark{-1, 2, 0, 2}) },
}

// P16.1, P16.2: calls in every order, five times.
func TestEveryOrder(t *testing.T) {
	rows := 1
	for range 5 {
		rows *= len(calls)
	}
	for row := range rows {
		p, left := &pair{a: &acts.Acts{}}, row
		for range 5 {
			if wrong := calls[left%len(calls)](p); wrong != "" {
				t.Fatalf("row %d: %s", row, wrong)
			}
			if wrong := p.nothing(); wrong != "" {
				t.Fatalf("row %d: %s", row, wrong)
			}
			has(t, fmt.Sprint("row ", row), p.a, p.m.all())
			left /= len(calls)
		}
	}
}

// dice are numbers that are the same in each run.
type dice uint32

// roll answers one of the first numbers, from 0 on.
func (d *dice) roll(many int) int {
	*d = *d*1664525 + 1013904223
	return int(*d>>16) % many
}

// delta answers a number, small or at the edge of 64 bits.
func (d *dice) delta() int {
	return []int{d.roll(9) - 4, math.MaxInt - d.roll(3), math.MinInt + d.roll(3), d.roll(1<<15) << 48}[d.roll(4)]
}

// one does one call of a long row.
func (d *dice) one(p *pair) string {
	switch d.roll(12) {
	case 0:
		return p.flush()
	case 1:
		return p.mark()
	case 2:
		return p.last()
	case 3:
		return p.back(acts.Mark{d.roll(40) - 1, d.roll(40) - 1, d.roll(40) - 1, d.roll(60) - 1})
	}
	kind := d.roll(4)
	at := d.roll(6) - 1
	if kind == 2 {
		at = 0
	}
	return p.do(deed{kind, at, d.delta()})
}

// P16.1, P16.2: long rows of calls of three acts.
func TestLongRows(t *testing.T) {
	d := dice(16)
	for round := range 40 {
		ps := [3]*pair{{a: &acts.Acts{}}, {a: &acts.Acts{}}, {a: &acts.Acts{}}}
		for k := range 400 {
			name := fmt.Sprintf("round %d, call %d", round, k)
			if wrong := d.one(ps[d.roll(3)]); wrong != "" {
				t.Fatalf("%s: %s", name, wrong)
			}
			for _, p := range ps {
				has(t, name, p.a, p.m.all())
				if wrong := p.nothing(); wrong != "" {
					t.Fatalf("%s: %s", name, wrong)
				}
			}
		}
	}
}
