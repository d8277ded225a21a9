package mark_test

import (
	"fmt"
	"testing"

	"countermand/acts"
	"countermand/mark"
)

// noted is what is told of a mark.
type noted struct {
	state told
	acts  acts.Mark
	place int
}

// pair is a stack and a state that goes on, and what is told of both.
type pair struct {
	stack *mark.Stack
	state mark.State
	notes []noted
	want  told
	turn  int
}

// start answers an empty stack and a fresh state.
func start() *pair {
	return &pair{stack: &mark.Stack{}, state: mark.Fresh(numbers[1]), want: told{regs: numbers[1]}}
}

// calls are the names of what may be done with a pair.
var calls = []string{"change", "Push", "Pop", "Pop and go on", "Clear"}

// do does one of them; it answers a fault.
func (p *pair) do(which int) string {
	p.turn++
	switch which {
	case 0:
		c := changes[p.turn%len(changes)]
		c.do(&p.state)
		c.tell(&p.want)
	case 1:
		return p.push()
	case 2, 3:
		return p.pop(which == 3)
	case 4:
		p.stack.Clear()
		p.notes = nil
	}
	return ""
}

// push pushes the state.
func (p *pair) push() string {
	n := noted{state: p.want, acts: acts.Mark{p.turn, 0, -p.turn, 1}, place: p.turn * 3}
	p.notes = append(p.notes[:len(p.notes):len(p.notes)], n)
	if !p.stack.Push(mark.Mark{State: p.state, Acts: n.acts, Place: n.place}) {
		return "Push is false"
	}
	return ""
}

// pop pops a mark, and may go on with the state of then, as one does who takes another way.
func (p *pair) pop(on bool) string {
	m, ok := p.stack.Pop()
	if len(p.notes) == 0 {
		if ok || m != (mark.Mark{}) {
			return fmt.Sprintf("Pop of none is %+v, %v", m, ok)
		}
		return ""
	}
	last := p.notes[len(p.notes)-1]
	p.notes = p.notes[:len(p.notes)-1]
	if !ok || m.Acts != last.acts || m.Place != last.place || m.State.Regs != last.state.regs {
		return fmt.Sprintf("Pop is %+v, %v, want %+v", m, ok, last)
	}
	if on {
		p.state, p.want = m.State, last.state
	}
	return ""
}

// holds tells a fault if the pair isn't as is told; and if rest, its marks too, which goes on till there are none.
func (p *pair) holds(t *testing.T, name string, rest bool) {
	t.Helper()
	has(t, name, p.state, p.want)
	if p.stack.Len() != len(p.notes) {
		t.Fatalf("%s: Len is %d, want %d", name, p.stack.Len(), len(p.notes))
	}
	for rest && len(p.notes) > 0 {
		if fault := p.pop(true); fault != "" {
			t.Fatalf("%s, at the end: %s", name, fault)
		}
		p.holds(t, name+", a mark", false)
	}
}

// P17.1: calls in every order, six of them, and then all marks that stay.
func TestEveryOrder(t *testing.T) {
	rows := 1
	for range 6 {
		rows *= len(calls)
	}
	for row := range rows {
		p, name := start(), ""
		for left := row + rows; left > 1; left /= len(calls) {
			which := left % len(calls)
			name += " " + calls[which]
			if fault := p.do(which); fault != "" {
				t.Fatalf("%s: %s", name, fault)
			}
			p.holds(t, name, false)
		}
		p.holds(t, name, true)
	}
}

// dice are numbers that are the same in each run.
type dice uint32

// roll answers one of the first numbers, from 0 on.
func (d *dice) roll(many int) int {
	*d = *d*1664525 + 1013904223
	return int(*d>>16) % many
}

// P17.1: long rows of calls, in which a Clear comes seldom.
func TestLongRows(t *testing.T) {
	d := dice(17)
	for round := range 40 {
		p := start()
		for k := range 400 {
			which := d.roll(9) % 4 // of nine, changes get three
			if d.roll(80) == 0 {
				which = 4
			}
			name := fmt.Sprintf("round %d, call %d, %s", round, k, calls[which])
			if fault := p.do(which); fault != "" {
				t.Fatalf("%s: %s", name, fault)
			}
			p.holds(t, name, false)
		}
		p.holds(t, fmt.Sprintf("round %d", round), true)
	}
}
