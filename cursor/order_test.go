package cursor_test

import (
	"fmt"
	"slices"
	"testing"

	"countermand/cursor"
)

// model is a cursor told another way: the sockets at which a byte was read, each time.
type model []int

// step answers the model behind a Step, and whether that is true.
func (m model) step(sock int) (model, bool) {
	if sock < 0 || sock > 2 || m.read()[sock] > 63 {
		return m, false
	}
	return append(slices.Clone(m), sock), true
}

// read answers how many bytes were read at each socket.
func (m model) read() [3]int {
	var all [3]int
	for _, sock := range m {
		all[sock]++
	}
	return all
}

// P15.1: Steps in every order, six times.
func TestEveryOrder(t *testing.T) {
	var rows func(c *cursor.Cursor, m model, name string, left int)
	rows = func(c *cursor.Cursor, m model, name string, left int) {
		has(t, name, c, m.read())
		for sock := -1; sock < 4 && left > 0; sock++ {
			more, is := m.step(sock)
			next := c.Copy()
			if next.Step(sock) != is {
				t.Fatalf("%s Step(%d) isn't %v", name, sock, is)
			}
			rows(next, more, fmt.Sprintf("%s Step(%d)", name, sock), left-1)
		}
		has(t, name+", at last", c, m.read())
	}
	rows(&cursor.Cursor{}, nil, "", 6)
}

// dice are numbers that are the same in each run.
type dice uint32

// roll answers one of the first numbers, from 0 on.
func (d *dice) roll(many int) int {
	*d = *d*1664525 + 1013904223
	return int(*d>>16) % many
}

// P15.1: long rows of Steps of four cursors, each of which takes the place of a copy now and then.
func TestLongRows(t *testing.T) {
	d := dice(15)
	for round := range 20 {
		cursors, models := [4]*cursor.Cursor{{}, {}, {}, {}}, [4]model{}
		for k := range 600 {
			which, name := d.roll(4), fmt.Sprintf("round %d, call %d", round, k)
			if d.roll(100) == 0 {
				to := d.roll(4)
				cursors[to], models[to] = cursors[which].Copy(), models[which]
				continue
			}
			sock := d.roll(5) - 1
			more, is := models[which].step(sock)
			if cursors[which].Step(sock) != is {
				t.Fatalf("%s: Step(%d) isn't %v", name, sock, is)
			}
			models[which] = more
			if k%20 > 0 {
				continue
			}
			for i, c := range cursors {
				has(t, fmt.Sprintf("%s, of %d", name, i), c, models[i].read())
			}
		}
	}
}
