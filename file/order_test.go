package file_test

import (
	"fmt"
	"strings"
	"testing"

	"countermand/file"
)

// gone is what stands in a model where there is no byte.
const gone = -1

// model is a file told another way: a number for each place, and whether the file is there.
type model struct {
	is bool
	at [32]int
}

// empty answers the model of a file that isn't there.
func empty() model {
	var m model
	for i := range m.at {
		m.at[i] = gone
	}
	return m
}

// fill lets all places ahead of one have a byte.
func (m *model) fill(before int) {
	for i := range before {
		if m.at[i] == gone {
			m.at[i] = 0
		}
	}
}

func (m *model) put(at int, b byte) {
	if at < 0 || at > 31 {
		return
	}
	m.fill(at)
	m.at[at] = int(b)
	m.is = true
}

func (m *model) cut(size int) {
	if !m.is || size < 0 || size > 32 {
		return
	}
	m.fill(size)
	for i := size; i < 32; i++ {
		m.at[i] = gone
	}
}

// file answers the file of which this is the model.
func (m *model) file() file.File {
	s := strings.Builder{}
	for _, b := range m.at {
		if b != gone {
			s.WriteByte(byte(b))
		}
	}
	return file.File{Is: m.is, Text: s.String()}
}

// dice are numbers that are the same in each run.
type dice uint32

// roll answers one of the first numbers, from 0 on.
func (d *dice) roll(many int) int {
	*d = *d*1664525 + 1013904223
	return int(*d>>16) % many
}

// step does one thing to a file and to its model.
func (d *dice) step(f file.File, m *model) (file.File, string) {
	n := d.roll(38) - 3
	switch d.roll(6) {
	case 0:
		m.cut(n)
		return file.Cut(f, n), fmt.Sprintf("Cut to %d", n)
	case 1:
		m.is = true
		return file.Make(f), "Make"
	default:
		b := byte(d.roll(256))
		m.put(n, b)
		return file.Put(f, n, b), fmt.Sprintf("Put of %d at %d", b, n)
	}
}

// P9.1 and P9.2: files to which many things are done, one behind the other, are those of a model, place by place.
func TestOrders(t *testing.T) {
	d := dice(9)
	for range 5000 {
		f, m, done := file.File{}, empty(), []string{}
		for range 1 + d.roll(30) {
			var what string
			f, what = d.step(f, &m)
			done = append(done, what)
			if want := m.file(); f != want || !file.Good(f) {
				t.Fatalf("%v: %q (%v), want %q (%v)", done, f.Text, f.Is, want.Text, want.Is)
			}
			for i, want := range m.at {
				if got := file.At(f, i); got != want {
					t.Fatalf("%v: %d at %d, want %d", done, got, i, want)
				}
			}
		}
	}
}

// P9.1, with rules 3 and 4: what was made of a file leaves it as it was; the same is made of it each time.
func TestFilesApart(t *testing.T) {
	f := of("abc")
	first := file.Put(f, 1, 'x')
	second := file.Put(f, 1, 'y')
	is(t, "the file", f, of("abc"))
	is(t, "the first", first, of("axc"))
	is(t, "the second", second, of("ayc"))
	is(t, "the first again", file.Put(f, 1, 'x'), first)
	cut := file.Cut(f, 2)
	is(t, "put into what was cut", file.Put(cut, 2, 'z'), of("abz"))
	is(t, "what was cut", cut, of("ab"))
	is(t, "the file, at the end", f, of("abc"))
}
