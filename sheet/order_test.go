package sheet_test

import (
	"fmt"
	"slices"
	"testing"

	"countermand/file"
	"countermand/sheet"
	"countermand/tome"
)

// model is a sheet over a tome told another way: what all six files are, and which were written. A file is told by a row of bytes; nil: it isn't there.
type model struct {
	now     [6][]byte
	written [6]bool
}

// modelOf answers the model of an empty sheet over a tome of these files.
func modelOf(all [6]file.File) *model {
	m := &model{}
	for i, f := range all {
		if f.Is {
			m.now[i] = append([]byte{}, f.Text...)
		}
	}
	return m
}

// files answers the six files.
func (m *model) files() [6]file.File {
	var all [6]file.File
	for i, b := range m.now {
		all[i] = file.File{Is: b != nil, Text: string(b)}
	}
	return all
}

// numbers answers those of the files that were written.
func (m *model) numbers() []int {
	var all []int
	for i, is := range m.written {
		if is {
			all = append(all, i)
		}
	}
	return all
}

func (m *model) set(i int, b []byte) {
	if (b == nil) != (m.now[i] == nil) || string(b) != string(m.now[i]) {
		m.now[i], m.written[i] = b, true
	}
}

func (m *model) write(i, at int, b byte) {
	if at < 0 || at > 31 {
		return
	}
	text := append([]byte{}, m.now[i]...)
	for len(text) <= at {
		text = append(text, 0)
	}
	text[at] = b
	m.set(i, text)
}

func (m *model) cut(i, size int) {
	if m.now[i] == nil || size < 0 || size > 32 {
		return
	}
	text := []byte{}
	for at := range size {
		b := byte(0)
		if at < len(m.now[i]) {
			b = m.now[i][at]
		}
		text = append(text, b)
	}
	m.set(i, text)
}

func (m *model) create(i int) {
	if m.now[i] == nil {
		m.set(i, []byte{})
	}
}

func (m *model) rename(from, to int) {
	if b := m.now[from]; b != nil && from != to {
		m.set(to, b)
		m.set(from, nil)
	}
}

// copy answers another model of the same.
func (m *model) copy() *model {
	c := *m
	return &c
}

// two is a sheet and another one, over one tome, each with its model: a copy takes the place of the one that it isn't made of.
type two struct {
	base   *tome.Tome
	sheets [2]*sheet.Sheet
	models [2]*model
}

// call is one thing that happens, and its name.
type call struct {
	name string
	do   func(s *sheet.Sheet, x *tome.Tome, m *model) bool
}

func writes(i, at int, b byte) call {
	return call{fmt.Sprintf("Write(%d, %d, %d)", i, at, b), func(s *sheet.Sheet, x *tome.Tome, m *model) bool {
		m.write(i, at, b)
		return s.Write(x, i, at, b)
	}}
}

func cuts(i, size int) call {
	return call{fmt.Sprintf("Cut(%d, %d)", i, size), func(s *sheet.Sheet, x *tome.Tome, m *model) bool {
		m.cut(i, size)
		return s.Cut(x, i, size)
	}}
}

func creates(i int) call {
	return call{fmt.Sprintf("Create(%d)", i), func(s *sheet.Sheet, x *tome.Tome, m *model) bool {
		m.create(i)
		return s.Create(x, i)
	}}
}

func removes(i int) call {
	return call{fmt.Sprintf("Remove(%d)", i), func(s *sheet.Sheet, x *tome.Tome, m *model) bool {
		m.set(i, nil)
		return s.Remove(x, i)
	}}
}

func renames(from, to int) call {
	return call{fmt.Sprintf("Rename(%d, %d)", from, to), func(s *sheet.Sheet, x *tome.Tome, m *model) bool {
		m.rename(from, to)
		return s.Rename(x, from, to)
	}}
}

// step does a call to one of two, or lets its copy be the other one, and holds both against their models.
func (p *two) step(t *testing.T, name string, which int, c *call) {
	t.Helper()
	if c == nil {
		p.sheets[1-which], p.models[1-which] = p.sheets[which].Copy(), p.models[which].copy()
	} else if !c.do(p.sheets[which], p.base, p.models[which]) {
		t.Fatalf("%s is false", name)
	}
	for k, s := range p.sheets {
		has(t, fmt.Sprintf("%s, of %d", name, k), s, p.base, p.models[k].files(), p.models[k].numbers()...)
	}
}

// rows does every row of so many calls to an empty sheet over these files.
func rows(t *testing.T, all [6]file.File, calls []call, length int, row []call) {
	if length > 0 {
		for _, c := range calls {
			rows(t, all, calls, length-1, append(slices.Clone(row), c))
		}
		return
	}
	x, s, m, name := tomeOf(all), sheet.New(), modelOf(all), ""
	for _, c := range row {
		name += c.name + "; "
		if !c.do(s, x, m) {
			t.Fatalf("%s is false", name)
		}
	}
	has(t, name, s, x, m.files(), m.numbers()...)
	lands(t, name, s, x, 20)
}

// P14.1 and P14.2: calls in every order, four times.
func TestEveryOrder(t *testing.T) {
	calls := []call{
		writes(0, 0, 'x'), writes(0, 0, 'a'), writes(1, 1, 'b'), cuts(0, 0), cuts(1, 2),
		creates(0), creates(1), removes(0), removes(1), renames(0, 1), renames(1, 0), renames(1, 2),
	}
	for length := 1; length < 5; length++ {
		rows(t, [6]file.File{of("a"), none}, calls, length, nil)
	}
	rows(t, [6]file.File{of("a"), of("x"), of("")}, calls, 3, nil)
}

// dice are numbers that are the same in each run.
type dice uint32

// roll answers one of the first numbers, from 0 on.
func (d *dice) roll(many int) int {
	*d = *d*1664525 + 1013904223
	return int(*d>>16) % many
}

// call answers any call.
func (d *dice) call() call {
	i, n := d.roll(6), d.roll(38)-3
	switch d.roll(8) {
	case 0:
		return creates(i)
	case 1:
		return removes(i)
	case 2, 3:
		return renames(i, d.roll(6))
	case 4:
		return cuts(i, n)
	default:
		return writes(i, n, byte(d.roll(3)))
	}
}

// P14.1 and P14.2: long rows of calls to two sheets over one tome, that are copied now and then, and are set over it.
func TestLongRows(t *testing.T) {
	d := dice(14)
	for round := range 150 {
		var all [6]file.File
		for i := range all {
			all[i] = files[d.roll(len(files))]
		}
		p := &two{tomeOf(all), [2]*sheet.Sheet{sheet.New(), sheet.New()}, [2]*model{modelOf(all), modelOf(all)}}
		for k := range 40 {
			which, name := d.roll(2), fmt.Sprintf("round %d, call %d", round, k)
			if d.roll(10) == 0 {
				p.step(t, name+", Copy", which, nil)
				continue
			}
			c := d.call()
			p.step(t, name+", "+c.name, which, &c)
			lands(t, name, p.sheets[which], p.base, d.roll(9))
		}
		over(t, p, round)
	}
}

// over tells a fault if the tome itself, behind Over of the first of two sheets, hasn't the files that were over it, or if the sheet lost what was written.
func over(t *testing.T, p *two, round int) {
	t.Helper()
	s, m := p.sheets[0], p.models[0]
	want, written := keeps(p.base), m.numbers()
	for i, f := range m.files() {
		if want[i].f = f; m.written[i] {
			want[i].version = 100
		}
	}
	if n := s.Over(p.base, 100); n != len(written) {
		t.Fatalf("round %d: Over is %d, want %d", round, n, len(written))
	}
	if got := keeps(p.base); got != want {
		t.Fatalf("round %d: %v, want %v", round, got, want)
	}
	has(t, fmt.Sprintf("round %d, behind Over", round), s, p.base, m.files(), written...)
}
