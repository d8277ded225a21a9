package code_test

import (
	"regexp"
	"slices"
	"strings"
	"testing"

	"countermand/api"
	"countermand/code"
)

// closed is a row of Begins (B), Ends (E) and others (-) whose blocks are closed, and stand beside one another.
var closed = regexp.MustCompile(`^(-|B-*E)*$`)

// letters answers a program's Begins, Ends and others.
func letters(p prog) string {
	s := []byte{}
	for _, x := range p {
		switch x.Op {
		case 4:
			s = append(s, 'B')
		case 5:
			s = append(s, 'E')
		default:
			s = append(s, '-')
		}
	}
	return string(s)
}

// home answers where the block begins in which a place stands; -1: outside. An End stands in its block, a Begin doesn't.
func home(s string, at int) int {
	ahead := s[:at]
	if strings.LastIndex(ahead, "B") <= strings.LastIndex(ahead, "E") {
		return -1
	}
	return strings.LastIndex(ahead, "B")
}

// seen answers how often an op stands in the block of an instruction, ahead of it.
func seen(p prog, from, at int, op api.Op) int {
	n := 0
	for _, x := range p[from+1 : at] {
		if x.Op == op {
			n++
		}
	}
	return n
}

// can tells of a program whose blocks are closed whether an instruction can be, and stand there.
func can(p prog, s string, at int) bool {
	x, from := p[at], home(s, at)
	if !fits(x) || rows[x.Op].where == within && from < 0 || rows[x.Op].where == without && from >= 0 {
		return false
	}
	if x.Op == api.Jump || x.Op == api.Else {
		if x.A <= at || x.A > len(p) || home(s, x.A) != from {
			return false
		}
	}
	switch x.Op {
	case api.Recv, api.Retry, api.Inev:
		return seen(p, from, at, api.Inev) == 0
	case api.Else:
		return seen(p, from, at, api.Inev) == 0 && seen(p, from, at, api.Else) < 3
	}
	return true
}

// model answers what Check has to answer.
func model(p prog) (int, api.Errno) {
	if len(p) > 48 {
		return 0, api.ErrLong
	}
	s := letters(p)
	if !closed.MatchString(s) {
		return 0, api.ErrCode
	}
	for at := range p {
		if !can(p, s, at) {
			return at, api.ErrCode
		}
	}
	return 0, api.OK
}

// apart tells a fault if a place of a program lies elsewhere than P7.2 says: on the way there no block may begin or end,
// but whole ones that are gone past from outside, and one whose Begin or End is the place.
func apart(t *testing.T, p prog) {
	t.Helper()
	for at, x := range p {
		if x.Op != api.Jump && x.Op != api.Else {
			continue
		}
		if x.A <= at || x.A > len(p) {
			t.Fatalf("%v: the place of %d is %d", p, at, x.A)
		}
		past := strings.ReplaceAll(letters(p[at:x.A]), "-", "")
		inside := strings.Count(letters(p[:at]), "B") > strings.Count(letters(p[:at]), "E")
		if inside && past != "" || !inside && strings.ReplaceAll(past, "BE", "") != "" {
			t.Fatalf("%v: %d leads to %d, past %s", p, at, x.A, past)
		}
	}
}

// same holds Check and Blocks against the model, and P7.2; it answers whether the program can be.
func same(t *testing.T, p prog) bool {
	t.Helper()
	at, errno := code.Check(p)
	if wantAt, want := model(p); at != wantAt || errno != want {
		t.Fatalf("%v: %d, %d, want %d, %d", p, at, errno, wantAt, want)
	}
	if got, want := code.Blocks(p), strings.Count(letters(p), "B"); got != want {
		t.Fatalf("%v: %d blocks, want %d", p, got, want)
	}
	if errno == api.OK {
		apart(t, p)
	}
	return errno == api.OK
}

// every tries all programs of so many of these instructions, and answers how many of them can be.
func every(t *testing.T, of prog, length int, p prog) int {
	if length == 0 {
		if same(t, p) {
			return 1
		}
		return 0
	}
	n := 0
	for _, x := range of {
		n += every(t, of, length-1, append(slices.Clone(p), x))
	}
	return n
}

// P7.1 and P7.2: all programs of one, two and three instructions of every op.
func TestEveryOp(t *testing.T) {
	of := prog{{Op: 22}, {Op: -1}, {Op: api.Const, A: 4}, {Op: api.Rename}, jump(1), jump(2), jump(3), jump(4), other(2), other(3)}
	for op := range rows {
		of = append(of, sample(op, -1))
	}
	for n := range 4 {
		if every(t, of, n, nil) == 0 {
			t.Errorf("%d: none can be", n)
		}
	}
}

// P7.1 and P7.2: all programs of blocks, of what is forbidden behind an Inev, and of places.
func TestEveryOrder(t *testing.T) {
	of := prog{begin, end, halt, retry, inev, jump(2), jump(4), jump(5), jump(6), other(3), other(5)}
	for n := range 7 {
		if every(t, of, n, nil) == 0 {
			t.Errorf("%d: none can be", n)
		}
	}
}

// dice are numbers that are the same in each run.
type dice uint32

// roll answers one of the first numbers, from 0 on.
func (d *dice) roll(many int) int {
	*d = *d*1664525 + 1013904223
	return int(*d>>16) % many
}

// mostly answers an instruction at a place that often can stand there.
func (d *dice) mostly(at int, inside bool) api.Instr {
	op := api.Op(d.roll(22))
	switch {
	case d.roll(12) == 0:
		return api.Instr{Op: op, A: d.roll(4), B: d.roll(4), C: d.roll(3)}
	case !inside && rows[op].where == within:
		op = api.Begin
	case inside && (op == api.Halt || op == api.Begin || op == api.Inev && d.roll(4) > 0):
		op = api.Store
	case !inside && op == api.End:
		op = api.Add
	}
	x := sample(op, at)
	if op == api.Jump || op == api.Else {
		x.A += d.roll(3) * d.roll(3)
	}
	return x
}

// P7.1 and P7.2: long programs, many of which can be, and many of which are wrong in one place.
func TestLongPrograms(t *testing.T) {
	d, good, bad := dice(7), 0, 0
	for range 200000 {
		var p prog
		inside := false
		for range d.roll(50) {
			p = append(p, d.mostly(len(p), inside))
			last := p[len(p)-1].Op
			inside = last == api.Begin || inside && last != api.End
		}
		if inside {
			p = append(p, end)
		}
		if same(t, p) && len(p) > 9 {
			good++
		} else if at, _ := code.Check(p); at > 9 {
			bad++
		}
	}
	if good < 2000 || bad < 2000 {
		t.Errorf("%d long ones can be, %d are wrong far behind", good, bad)
	}
}
