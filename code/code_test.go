package code_test

import (
	"fmt"
	"math"
	"slices"
	"testing"

	"countermand/api"
	"countermand/code"
)

// prog is a program.
type prog = []api.Instr

// Instructions that stand in many programs.
var (
	halt  = api.Instr{Op: api.Halt}
	set   = api.Instr{Op: api.Const, A: 1, B: 7}
	begin = api.Instr{Op: api.Begin}
	end   = api.Instr{Op: api.End}
	load  = api.Instr{Op: api.Load, A: 1, B: 2}
	recv  = api.Instr{Op: api.Recv, A: 1, B: 2}
	send  = api.Instr{Op: api.Send, A: 1, B: 2}
	retry = api.Instr{Op: api.Retry}
	inev  = api.Instr{Op: api.Inev}
)

// jump answers a Jump to a place.
func jump(to int) api.Instr { return api.Instr{Op: api.Jump, A: to} }

// other answers an Else whose way begins at a place.
func other(to int) api.Instr { return api.Instr{Op: api.Else, A: to} }

// checks tells a fault if Check answers something else.
func checks(t *testing.T, name string, p prog, at int, errno api.Errno) {
	t.Helper()
	if gotAt, got := code.Check(p); gotAt != at || got != errno {
		t.Errorf("%s: %d, %d, want %d, %d", name, gotAt, got, at, errno)
	}
}

// placed tells a fault if Check says otherwise of the instruction at a place.
func placed(t *testing.T, p prog, at int, can bool) {
	t.Helper()
	name := fmt.Sprint(p[at], " at ", at)
	if can {
		checks(t, name, p, 0, api.OK)
	} else {
		checks(t, name, p, at, api.ErrCode)
	}
}

// sample answers an instruction of an op that can be, at a place.
func sample(op api.Op, at int) api.Instr {
	switch op {
	case api.Jump, api.Else:
		return api.Instr{Op: op, A: at + 1}
	case api.Rename:
		return api.Instr{Op: op, B: 1}
	}
	return api.Instr{Op: op}
}

// span is the numbers that a field may be, both ends too.
type span struct{ low, high int }

// has tells whether a number is of the span.
func (s span) has(n int) bool { return s.low <= n && n <= s.high }

// The spans of the chapter's table.
var (
	zero  = span{}
	whole = span{math.MinInt, math.MaxInt}
	reg   = span{0, 3}
	cell  = span{0, 7}
	file  = span{0, 5}
	sock  = span{0, 2}
	tally = span{0, 3}
	spot  = span{0, 31}
	octet = span{0, 255}
)

// Where an op may stand.
const (
	anywhere = iota
	within
	without
)

// row is a row of the chapter's table. The place of a Jump and of an Else is any number here: what it may be hangs on the
// program.
type row struct {
	a, b, c span
	where   int
}

// rows is the chapter's table.
var rows = map[api.Op]row{
	0:  {zero, zero, zero, without},            // Halt
	1:  {reg, whole, zero, anywhere},           // Const
	2:  {reg, reg, zero, anywhere},             // Add
	3:  {whole, reg, span{0, 2}, anywhere},     // Jump
	4:  {zero, zero, zero, anywhere},           // Begin
	5:  {zero, zero, zero, anywhere},           // End
	6:  {reg, cell, zero, within},              // Load
	7:  {cell, reg, zero, within},              // Store
	8:  {reg, file, spot, within},              // Read
	9:  {file, spot, reg, within},              // Write
	10: {file, zero, zero, within},             // Create
	11: {file, zero, zero, within},             // Remove
	12: {file, file, zero, within},             // Rename
	13: {file, span{0, 32}, zero, within},      // Cut
	14: {reg, sock, zero, within},              // Recv
	15: {sock, reg, zero, within},              // Send
	16: {sock, octet, zero, within},            // OnCommit
	17: {octet, zero, zero, within},            // OnAbort
	18: {tally, span{-100, 100}, zero, within}, // Open
	19: {zero, zero, zero, within},             // Retry
	20: {whole, zero, zero, within},            // Else
	21: {zero, zero, zero, within},             // Inev
}

// fits tells whether the table has such an instruction.
func fits(x api.Instr) bool {
	r, ok := rows[x.Op]
	return ok && r.a.has(x.A) && r.b.has(x.B) && r.c.has(x.C) && (x.Op != api.Rename || x.A != x.B)
}

// edges are numbers about all ends of all spans, and some that are others of these in fewer bits.
var edges = []int{
	math.MinInt, math.MinInt + 1, -1 << 32, -256, -101, -100, -99, -2, -1, 0, 1, 2, 3, 4, 5, 6, 7, 8, 9,
	30, 31, 32, 33, 34, 47, 48, 49, 99, 100, 101, 102, 254, 255, 256, 257, 1 << 16, 1 << 32, 1<<32 + 1,
	math.MaxInt - 1, math.MaxInt,
}

// P7.1: of each op, which fields can be, each with the others.
func TestFields(t *testing.T) {
	for op := range rows {
		if op == api.Begin || op == api.End || op == api.Jump || op == api.Else {
			continue // these stand in tests of their own
		}
		for _, a := range edges {
			for _, b := range edges {
				for _, c := range edges {
					x := api.Instr{Op: op, A: a, B: b, C: c}
					p := prog{begin, x, end}
					if rows[op].where == without {
						p = prog{set, x}
					}
					placed(t, p, 1, fits(x))
				}
			}
		}
	}
}

// P7.1: a Jump's register and its kind, whatever the kind is, inside a block and outside.
func TestJumpFields(t *testing.T) {
	for _, b := range edges {
		for _, c := range edges {
			x := api.Instr{Op: api.Jump, A: 3, B: b, C: c}
			placed(t, prog{set, x, set}, 1, fits(x))
			placed(t, prog{set, begin, x, end}, 2, fits(x))
		}
	}
}

// P7.1: an Else has a place alone.
func TestElseFields(t *testing.T) {
	for _, b := range edges {
		for _, c := range edges {
			x := api.Instr{Op: api.Else, A: 2, B: b, C: c}
			placed(t, prog{begin, x, end}, 1, fits(x))
		}
	}
}

// P7.1: a Begin or an End with fields can't be; it begins or ends its block all the same.
func TestBlockFields(t *testing.T) {
	for _, f := range []api.Instr{{A: 1}, {B: 1}, {C: 1}, {A: -1}, {B: math.MinInt}, {C: 1 << 32}, {A: 1, B: 2, C: 3}} {
		b, e := f, f
		b.Op, e.Op = api.Begin, api.End
		checks(t, "Begin", prog{set, b, load, end}, 1, api.ErrCode)
		checks(t, "End", prog{set, begin, load, e}, 3, api.ErrCode)
		checks(t, "both", prog{set, set, b, e}, 2, api.ErrCode)
		checks(t, "Begin, not closed", prog{set, b}, 0, api.ErrCode)
		checks(t, "End of nothing", prog{set, e}, 0, api.ErrCode)
		if n := code.Blocks(prog{set, b, e, begin, end}); n != 2 {
			t.Errorf("Blocks: %d", n)
		}
	}
}

// P7.1: there are no other ops, whatever the fields, inside a block and outside.
func TestNoSuchOp(t *testing.T) {
	for _, n := range edges {
		op := api.Op(n)
		if _, ok := rows[op]; ok {
			continue
		}
		for _, x := range (prog{{Op: op}, {Op: op, A: 1}, {Op: op, A: 1, B: 2, C: 3}}) {
			checks(t, fmt.Sprint(x), prog{set, x}, 1, api.ErrCode)
			checks(t, fmt.Sprint(x), prog{set, begin, x, end}, 2, api.ErrCode)
		}
	}
	for op := api.Op(22); op < 300; op++ {
		checks(t, fmt.Sprint(op), prog{set, {Op: op}}, 1, api.ErrCode)
	}
}

// P7.1: which ops stand inside a block, outside, or anywhere; ahead of blocks, between them, and behind all.
func TestWhere(t *testing.T) {
	for op, r := range rows {
		if op == api.Begin || op == api.End {
			continue
		}
		for at := range 9 {
			p := prog{set, begin, set, end, set, begin, set, end, set}
			if p[at] != set {
				continue
			}
			p[at] = sample(op, at)
			inside := at == 2 || at == 6
			placed(t, p, at, r.where == anywhere || r.where == within == inside)
		}
	}
}

// P7.1: how long a program may be. That it is too long is told ahead of all else.
func TestLength(t *testing.T) {
	checks(t, "nil", nil, 0, api.OK)
	checks(t, "empty", prog{}, 0, api.OK)
	for n := range 200 {
		long := api.OK
		if n > 48 {
			long = api.ErrLong
		}
		checks(t, fmt.Sprint(n), slices.Repeat(prog{set}, n), 0, long)
	}
	for _, n := range []int{49, 50, 96, 256, 1 << 16, 1 << 20} {
		checks(t, "not closed", slices.Repeat(prog{begin}, n), 0, api.ErrLong)
		checks(t, "closing none", slices.Repeat(prog{end}, n), 0, api.ErrLong)
		checks(t, "no op", append(prog{set, {Op: 99}}, slices.Repeat(prog{set}, n)...), 0, api.ErrLong)
	}
	checks(t, "48, the last one wrong", append(slices.Repeat(prog{halt}, 47), load), 47, api.ErrCode)
	checks(t, "48, in a block", append(append(prog{begin}, slices.Repeat(prog{load}, 46)...), end), 0, api.OK)
	checks(t, "24 blocks", slices.Repeat(prog{begin, end}, 24), 0, api.OK)
}

// P7.1: room behind a program isn't looked at.
func TestSpareRoom(t *testing.T) {
	p := slices.Repeat(prog{begin, end}, 60)
	checks(t, "cut", p[:4], 0, api.OK)
	checks(t, "cut, not closed", p[:3], 0, api.ErrCode)
	checks(t, "a place in the room", append(prog{set, jump(3)}, p...)[:2], 1, api.ErrCode)
}

// P7.1: blocks that aren't closed, or stand in one another, or an End that closes none: 0, whatever else is wrong.
func TestBlocksWrong(t *testing.T) {
	for name, p := range map[string]prog{
		"Begin alone":               {begin},
		"End alone":                 {end},
		"the wrong way round":       {end, begin},
		"the second one not closed": {begin, end, set, begin, load},
		"the second End":            {set, begin, load, end, end},
		"one in another":            {begin, begin, end, end},
		"one in another, further":   {set, begin, load, begin, load, end, end},
		"Begin, Begin, End":         {set, begin, begin, end},
		"the last one":              {set, set, begin},
		"behind a wrong one":        {set, {Op: 99}, begin},
		"behind one inside only":    {set, load, end},
		"behind a wrong place":      {set, jump(0), begin, begin, end, end},
		"behind wrong fields":       {set, {Op: api.Const, A: 9}, begin, end, end},
		"ahead of wrong ones":       {set, begin, halt, load},
	} {
		checks(t, name, p, 0, api.ErrCode)
	}
}

// P7.1 and P7.2: each place of a program of blocks and more, named from each instruction that may name one.
func TestPlaces(t *testing.T) {
	base := prog{set, set, begin, set, set, end, set, begin, set, end, begin, end, set, set}
	block := []int{0, 0, 0, 1, 1, 1, 0, 0, 2, 2, 0, 3, 0, 0, 0} // of each instruction, and of the end
	places := []int{math.MinInt, -1 << 32, -15, -14, -1, 15, 16, 47, 48, 49, 1 << 32, 1<<32 + 13, math.MaxInt - 1, math.MaxInt}
	for to := range block {
		places = append(places, to)
	}
	for at, x := range base {
		if x != set {
			continue
		}
		for _, to := range places {
			can := at < to && to <= 14 && block[to] == block[at]
			for kind := range 3 {
				p := slices.Clone(base)
				p[at] = api.Instr{Op: api.Jump, A: to, B: 3, C: kind}
				placed(t, p, at, can)
			}
			p := slices.Clone(base)
			p[at] = other(to)
			placed(t, p, at, can && block[at] != 0)
		}
	}
}

// P7.1 and P7.2: the end of the longest program is a place too; one further isn't.
func TestPlaceOfTheEnd(t *testing.T) {
	for at := range 48 {
		for _, to := range []int{at, at + 1, 47, 48, 49} {
			p := slices.Repeat(prog{halt}, 48)
			p[at] = jump(to)
			placed(t, p, at, at < to && to <= 48)
		}
	}
	checks(t, "the end, from a block", prog{set, begin, jump(4), end}, 2, api.ErrCode)
	checks(t, "behind the block, from it", prog{set, begin, jump(4), end, set}, 2, api.ErrCode)
	checks(t, "the End, from outside", prog{set, jump(3), begin, end}, 1, api.ErrCode)
	checks(t, "Else to the End", prog{begin, other(2), end}, 0, api.OK)
}

// P7.1: what stands behind an Inev, up to the End of its block.
func TestInev(t *testing.T) {
	for op, r := range rows {
		if r.where == without || op == api.Begin || op == api.End {
			continue
		}
		forbidden := op == api.Recv || op == api.Retry || op == api.Else || op == api.Inev
		for _, ahead := range []prog{{begin, inev}, {begin, load, inev, send, jump(6), send}} {
			at := len(ahead)
			p := append(slices.Clone(ahead), sample(op, at), load, end)
			placed(t, p, at, !forbidden)
		}
	}
	checks(t, "ahead of it", prog{begin, recv, retry, other(4), inev, end}, 0, api.OK)
	checks(t, "in the next block", prog{begin, inev, end, begin, recv, retry, other(7), inev, end}, 0, api.OK)
	checks(t, "in each block", prog{begin, inev, end, begin, inev, end, begin, inev, end}, 0, api.OK)
	checks(t, "in the next block, behind another", prog{begin, inev, end, begin, inev, retry, end}, 5, api.ErrCode)
	checks(t, "leapt over", prog{begin, jump(3), inev, retry, end}, 3, api.ErrCode)
	checks(t, "on another way", prog{begin, other(4), inev, jump(5), retry, end}, 4, api.ErrCode)
	checks(t, "the first of two", prog{begin, inev, retry, recv, end}, 2, api.ErrCode)
}

// P7.1: how many Elses stand in a block.
func TestElses(t *testing.T) {
	for n := range 20 {
		p := prog{set, begin}
		for range n {
			p = append(p, other(len(p)+1))
		}
		p = append(p, end)
		if n <= 3 {
			checks(t, fmt.Sprint(n), p, 0, api.OK)
		} else {
			checks(t, fmt.Sprint(n), p, 5, api.ErrCode)
		}
	}
	three := func(at int) prog { return prog{begin, other(at + 4), load, other(at + 4), other(at + 5), end} }
	checks(t, "three in each", slices.Concat(three(0), three(6), three(12)), 0, api.OK)
	checks(t, "three, and four", append(three(0), begin, other(8), other(9), other(10), load, other(12), end), 11, api.ErrCode)
}

// P7.1: of several wrong instructions the first one is told, whatever is wrong with it.
func TestFirstWrong(t *testing.T) {
	wrong := prog{{Op: 22}, {Op: -1}, load, retry, {Op: api.Const, A: 4}, jump(0), jump(99), other(9), {Op: api.Halt, C: 1}}
	for _, one := range wrong {
		for _, two := range wrong {
			for first := range 6 {
				for second := first + 1; second < 7; second++ {
					p := slices.Repeat(prog{set}, 7)
					p[first], p[second] = one, two
					checks(t, fmt.Sprint(first, one, second, two), p, first, api.ErrCode)
				}
			}
		}
	}
}

// P7.1: the chapter's examples.
func TestChapter(t *testing.T) {
	checks(t, "Begin, End", prog{begin, end}, 0, api.OK)
	checks(t, "Begin alone", prog{begin}, 0, api.ErrCode)
}

// P7.1: how many Begins there are, of programs that can't be too.
func TestBlocks(t *testing.T) {
	for _, c := range []struct {
		p    prog
		want int
	}{
		{nil, 0}, {prog{}, 0}, {prog{set, halt}, 0}, {prog{end, end}, 0},
		{prog{begin}, 1}, {prog{begin, end}, 1}, {prog{end, begin}, 1}, {prog{set, begin, load, end, halt}, 1},
		{prog{begin, end, begin, end}, 2}, {prog{begin, begin, end}, 2}, {prog{begin, begin, begin}, 3},
		{prog{{Op: 99}, begin, {Op: -4}, {Op: 4 + 1<<32}}, 1},
		{slices.Repeat(prog{begin, end}, 24), 24},
		{slices.Repeat(prog{begin}, 49), 49},
		{slices.Repeat(prog{set, begin}, 1<<17), 1 << 17},
	} {
		if got := code.Blocks(c.p); got != c.want {
			t.Errorf("%.80s: %d, want %d", fmt.Sprint(c.p), got, c.want)
		}
	}
}

// P7.1, with rule 3: a program that is handed in isn't changed, spare room included.
func TestHandedIn(t *testing.T) {
	room := prog{begin, other(3), inev, end, jump(6), halt, begin, retry, end, {Op: 99, A: 5}, load, begin}
	for n := range len(room) + 1 {
		p := slices.Clone(room)
		code.Check(p[:n])
		code.Blocks(p[:n])
		if !slices.Equal(p, room) {
			t.Fatalf("%d: %v", n, p)
		}
	}
}
