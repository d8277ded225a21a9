package acts_test

import (
	"fmt"
	"math"
	"slices"
	"testing"

	"countermand/acts"
)

// all is what acts answer, in every way that changes nothing.
type all struct {
	output []acts.Out
	notes  []int
	undo   []acts.Open
	mark   acts.Mark
}

// has tells a fault if acts don't answer this, twice.
func has(t *testing.T, name string, a *acts.Acts, want all) {
	t.Helper()
	for range 2 {
		if got := a.Output(); !slices.Equal(got, want.output) {
			t.Fatalf("%s: Output is %v, want %v", name, got, want.output)
		}
		if got := a.Notes(); !slices.Equal(got, want.notes) {
			t.Fatalf("%s: Notes is %v, want %v", name, got, want.notes)
		}
		if got := a.Undo(); !slices.Equal(got, want.undo) {
			t.Fatalf("%s: Undo is %v, want %v", name, got, want.undo)
		}
		if got := a.Mark(); got != want.mark {
			t.Fatalf("%s: Mark is %v, want %v", name, got, want.mark)
		}
	}
}

// full makes acts with so many of each: bytes that count on from 1, at sockets by turns; notes from 1 on; opens of tallies by turns, from 1 on.
func full(t *testing.T, m acts.Mark) *acts.Acts {
	t.Helper()
	a := &acts.Acts{}
	for k := range m[0] {
		if !a.Send(k%3, byte(k+1)) {
			t.Fatalf("Send(%d, %d) is false", k%3, k+1)
		}
	}
	for k := range m[1] {
		if !a.Later(k%3, byte(k+1)) {
			t.Fatalf("Later(%d, %d) is false", k%3, k+1)
		}
	}
	for k := range m[2] {
		if !a.Note(k + 1) {
			t.Fatalf("Note(%d) is false", k+1)
		}
	}
	for k := range m[3] {
		if !a.Opened(k%4, k+1) {
			t.Fatalf("Opened(%d, %d) is false", k%4, k+1)
		}
	}
	return a
}

// outs answers the first bytes of full.
func outs(many int) []acts.Out {
	var row []acts.Out
	for k := range many {
		row = append(row, acts.Out{Sock: k % 3, Byte: byte(k + 1)})
	}
	return row
}

// undone answers what makes up for the opens of full from one on and ahead of another one.
func undone(from, to int) []acts.Open {
	var row []acts.Open
	for k := to - 1; k >= from; k-- {
		row = append(row, acts.Open{Tally: k % 4, Delta: -k - 1})
	}
	return row
}

// of answers what acts of full have.
func of(m acts.Mark) all {
	var notes []int
	for k := range m[2] {
		notes = append(notes, k+1)
	}
	return all{append(outs(m[0]), outs(m[1])...), notes, undone(0, m[3]), m}
}

// P16.1: empty ones.
func TestEmpty(t *testing.T) {
	has(t, "empty ones", &acts.Acts{}, all{})
	var a acts.Acts
	has(t, "some in a variable", &a, all{})
	if a.Flush() != nil || a.Back(acts.Mark{}) != nil || a.Back(acts.Mark{1, 1, 1, 1}) != nil {
		t.Error("Flush or Back of empty ones answers something")
	}
	has(t, "behind Flush and Back", &a, all{})
	if !a.Note(0) {
		t.Error("Note(0) is false")
	}
	has(t, "behind Note", &a, all{notes: []int{0}, mark: acts.Mark{0, 0, 1, 0}})
}

// P16.1: every byte to every socket, at once and behind.
func TestEveryByte(t *testing.T) {
	for sock := range 3 {
		for b := range 256 {
			name, row := fmt.Sprintf("%d to socket %d", b, sock), []acts.Out{{Sock: sock, Byte: byte(b)}}
			a := &acts.Acts{}
			if !a.Send(sock, byte(b)) {
				t.Fatalf("%s: Send is false", name)
			}
			has(t, name, a, all{output: row, mark: acts.Mark{1}})
			a = &acts.Acts{}
			if !a.Later(sock, byte(b)) {
				t.Fatalf("%s: Later is false", name)
			}
			has(t, name, a, all{output: row, mark: acts.Mark{0, 1}})
			if got := a.Flush(); len(got) > 0 {
				t.Fatalf("%s: Flush answers %v, though it goes out behind", name, got)
			}
			has(t, name, a, all{output: row, mark: acts.Mark{0, 1}})
		}
	}
}

// numbers are some at the edges of 64 bits, and near 0.
var numbers = []int{0, 1, 5, -1, -5, 255, 256, 1 << 32, -1 << 32, math.MaxInt - 1, math.MaxInt, math.MinInt, math.MinInt + 1}

// P16.1: notes of any number, the same one twice too.
func TestNotes(t *testing.T) {
	a, want := &acts.Acts{}, all{}
	for _, n := range append(numbers, numbers...) {
		if !a.Note(n) {
			t.Fatalf("Note(%d) is false", n)
		}
		want.notes = append(want.notes, n)
		want.mark[2]++
		has(t, fmt.Sprintf("behind Note(%d)", n), a, want)
	}
}

// P16.1, P16.2: opens of every tally by any number; what makes up for the least one is that one itself.
func TestOpens(t *testing.T) {
	for tally := range 4 {
		a, want, sum := &acts.Acts{}, all{}, 0
		for _, n := range append(numbers, numbers...) {
			if !a.Opened(tally, n) {
				t.Fatalf("Opened(%d, %d) is false", tally, n)
			}
			amends := acts.Open{Tally: tally, Delta: 0 - n}
			want.undo = append([]acts.Open{amends}, want.undo...)
			want.mark[3]++
			has(t, fmt.Sprintf("behind Opened(%d, %d)", tally, n), a, want)
			sum += n
			left := sum
			for _, o := range a.Undo() {
				left += o.Delta
			}
			if left != 0 {
				t.Fatalf("behind Opened(%d, %d): %d is left", tally, n, left)
			}
		}
	}
	a := &acts.Acts{}
	a.Opened(2, math.MinInt)
	has(t, "the least number", a, all{undo: []acts.Open{{Tally: 2, Delta: math.MinInt}}, mark: acts.Mark{0, 0, 0, 1}})
}

// P16.1: where there is no such socket, or tally, nothing happens.
func TestNoSuch(t *testing.T) {
	for _, m := range []acts.Mark{{}, {1, 1, 1, 1}, {4, 3, 2, 5}} {
		a := full(t, m)
		for _, none := range []int{-1, 3, 4, 5, -2, 63, 1 << 32, math.MaxInt, math.MinInt} {
			if a.Send(none, 'a') || a.Later(none, 'a') {
				t.Errorf("a byte goes to socket %d", none)
			}
			if none != 3 && a.Opened(none, 1) {
				t.Errorf("tally %d is opened", none)
			}
			has(t, fmt.Sprintf("behind calls of %d", none), a, of(m))
		}
	}
}

// P16.1: bytes behind stand behind all others, whatever was told first.
func TestBehind(t *testing.T) {
	a := &acts.Acts{}
	a.Later(0, 'x')
	a.Send(1, 'a')
	a.Later(1, 'y')
	a.Send(0, 'b')
	a.Later(0, 'x')
	a.Send(1, 'a')
	out, behind := []acts.Out{{1, 'a'}, {0, 'b'}, {1, 'a'}}, []acts.Out{{0, 'x'}, {1, 'y'}, {0, 'x'}}
	has(t, "both", a, all{output: slices.Concat(out, behind), mark: acts.Mark{3, 3}})
	if got := a.Flush(); !slices.Equal(got, out) {
		t.Errorf("Flush is %v, want %v", got, out)
	}
	has(t, "those behind", a, all{output: behind, mark: acts.Mark{0, 3}})
	a.Send(2, 'c')
	has(t, "one more", a, all{output: append([]acts.Out{{2, 'c'}}, behind...), mark: acts.Mark{1, 3}})
}

// P16.1: Flush, of every few of each; what is gone is gone once.
func TestFlush(t *testing.T) {
	for k := range 256 {
		m := acts.Mark{k & 3, k >> 2 & 3, k >> 4 & 3, k >> 6 & 3}
		a := full(t, m)
		if got := a.Flush(); !slices.Equal(got, outs(m[0])) {
			t.Fatalf("%v: Flush is %v", m, got)
		}
		less := m
		less[0] = 0
		has(t, fmt.Sprint(m, " behind Flush"), a, of(less))
		if got := a.Flush(); len(got) > 0 {
			t.Fatalf("%v: Flush is %v, the second time", m, got)
		}
		has(t, fmt.Sprint(m, " behind two"), a, of(less))
	}
}

// cut answers how many stay, of so many, at a number of a mark.
func cut(many, stay int) int {
	switch {
	case stay < 0:
		return 0
	case stay < many:
		return stay
	}
	return many
}

// P16.1: Back at every mark, of every few of each: each has its own number, below 0 and beyond what there is too.
func TestBack(t *testing.T) {
	for _, many := range []acts.Mark{{}, {1, 1, 1, 1}, {2, 2, 2, 2}, {3, 0, 2, 1}, {0, 2, 0, 3}, {5, 6, 7, 8}} {
		for _, stays := range [][]int{{-1, 0, 1, 2, 3}, {math.MinInt, math.MaxInt, 1}, {4, 5, 6, 7}} {
			n := len(stays)
			for k := range n * n * n * n {
				m := acts.Mark{stays[k%n], stays[k/n%n], stays[k/n/n%n], stays[k/n/n/n]}
				back(t, many, m)
			}
		}
	}
}

// back holds Back of so many of each against what the chapter says.
func back(t *testing.T, many, m acts.Mark) {
	t.Helper()
	name, a := fmt.Sprint(many, " back at ", m), full(t, many)
	var left acts.Mark
	for i := range left {
		left[i] = cut(many[i], m[i])
	}
	if got, want := a.Back(m), undone(left[3], many[3]); !slices.Equal(got, want) {
		t.Fatalf("%s: %v, want %v", name, got, want)
	}
	has(t, name, a, of(left))
	if got := a.Back(m); len(got) > 0 {
		t.Fatalf("%s: %v, the second time", name, got)
	}
	has(t, name+", twice", a, of(left))
}

// P16.1: what is told behind Back stands behind what stayed.
func TestBehindBack(t *testing.T) {
	for stay := range 5 {
		a := full(t, acts.Mark{4, 4, 4, 4})
		a.Back(acts.Mark{stay, stay, stay, stay})
		a.Send(2, 'n')
		a.Later(1, 'm')
		a.Note(-7)
		a.Opened(3, 70)
		stayed := min(stay, 4)
		var want all
		want.output = append(append(outs(stayed), acts.Out{Sock: 2, Byte: 'n'}), append(outs(stayed), acts.Out{Sock: 1, Byte: 'm'})...)
		want.notes = append(of(acts.Mark{0, 0, stayed, 0}).notes, -7)
		want.undo = append([]acts.Open{{Tally: 3, Delta: -70}}, undone(0, stayed)...)
		want.mark = acts.Mark{stayed + 1, stayed + 1, stayed + 1, stayed + 1}
		has(t, fmt.Sprint("behind Back at ", stay), a, want)
	}
}

// P16.1: a mark of bytes that went out meanwhile lets all stay that there are.
func TestBackBehindFlush(t *testing.T) {
	a := full(t, acts.Mark{3, 1, 1, 1})
	m := a.Mark()
	a.Flush()
	a.Send(0, 'p')
	a.Note(9)
	if got := a.Back(m); len(got) > 0 {
		t.Errorf("Back is %v", got)
	}
	has(t, "behind Flush, Send and Back", a, all{[]acts.Out{{0, 'p'}, {0, 1}}, []int{1}, undone(0, 1), acts.Mark{1, 1, 1, 1}})
}

// spoil writes over a list, and into its spare room.
func spoil[T any](row []T, x T) {
	for i := range row {
		row[i] = x
	}
	spare := row[len(row):cap(row)]
	for i := range spare {
		spare[i] = x
	}
}

// P16.1: an answer is the caller's own: neither side sees what the other one does with it.
func TestAnswersAreNew(t *testing.T) {
	// Up to eight of each, so that lists have room to spare, or none, by turns.
	for k := range 81 {
		m := acts.Mark{k % 9, k / 9, k % 9, k / 9}
		for stay := range 4 {
			own(t, m, acts.Mark{min(stay, m[0]), min(stay, m[1]), min(stay, m[2]), min(stay, m[3])})
		}
	}
}

// own holds that answers of so many of each, and back at a mark, are new memory.
func own(t *testing.T, m, left acts.Mark) {
	t.Helper()
	name, a := fmt.Sprint(m, " and ", left), full(t, m)
	spoil(a.Output(), acts.Out{Sock: 9, Byte: 9})
	spoil(a.Notes(), 99)
	spoil(a.Undo(), acts.Open{Tally: 9, Delta: 9})
	has(t, name+", answers spoilt", a, of(m))
	before, output, notes, undo := of(m), a.Output(), a.Notes(), a.Undo()
	more(a)
	made := a.Back(left)
	more(a)
	if !slices.Equal(output, before.output) || !slices.Equal(notes, before.notes) || !slices.Equal(undo, before.undo) {
		t.Fatalf("%s: an answer has changed", name)
	}
	if want := append([]acts.Open{{Tally: 3, Delta: -50}}, undone(left[3], m[3])...); !slices.Equal(made, want) {
		t.Fatalf("%s: what Back answered is %v now", name, made)
	}
	spoil(a.Back(left), acts.Open{Tally: 9, Delta: 9})
	gone := a.Flush()
	a.Send(1, 'r')
	if !slices.Equal(gone, outs(left[0])) {
		t.Fatalf("%s: what Flush answered is %v now", name, gone)
	}
	spoil(gone, acts.Out{Sock: 9, Byte: 9})
	want := of(acts.Mark{0, left[1], left[2], left[3]})
	want.output = append([]acts.Out{{1, 'r'}}, want.output...)
	want.mark[0] = 1
	has(t, name+", all spoilt", a, want)
}

// more tells acts one more of each.
func more(a *acts.Acts) {
	a.Send(2, 'q')
	a.Later(2, 'q')
	a.Note(50)
	a.Opened(3, 50)
}

// P16.1: two acts know nothing of one another.
func TestTwo(t *testing.T) {
	a, b := full(t, acts.Mark{2, 2, 2, 2}), full(t, acts.Mark{3, 1, 0, 4})
	a.Back(acts.Mark{1, 0, 1, 0})
	has(t, "the other one", b, of(acts.Mark{3, 1, 0, 4}))
	b.Flush()
	b.Back(a.Mark())
	has(t, "the first one", a, of(acts.Mark{1, 0, 1, 0}))
	has(t, "the other one, behind all", b, of(acts.Mark{0, 0, 0, 0}))
}

// P16.1: of nil acts nothing, false.
func TestNil(t *testing.T) {
	var a *acts.Acts
	for sock := -1; sock < 5; sock++ {
		if a.Send(sock, 'a') || a.Later(sock, 'a') || a.Opened(sock, 1) || a.Note(sock) {
			t.Errorf("%d: nil acts have more", sock)
		}
	}
	has(t, "nil ones", a, all{})
	if a.Flush() != nil || a.Back(acts.Mark{1, 2, 3, 4}) != nil || a.Back(acts.Mark{-1, -1, -1, -1}) != nil {
		t.Error("Flush or Back of nil acts answers something")
	}
}

// P16.1: the chapter's example.
func TestChapter(t *testing.T) {
	a := &acts.Acts{}
	a.Opened(1, 5)
	a.Opened(2, 3)
	has(t, "the chapter's", a, all{undo: []acts.Open{{2, -3}, {1, -5}}, mark: acts.Mark{0, 0, 0, 2}})
}
