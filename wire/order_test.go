package wire_test

import (
	"fmt"
	"slices"
	"strings"
	"testing"

	"countermand/wire"
)

// Where a byte is.
const (
	toGo = iota
	onWay
	came
	lost
)

// item is a byte that was pushed, and where it is.
type item struct {
	b     byte
	where int
}

// model is a wire told another way: each byte that was ever pushed knows where it is.
type model [3][]item

// states answers what can be asked of a wire like the model.
func (m *model) states() states {
	var s states
	for sock, items := range m {
		for _, it := range items {
			if it.where == lost {
				continue
			}
			s[sock].all += string([]byte{it.b})
			if it.where == came {
				s[sock].trace += string([]byte{it.b})
			} else {
				s[sock].left++
			}
		}
	}
	return s
}

// count answers how many bytes of a socket are at a place.
func (m *model) count(sock, where int) int {
	n := 0
	for _, it := range m[sock] {
		if it.where == where {
			n++
		}
	}
	return n
}

// move lets the first byte of a socket that is at a place go to another one, and answers it; empty: there is none.
func (m *model) move(sock, from, to int) string {
	for i, it := range m[sock] {
		if it.where == from {
			m[sock][i].where = to
			return string([]byte{it.b})
		}
	}
	return ""
}

// pushed answers all that was ever pushed to a socket.
func (m *model) pushed(sock int) string {
	s := ""
	for _, it := range m[sock] {
		s += string([]byte{it.b})
	}
	return s
}

// player is a wire, the model of it, how many bytes were pushed, and whether there was a crash.
type player struct {
	wire    *wire.Wire
	mod     *model
	bytes   int
	crashed bool
}

// call is one call, of a wire and of the model; it answers what both did.
type call struct {
	name string
	do   func(p *player) (got, want string)
}

// there tells whether the model has such a socket.
func there(sock int) bool { return sock == 0 || sock == 1 || sock == 2 }

// push answers the call of Push of so many bytes, each of them another one than those near it.
func push(sock, n int) call {
	return call{fmt.Sprintf("Push(%d, %d bytes)", sock, n), func(p *player) (string, string) {
		s := make([]byte, n)
		for i := range s {
			s[i] = byte(p.bytes)
			p.bytes++
			if there(sock) {
				p.mod[sock] = append(p.mod[sock], item{s[i], toGo})
			}
		}
		return fmt.Sprint(p.wire.Push(sock, string(s))), fmt.Sprint(there(sock))
	}}
}

// pump answers the call of Pump.
func pump(sock int) call {
	return call{fmt.Sprintf("Pump(%d)", sock), func(p *player) (string, string) {
		n := 0
		for there(sock) && p.mod.count(sock, onWay) < 8 && p.mod.move(sock, toGo, onWay) != "" {
			n++
		}
		return fmt.Sprint(p.wire.Pump(sock)), fmt.Sprint(n)
	}}
}

// take answers the call of Take.
func take(sock, n int) call {
	return call{fmt.Sprintf("Take(%d, %d)", sock, n), func(p *player) (string, string) {
		want := ""
		for i := 0; i < n && there(sock); i++ {
			want += p.mod.move(sock, onWay, came)
		}
		return p.wire.Take(sock, n), want
	}}
}

// crash answers the call of Crash.
func crash() call {
	return call{"Crash()", func(p *player) (string, string) {
		p.wire.Crash()
		p.crashed = true
		for sock := range p.mod {
			for p.mod.move(sock, toGo, lost) != "" || p.mod.move(sock, onWay, lost) != "" {
			}
		}
		return "", ""
	}}
}

// play does one call, and holds what the wire has against the model, and against P6.2.
func (p *player) play(t *testing.T, c call, names []string) {
	t.Helper()
	before := of(p.wire)
	if got, want := c.do(p); got != want {
		t.Fatalf("%q: %q, want %q", names, got, want)
	}
	now, want := of(p.wire), p.mod.states()
	if now != want {
		t.Fatalf("%q: %v, want %v", names, now, want)
	}
	for sock, s := range now {
		if !strings.HasPrefix(s.trace, before[sock].trace) {
			t.Fatalf("%q: what came to socket %d's peer was %q, and is %q", names, sock, before[sock].trace, s.trace)
		}
		if !strings.HasPrefix(s.all, s.trace) || s.left != len(s.all)-len(s.trace) {
			t.Fatalf("%q: socket %d: %v", names, sock, s)
		}
		if !p.crashed && s.all != p.mod.pushed(sock) {
			t.Fatalf("%q: socket %d has %q of %q", names, sock, s.all, p.mod.pushed(sock))
		}
	}
}

// rows does every row of so many calls to a wire of its own.
func rows(t *testing.T, all []call, length int, row []call) {
	if length > 0 {
		for _, c := range all {
			rows(t, all, length-1, append(slices.Clone(row), c))
		}
		return
	}
	p := &player{wire: wire.New(), mod: &model{}}
	var names []string
	for _, c := range row {
		names = append(names, c.name)
		p.play(t, c, names)
	}
}

// P6.1 and P6.2: the calls to one socket in every order, six of them, each row held against the model behind every call.
func TestEveryOrder(t *testing.T) {
	rows(t, []call{push(0, 3), push(0, 11), pump(0), take(0, 2), take(0, 8), crash()}, 6, nil)
}

// P6.1 and P6.2: the same with more sockets and wrong arguments, four of them.
func TestEveryOrderOfSockets(t *testing.T) {
	rows(t, []call{
		push(0, 9), push(1, 2), push(2, 0), push(3, 1), push(-1, 1),
		pump(0), pump(1), pump(3),
		take(0, 3), take(1, 99), take(0, 0), take(0, -1), take(3, 1),
		crash(),
	}, 4, nil)
}

// P6.1 and P6.2: long rows of calls, with crashes and without.
func TestLongRows(t *testing.T) {
	var all []call
	for sock := -1; sock <= 3; sock++ {
		all = append(all, push(sock, 0), push(sock, 1), push(sock, 5), push(sock, 20),
			pump(sock), pump(sock), pump(sock),
			take(sock, -7), take(sock, 1), take(sock, 3), take(sock, 8), take(sock, 9))
	}
	pick := uint32(11)
	for row := range 300 {
		set := all
		if row%2 == 0 {
			set = append(slices.Clone(all), crash())
		}
		p := &player{wire: wire.New(), mod: &model{}}
		var names []string
		for range 150 {
			pick = pick*1664525 + 1013904223
			c := set[int(pick>>16)%len(set)]
			names = append(names, c.name)
			p.play(t, c, names)
		}
	}
}

// P6.2: without a crash all comes to the peer in the end, in order, however it is pumped and taken.
func TestAllComes(t *testing.T) {
	for n := 1; n <= 10; n++ {
		w := wire.New()
		pushed, took := "", ""
		for i := range 40 {
			s := strings.Repeat(string(rune('a'+i%26)), i%6)
			pushes(t, w, 1, s)
			pushed += s
			w.Pump(1)
			took += w.Take(1, n)
			has(t, "on", w, states{1: {took, pushed, len(pushed) - len(took)}})
		}
		for w.Left(1) > 0 {
			if w.Pump(1)+len(w.Take(1, n)) == 0 {
				t.Fatalf("%d are left", w.Left(1))
			}
		}
		has(t, "all", w, states{1: {pushed, pushed, 0}})
	}
}
