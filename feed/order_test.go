package feed_test

import (
	"fmt"
	"slices"
	"strings"
	"testing"

	"countermand/api"
	"countermand/feed"
)

// item is a byte that arrived, and whether it was taken.
type item struct {
	b     byte
	taken bool
}

// model is a feed told another way: each byte knows whether it was taken.
type model struct {
	items    [3][]item
	versions [3]int
}

// states answers what can be asked of a feed like the model.
func (m *model) states() states {
	var s states
	for sock, items := range m.items {
		s[sock].version = m.versions[sock]
		for _, it := range items {
			b := string([]byte{it.b})
			s[sock].text += b
			if it.taken {
				s[sock].place++
			} else {
				s[sock].left += b
			}
		}
	}
	return s
}

// arrive lets bytes arrive at the model.
func (m *model) arrive(sock int, s string) api.Errno {
	if !there(sock) {
		return api.ErrArg
	}
	room := 64
	for range m.items[sock] {
		room--
	}
	if len(s) > room {
		return api.ErrFull
	}
	for _, b := range []byte(s) {
		m.items[sock] = append(m.items[sock], item{b, false})
	}
	return api.OK
}

// take takes the model's bytes up to a place, if none behind it was taken, and none is missed ahead of it.
func (m *model) take(sock, place, version int) bool {
	if !there(sock) || place < 0 || place > len(m.items[sock]) {
		return false
	}
	for _, it := range m.items[sock][place:] {
		if it.taken {
			return false
		}
	}
	for i := range place {
		m.items[sock][i].taken = true
	}
	m.versions[sock] = version
	return true
}

// there tells whether the model has such a socket.
func there(sock int) bool { return sock == 0 || sock == 1 || sock == 2 }

// player is a feed, the model of it, and how many bytes and versions there were.
type player struct {
	feed  *feed.Feed
	mod   *model
	count int
}

// call is one call, of a feed and of the model; it answers what both did.
type call struct {
	name string
	do   func(p *player) (got, want string)
}

// arrive answers the call of Arrive of so many bytes, each of them another one than those near it.
func arrive(sock, n int) call {
	return call{fmt.Sprintf("Arrive(%d, %d bytes)", sock, n), func(p *player) (string, string) {
		s := make([]byte, n)
		for i := range s {
			s[i] = byte(p.count)
			p.count++
		}
		return fmt.Sprint(p.feed.Arrive(sock, string(s))), fmt.Sprint(p.mod.arrive(sock, string(s)))
	}}
}

// take answers the call of Take, each time with another version.
func take(sock, place int) call {
	return call{fmt.Sprintf("Take(%d, %d)", sock, place), func(p *player) (string, string) {
		p.count++
		version := p.count * 7 % 50
		return fmt.Sprint(p.feed.Take(sock, place, version)), fmt.Sprint(p.mod.take(sock, place, version))
	}}
}

// play does one call, and holds what the feed has against the model, and against P11.2.
func (p *player) play(t *testing.T, c call, names []string) {
	t.Helper()
	before := of(p.feed)
	if got, want := c.do(p); got != want {
		t.Fatalf("%q: %s, want %s", names, got, want)
	}
	now, want := of(p.feed), p.mod.states()
	if now != want {
		t.Fatalf("%q: %v, want %v", names, now, want)
	}
	for sock, s := range now {
		if !strings.HasPrefix(s.text, before[sock].text) {
			t.Fatalf("%q: at socket %d %q had arrived, and now %q", names, sock, before[sock].text, s.text)
		}
		if s.place < before[sock].place || s.text[s.place:] != s.left {
			t.Fatalf("%q: socket %d was %v, and is %v", names, sock, before[sock], s)
		}
		for place := range s.text {
			if p.feed.At(sock, place) != int(s.text[place]) {
				t.Fatalf("%q: At(%d, %d) is %d", names, sock, place, p.feed.At(sock, place))
			}
		}
		if got := p.feed.At(sock, len(s.text)); got != -1 {
			t.Fatalf("%q: At(%d, %d) is %d", names, sock, len(s.text), got)
		}
	}
}

// rows does every row of so many calls to a feed of its own.
func rows(t *testing.T, all []call, length int, row []call) {
	if length > 0 {
		for _, c := range all {
			rows(t, all, length-1, append(slices.Clone(row), c))
		}
		return
	}
	p := &player{feed: feed.New(), mod: &model{}}
	var names []string
	for _, c := range row {
		names = append(names, c.name)
		p.play(t, c, names)
	}
}

// P11.1 and P11.2: the calls to one socket in every order, five of them, each row held against the model behind every call.
func TestEveryOrder(t *testing.T) {
	rows(t, []call{arrive(0, 0), arrive(0, 2), arrive(0, 31), take(0, 0), take(0, 2), take(0, 33), take(0, 64)}, 5, nil)
}

// P11.1 and P11.2: the same with more sockets and wrong arguments, three of them.
func TestEveryOrderOfSockets(t *testing.T) {
	rows(t, []call{
		arrive(0, 3), arrive(1, 64), arrive(2, 65), arrive(3, 1), arrive(-1, 0),
		take(0, 2), take(0, -1), take(1, 1), take(1, 64), take(1, 65), take(2, 0), take(3, 0), take(-1, 0),
	}, 3, nil)
}

// P11.1 and P11.2: long rows of calls.
func TestLongRows(t *testing.T) {
	var all []call
	for sock := -1; sock <= 3; sock++ {
		all = append(all, arrive(sock, 0), arrive(sock, 1), arrive(sock, 2), arrive(sock, 5), arrive(sock, 13))
		for _, place := range []int{-5, 0, 1, 2, 3, 5, 8, 13, 21, 34, 55, 63, 64, 65} {
			all = append(all, take(sock, place))
		}
	}
	pick := uint32(11)
	for range 200 {
		p := &player{feed: feed.New(), mod: &model{}}
		var names []string
		for range 150 {
			pick = pick*1664525 + 1013904223
			c := all[int(pick>>16)%len(all)]
			names = append(names, c.name)
			p.play(t, c, names)
		}
	}
}
