package wire_test

import (
	"fmt"
	"math"
	"strings"
	"testing"

	"countermand/wire"
)

// state is all that can be asked of a socket's way out.
type state struct {
	trace, all string
	left       int
}

// String tells a state in a line that isn't too long.
func (s state) String() string {
	return fmt.Sprintf("%.40q came of %.40q, %d left", s.trace, s.all, s.left)
}

// states is the states of all sockets.
type states [3]state

// of answers what a wire has.
func of(w *wire.Wire) states {
	var s states
	for sock := range s {
		s[sock] = state{w.Trace(sock), w.All(sock), w.Left(sock)}
	}
	return s
}

// has tells a fault if a wire has other things than these.
func has(t *testing.T, name string, w *wire.Wire, want states) {
	t.Helper()
	if got := of(w); got != want {
		t.Errorf("%s: %v, want %v", name, got, want)
	}
}

// pushes tells a fault if Push is refused.
func pushes(t *testing.T, w *wire.Wire, sock int, s string) {
	t.Helper()
	if !w.Push(sock, s) {
		t.Errorf("Push(%d, %.40q) is refused", sock, s)
	}
}

// pumps tells a fault if Pump answers another number.
func pumps(t *testing.T, w *wire.Wire, sock, want int) {
	t.Helper()
	if got := w.Pump(sock); got != want {
		t.Errorf("Pump(%d): %d, want %d", sock, got, want)
	}
}

// takes tells a fault if Take answers other bytes.
func takes(t *testing.T, w *wire.Wire, sock, n int, want string) {
	t.Helper()
	if got := w.Take(sock, n); got != want {
		t.Errorf("Take(%d, %d): %.40q, want %.40q", sock, n, got, want)
	}
}

// noSocks are numbers of which there is no socket.
var noSocks = []int{-1, 3, 4, 9, 1 << 8, 1 << 32, 1<<32 + 1, -1 << 32, math.MaxInt, math.MinInt, math.MinInt + 1}

// P6.1: a new wire is without bytes.
func TestNew(t *testing.T) {
	w := wire.New()
	if w == nil {
		t.Fatal("nil")
	}
	has(t, "new", w, states{})
	for sock := range 3 {
		pumps(t, w, sock, 0)
		takes(t, w, sock, 1, "")
		takes(t, w, sock, math.MaxInt, "")
	}
	w.Crash()
	has(t, "behind all that", w, states{})
}

// P6.1: the chapter's example.
func TestPumpExample(t *testing.T) {
	w := wire.New()
	pushes(t, w, 0, "0123456789")
	pumps(t, w, 0, 8)
}

// P6.1: bytes that are pushed stand behind all others, wherever those are.
func TestPush(t *testing.T) {
	w := wire.New()
	pushes(t, w, 1, "ab")
	has(t, "one", w, states{1: {"", "ab", 2}})
	pushes(t, w, 1, "")
	has(t, "nothing", w, states{1: {"", "ab", 2}})
	pushes(t, w, 1, "cdefghij")
	has(t, "more", w, states{1: {"", "abcdefghij", 10}})
	pumps(t, w, 1, 8)
	pushes(t, w, 1, "k")
	has(t, "behind what is on its way", w, states{1: {"", "abcdefghijk", 11}})
	takes(t, w, 1, 2, "ab")
	pushes(t, w, 1, "l")
	has(t, "behind what came", w, states{1: {"ab", "abcdefghijkl", 10}})
	takes(t, w, 1, 9, "cdefgh")
	pumps(t, w, 1, 4)
	takes(t, w, 1, 9, "ijkl")
	has(t, "all came", w, states{1: {"abcdefghijkl", "abcdefghijkl", 0}})
	pushes(t, w, 1, "m")
	has(t, "behind all that came", w, states{1: {"abcdefghijkl", "abcdefghijklm", 1}})
}

// P6.1: bytes of any kind go, each as it is.
func TestAnyBytes(t *testing.T) {
	every := ""
	for b := range 256 {
		every += string([]byte{byte(b)})
	}
	w := wire.New()
	pushes(t, w, 2, every)
	came := ""
	for range 256 / 8 {
		pumps(t, w, 2, 8)
		came += w.Take(2, 8)
	}
	if came != every {
		t.Errorf("%q", came)
	}
	has(t, "every byte", w, states{2: {every, every, 0}})
}

// P6.1: at most eight bytes are on their way: so many go as there is room for, if there are so many.
func TestPump(t *testing.T) {
	const letters = "abcdefghijklmnopqrstuvwxyz"
	for first := range 20 {
		for took := range 10 {
			for more := range 7 {
				name := fmt.Sprintf("%d pushed, %d taken, %d pushed", first, took, more)
				w := wire.New()
				pushes(t, w, 0, letters[:first])
				going := min(first, 8)
				pumps(t, w, 0, going)
				pumps(t, w, 0, 0)
				has(t, name, w, states{{"", letters[:first], first}})
				came := min(took, going)
				takes(t, w, 0, took, letters[:came])
				pushes(t, w, 0, letters[first:first+more])
				rest, room := first+more-going, 8-(going-came)
				pumps(t, w, 0, min(rest, room))
				pumps(t, w, 0, 0)
				has(t, name, w, states{{letters[:came], letters[:first+more], first + more - came}})
				takes(t, w, 0, 99, letters[came:going+min(rest, room)])
			}
		}
	}
}

// P6.1: what isn't on its way can't be taken.
func TestTakeAheadOfPump(t *testing.T) {
	w := wire.New()
	pushes(t, w, 0, "abc")
	takes(t, w, 0, 3, "")
	has(t, "not pumped", w, states{{"", "abc", 3}})
	pumps(t, w, 0, 3)
	pushes(t, w, 0, "de")
	takes(t, w, 0, 5, "abc")
	takes(t, w, 0, 5, "")
	has(t, "pumped in part", w, states{{"abc", "abcde", 2}})
	pumps(t, w, 0, 2)
	takes(t, w, 0, 5, "de")
	has(t, "all came", w, states{{"abcde", "abcde", 0}})
}

// P6.1: how many bytes come to the peer.
func TestTake(t *testing.T) {
	for _, c := range []struct {
		n    int
		want string
	}{
		{math.MinInt, ""}, {math.MinInt + 1, ""}, {-1 << 32, ""}, {-9, ""}, {-1, ""}, {0, ""},
		{1, "c"}, {2, "cd"}, {5, "cdefg"}, {7, "cdefghi"}, {8, "cdefghij"},
		{9, "cdefghij"}, {10, "cdefghij"}, {1 << 32, "cdefghij"}, {math.MaxInt - 1, "cdefghij"}, {math.MaxInt, "cdefghij"},
	} {
		name := fmt.Sprintf("%d taken", c.n)
		w := wire.New()
		pushes(t, w, 2, "abcdefghijkl")
		pumps(t, w, 2, 8)
		takes(t, w, 2, 2, "ab")
		pumps(t, w, 2, 2)
		takes(t, w, 2, c.n, c.want)
		has(t, name, w, states{2: {"ab" + c.want, "abcdefghijkl", 10 - len(c.want)}})
		takes(t, w, 2, 99, "cdefghij"[len(c.want):])
		pumps(t, w, 2, 2)
		takes(t, w, 2, 99, "kl")
		has(t, name+", and the rest", w, states{2: {"abcdefghijkl", "abcdefghijkl", 0}})
	}
}

// P6.1: a crash loses what is to go and what is on its way, of all sockets; what came is there, and it goes on.
func TestCrash(t *testing.T) {
	w := wire.New()
	pushes(t, w, 0, "to go")
	pushes(t, w, 1, "on its way, in part")
	pumps(t, w, 1, 8)
	pushes(t, w, 2, "taken, in part")
	pumps(t, w, 2, 8)
	takes(t, w, 2, 5, "taken")
	w.Crash()
	want := states{2: {"taken", "taken", 0}}
	has(t, "crashed", w, want)
	w.Crash()
	has(t, "and again", w, want)
	for sock := range 3 {
		takes(t, w, sock, 9, "")
		pumps(t, w, sock, 0)
		takes(t, w, sock, 9, "")
	}
	has(t, "nothing is left to go", w, want)
	for sock := range 3 {
		pushes(t, w, sock, "behind that")
		takes(t, w, sock, 9, "")
		pumps(t, w, sock, 8)
		takes(t, w, sock, 6, "behind")
		pumps(t, w, sock, 3)
	}
	has(t, "and on", w, states{{"behind", "behind that", 5}, {"behind", "behind that", 5}, {"takenbehind", "takenbehind that", 5}})
}

// P6.1: what a call answered stays as it was, whatever is done behind it.
func TestAnswersStay(t *testing.T) {
	w := wire.New()
	pushes(t, w, 0, "abcdefgh")
	pumps(t, w, 0, 8)
	took, trace, all := w.Take(0, 3), w.Trace(0), w.All(0)
	w.Crash()
	pushes(t, w, 0, "XYZXY")
	pumps(t, w, 0, 5)
	w.Take(0, 5)
	if took != "abc" || trace != "abc" || all != "abcdefgh" {
		t.Errorf("%q, %q, %q", took, trace, all)
	}
	has(t, "written anew", w, states{{"abcXYZXY", "abcXYZXY", 0}})
}

// P6.1: of no such socket there is nothing, and nothing is done to it.
func TestNoSuchSocket(t *testing.T) {
	w := wire.New()
	for sock := range 3 {
		pushes(t, w, sock, "0123456789")
		pumps(t, w, sock, 8)
		takes(t, w, sock, 1, "0")
	}
	before := of(w)
	for _, sock := range noSocks {
		if w.Push(sock, "x") || w.Push(sock, "") {
			t.Errorf("Push to %d", sock)
		}
		pumps(t, w, sock, 0)
		takes(t, w, sock, 5, "")
		if w.Trace(sock) != "" || w.All(sock) != "" || w.Left(sock) != 0 {
			t.Errorf("socket %d: %q, %q, %d", sock, w.Trace(sock), w.All(sock), w.Left(sock))
		}
		has(t, "refused", w, before)
	}
	for sock := range 3 {
		pumps(t, w, sock, 1)
	}
}

// P6.1: of a nil wire there is nothing.
func TestNil(t *testing.T) {
	var w *wire.Wire
	for _, sock := range append([]int{0, 1, 2}, noSocks...) {
		if w.Push(sock, "x") || w.Push(sock, "") {
			t.Errorf("Push to %d", sock)
		}
		pumps(t, w, sock, 0)
		takes(t, w, sock, 5, "")
		if w.Trace(sock) != "" || w.All(sock) != "" || w.Left(sock) != 0 {
			t.Errorf("socket %d", sock)
		}
	}
	w.Crash()
	has(t, "nil", w, states{})
}

// P6.1: each socket has its own way.
func TestSocketsApart(t *testing.T) {
	for sock := range 3 {
		w := wire.New()
		for other := range 3 {
			pushes(t, w, other, "otherwise"[other:])
		}
		want := of(w)
		pushes(t, w, sock, "!!!!")
		pumps(t, w, sock, 8)
		came := "otherwise!!!!"[sock : sock+6]
		takes(t, w, sock, 6, came)
		want[sock] = state{came, "otherwise!!!!"[sock:], 13 - sock - 6}
		has(t, "one", w, want)
		for _, other := range []int{(sock + 1) % 3, (sock + 2) % 3} {
			pumps(t, w, other, min(8, 9-other))
		}
		has(t, "the others are on their way", w, want)
	}
}

// P6.1, with rule 4: two wires know nothing of one another.
func TestTwoWires(t *testing.T) {
	w, o := wire.New(), wire.New()
	pushes(t, w, 0, "w")
	pushes(t, o, 0, "oo")
	pumps(t, w, 0, 1)
	takes(t, w, 0, 1, "w")
	takes(t, o, 0, 1, "")
	w.Crash()
	has(t, "w", w, states{{"w", "w", 0}})
	has(t, "o", o, states{{"", "oo", 2}})
	pumps(t, o, 0, 2)
	o.Crash()
	has(t, "w, behind the other's crash", w, states{{"w", "w", 0}})
	has(t, "o, behind its crash", o, states{})
}

// P6.1: very many bytes may be to go, in one push or in many.
func TestManyBytes(t *testing.T) {
	const many = 1 << 17
	long := strings.Repeat("0123456789abcde", many/15+1)[:many]
	w := wire.New()
	pushes(t, w, 0, long)
	for i := range many {
		pushes(t, w, 1, long[i:i+1])
	}
	has(t, "pushed", w, states{{"", long, many}, {"", long, many}})
	for i := range many / 8 {
		pumps(t, w, 0, 8)
		takes(t, w, 0, 8, long[i*8:i*8+8])
	}
	pumps(t, w, 1, 8)
	for i := range many {
		takes(t, w, 1, 1, long[i:i+1])
		pumps(t, w, 1, min(1, max(0, many-i-8)))
	}
	has(t, "came", w, states{{long, long, 0}, {long, long, 0}})
}
