package feed_test

import (
	"fmt"
	"math"
	"strings"
	"testing"

	"countermand/api"
	"countermand/feed"
)

// state is all that can be asked of a socket, but for its bytes one by one.
type state struct {
	text, left     string
	place, version int
}

// String tells a state in a line.
func (s state) String() string {
	return fmt.Sprintf("%q left of %q, place %d of version %d", s.left, s.text, s.place, s.version)
}

// states is the states of all sockets.
type states [3]state

// of answers what a feed has.
func of(f *feed.Feed) states {
	var s states
	for sock := range s {
		place, version := f.Place(sock)
		s[sock] = state{f.Text(sock), f.Left(sock), place, version}
	}
	return s
}

// has tells a fault if a feed has other things than these, or other bytes.
func has(t *testing.T, name string, f *feed.Feed, want states) {
	t.Helper()
	if got := of(f); got != want {
		t.Errorf("%s: %v, want %v", name, got, want)
	}
	for sock, s := range want {
		for place := -2; place < 67; place++ {
			b := -1
			if 0 <= place && place < len(s.text) {
				b = int(s.text[place])
			}
			if got := f.At(sock, place); got != b {
				t.Errorf("%s: At(%d, %d) is %d, want %d", name, sock, place, got, b)
			}
		}
	}
}

// arrives tells a fault if Arrive answers another error.
func arrives(t *testing.T, f *feed.Feed, sock int, s string, want api.Errno) {
	t.Helper()
	if got := f.Arrive(sock, s); got != want {
		t.Errorf("Arrive(%d, %.40q): %d, want %d", sock, s, got, want)
	}
}

// takes tells a fault if Take answers otherwise.
func takes(t *testing.T, f *feed.Feed, sock, place, version int, want bool) {
	t.Helper()
	if got := f.Take(sock, place, version); got != want {
		t.Errorf("Take(%d, %d, %d): %v, want %v", sock, place, version, got, want)
	}
}

// letters are 64 bytes, no two of them the same.
const letters = "abcdefghijklmnopqrstuvwxyzABCDEFGHIJKLMNOPQRSTUVWXYZ0123456789-+"

// noSocks are numbers of which there is no socket.
var noSocks = []int{-1, -2, 3, 4, 9, 1 << 8, 1 << 32, 1<<32 + 1, -1 << 32, math.MaxInt, math.MinInt, math.MinInt + 1}

// noPlaces are places at which no byte ever is.
var noPlaces = []int{-1, -2, 64, 65, 1 << 8, 1 << 32, 1<<32 + 1, -1 << 32, math.MaxInt, math.MinInt, math.MinInt + 1}

// P11.1: at a new feed nothing arrived, and all places are 0, of version 0.
func TestNew(t *testing.T) {
	f := feed.New()
	if f == nil {
		t.Fatal("nil")
	}
	has(t, "new", f, states{})
}

// P11.1: the chapter's example.
func TestExample(t *testing.T) {
	f := feed.New()
	arrives(t, f, 0, "ab", api.OK)
	takes(t, f, 0, 1, 5, true)
	if left := f.Left(0); left != "b" {
		t.Errorf("%q", left)
	}
	has(t, "example", f, states{{"ab", "b", 1, 5}})
}

// P11.1: what arrives stands behind all others, taken or not.
func TestArrive(t *testing.T) {
	f := feed.New()
	arrives(t, f, 1, "ab", api.OK)
	has(t, "one", f, states{1: {"ab", "ab", 0, 0}})
	arrives(t, f, 1, "", api.OK)
	has(t, "nothing", f, states{1: {"ab", "ab", 0, 0}})
	arrives(t, f, 1, "cde", api.OK)
	has(t, "more", f, states{1: {"abcde", "abcde", 0, 0}})
	takes(t, f, 1, 5, 3, true)
	arrives(t, f, 1, "", api.OK)
	has(t, "all taken", f, states{1: {"abcde", "", 5, 3}})
	arrives(t, f, 1, "fg", api.OK)
	has(t, "behind what was taken", f, states{1: {"abcdefg", "fg", 5, 3}})
}

// P11.1: at most 64 bytes arrive at a socket, those that were taken with them; what would be more is refused as a whole.
func TestArriveFull(t *testing.T) {
	for first := range 66 {
		for second := range 67 {
			for _, taken := range []int{0, first / 2, first} {
				name := fmt.Sprintf("%d bytes, %d of them taken, and %d", first, taken, second)
				f := feed.New()
				if first > 64 {
					arrives(t, f, 2, letters+"?", api.ErrFull)
					has(t, name, f, states{})
					continue
				}
				arrives(t, f, 2, letters[:first], api.OK)
				takes(t, f, 2, taken, 1, true)
				text, errno := letters[:first]+strings.Repeat("!", second), api.OK
				if len(text) > 64 {
					text, errno = letters[:first], api.ErrFull
				}
				arrives(t, f, 2, strings.Repeat("!", second), errno)
				has(t, name, f, states{2: {text, text[taken:], taken, 1}})
			}
		}
	}
}

// P11.1: very many bytes at once are refused; a full socket takes nothing more, but that lets the others be.
func TestArriveFar(t *testing.T) {
	f := feed.New()
	arrives(t, f, 0, strings.Repeat("x", 1<<20), api.ErrFull)
	has(t, "very many", f, states{})
	arrives(t, f, 0, letters, api.OK)
	arrives(t, f, 0, "x", api.ErrFull)
	arrives(t, f, 0, "", api.OK)
	has(t, "full", f, states{{letters, letters, 0, 0}})
	takes(t, f, 0, 64, 2, true)
	arrives(t, f, 0, "x", api.ErrFull)
	arrives(t, f, 0, "", api.OK)
	has(t, "full, and all taken", f, states{{letters, "", 64, 2}})
	arrives(t, f, 1, letters, api.OK)
	arrives(t, f, 2, letters, api.OK)
	has(t, "all full", f, states{{letters, "", 64, 2}, {letters, letters, 0, 0}, {letters, letters, 0, 0}})
}

// P11.1: bytes of any kind arrive, each as it is, and are told as numbers from 0 to 255.
func TestAnyBytes(t *testing.T) {
	for first := 0; first < 256; first += 64 {
		b := make([]byte, 64)
		for i := range b {
			b[i] = byte(first + i)
		}
		f := feed.New()
		arrives(t, f, 0, string(b), api.OK)
		for i := range b {
			if got := f.At(0, i); got != first+i {
				t.Errorf("At(0, %d) is %d, want %d", i, got, first+i)
			}
		}
		has(t, "bytes", f, states{{string(b), string(b), 0, 0}})
	}
	f := feed.New()
	arrives(t, f, 1, "é\xff\x00€", api.OK)
	has(t, "no runes", f, states{1: {"\xc3\xa9\xff\x00\xe2\x82\xac", "\xc3\xa9\xff\x00\xe2\x82\xac", 0, 0}})
}

// P11.1: a byte stands at its place from the time at which it arrives, taken or not; elsewhere there is none.
func TestAt(t *testing.T) {
	f := feed.New()
	for i := range letters {
		if got := f.At(1, i); got != -1 {
			t.Errorf("ahead of it At(1, %d) is %d", i, got)
		}
		arrives(t, f, 1, letters[i:i+1], api.OK)
		takes(t, f, 1, i, i, true)
		for place := range i + 1 {
			if got := f.At(1, place); got != int(letters[place]) {
				t.Errorf("behind %d At(1, %d) is %d, want %d", i, place, got, letters[place])
			}
		}
	}
	for _, place := range noPlaces {
		for sock := range 3 {
			if got := f.At(sock, place); got != -1 {
				t.Errorf("At(%d, %d) is %d, want -1", sock, place, got)
			}
		}
	}
}

// P11.1: a place is taken if it isn't ahead of the one that was, and not behind all bytes; else nothing happens.
func TestTake(t *testing.T) {
	for size := range 9 {
		text := letters[:size]
		for was := range size + 1 {
			for place := -3; place < 13; place++ {
				name := fmt.Sprintf("%d of %d, behind %d", place, size, was)
				f := feed.New()
				arrives(t, f, 0, text, api.OK)
				takes(t, f, 0, was, 7, true)
				want := state{text, text[was:], was, 7}
				is := was <= place && place <= size
				if is {
					want = state{text, text[place:], place, 9}
				}
				takes(t, f, 0, place, 9, is)
				has(t, name, f, states{want})
			}
		}
	}
}

// P11.1: places that are none are refused, at an empty socket, and at a full one.
func TestTakeFar(t *testing.T) {
	f := feed.New()
	takes(t, f, 1, 1, 4, false)
	for _, place := range noPlaces {
		takes(t, f, 1, place, 4, false)
	}
	has(t, "empty", f, states{})
	takes(t, f, 1, 0, 4, true)
	has(t, "empty, and taken as it is", f, states{1: {"", "", 0, 4}})
	arrives(t, f, 1, letters, api.OK)
	for _, place := range noPlaces {
		takes(t, f, 1, place, 5, place == 64)
	}
	has(t, "full", f, states{1: {letters, "", 64, 5}})
	takes(t, f, 1, 63, 6, false)
	takes(t, f, 1, 64, 6, true)
	takes(t, f, 1, 65, 7, false)
	has(t, "full, and all taken", f, states{1: {letters, "", 64, 6}})
}

// P11.1: a place is of the version that is handed in, whatever that is, though the place stays.
func TestVersions(t *testing.T) {
	versions := []int{1, 0, 5, 3, -1, 1 << 40, -1 << 40, math.MaxInt, math.MinInt, 0}
	f := feed.New()
	arrives(t, f, 2, "abc", api.OK)
	for place := range 4 {
		for _, version := range versions {
			takes(t, f, 2, place, version, true)
			has(t, "taken", f, states{2: {"abc", "abc"[place:], place, version}})
		}
		arrives(t, f, 2, "", api.OK)
	}
	takes(t, f, 2, 3, 8, true)
	arrives(t, f, 2, "d", api.OK)
	has(t, "what arrives lets the version be", f, states{2: {"abcd", "d", 3, 8}})
}

// P11.1: of no such socket there is nothing, and nothing is done to it, however full the others are.
func TestNoSuchSocket(t *testing.T) {
	f := feed.New()
	for sock := range 3 {
		arrives(t, f, sock, letters, api.OK)
		takes(t, f, sock, 10+sock, 20+sock, true)
	}
	before := of(f)
	for _, sock := range noSocks {
		for _, s := range []string{"", "x", letters, letters + "x"} {
			arrives(t, f, sock, s, api.ErrArg)
		}
		for _, place := range append([]int{0, 1, 12, 63}, noPlaces...) {
			takes(t, f, sock, place, 30, false)
			if got := f.At(sock, place); got != -1 {
				t.Errorf("At(%d, %d) is %d, want -1", sock, place, got)
			}
		}
		place, version := f.Place(sock)
		if place != 0 || version != 0 || f.Text(sock) != "" || f.Left(sock) != "" {
			t.Errorf("socket %d: %d, %d, %q, %q", sock, place, version, f.Text(sock), f.Left(sock))
		}
		has(t, "refused", f, before)
	}
}

// P11.1: of a nil feed there is nothing, whichever the socket; ErrNil goes ahead of all other errors.
func TestNil(t *testing.T) {
	var f *feed.Feed
	for _, sock := range append([]int{0, 1, 2}, noSocks...) {
		for _, s := range []string{"", "x", letters + "x"} {
			arrives(t, f, sock, s, api.ErrNil)
		}
		for _, place := range append([]int{0, 1}, noPlaces...) {
			takes(t, f, sock, place, 1, false)
			if got := f.At(sock, place); got != -1 {
				t.Errorf("At(%d, %d) is %d, want -1", sock, place, got)
			}
		}
		place, version := f.Place(sock)
		if place != 0 || version != 0 || f.Text(sock) != "" || f.Left(sock) != "" {
			t.Errorf("socket %d", sock)
		}
	}
	has(t, "nil", f, states{})
}

// P11.1: each socket has bytes, a place and a version of its own.
func TestSocketsApart(t *testing.T) {
	for sock := range 3 {
		f := feed.New()
		for other := range 3 {
			arrives(t, f, other, "otherwise"[other:], api.OK)
			takes(t, f, other, 2, 1+other, true)
		}
		want := of(f)
		arrives(t, f, sock, "!!", api.OK)
		takes(t, f, sock, 5, 99, true)
		text := "otherwise"[sock:] + "!!"
		want[sock] = state{text, text[5:], 5, 99}
		has(t, "one", f, want)
	}
}

// P11.1, with rule 4: two feeds know nothing of one another.
func TestTwoFeeds(t *testing.T) {
	f, o := feed.New(), feed.New()
	arrives(t, f, 0, "ab", api.OK)
	arrives(t, o, 0, "xyz", api.OK)
	takes(t, f, 0, 2, 3, true)
	arrives(t, f, 1, letters, api.OK)
	has(t, "one", f, states{{"ab", "", 2, 3}, {letters, letters, 0, 0}})
	has(t, "the other", o, states{{"xyz", "xyz", 0, 0}})
	has(t, "a new one", feed.New(), states{})
}

// P11.2: what was answered stays as it was, whatever arrives or is taken behind it.
func TestAnswersStay(t *testing.T) {
	f := feed.New()
	arrives(t, f, 0, "abcdefgh", api.OK)
	takes(t, f, 0, 3, 1, true)
	text, left := f.Text(0), f.Left(0)
	takes(t, f, 0, 8, 2, true)
	arrives(t, f, 0, "XYZXYZXYZ", api.OK)
	if text != "abcdefgh" || left != "defgh" {
		t.Errorf("%q, %q", text, left)
	}
	has(t, "behind that", f, states{{"abcdefghXYZXYZXYZ", "XYZXYZXYZ", 8, 2}})
}
