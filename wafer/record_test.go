package wafer_test

import (
	"encoding/binary"
	"hash/crc32"
	"strings"
	"testing"

	"countermand/api"
	"countermand/wafer"
)

// record answers a load's record by the chapter's words, of loads that are too long as well.
func record(load string) string {
	b := binary.BigEndian.AppendUint16(nil, uint16(len(load)))
	b = append(b, load...)
	sum := crc32.Checksum(b, crc32.MakeTable(crc32.Castagnoli))
	return string(binary.LittleEndian.AppendUint32(b, sum))
}

// lengths are those of loads at which a record turns.
func lengths() []int {
	return []int{0, 1, 2, 3, 4, 5, 127, 128, 254, 255, 256, 257, 511, 512, 1000, api.MaxLoad - 1, api.MaxLoad}
}

// opens tells a fault if bytes begin with another record than the one of this load.
func opens(t *testing.T, name, b, load string) {
	t.Helper()
	if got, size := wafer.Open(b); got != load || size != len(load)+6 {
		t.Errorf("%s: %.40q of %d, want %.40q of %d", name, got, size, load, len(load)+6)
	}
}

// isNone tells a fault if bytes begin with a record.
func isNone(t *testing.T, name, b string) {
	t.Helper()
	if got, size := wafer.Open(b); got != "" || size != 0 {
		t.Errorf("%s: %.40q of %d, want none", name, got, size)
	}
	for load := range wafer.All(b) {
		t.Errorf("%s: All has %.40q", name, load)
	}
	if n := wafer.Whole(b); n != 0 {
		t.Errorf("%s: Whole is %d", name, n)
	}
}

// P2.1: a record, byte by byte.
func TestCloseBytes(t *testing.T) {
	for _, c := range []struct{ load, want string }{
		{"", "\x00\x00\xd2\x77\x61\xf1"},
		{"a", "\x00\x01a\x6c\x2b\x6b\xe0"},
		{"123456789", "\x00\x09123456789\x73\xdc\xbe\x7f"},
	} {
		if got := wafer.Close(c.load); got != c.want {
			t.Errorf("%q: %q, want %q", c.load, got, c.want)
		}
	}
}

// P2.1: records of all lengths, those too long excepted, and what is opened of them.
func TestCloseAndOpen(t *testing.T) {
	for n := range api.MaxLoad + 1 {
		load := pattern(n, n)
		b := wafer.Close(load)
		if b != record(load) {
			t.Fatalf("%d: not the record", n)
		}
		opens(t, "alone", b, load)
	}
	for _, n := range lengths() {
		for _, fill := range []string{"\x00", "\xff", "z", "\x80"} {
			load := strings.Repeat(fill, n)
			b := wafer.Close(load)
			for _, more := range []string{"", "\x00", "more", b, "\xff\xff\xff\xff"} {
				opens(t, "with more behind", b+more, load)
			}
		}
	}
}

// P2.1: a load that is too long has no record.
func TestCloseTooLong(t *testing.T) {
	for _, n := range []int{api.MaxLoad + 1, api.MaxLoad + 2, 2 * api.MaxLoad, 1<<16 - 1, 1 << 16, 1<<16 + 1, 1 << 20} {
		if b := wafer.Close(strings.Repeat("z", n)); b != "" {
			t.Errorf("%d bytes: a record of %d", n, len(b))
		}
	}
}

// P2.1: bytes that begin with no record, some of them with a sum that is right.
func TestOpenNone(t *testing.T) {
	sum := func(body string) string {
		return string(binary.LittleEndian.AppendUint32(nil, crc32.Checksum([]byte(body), crc32.MakeTable(crc32.Castagnoli))))
	}
	higher := func(body string) string {
		return string(binary.BigEndian.AppendUint32(nil, crc32.Checksum([]byte(body), crc32.MakeTable(crc32.Castagnoli))))
	}
	ieee := func(body string) string {
		return string(binary.LittleEndian.AppendUint32(nil, crc32.ChecksumIEEE([]byte(body))))
	}
	for _, c := range []struct{ name, bytes string }{
		{"nothing", ""},
		{"half a length", "\x00"},
		{"a length alone", "\x00\x00"},
		{"zeros", strings.Repeat("\x00", 64)},
		{"all bits", strings.Repeat("\xff", 2000)},
		{"the length's lower byte first", "\x01\x00a" + sum("\x01\x00a")},
		{"the sum's higher byte first", "\x00\x01a" + higher("\x00\x01a")},
		{"another polynomial", "\x00\x01a" + ieee("\x00\x01a")},
		{"a sum of the load alone", "\x00\x01a" + sum("a")},
		{"a byte ahead", "\x00" + record("a")},
		{"a length too small", "\x00\x01ab" + sum("\x00\x01ab")},
		{"a length too great", "\x00\x03ab" + sum("\x00\x03ab")},
		{"one byte too long", record(strings.Repeat("z", api.MaxLoad+1))},
		{"twice too long", record(strings.Repeat("z", 2*api.MaxLoad))},
		{"the longest that has a length", record(strings.Repeat("z", 1<<16-1))},
	} {
		isNone(t, c.name, c.bytes)
		isNone(t, c.name+", again", c.bytes)
	}
}

// P2.1: all that two bytes can say of a length, with no sum behind, and with the right one.
func TestOpenOfAllLengths(t *testing.T) {
	body := pattern(1<<16, 7)
	for n := range 1 << 16 {
		length := string([]byte{byte(n >> 8), byte(n)})
		if load, size := wafer.Open(length + body[:min(n+4, api.MaxLoad+40)]); load != "" || size != 0 {
			t.Fatalf("a length of %d, without its sum: %d", n, size)
		}
		if n > api.MaxLoad+40 && n%97 != 0 {
			continue
		}
		load, size := wafer.Open(record(body[:n]) + length)
		if n <= api.MaxLoad && (load != body[:n] || size != n+6) || n > api.MaxLoad && (load != "" || size != 0) {
			t.Fatalf("a length of %d, with its sum: %d", n, size)
		}
	}
}
