package wafer_test

import (
	"hash/crc32"
	"strings"
	"testing"

	"countermand/wafer"
)

// pattern answers n bytes, all kinds of them, that differ by seed.
func pattern(n, seed int) string {
	b := make([]byte, n)
	x := uint32(seed)*2654435761 + 1
	for i := range b {
		x = x*1664525 + 1013904223
		b[i] = byte(x >> 24)
	}
	return string(b)
}

// P2.1: sums that are known of this polynomial.
func TestSumKnown(t *testing.T) {
	up, down := make([]byte, 32), make([]byte, 32)
	for i := range 32 {
		up[i], down[i] = byte(i), byte(31-i)
	}
	for _, c := range []struct {
		text string
		want uint32
	}{
		{"", 0},
		{"123456789", 0xe3069283},
		{"a", 0xc1d04330},
		{strings.Repeat("\x00", 32), 0x8a9136aa},
		{strings.Repeat("\xff", 32), 0x62a8ab43},
		{string(up), 0x46dd794e},
		{string(down), 0x113fdb5c},
	} {
		if got := wafer.Sum(c.text); got != c.want {
			t.Errorf("%q: %08x, want %08x", c.text, got, c.want)
		}
	}
}

// P2.1: sums of all single bytes, of all pairs, and of texts of many lengths, held against the library's.
func TestSumOfAllBytes(t *testing.T) {
	table := crc32.MakeTable(crc32.Castagnoli)
	same := func(s string) {
		if got, want := wafer.Sum(s), crc32.Checksum([]byte(s), table); got != want {
			t.Fatalf("%d bytes, %.40q: %08x, want %08x", len(s), s, got, want)
		}
	}
	for k := range 1 << 16 {
		same(string([]byte{byte(k)}))
		same(string([]byte{byte(k), byte(k >> 8)}))
	}
	for n := range 1200 {
		same(pattern(n, n))
	}
	same(pattern(1<<20, 3))
}
