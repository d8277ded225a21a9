package wafer_test

import (
	"testing"

	"countermand/wafer"
)

// masks answers bits to turn, of so many bytes in a row, the first and the last of them turned in any case.
func masks(n int) []string {
	if n == 1 {
		var all []string
		for m := 1; m < 256; m++ {
			all = append(all, string([]byte{byte(m)}))
		}
		return all
	}
	edges := []byte{0x01, 0x02, 0x10, 0x7f, 0x80, 0xff}
	inner := []byte{0x00, 0x01, 0x80, 0xa5, 0xff}
	rows := []string{""}
	for i := range n {
		kinds := inner
		if i == 0 || i == n-1 {
			kinds = edges
		}
		var longer []string
		for _, r := range rows {
			for _, k := range kinds {
				longer = append(longer, r+string([]byte{k}))
			}
		}
		rows = longer
	}
	return rows
}

// turned answers bytes of which those from a place on are turned by a mask.
func turned(b string, at int, mask string) string {
	x := []byte(b)
	for i := range len(mask) {
		x[at+i] ^= mask[i]
	}
	return string(x)
}

// P2.2: one to four bytes in a row of a load, or its sum, or of both, turned: there is no record.
func TestTurned(t *testing.T) {
	for _, load := range []string{"", "a", "\x00\x00\x00\x00\x00", "\xff\xff\xff\xff\xff\xff", pattern(20, 1), pattern(50, 2)} {
		b := wafer.Close(load)
		for n := 1; n <= 4; n++ {
			for _, mask := range masks(n) {
				for at := 2; at+n <= len(b); at++ {
					if got, size := wafer.Open(turned(b, at, mask)); got != "" || size != 0 {
						t.Fatalf("%q, turned at %d by %q: %q of %d", b, at, mask, got, size)
					}
				}
			}
		}
	}
}

// P2.2: the same of long loads, at all places, with more bytes behind, which don't make up for it.
func TestTurnedLong(t *testing.T) {
	for _, length := range []int{255, 256, 1024} {
		b := wafer.Close(pattern(length, length))
		for at := 2; at < len(b); at++ {
			for _, mask := range []string{"\x01", "\x80", "\xff\xff", "\x01\x00\x80", "\x80\x00\x00\x01", "\xff\xff\xff\xff"} {
				if at+len(mask) > len(b) {
					continue
				}
				if got, size := wafer.Open(turned(b, at, mask) + b); got != "" || size != 0 {
					t.Fatalf("%d bytes, turned at %d by %q: %d", length, at, mask, size)
				}
			}
		}
	}
}

// P2.2: a record that is cut at any place is none, with nothing behind; and the records ahead of it are there.
func TestCut(t *testing.T) {
	for _, length := range lengths() {
		b := wafer.Close(pattern(length, length))
		for cut := range len(b) {
			if got, size := wafer.Open(b[:cut]); got != "" || size != 0 {
				t.Fatalf("%d bytes, cut at %d: %d", length, cut, size)
			}
			if cut%41 == 0 || cut < 8 || cut+8 > len(b) {
				if whole := wafer.Whole(wafer.Row("x", "yz") + b[:cut]); whole != 15 {
					t.Fatalf("%d bytes, cut at %d, behind two records: %d", length, cut, whole)
				}
			}
		}
	}
}
