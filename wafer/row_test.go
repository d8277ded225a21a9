package wafer_test

import (
	"slices"
	"strings"
	"testing"

	"countermand/api"
	"countermand/wafer"
)

// holds tells a fault if bytes begin with other records than those of these loads.
func holds(t *testing.T, name, b string, loads ...string) {
	t.Helper()
	if got := slices.Collect(wafer.All(b)); !slices.Equal(got, loads) {
		t.Errorf("%s: All has %.60q, want %.60q", name, got, loads)
	}
	size := 0
	for _, l := range loads {
		size += len(l) + 6
	}
	if got := wafer.Whole(b); got != size {
		t.Errorf("%s: Whole is %d, want %d", name, got, size)
	}
}

// P2.1: records one behind the other, without loads that are too long.
func TestRow(t *testing.T) {
	most, over := strings.Repeat("m", api.MaxLoad), strings.Repeat("o", api.MaxLoad+1)
	for _, c := range []struct {
		name  string
		loads []string
		kept  []string
	}{
		{"none", nil, nil},
		{"an empty list", []string{}, nil},
		{"an empty load", []string{""}, []string{""}},
		{"three empty loads", []string{"", "", ""}, []string{"", "", ""}},
		{"one", []string{"a"}, []string{"a"}},
		{"all kinds of bytes", []string{"\x00", "\xff\x80", "é"}, []string{"\x00", "\xff\x80", "é"}},
		{"twice the same", []string{"ab", "ab"}, []string{"ab", "ab"}},
		{"the longest", []string{"a", most, "b"}, []string{"a", most, "b"}},
		{"one too long", []string{over}, nil},
		{"too long in between", []string{"a", over, "b", over, most}, []string{"a", "b", most}},
		{"too long at both ends", []string{over, "", over}, []string{""}},
		{"records as loads", []string{record("in"), record("")}, []string{record("in"), record("")}},
	} {
		want := ""
		for _, l := range c.kept {
			want += record(l)
		}
		got := wafer.Row(c.loads...)
		if got != want {
			t.Errorf("%s: %.60q, want %.60q", c.name, got, want)
		}
		holds(t, c.name, got, c.kept...)
	}
}

// P2.1: what stands behind the last record is left, whatever it is; what stands behind that too.
func TestAllUpToTheFirstThatIsNone(t *testing.T) {
	row := wafer.Row("a", "", "xyz")
	last := wafer.Close("last")
	for _, c := range []struct{ name, bytes string }{
		{"nothing", ""},
		{"junk", "junk"},
		{"a zero", "\x00"},
		{"zeros", strings.Repeat("\x00", 100)},
		{"a record that is cut", last[:len(last)-1]},
		{"a record that is turned, and a good one", turned(last, 3, "\x10") + last},
		{"a record whose sum is turned, and good ones", turned(last, len(last)-1, "\x80") + row},
		{"a byte, and a good one", "\x00" + last},
		{"one that is too long, and a good one", record(strings.Repeat("z", api.MaxLoad+1)) + last},
	} {
		holds(t, c.name, row+c.bytes, "a", "", "xyz")
		holds(t, c.name+", alone", c.bytes)
	}
	holds(t, "with one more", row+last, "a", "", "xyz", "last")
}

// P2.1: a row cut anywhere holds the records that are whole.
func TestRowCut(t *testing.T) {
	loads := []string{"one", "", "three", "\x00\x00", pattern(300, 5)}
	row := wafer.Row(loads...)
	for cut := range len(row) + 1 {
		whole, size := 0, 0
		for whole < len(loads) && size+len(loads[whole])+6 <= cut {
			size += len(loads[whole]) + 6
			whole++
		}
		holds(t, "cut", row[:cut], loads[:whole]...)
	}
}

// P2.1, with rule 9: what is gone over may be left at any time, and gone over again.
func TestAllLeft(t *testing.T) {
	loads := []string{"a", "b", "", "d", "e"}
	all := wafer.All(wafer.Row(loads...))
	for stop := range len(loads) {
		var got []string
		for load := range all {
			got = append(got, load)
			if len(got) == stop+1 {
				break
			}
		}
		if !slices.Equal(got, loads[:stop+1]) {
			t.Errorf("left behind %d: %q", stop+1, got)
		}
	}
	for a := range all {
		if inner := slices.Collect(all); !slices.Equal(inner, loads) {
			t.Errorf("within %q: %q", a, inner)
		}
	}
}

// P2.1: many records are gone over, one by one, without one within another.
func TestManyRecords(t *testing.T) {
	const many = 1 << 16
	b := strings.Repeat(wafer.Close("q"), many)
	n := 0
	for load := range wafer.All(b + "\x00") {
		if load != "q" {
			t.Fatalf("the %d. is %q", n, load)
		}
		n++
	}
	if n != many || wafer.Whole(b) != len(b) {
		t.Errorf("%d records of %d bytes", n, wafer.Whole(b))
	}
}

// P2.1, with rule 3: a list that is handed in stays as it is, spare room included.
func TestLoadsHandedIn(t *testing.T) {
	over := strings.Repeat("o", api.MaxLoad+1)
	loads := append(make([]string, 0, 6), "a", over, "b")
	row := wafer.Row(loads...)
	if !slices.Equal(loads[:cap(loads)], []string{"a", over, "b", "", "", ""}) {
		t.Errorf("%.20q", loads[:cap(loads)])
	}
	loads[0] = "changed"
	holds(t, "behind a change", row, "a", "b")
}
