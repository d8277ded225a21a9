package vault_test

import (
	"fmt"
	"math"
	"slices"
	"strings"
	"testing"

	"countermand/api"
	"countermand/disk"
	"countermand/vault"
	"countermand/wafer"
)

// state is all that can be asked of a vault, and what was found where it was opened.
type state struct {
	image string
	loads []string
	epoch int
	size  int
}

// String tells a state in a line that isn't too long.
func (s state) String() string {
	return fmt.Sprintf("%.40q, %.60q, epoch %d, size %d", s.image, s.loads, s.epoch, s.size)
}

// equal tells whether two states are the same.
func (s state) equal(o state) bool {
	return s.image == o.image && slices.Equal(s.loads, o.loads) && s.epoch == o.epoch && s.size == o.size
}

// open answers the vault of a disk that is there, and what is there.
func open(t *testing.T, d *disk.Disk) (*vault.Vault, state) {
	t.Helper()
	v, f, errno := vault.Open(d)
	if errno != api.OK || v == nil {
		t.Fatalf("Open: %v, %d", v, errno)
	}
	return v, state{f.Image, f.Loads, v.Epoch(), v.Size()}
}

// has tells a fault if a vault opened on a disk has other things than these.
func has(t *testing.T, name string, d *disk.Disk, want state) {
	t.Helper()
	if _, got := open(t, d); !got.equal(want) {
		t.Errorf("%s: %v, want %v", name, got, want)
	}
}

// is tells a fault if a vault tells another epoch or size.
func is(t *testing.T, name string, v *vault.Vault, epoch, size int) {
	t.Helper()
	if v.Epoch() != epoch || v.Size() != size {
		t.Errorf("%s: epoch %d, size %d, want %d, %d", name, v.Epoch(), v.Size(), epoch, size)
	}
}

// answers tells a fault if a call answered another error.
func answers(t *testing.T, name string, got, want api.Errno) {
	t.Helper()
	if got != want {
		t.Errorf("%s: %d, want %d", name, got, want)
	}
}

// shape is all that a disk has.
type shape struct {
	now, safe [2]string
	waits     int
}

// shapeOf answers what a disk has.
func shapeOf(d *disk.Disk) shape {
	return shape{[2]string{d.Read(0), d.Read(1)}, [2]string{d.Safe(0), d.Safe(1)}, d.Waits()}
}

// shaped tells a fault if a disk has other things than these.
func shaped(t *testing.T, name string, d *disk.Disk, want shape) {
	t.Helper()
	if got := shapeOf(d); got != want {
		t.Errorf("%s: the disk has %.200q, want %.200q", name, fmt.Sprint(got), fmt.Sprint(want))
	}
}

// still answers the shape of a disk whose areas have these bytes, all of them safe.
func still(first, second string) shape {
	return shape{[2]string{first, second}, [2]string{first, second}, 0}
}

// with answers a disk whose areas have these bytes, all of them safe.
func with(first, second string) *disk.Disk {
	d := disk.New()
	d.Append(0, first)
	d.Append(1, second)
	d.Sync()
	return d
}

const (
	most   = 1 << 40                            // the last epoch
	ofMost = "\x00\x80\x80\x80\x80\x80\x20"     // its record begins so
	ofLast = "\x00\xff\xff\xff\xff\xff\x1f"     // and that of the one ahead of it
	beyond = "\x00\x81\x80\x80\x80\x80\x20"     // that of the one behind it, which there isn't
	beside = "\x00\x80\x80\x80\x80\x80\x80\x01" // that of 2^42
)

// long answers a text of so many bytes.
func long(n int) string { return strings.Repeat("l", n) }

// P5.1: Open refuses a nil disk, and answers nothing beside that.
func TestOpenRefuses(t *testing.T) {
	v, f, errno := vault.Open(nil)
	if v != nil || f.Image != "" || len(f.Loads) != 0 || errno != api.ErrNil {
		t.Errorf("%v, %q, %q, %d", v, f.Image, f.Loads, errno)
	}
}

// P5.1: what an area tells, whichever it is, beside one that is empty.
func TestOneArea(t *testing.T) {
	for _, c := range []struct {
		name  string
		bytes string
		want  state
	}{
		{"an image", wafer.Row("\x00\x01one"), state{"one", nil, 1, 11}},
		{"an empty image", wafer.Row("\x00\x01"), state{"", nil, 1, 8}},
		{"an image and loads", wafer.Row("\x00\x05i", "\x01a", "\x01", "\x01\x01", "\x01\x00\x09x"), state{"i", []string{"a", "", "\x01", "\x00\x09x"}, 5, 9 + 8 + 7 + 8 + 10}},
		{"an image like records", wafer.Row("\x00\x01\x00\x02x", "\x01"+wafer.Row("\x00\x03")), state{"\x00\x02x", []string{wafer.Row("\x00\x03")}, 1, 11 + 15}},
		{"an epoch of two bytes", wafer.Row("\x00\xac\x02img", "\x01a"), state{"img", []string{"a"}, 300, 12 + 8}},
		{"the last epoch of one byte", wafer.Row("\x00\x7fi"), state{"i", nil, 127, 9}},
		{"the first epoch of two", wafer.Row("\x00\x80\x01i"), state{"i", nil, 128, 10}},
		{"the last epoch but one", wafer.Row(ofLast + "i"), state{"i", nil, most - 1, 14}},
		{"the last epoch", wafer.Row(ofMost+"i", "\x01a"), state{"i", []string{"a"}, most, 14 + 8}},
		{"a long image", wafer.Row("\x00\x01" + long(1022)), state{long(1022), nil, 1, 1030}},
		{"a long load", wafer.Row("\x00\x01", "\x01"+long(1023)), state{"", []string{long(1023)}, 1, 8 + 1030}},
		{"an image among loads", wafer.Row("\x00\x01i", "\x01a", "\x00\x02j", "\x01b"), state{"i", []string{"a"}, 1, 9 + 8 + 9 + 8}},
		{"two images", wafer.Row("\x00\x01i", "\x00\x02j"), state{"i", nil, 1, 18}},
		{"an empty record among loads", wafer.Row("\x00\x01i", "\x01a", "", "\x01b"), state{"i", []string{"a"}, 1, 9 + 8 + 6 + 8}},
		{"another kind among loads", wafer.Row("\x00\x01i", "\x02a", "\x01b"), state{"i", nil, 1, 9 + 8 + 8}},
		{"a longer number 1 among loads", wafer.Row("\x00\x01i", "\x81\x00a", "\x01b"), state{"i", nil, 1, 9 + 9 + 8}},
		{"torn behind the image", wafer.Row("\x00\x01i") + "\x00", state{"i", nil, 1, 9}},
		{"torn within a load", wafer.Row("\x00\x01i", "\x01a") + wafer.Close("\x01b")[:7], state{"i", []string{"a"}, 1, 17}},
	} {
		for a := range 2 {
			areas := [2]string{}
			areas[a] = c.bytes
			d := with(areas[0], areas[1])
			has(t, c.name, d, c.want)
			has(t, c.name+", opened again", d, c.want)
			shaped(t, c.name, d, still(areas[0], areas[1]))
		}
	}
}

// nothings answers areas that tell nothing, and how many bytes the log of each has.
func nothings() map[string]int {
	return map[string]int{
		"":                              0,
		wafer.Row(""):                   6,
		wafer.Row("", "\x00\x01i"):      6 + 9,
		wafer.Row("\x01a"):              8,
		wafer.Row("\x01", "\x00\x09"):   7 + 8,
		wafer.Row("\x02\x01i"):          9,
		wafer.Row("\x00"):               7,
		wafer.Row("\x00\x00"):           8,
		wafer.Row("\x00\x00x", "\x01a"): 9 + 8,
		wafer.Row("\x00\x80"):           8,
		wafer.Row("\x00\x81\x00i"):      10,
		wafer.Row("\x80\x00\x01i"):      10,
		wafer.Row("\x80\x01i"):          9,
		wafer.Row(beyond):               13,
		wafer.Row(beyond+"i", "\x01a"):  14 + 8,
		wafer.Row(beside):               14,
		wafer.Row("\x00\xff\xff\xff\xff\xff\xff\xff\xff\x7f"):         16,
		wafer.Row("\x00\xff\xff\xff\xff\xff\xff\xff\xff\xff\x01"):     17,
		wafer.Row("\x00\x81\x80\x80\x80\x80\x80\x80\x80\x80\x02i"):    18,
		wafer.Row("\x00\x81\x80\x80\x80\x80\x80\x80\x80\x80\x80\x00"): 18,
		"x":                                 0,
		wafer.Close("\x00\x07i")[:8]:        0,
		"\x00" + wafer.Row("\x00\x07i"):     0,
		strings.Repeat("\x00", api.MaxArea): 0,
		wafer.Row("\x01a") + "x":            8,
	}
}

// P5.1: areas that tell nothing: of two of them the first one's log is taken, whatever it has; next to one that tells something they are nothing.
func TestAreasThatTellNothing(t *testing.T) {
	for first, size := range nothings() {
		for second := range nothings() {
			d := with(first, second)
			has(t, fmt.Sprintf("%.20q, %.20q", first, second), d, state{size: size})
			shaped(t, "opened", d, still(first, second))
		}
		one := wafer.Row("\x00\x01i", "\x01a")
		has(t, fmt.Sprintf("%.20q ahead", first), with(first, one), state{"i", []string{"a"}, 1, 17})
		has(t, fmt.Sprintf("%.20q behind", first), with(one, first), state{"i", []string{"a"}, 1, 17})
	}
}

// P5.1: of two areas that tell something the one of the greater epoch counts; the first one, if it is the same.
func TestTheYoungest(t *testing.T) {
	heads := []string{"\x00\x01", "\x00\x02", "\x00\x7f", "\x00\x80\x01", "\x00\x81\x01", "\x00\x80\x02", ofLast, ofMost}
	epochs := []int{1, 2, 127, 128, 129, 256, most - 1, most}
	for i, head := range heads {
		for k, other := range heads {
			first := wafer.Row(head+"first", "\x01a", "\x01aa")
			second := wafer.Row(other+"second", "\x01b")
			want := state{"first", []string{"a", "aa"}, epochs[i], len(first)}
			if epochs[k] > epochs[i] {
				want = state{"second", []string{"b"}, epochs[k], len(second)}
			}
			has(t, fmt.Sprintf("%d and %d", epochs[i], epochs[k]), with(first, second), want)
		}
	}
}

// P5.1: what waits is there too, as long as the power doesn't go.
func TestOpenOfWhatWaits(t *testing.T) {
	d := with(wafer.Row("\x00\x01i", "\x01a"), "")
	d.Append(0, wafer.Row("\x01b"))
	has(t, "a load that waits", d, state{"i", []string{"a", "b"}, 1, 25})
	d.Append(1, wafer.Row("\x00\x02j"))
	has(t, "an image that waits", d, state{"j", nil, 2, 9})
	if d.Waits() != 2 {
		t.Errorf("%d wait", d.Waits())
	}
	d.Reset(1)
	has(t, "a Reset that waits", d, state{"i", []string{"a", "b"}, 1, 25})
}

// P5.1: Settle puts an image to the other area, each time, as the chapter's bytes, and empties the old one; all of it is forced.
func TestSettle(t *testing.T) {
	d := disk.New()
	v, got := open(t, d)
	if !got.equal(state{}) {
		t.Errorf("a new disk: %v", got)
	}
	answers(t, "Settle", v.Settle("one"), api.OK)
	is(t, "one", v, 1, 11)
	shaped(t, "one", d, still("", wafer.Row("\x00\x01one")))
	answers(t, "Settle", v.Settle(""), api.OK)
	is(t, "none", v, 2, 8)
	shaped(t, "none", d, still(wafer.Row("\x00\x02"), ""))
	answers(t, "Settle", v.Settle("three"), api.OK)
	is(t, "three", v, 3, 13)
	shaped(t, "three", d, still("", wafer.Row("\x00\x03three")))
	has(t, "opened anew", d, state{"three", nil, 3, 13})
	for n := range 300 {
		answers(t, "Settle", v.Settle("x"), api.OK)
		if v.Epoch() != n+4 {
			t.Fatalf("epoch %d", v.Epoch())
		}
	}
	shaped(t, "the 303rd", d, still("", wafer.Row("\x00\xaf\x02x")))
}

// P5.1: Settle over whatever the areas have: the image goes where the youngest isn't, and nothing else is left.
func TestSettleOverAll(t *testing.T) {
	for first := range nothings() {
		for second := range nothings() {
			d := with(first, second)
			d.Append(0, "w")
			v, _ := open(t, d)
			answers(t, "Settle", v.Settle("new"), api.OK)
			is(t, "settled", v, 1, 11)
			shaped(t, "settled", d, still("", wafer.Row("\x00\x01new")))
		}
		told := wafer.Row("\x00\x07i", "\x01a") + "torn"
		for a, d := range []*disk.Disk{with(told, first), with(first, told)} {
			v, _ := open(t, d)
			answers(t, "Settle", v.Settle("new"), api.OK)
			is(t, "settled", v, 8, 11)
			want := [2]string{}
			want[1-a] = wafer.Row("\x00\x08new")
			shaped(t, "settled", d, still(want[0], want[1]))
			answers(t, "Append", v.Append("b"), api.OK)
			has(t, "opened anew", d, state{"new", []string{"b"}, 8, 19})
		}
	}
	same := wafer.Row("\x00\x07i")
	d := with(same, same)
	v, _ := open(t, d)
	answers(t, "Settle of two of one epoch", v.Settle("new"), api.OK)
	shaped(t, "settled", d, still("", wafer.Row("\x00\x08new")))
}

// P5.1: an image's record has at most MaxLoad bytes: how many are left for the image hangs on its epoch.
func TestSettleTooLong(t *testing.T) {
	for _, c := range []struct {
		head  string
		epoch int // of the next image
		room  int
	}{
		{"", 1, 1022},
		{"\x00\x01", 2, 1022},
		{"\x00\x7e", 127, 1022},
		{"\x00\x7f", 128, 1021},
		{"\x00\xff\x7f", 1 << 14, 1020},
		{"\x00\xff\xff\x7f", 1 << 21, 1019},
		{"\x00\xff\xff\xff\x7f", 1 << 28, 1018},
		{"\x00\xff\xff\xff\xff\x7f", 1 << 35, 1017},
		{ofLast, most, 1017},
	} {
		first, second := "", ""
		if c.head != "" {
			second = wafer.Row(c.head+"i", "\x01a")
		}
		d := with(first, second)
		v, before := open(t, d)
		for _, n := range []int{c.room + 1, c.room + 2, 1024, 1025, 1 << 14, 1 << 20} {
			answers(t, "Settle of too much", v.Settle(long(n)), api.ErrLong)
			is(t, "refused", v, c.epoch-1, before.size)
			shaped(t, "refused", d, still(first, second))
			answers(t, "Append, refused", v.Append("a"), api.ErrStale)
		}
		answers(t, "Settle of as much as goes", v.Settle(long(c.room)), api.OK)
		is(t, "settled", v, c.epoch, 1030)
		has(t, "opened anew", d, state{long(c.room), nil, c.epoch, 1030})
	}
}

// P5.1: a vault that has settled, and whose next image is refused, goes on as if nothing had been; what waits, waits.
func TestSettleRefusedGoesOn(t *testing.T) {
	d := disk.New()
	v, _ := open(t, d)
	v.Settle("i")
	v.Append("a")
	v.Force()
	v.Append("b")
	before := shapeOf(d)
	answers(t, "Settle", v.Settle(long(1023)), api.ErrLong)
	is(t, "refused", v, 1, 25)
	shaped(t, "refused", d, before)
	answers(t, "Append", v.Append("c"), api.OK)
	has(t, "opened anew", d, state{"i", []string{"a", "b", "c"}, 1, 33})
}

// P5.1: behind the last epoch there is none, whatever the image is; loads go in all the same.
func TestSettleFull(t *testing.T) {
	at := wafer.Row(ofMost+"i", "\x01a")
	d := with(at, "")
	v, _ := open(t, d)
	for _, image := range []string{"", "x", long(1017), long(1018), long(1 << 15)} {
		answers(t, "Settle", v.Settle(image), api.ErrFull)
		is(t, "refused", v, most, len(at))
		shaped(t, "refused", d, still(at, ""))
		answers(t, "Append, not settled", v.Append("a"), api.ErrStale)
	}
	d = with(wafer.Row(ofLast+"i"), "")
	v, _ = open(t, d)
	answers(t, "Settle to the last epoch", v.Settle("j"), api.OK)
	is(t, "settled", v, most, 14)
	shaped(t, "settled", d, still("", wafer.Row(ofMost+"j")))
	answers(t, "Settle behind it", v.Settle("k"), api.ErrFull)
	answers(t, "Settle behind it, too long", v.Settle(long(2000)), api.ErrFull)
	answers(t, "Append", v.Append("a"), api.OK)
	has(t, "opened anew", d, state{"j", []string{"a"}, most, 22})
}

// P5.1: Append needs a Settle since the vault was opened, and says so ahead of all else.
func TestAppendNeedsSettle(t *testing.T) {
	full := strings.Repeat(wafer.Row("\x01"+long(1023)), 15)
	for _, first := range []string{"", wafer.Row("\x00\x01i", "\x01a"), wafer.Row("\x00\x01i") + "torn", wafer.Row("\x00\x01i") + full} {
		d := with(first, "")
		v, before := open(t, d)
		for _, load := range []string{"", "a", long(1023), long(1024), long(1 << 15)} {
			answers(t, "Append", v.Append(load), api.ErrStale)
		}
		v.Force()
		answers(t, "Append, forced", v.Append("a"), api.ErrStale)
		is(t, "refused", v, before.epoch, before.size)
		shaped(t, "refused", d, still(first, ""))
		v.Settle("i")
		answers(t, "Append, settled", v.Append("a"), api.OK)
		v.Settle("j")
		answers(t, "Append, settled again", v.Append("a"), api.OK)
		v, _ = open(t, d)
		answers(t, "Append, opened anew", v.Append("a"), api.ErrStale)
	}
}

// P5.1: loads stand behind the image, each as one change, as the chapter's bytes; Force makes them last.
func TestAppendAndForce(t *testing.T) {
	d := disk.New()
	v, _ := open(t, d)
	v.Settle("i")
	safe := wafer.Row("\x00\x01i")
	now := safe
	var loads []string
	for i, load := range []string{"a", "", "xyz", "\x00\x01", "\x01", "a", long(1023), long(1022)} {
		answers(t, "Append", v.Append(load), api.OK)
		loads = append(loads, load)
		now += wafer.Close("\x01" + load)
		is(t, "appended", v, 1, len(now))
		shaped(t, "appended", d, shape{[2]string{"", now}, [2]string{"", safe}, i + 1})
		has(t, "appended", d, state{"i", loads, 1, len(now)})
	}
	v.Force()
	is(t, "forced", v, 1, len(now))
	shaped(t, "forced", d, still("", now))
	v.Force()
	shaped(t, "forced again", d, still("", now))
	has(t, "forced", d, state{"i", loads, 1, len(now)})
	answers(t, "Settle", v.Settle("j"), api.OK)
	has(t, "settled", d, state{"j", nil, 2, 9})
}

// P5.1: Force of a vault that hasn't settled forces all the same.
func TestForceNotSettled(t *testing.T) {
	d := disk.New()
	d.Append(1, wafer.Row("\x00\x01i"))
	v, _ := open(t, d)
	v.Force()
	shaped(t, "forced", d, still("", wafer.Row("\x00\x01i")))
}

// P5.1: the log's errors: a load's record of more than MaxLoad bytes, one that has no room; a shorter one may have.
func TestAppendRefused(t *testing.T) {
	d := disk.New()
	v, _ := open(t, d)
	v.Settle(long(1022))
	size := 1030
	for _, n := range []int{1024, 1025, 1 << 14, 1 << 20} {
		answers(t, "Append of too much", v.Append(long(n)), api.ErrLong)
	}
	is(t, "refused", v, 1, size)
	for range 14 {
		answers(t, "Append", v.Append(long(1023)), api.OK)
		size += 1030
	}
	room := api.MaxArea - size // bytes of a record that go in yet
	before := shapeOf(d)
	for _, n := range []int{room - 6, room - 5, 1023} {
		answers(t, "Append without room", v.Append(long(n)), api.ErrFull)
	}
	answers(t, "Append of too much, without room", v.Append(long(1024)), api.ErrLong)
	is(t, "refused", v, 1, size)
	shaped(t, "refused", d, before)
	answers(t, "Append of as much as goes", v.Append(long(room-7)), api.OK)
	is(t, "full", v, 1, api.MaxArea)
	answers(t, "Append to a full one", v.Append(""), api.ErrFull)
	answers(t, "Settle of a full one", v.Settle("j"), api.OK)
	answers(t, "Append, settled", v.Append(long(1023)), api.OK)
	is(t, "settled", v, 2, 9+1030)
}

// P5.1: of a nil vault there is nothing.
func TestNil(t *testing.T) {
	var v *vault.Vault
	for _, s := range []string{"", "a", long(1023), long(1 << 15)} {
		answers(t, "Settle", v.Settle(s), api.ErrNil)
		answers(t, "Append", v.Append(s), api.ErrNil)
	}
	v.Force()
	is(t, "nil", v, 0, 0)
}

// P5.1, with rule 3: lists of two answers share no memory, and a vault doesn't know what is done to one.
func TestFoundIsNew(t *testing.T) {
	d := with(wafer.Row("\x00\x01i", "\x01a", "\x01b", "\x01c"), "")
	v, f, _ := vault.Open(d)
	_, o, _ := vault.Open(d)
	f.Loads[0] = "x"
	f.Loads = append(f.Loads[:1], "y")
	if !slices.Equal(o.Loads, []string{"a", "b", "c"}) {
		t.Errorf("%q", o.Loads)
	}
	is(t, "written over", v, 1, 33)
	has(t, "opened anew", d, state{"i", []string{"a", "b", "c"}, 1, 33})
}

// P5.1, with rule 4: vaults on two disks know nothing of one another, though one disk was copied of the other.
func TestTwoDisks(t *testing.T) {
	d := with(wafer.Row("\x00\x01i"), "")
	o := d.Copy()
	v, _ := open(t, d)
	w, _ := open(t, o)
	v.Settle("v")
	answers(t, "Append to the other one", w.Append("a"), api.ErrStale)
	w.Settle("w")
	w.Settle("ww")
	w.Append("a")
	is(t, "v", v, 2, 9)
	is(t, "w", w, 3, 10+8)
	has(t, "v", d, state{"v", nil, 2, 9})
	has(t, "w", o, state{"ww", []string{"a"}, 3, 18})
}

// P5.2: the chapter's example.
func TestExample(t *testing.T) {
	d := disk.New()
	v, _ := open(t, d)
	answers(t, "Settle", v.Settle("i"), api.OK)
	answers(t, "Append", v.Append("a"), api.OK)
	v.Force()
	d.Crash(0, 0)
	has(t, "example", d, state{"i", []string{"a"}, 1, 17})
	d.Crash(math.MaxInt, math.MaxInt)
	has(t, "once more", d, state{"i", []string{"a"}, 1, 17})
}
