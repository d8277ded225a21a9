package vault_test

import (
	"fmt"
	"slices"
	"testing"

	"countermand/api"
	"countermand/disk"
	"countermand/vault"
)

// model is a vault told another way: no areas, no bytes.
type model struct {
	image   string
	epoch   int
	forced  []string
	waits   []string
	settled bool
}

// digits answers how many bytes an epoch's number has.
func digits(n int) int {
	if n < 128 {
		return 1
	}
	return 1 + digits(n/128)
}

// state answers what can be asked of a vault like the model, opened anew.
func (m model) state() state {
	s := state{image: m.image, loads: slices.Concat(m.forced, m.waits), epoch: m.epoch}
	if m.epoch == 0 {
		return s
	}
	s.size = 7 + digits(m.epoch) + len(m.image)
	for _, load := range s.loads {
		s.size += 7 + len(load)
	}
	return s
}

// settle answers the model behind Settle.
func (m model) settle(image string) (model, api.Errno) {
	if m.epoch == 1<<40 {
		return m, api.ErrFull
	}
	if 1+digits(m.epoch+1)+len(image) > 1024 {
		return m, api.ErrLong
	}
	return model{image: image, epoch: m.epoch + 1, settled: true}, api.OK
}

// appended answers the model behind Append.
func (m model) appended(load string) (model, api.Errno) {
	switch {
	case !m.settled:
		return m, api.ErrStale
	case len(load) > 1023:
		return m, api.ErrLong
	case m.state().size+7+len(load) > 16384:
		return m, api.ErrFull
	}
	m.waits = append(slices.Clone(m.waits), load)
	return m, api.OK
}

// force answers the model behind Force.
func (m model) force() model {
	m.forced, m.waits = slices.Concat(m.forced, m.waits), nil
	return m
}

// crash answers the model behind a crash, opened anew.
func (m model) crash(keep, part int) model {
	n := min(keep, len(m.waits))
	if n == keep && n < len(m.waits) && part >= 7+len(m.waits[n]) {
		n++
	}
	m.waits = m.waits[:n]
	m = m.force()
	m.settled = false
	return m
}

// cut answers the model behind a crash within Settle, of which so many steps were done, opened anew.
func (m model) cut(image string, done, keep, part int) model {
	next, _ := m.settle(image)
	whole := next.state().size
	switch {
	case done < 2:
		return m.crash(keep, part)
	case done == 2 || done == 3 && keep == 0 && part < whole:
		return m.force().crash(0, 0)
	}
	return next.crash(0, 0)
}

// player is a vault on a disk, and the model of it.
type player struct {
	disk  *disk.Disk
	vault *vault.Vault
	mod   model
}

// newPlayer answers one whose vault has settled, and has a load that was forced, and one that wasn't.
func newPlayer(t *testing.T) *player {
	t.Helper()
	p := &player{disk: disk.New()}
	p.vault, _ = open(t, p.disk)
	p.vault.Settle("s")
	p.vault.Append("f")
	p.vault.Force()
	p.vault.Append("w")
	p.mod = model{"s", 1, []string{"f"}, []string{"w"}, true}
	return p
}

// call is one call, of a vault and of the model; it tells whether both answered the same.
type call struct {
	name string
	do   func(t *testing.T, p *player) bool
}

// appends answers the call of Append.
func appends(load string) call {
	return call{fmt.Sprintf("Append(%d)", len(load)), func(t *testing.T, p *player) bool {
		next, want := p.mod.appended(load)
		p.mod = next
		return p.vault.Append(load) == want
	}}
}

// settles answers the call of Settle.
func settles(image string) call {
	return call{fmt.Sprintf("Settle(%d)", len(image)), func(t *testing.T, p *player) bool {
		next, want := p.mod.settle(image)
		p.mod = next
		return p.vault.Settle(image) == want
	}}
}

// crashes answers a crash, behind which the vault is opened anew.
func crashes(keep, part int) call {
	return call{fmt.Sprintf("Crash(%d, %d)", keep, part), func(t *testing.T, p *player) bool {
		p.mod = p.mod.crash(keep, part)
		p.disk.Crash(keep, part)
		p.vault, _ = open(t, p.disk)
		return true
	}}
}

// cuts answers a Settle within which the power goes.
func cuts(image string, done, keep, part int) call {
	return call{fmt.Sprintf("%d steps of Settle(%d), Crash(%d, %d)", done, len(image), keep, part), func(t *testing.T, p *player) bool {
		p.mod = p.mod.cut(image, done, keep, part)
		for _, step := range p.vault.Steps(image)[:done] {
			step()
		}
		p.disk.Crash(keep, part)
		p.vault, _ = open(t, p.disk)
		return true
	}}
}

// calls answers those of which all orders are tried.
func calls() []call {
	return []call{
		appends("abc"),
		appends(""),
		appends(long(1024)),
		settles("i"),
		settles(long(1023)),
		{"Force", func(t *testing.T, p *player) bool {
			p.vault.Force()
			p.mod = p.mod.force()
			return true
		}},
		{"Open", func(t *testing.T, p *player) bool {
			p.vault, _ = open(t, p.disk)
			p.mod.settled = false
			return true
		}},
		crashes(0, 0),
		crashes(0, 8),
		crashes(1, 6),
		crashes(9, 0),
		cuts("c", 1, 1, 9),
		cuts("c", 3, 0, 8),
		cuts("c", 3, 0, 9),
		cuts("c", 4, 0, 0),
		cuts("c", 5, 0, 0),
	}
}

// same tells a fault if the vault, or one opened anew on a copy of the disk, is otherwise than the model.
func (p *player) same(t *testing.T, names []string) {
	t.Helper()
	want := p.mod.state()
	if p.vault.Epoch() != want.epoch || p.vault.Size() != want.size {
		t.Fatalf("%q: epoch %d, size %d, want %v", names, p.vault.Epoch(), p.vault.Size(), want)
	}
	if _, got := open(t, p.disk.Copy()); !got.equal(want) {
		t.Fatalf("%q, opened anew: %v, want %v", names, got, want)
	}
	if p.disk.Waits() != len(p.mod.waits) {
		t.Fatalf("%q: %d wait, want %d", names, p.disk.Waits(), len(p.mod.waits))
	}
	lost := p.disk.Copy()
	lost.Crash(0, 0)
	if _, got := open(t, lost); !got.equal(p.mod.crash(0, 0).state()) {
		t.Fatalf("%q, and all lost that waits: %v, want %v", names, got, p.mod.crash(0, 0).state())
	}
}

// play does one call.
func (p *player) play(t *testing.T, c call, names []string) {
	t.Helper()
	if !c.do(t, p) {
		t.Fatalf("%q: another answer", names)
	}
	p.same(t, names)
}

// P5.1 and P5.2: the calls in every order, three of them, each row held against the model behind every call.
func TestEveryOrder(t *testing.T) {
	all := calls()
	for _, first := range all {
		for _, second := range all {
			for _, third := range all {
				p := newPlayer(t)
				var names []string
				for _, c := range []call{first, second, third} {
					names = append(names, c.name)
					p.play(t, c, names)
				}
			}
		}
	}
}

// P5.1 and P5.2: long rows of calls, with loads so long that areas get full.
func TestLongRows(t *testing.T) {
	most := appends(long(1023))
	all := append(calls(), appends(long(500)), settles(long(900)), crashes(3, 1029), crashes(2, 1030),
		cuts(long(700), 3, 0, 600), cuts(long(700), 2, 0, 0), cuts(long(700), 6, 0, 0), cuts("", 0, 4, 7))
	pick := uint32(5)
	full := 0
	for range 40 {
		p := newPlayer(t)
		var names []string
		for range 100 {
			pick = pick*1664525 + 1013904223
			c := most // mostly, so that there come to be many of them
			if at := int(pick>>16) % (len(all) * 4); at < len(all) {
				c = all[at]
			}
			names = append(names, c.name)
			if p.mod.settled && p.mod.state().size > 16384-1030 {
				full++
			}
			p.play(t, c, names)
		}
	}
	if full == 0 {
		t.Error("no area got full")
	}
}
