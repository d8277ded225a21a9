package stylus_test

import (
	"math/big"
	"testing"

	"countermand/stylus"
)

// model is a reader by the chapter's words alone: numbers are those of any length, held against all bytes.
type model struct {
	rest string
	bad  bool
}

func (m *model) spoil() { *m = model{bad: true} }

// number answers nil where there is none.
func (m *model) number() *big.Int {
	n, weight := new(big.Int), big.NewInt(1)
	for i := 0; i < len(m.rest); i++ {
		b := int64(m.rest[i])
		n.Add(n, new(big.Int).Mul(weight, big.NewInt(b%128)))
		weight.Mul(weight, big.NewInt(128))
		if b < 128 {
			m.rest = m.rest[i+1:]
			if n.BitLen() > 64 || i+1 != max(1, (n.BitLen()+6)/7) {
				return nil
			}
			return n
		}
	}
	return nil
}

func (m *model) raw(n int) string {
	if m.bad || n < 0 || len(m.rest) < n {
		m.spoil()
		return ""
	}
	t := m.rest[:n]
	m.rest = m.rest[n:]
	return t
}

func (m *model) nat(most int) int {
	n := m.number()
	if n == nil || n.Cmp(big.NewInt(int64(most))) > 0 {
		m.spoil()
		return 0
	}
	return int(n.Int64())
}

func (m *model) signed() int {
	n := m.number()
	if n == nil {
		m.spoil()
		return 0
	}
	half, odd := new(big.Int).DivMod(n, big.NewInt(2), new(big.Int))
	if odd.Sign() != 0 {
		half.Sub(big.NewInt(-1), half)
	}
	return int(half.Int64())
}

func (m *model) text(most int) string { return m.raw(m.nat(most)) }

// call is one that both a reader and the model are asked.
type call struct {
	name string
	same func(r *stylus.Reader, m *model) bool
}

func calls() []call {
	return []call{
		{name: "Raw(0)", same: func(r *stylus.Reader, m *model) bool { return r.Raw(0) == m.raw(0) }},
		{name: "Raw(2)", same: func(r *stylus.Reader, m *model) bool { return r.Raw(2) == m.raw(2) }},
		{name: "Raw(-1)", same: func(r *stylus.Reader, m *model) bool { return r.Raw(-1) == m.raw(-1) }},
		{name: "Nat(-1)", same: func(r *stylus.Reader, m *model) bool { return r.Nat(-1) == m.nat(-1) }},
		{name: "Nat(1)", same: func(r *stylus.Reader, m *model) bool { return r.Nat(1) == m.nat(1) }},
		{name: "Nat(1000)", same: func(r *stylus.Reader, m *model) bool { return r.Nat(1000) == m.nat(1000) }},
		{name: "Int", same: func(r *stylus.Reader, m *model) bool { return r.Int() == m.signed() }},
		{name: "Text(2)", same: func(r *stylus.Reader, m *model) bool { return r.Text(2) == m.text(2) }},
		{name: "Spoil", same: func(r *stylus.Reader, m *model) bool { r.Spoil(); m.spoil(); return true }},
	}
}

// P1.1: all calls, in every order of four of them, answer as the model does.
func TestReaderInEveryOrder(t *testing.T) {
	list := calls()
	for _, bytes := range []string{
		"", "\x00", "\x01", "\x02", "\x80", "\x80\x00", "\x00\x01\x02\x03\x04\x05", "\x02ab\x01c\x00", "\x02a",
		"\xac\x02\xac\x02", "\x01\xe8\x07\x02xy\xe9\x07", "\x02\x81\x80\x00\x01",
		"\xff\xff\xff\xff\xff\xff\xff\xff\xff\x01\x03abc", "\xff\xff\xff\xff\xff\xff\xff\xff\xff\x02\x01",
	} {
		for k := range len(list) * len(list) * len(list) * len(list) {
			r, m := stylus.Of(bytes), &model{rest: bytes}
			done := ""
			for range 4 {
				c := list[k%len(list)]
				k /= len(list)
				done += " " + c.name
				if !c.same(r, m) || r.Bad() != m.bad || r.Left() != len(m.rest) || r.Over() != (!m.bad && m.rest == "") {
					t.Fatalf("%x:%s: not what the chapter says", bytes, done)
				}
			}
		}
	}
}

// P1.1: all short rows of the bytes at which numbers turn, read as one number.
func TestNumbersOfAllRows(t *testing.T) {
	const turning = "\x00\x01\x02\x7f\x80\x81\xff"
	for length := range 12 {
		for _, fill := range []string{"\x80", "\xff"} {
			for k := range len(turning) * len(turning) * len(turning) {
				row := ""
				for range min(length, 3) {
					row += turning[k%len(turning) : k%len(turning)+1]
					k /= len(turning)
				}
				for len(row) < length {
					row = row[:1] + fill + row[1:]
				}
				r, m := stylus.Of(row), &model{rest: row}
				if r.Int() != m.signed() || r.Bad() != m.bad || r.Left() != len(m.rest) {
					t.Fatalf("Int of %x", row)
				}
				r, m = stylus.Of(row), &model{rest: row}
				if r.Nat(1<<62) != m.nat(1<<62) || r.Bad() != m.bad || r.Left() != len(m.rest) {
					t.Fatalf("Nat of %x", row)
				}
			}
		}
	}
}
