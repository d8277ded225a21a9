// Package stylus is layer 1: things as bytes, and back. See shared/doc/01-stylus.md.
package stylus

const (
	perByte = 7            // bits of a number that a byte holds
	follow  = 1 << perByte // set in a byte while more of its number follow
	longest = 10           // bytes of a number of 64 bits, of which the last one holds a single bit
)

// Stylus writes things, one behind the other.
type Stylus struct {
	written []byte
}

// Nat: numbers from 0 on, seven bits in each byte, the lowest first; its highest bit set, if more follow; nothing of those below 0.
func (s *Stylus) Nat(list ...int) {
	for _, n := range list {
		if n >= 0 {
			s.number(uint64(n))
		}
	}
}

// Int: numbers with a sign: twice as great, and, of those below 0, all bits turned.
func (s *Stylus) Int(list ...int) {
	for _, n := range list {
		s.number(fold(n))
	}
}

// Raw: bytes alone. Text: how many, and the bytes.
func (s *Stylus) Raw(t string) {
	if s != nil {
		s.written = append(s.written, t...)
	}
}

func (s *Stylus) Text(list ...string) {
	for _, t := range list {
		s.Nat(len(t))
		s.Raw(t)
	}
}

// Bytes: all that was written.
func (s *Stylus) Bytes() string {
	if s == nil {
		return ""
	}
	return string(s.written)
}

// number takes 64 bits without a sign, since a folded number may need all of them.
func (s *Stylus) number(n uint64) {
	if s == nil {
		return
	}
	for n >= follow {
		s.written = append(s.written, byte(n)|follow)
		n >>= perByte
	}
	s.written = append(s.written, byte(n))
}

// Reader reads things, one behind the other; from the first one on that isn't there, nothing.
type Reader struct {
	rest string
	bad  bool
}

// Of: a reader of bytes.
func Of(s string) *Reader { return &Reader{rest: s} }

// Spoil: nothing is read any more.
func (r *Reader) Spoil() {
	if r != nil {
		r.rest, r.bad = "", true
	}
}

// Raw: so many bytes.
func (r *Reader) Raw(n int) string {
	if r.Bad() || n < 0 || n > len(r.rest) {
		r.Spoil()
		return ""
	}
	t := r.rest[:n]
	r.rest = r.rest[n:]
	return t
}

// Nat: a number from 0 to so much. Int: one with a sign. Text: a text of at most so many bytes.
func (r *Reader) Nat(most int) int {
	n := r.number()
	if most < 0 || n > uint64(most) {
		r.Spoil()
		return 0
	}
	return int(n)
}

func (r *Reader) Int() int { return unfold(r.number()) }

func (r *Reader) Text(most int) string { return r.Raw(r.Nat(most)) }

// Bad: whether something wasn't there. Left: how many bytes are left. Over: whether all was read, and nothing missed.
func (r *Reader) Bad() bool { return r == nil || r.bad }

func (r *Reader) Left() int {
	if r.Bad() {
		return 0
	}
	return len(r.rest)
}

func (r *Reader) Over() bool { return !r.Bad() && len(r.rest) == 0 }

// number answers 0 where there is none: Nat, Int and Text then answer their zero values by themselves.
func (r *Reader) number() uint64 {
	if r.Bad() {
		return 0
	}
	n, size := leading(r.rest)
	if size == 0 {
		r.Spoil()
		return 0
	}
	r.rest = r.rest[size:]
	return n
}

// leading answers the number with which bytes begin, and how many of them it has; 0 and 0: there is none.
func leading(s string) (uint64, int) {
	n := uint64(0)
	for i := range min(len(s), longest) {
		b := s[i]
		n |= uint64(b&^follow) << (perByte * i)
		if b >= follow {
			continue
		}
		idle := i > 0 && b == 0
		beyond := i == longest-1 && b > 1
		if idle || beyond {
			return 0, 0
		}
		return n, i + 1
	}
	return 0, 0
}

// fold brings small numbers of both signs to small ones from 0 on; no two share one, and the least number has one too.
func fold(n int) uint64 {
	if n < 0 {
		return uint64(^n)<<1 | 1
	}
	return uint64(n) << 1
}

func unfold(u uint64) int {
	n := int(u >> 1)
	if u&1 == 1 {
		return ^n
	}
	return n
}
