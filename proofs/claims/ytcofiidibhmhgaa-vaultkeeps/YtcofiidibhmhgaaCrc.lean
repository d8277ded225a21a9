/-
  Plain facts on sums: a remainder of 32 bits, bit by bit, the lowest bit of a byte first. No Go in sight.
-/
namespace Go.Proofs.Ytcofiidibhmhgaa

/-- One bit. -/
def step (c : Nat) : Nat := if c % 2 = 1 then (c / 2) ^^^ 2197175160 else c / 2
/-- Several bits. -/
def steps : Nat → Nat → Nat
  | 0, c => c
  | n + 1, c => steps n (step c)
/-- One byte. -/
def upd (c : Nat) (b : UInt8) : Nat := steps 8 (c ^^^ b.toNat)
/-- Several bytes. -/
def crc : Nat → List UInt8 → Nat
  | c, [] => c
  | c, b :: r => crc (upd c b) r
/-- A text's sum. -/
def sumN (l : List UInt8) : Nat := 4294967295 - crc 4294967295 l
/-- A number's lowest bytes, the lowest first. -/
def le : Nat → Nat → List UInt8
  | 0, _ => []
  | k + 1, x => UInt8.ofNat (x % 256) :: le k (x / 256)

theorem step_lt {c : Nat} (h : c < 4294967296) : step c < 4294967296 := by
  unfold step
  split
  · exact Nat.xor_lt_two_pow (n := 32) (by omega) (by decide)
  · omega

theorem steps_lt (n : Nat) : ∀ {c : Nat}, c < 4294967296 → steps n c < 4294967296 := by
  induction n with
  | zero => intro c h; exact h
  | succ n ih => intro c h; exact ih (step_lt h)

theorem byte_lt (b : UInt8) : b.toNat < 256 := b.toNat_lt

theorem upd_lt {c : Nat} (b : UInt8) (h : c < 4294967296) : upd c b < 4294967296 :=
  steps_lt 8 (Nat.xor_lt_two_pow (n := 32) (by omega) (by have := byte_lt b; omega))

theorem crc_lt : ∀ (l : List UInt8) {c : Nat}, c < 4294967296 → crc c l < 4294967296
  | [], _, h => h
  | b :: r, _, h => crc_lt r (upd_lt b h)

theorem sumN_lt (l : List UInt8) : sumN l < 4294967296 := by unfold sumN; omega

theorem xor_half (a b : Nat) : (a ^^^ b) / 2 = a / 2 ^^^ b / 2 := by
  have h := Nat.shiftRight_xor_distrib (a := a) (b := b) (i := 1)
  simpa [Nat.shiftRight_eq_div_pow] using h

theorem xor_odd (a b : Nat) : (a ^^^ b) % 2 = (a + b) % 2 := by
  have h : (a ^^^ b) % 2 = a % 2 ^^^ b % 2 := Nat.xor_mod_two_pow (a := a) (b := b) (n := 1)
  rcases Nat.mod_two_eq_zero_or_one a with ha | ha <;> rcases Nat.mod_two_eq_zero_or_one b with hb | hb <;> rw [h, ha, hb] <;> simp <;> omega

theorem xor_four (a b c d : Nat) : (a ^^^ b) ^^^ (c ^^^ d) = (a ^^^ c) ^^^ (b ^^^ d) := by
  rw [Nat.xor_assoc, Nat.xor_assoc, ← Nat.xor_assoc b c d, Nat.xor_comm b c, Nat.xor_assoc c b d]

theorem step_xor (a b : Nat) : step (a ^^^ b) = step a ^^^ step b := by
  unfold step
  rw [xor_half, xor_odd]
  by_cases ha : a % 2 = 1
  · by_cases hb : b % 2 = 1
    · rw [if_neg (by omega), if_pos ha, if_pos hb, xor_four, Nat.xor_self, Nat.xor_zero]
    · rw [if_pos (by omega), if_pos ha, if_neg hb, Nat.xor_assoc, Nat.xor_comm (b / 2), ← Nat.xor_assoc]
  · by_cases hb : b % 2 = 1
    · rw [if_pos (by omega), if_neg ha, if_pos hb, Nat.xor_assoc]
    · rw [if_neg (by omega), if_neg ha, if_neg hb]

theorem steps_xor (n : Nat) : ∀ a b : Nat, steps n (a ^^^ b) = steps n a ^^^ steps n b := by
  induction n with
  | zero => intro a b; rfl
  | succ n ih => intro a b; rw [steps, steps, steps, step_xor, ih]

theorem step_none {c : Nat} (h : c < 4294967296) (e : step c = 0) : c = 0 := by
  unfold step at e
  split at e
  · have h1 : c / 2 = 2197175160 := by
      have h2 : (c / 2 ^^^ 2197175160) ^^^ 2197175160 = 0 ^^^ 2197175160 := by rw [e]
      rw [Nat.xor_assoc, Nat.xor_self, Nat.xor_zero, Nat.zero_xor] at h2
      exact h2
    omega
  · omega

theorem steps_none (n : Nat) : ∀ {c : Nat}, c < 4294967296 → steps n c = 0 → c = 0 := by
  induction n with
  | zero => intro c _ e; exact e
  | succ n ih => intro c h e; exact step_none h (ih (step_lt h) e)

theorem steps_add (m n c : Nat) : steps (m + n) c = steps n (steps m c) := by
  induction m generalizing c with
  | zero => rw [Nat.zero_add]; rfl
  | succ m ih => rw [Nat.succ_add, steps, steps, ih]

theorem step_double (y : Nat) : step (2 * y) = y := by
  unfold step
  rw [if_neg (by omega)]
  omega

theorem steps_byte (y : Nat) : steps 8 (256 * y) = y := by
  have e : 256 * y = 2 * (2 * (2 * (2 * (2 * (2 * (2 * (2 * y))))))) := by omega
  rw [e]
  simp only [steps, step_double]

theorem steps_zero (n : Nat) : steps n 0 = 0 := by
  induction n with
  | zero => rfl
  | succ n ih => rw [steps]; exact ih

theorem crc_append (l m : List UInt8) : ∀ c, crc c (l ++ m) = crc (crc c l) m := by
  induction l with
  | nil => intro c; rfl
  | cons b r ih => intro c; exact ih _

/-- Bytes of two lists turned, one by the other. -/
def turned : List UInt8 → List UInt8 → List UInt8
  | a :: l, b :: m => UInt8.ofNat (a.toNat ^^^ b.toNat) :: turned l m
  | _, _ => []

theorem crc_turned : ∀ (l m : List UInt8) (a b : Nat), l.length = m.length → crc (a ^^^ b) (turned l m) = crc a l ^^^ crc b m
  | [], [], _, _, _ => rfl
  | x :: l, y :: m, a, b, h => by
    have hx := byte_lt x
    have hy := byte_lt y
    have hxy : x.toNat ^^^ y.toNat < 256 := Nat.xor_lt_two_pow (n := 8) hx hy
    have e : upd (a ^^^ b) (UInt8.ofNat (x.toNat ^^^ y.toNat)) = upd a x ^^^ upd b y := by
      unfold upd
      rw [← steps_xor, UInt8.toNat_ofNat', Nat.mod_eq_of_lt hxy, xor_four]
    show crc (upd (a ^^^ b) (UInt8.ofNat (x.toNat ^^^ y.toNat))) (turned l m) = crc (upd a x) l ^^^ crc (upd b y) m
    rw [e]
    exact crc_turned l m _ _ (by simpa using h)
  | [], _ :: _, _, _, h => by simp at h
  | _ :: _, [], _, _, h => by simp at h

theorem crc_apart (l : List UInt8) : ∀ a b : Nat, crc a l ^^^ crc b l = steps (8 * l.length) (a ^^^ b) := by
  induction l with
  | nil => intro a b; rfl
  | cons x r ih =>
    intro a b
    show crc (upd a x) r ^^^ crc (upd b x) r = _
    rw [ih]
    unfold upd
    rw [← steps_xor, xor_four, Nat.xor_self, Nat.xor_zero, ← steps_add]
    congr 1
    rw [List.length_cons]
    omega

theorem low_high (x : Nat) : x % 256 ^^^ 256 * (x / 256) = x := by
  apply Nat.eq_of_testBit_eq
  intro i
  have h1 : (x % 256).testBit i = (decide (i < 8) && x.testBit i) := Nat.testBit_mod_two_pow x 8 i
  have h2 : (256 * (x / 256)).testBit i = (decide (8 ≤ i) && (x / 256).testBit (i - 8)) := by
    have h := Nat.testBit_two_pow_mul (i := 8) (a := x / 256) (j := i)
    simpa using h
  rw [Nat.testBit_xor, h1, h2]
  by_cases h : i < 8
  · simp [h, Nat.not_le.2 h]
  · have h8 : 8 ≤ i := by omega
    have h3 : (x / 256).testBit (i - 8) = x.testBit i := by
      have h := Nat.testBit_div_two_pow (x := x) (i := i - 8) (n := 8)
      rw [show (2 : Nat) ^ 8 = 256 from rfl] at h
      rw [h]
      congr 1
      omega
    simp [h, h8, h3]

theorem le_length (k : Nat) : ∀ x, (le k x).length = k := by
  induction k with
  | zero => intro x; rfl
  | succ k ih => intro x; simp [le, ih]

theorem crc_le (k : Nat) : ∀ c x : Nat, x < 256 ^ k → crc c (le k x) = steps (8 * k) (c ^^^ x) := by
  induction k with
  | zero =>
    intro c x h
    have : x = 0 := by simpa using h
    subst this
    rw [Nat.xor_zero]
    rfl
  | succ k ih =>
    intro c x h
    have hm : (UInt8.ofNat (x % 256)).toNat = x % 256 := by simp [UInt8.toNat_ofNat']
    show crc (upd c (UInt8.ofNat (x % 256))) (le k (x / 256)) = _
    rw [ih _ _ (by rw [Nat.pow_succ] at h; omega)]
    have e : upd c (UInt8.ofNat (x % 256)) ^^^ x / 256 = steps 8 (c ^^^ x) := by
      unfold upd
      rw [hm]
      have h2 : steps 8 (c ^^^ x % 256) ^^^ x / 256 = steps 8 (c ^^^ x % 256) ^^^ steps 8 (256 * (x / 256)) := by rw [steps_byte]
      rw [h2, ← steps_xor, Nat.xor_assoc, low_high]
    rw [e, ← steps_add]
    congr 1
    omega

theorem all_ones {c : Nat} (h : c < 4294967296) : 4294967295 - c = 4294967295 ^^^ c := by
  apply Nat.eq_of_testBit_eq
  intro i
  have h1 := Nat.testBit_two_pow_sub_succ (n := 32) h i
  have h2 := Nat.testBit_two_pow_sub_one 32 i
  rw [show (2 : Nat) ^ 32 - (c + 1) = 4294967295 - c by omega] at h1
  rw [show (2 : Nat) ^ 32 - 1 = 4294967295 by decide] at h2
  rw [Nat.testBit_xor, h1, h2]
  by_cases hi : i < 32
  · simp [hi]
  · have h3 : c.testBit i = false := Nat.testBit_lt_two_pow (Nat.lt_of_lt_of_le h (by have := Nat.pow_le_pow_right (n := 2) (by decide) (Nat.not_lt.1 hi); exact this))
    simp [hi, h3]

/-- A sum laid behind what it is of gives always the same remainder. -/
theorem crc_sealed (l : List UInt8) : crc 4294967295 (l ++ le 4 (sumN l)) = steps 32 4294967295 := by
  have hc := crc_lt l (c := 4294967295) (by decide)
  rw [crc_append, crc_le 4 _ _ (by have := sumN_lt l; omega)]
  unfold sumN
  rw [all_ones hc, Nat.xor_comm 4294967295, ← Nat.xor_assoc, Nat.xor_self, Nat.zero_xor]

/-- Four bytes in a row turned: the remainder is another one. -/
theorem crc_burst (a b m : List UInt8) (x c : Nat) (hm : m.length = 4) (hx : 0 < x) (hx2 : x < 4294967296) :
    crc c (a ++ turned m (le 4 x) ++ b) ≠ crc c (a ++ m ++ b) := by
  intro e
  rw [crc_append, crc_append, crc_append, crc_append] at e
  have h1 := crc_turned m (le 4 x) (crc c a) 0 (by rw [hm, le_length])
  rw [Nat.xor_zero, crc_le 4 _ _ (by omega), Nat.zero_xor] at h1
  have h2 := crc_apart b (crc (crc c a) (turned m (le 4 x))) (crc (crc c a) m)
  rw [e, Nat.xor_self, h1, Nat.xor_comm (crc (crc c a) m), Nat.xor_assoc, Nat.xor_self, Nat.xor_zero] at h2
  have h3 := steps_none (8 * b.length) (steps_lt (8 * 4) hx2) h2.symm
  have h4 := steps_none (8 * 4) hx2 h3
  omega

end Go.Proofs.Ytcofiidibhmhgaa
