/-
  Plain facts: which bytes are those of a number; the number with which bytes begin. No Go in sight.
-/
import Derived.Test.YtdngehfebmaegaaYMath
namespace Go.Proofs.Ytdngehfebmaegaa.Sty
/-- Bytes of a number: all but the last have their highest bit set; the last is not 0, unless it is alone. -/
def Canon (t : List UInt8) : Prop :=
  t ≠ [] ∧ (∀ j, j + 1 < t.length → 128 ≤ (t.getD j 0).toNat) ∧ (t.getD (t.length - 1) 0).toNat < 128 ∧ (1 < t.length → (t.getD (t.length - 1) 0).toNat ≠ 0)

theorem canon_one {c : UInt8} (h : c.toNat < 128) : Canon [c] := by
  refine ⟨by simp, ?_, by simpa using h, by simp⟩
  intro j hj; simp at hj

theorem canon_cons {c : UInt8} {r : List UInt8} (hc : 128 ≤ c.toNat) (hr : Canon r) (h0 : r ≠ [0]) : Canon (c :: r) := by
  obtain ⟨h1, h2, h3, h4⟩ := hr
  have hlen : 1 ≤ r.length := List.length_pos_iff.2 h1
  have e : (c :: r).length - 1 = (r.length - 1) + 1 := by simp; omega
  refine ⟨by simp, ?_, ?_, ?_⟩
  · intro j hj
    cases j with
    | zero => simpa using hc
    | succ j => simpa using h2 j (by simpa using hj)
  · rw [e]; simpa using h3
  · intro _
    rw [e, List.getD_cons_succ]
    by_cases h5 : 1 < r.length
    · exact h4 h5
    · intro hz
      have hl : r.length = 1 := by omega
      obtain ⟨d, rfl⟩ := List.length_eq_one_iff.1 hl
      simp at hz
      have : d = 0 := by
        apply UInt8.toNat_inj.1
        simpa using hz
      exact h0 (by rw [this])

theorem canon_tail {c : UInt8} {r : List UInt8} (h : Canon (c :: r)) (hr : r ≠ []) : 128 ≤ c.toNat ∧ Canon r ∧ r ≠ [0] := by
  obtain ⟨_, h2, h3, h4⟩ := h
  have hlen : 1 ≤ r.length := List.length_pos_iff.2 hr
  have e : (c :: r).length - 1 = (r.length - 1) + 1 := by simp; omega
  rw [e, List.getD_cons_succ] at h3 h4
  have h4' := h4 (by simp; omega)
  refine ⟨by simpa using h2 0 (by simp; omega), ⟨hr, fun j hj => ?_, h3, fun _ => h4'⟩, fun e0 => ?_⟩
  · have := h2 (j + 1) (by simp; omega)
    simpa using this
  · rw [e0] at h4'
    simp at h4'

theorem dec_pos {t : List UInt8} (h : Canon t) (h0 : t ≠ [0]) : 0 < dec t := by
  induction t with
  | nil => exact absurd rfl h.1
  | cons c r ih =>
    by_cases hr : r = []
    · subst hr
      have hc : c.toNat < 128 := by simpa using h.2.2.1
      have hne : c.toNat ≠ 0 := fun e => h0 (by
        have : c = 0 := UInt8.toNat_inj.1 (by simpa using e)
        rw [this])
      simp [dec]
      omega
    · obtain ⟨_, h2, h3⟩ := canon_tail h hr
      have := ih h2 h3
      simp only [dec]
      omega

theorem wide_dec {t : List UInt8} (h : Canon t) : wide (dec t) = t := by
  induction t with
  | nil => exact absurd rfl h.1
  | cons c r ih =>
    have hcl := c.toNat_lt
    by_cases hr : r = []
    · subst hr
      have hc : c.toNat < 128 := by simpa using h.2.2.1
      have e : dec [c] = c.toNat := by simp [dec]; omega
      rw [e, wide_small hc]
      simp
    · obtain ⟨h1, h2, h3⟩ := canon_tail h hr
      have hp := dec_pos h2 h3
      have hge : ¬ dec (c :: r) < 128 := by simp only [dec]; omega
      rw [wide_great hge]
      have e1 : dec (c :: r) / 128 = dec r := by simp only [dec]; omega
      have e2 : 128 + dec (c :: r) % 128 = c.toNat := by simp only [dec]; omega
      rw [e1, e2, ih h2]
      simp

theorem canon_wide (n : Nat) : Canon (wide n) := by
  induction n using Nat.strongRecOn with
  | ind n ih =>
    by_cases h : n < 128
    · rw [wide_small h]
      refine canon_one ?_
      simp [UInt8.toNat_ofNat']
      omega
    · rw [wide_great h]
      refine canon_cons ?_ (ih _ (by omega)) ?_
      · simp [UInt8.toNat_ofNat']
        omega
      · intro e
        have h2 := dec_wide (n / 128)
        rw [e] at h2
        simp [dec] at h2
        omega

/-- Bytes of a number with which others begin end at the first one whose highest bit is not set. -/
theorem canon_at {t l : List UInt8} {k : Nat} (h : Canon t) (hp : t <+: l) (hk : k < l.length) (hlow : (l.getD k 0).toNat < 128) (hhigh : ∀ j, j < k → 128 ≤ (l.getD j 0).toNat) : t = l.take (k + 1) := by
  obtain ⟨h1, h2, h3, _⟩ := h
  obtain ⟨r, rfl⟩ := hp
  have hlen : 1 ≤ t.length := List.length_pos_iff.2 h1
  have hget : ∀ j, j < t.length → (t ++ r).getD j 0 = t.getD j 0 := fun j hj => by
    simp [List.getD, List.getElem?_append_left hj]
  have e : t.length = k + 1 := by
    rcases Nat.lt_trichotomy (t.length - 1) k with h | h | h
    · have := hhigh _ h
      rw [hget _ (by omega)] at this
      omega
    · omega
    · have := h2 k (by omega)
      rw [hget _ (by omega)] at hlow
      omega
  rw [← e]
  simp

/-- They are more than those whose highest bit is set. -/
theorem canon_beyond {t l : List UInt8} {k : Nat} (h : Canon t) (hp : t <+: l) (hhigh : ∀ j, j < k → 128 ≤ (l.getD j 0).toNat) : k < t.length := by
  obtain ⟨h1, _, h3, _⟩ := h
  obtain ⟨r, rfl⟩ := hp
  have hlen : 1 ≤ t.length := List.length_pos_iff.2 h1
  rcases Nat.lt_or_ge k t.length with h | h
  · exact h
  · have := hhigh (t.length - 1) (by omega)
    have hget : (t ++ r).getD (t.length - 1) 0 = t.getD (t.length - 1) 0 := by
      simp [List.getD, List.getElem?_append_left (show t.length - 1 < t.length by omega)]
    rw [hget] at this
    omega

/-- n is the number with which l begins, of sz bytes; or there is none, and both are 0. -/
def Lead (l : List UInt8) (n sz : Nat) : Prop :=
  (sz = 0 ∧ n = 0 ∧ ∀ m, m < 18446744073709551616 → ¬ wide m <+: l) ∨ (n < 18446744073709551616 ∧ sz = (wide n).length ∧ wide n <+: l)

theorem prefix_unique {a b : Nat} {l : List UInt8} (ha : wide a <+: l) (hb : wide b <+: l) : a = b := by
  have key : ∀ {x y : Nat}, wide x <+: l → wide y <+: l → (wide x).length ≤ (wide y).length → x = y := by
    intro x y hx hy hle
    have hxy : wide x <+: wide y := List.prefix_of_prefix_length_le hx hy hle
    have cy := canon_wide y
    have cx := canon_wide x
    rcases Nat.lt_or_ge (wide x).length (wide y).length with h | h
    · have h1 := cy.2.1 ((wide x).length - 1) (by have := wide_pos x; omega)
      obtain ⟨r, hr⟩ := hxy
      have hget : (wide y).getD ((wide x).length - 1) 0 = (wide x).getD ((wide x).length - 1) 0 := by
        rw [← hr]
        simp [List.getD, List.getElem?_append_left (show (wide x).length - 1 < (wide x).length by have := wide_pos x; omega)]
      rw [hget] at h1
      have := cx.2.2.1
      omega
    · exact wide_inj (hxy.eq_of_length (by omega))
  rcases Nat.le_total (wide a).length (wide b).length with h | h
  · exact key ha hb h
  · exact (key hb ha h).symm

theorem Lead.unique {l : List UInt8} {n sz n' sz' : Nat} (h : Lead l n sz) (h' : Lead l n' sz') : n = n' ∧ sz = sz' := by
  rcases h with ⟨rfl, rfl, h⟩ | ⟨h1, rfl, h3⟩
  · rcases h' with ⟨rfl, rfl, _⟩ | ⟨h1, _, h3⟩
    · exact ⟨rfl, rfl⟩
    · exact absurd h3 (h _ h1)
  · rcases h' with ⟨_, _, h⟩ | ⟨_, rfl, h3'⟩
    · exact absurd h3 (h _ h1)
    · have := prefix_unique h3 h3'
      subst this
      exact ⟨rfl, rfl⟩

theorem dec_append (a b : List UInt8) : dec (a ++ b) = dec a + 128 ^ a.length * dec b := by
  induction a with
  | nil => simp [dec]
  | cons c r ih =>
    simp only [List.cons_append, dec, ih, List.length_cons, Nat.pow_succ]
    rw [Nat.mul_add, Nat.mul_comm (128 ^ r.length) 128, Nat.mul_assoc]
    omega

theorem dec_lt (a : List UInt8) : dec a < 128 ^ a.length := by
  induction a with
  | nil => simp [dec]
  | cons c r ih =>
    simp only [dec, List.length_cons, Nat.pow_succ]
    omega

theorem dec_take_succ (l : List UInt8) (k : Nat) (h : k < l.length) : dec (l.take (k + 1)) = dec (l.take k) + (l.getD k 0).toNat % 128 * 128 ^ k := by
  rw [List.take_succ_eq_append_getElem h, dec_append]
  have e : (l.take k).length = k := by simp; omega
  rw [e]
  simp [dec, List.getD, h]
  rw [Nat.mul_comm]

/-- The first byte whose highest bit is not set ends a number. -/
theorem lead_yes {l : List UInt8} {k : Nat} (hk : k < l.length) (h10 : k < 10) (hlow : (l.getD k 0).toNat < 128) (hhigh : ∀ j, j < k → 128 ≤ (l.getD j 0).toNat)
    (hidle : k = 0 ∨ (l.getD k 0).toNat ≠ 0) (hmost : k = 9 → (l.getD k 0).toNat ≤ 1) : Lead l (dec (l.take (k + 1))) (k + 1) := by
  have hlen : (l.take (k + 1)).length = k + 1 := by simp; omega
  have hget : ∀ j, j < k + 1 → (l.take (k + 1)).getD j 0 = l.getD j 0 := fun j hj => by
    simp [List.getD, hj]
  have hc : Canon (l.take (k + 1)) := by
    refine ⟨fun e => by rw [e] at hlen; simp at hlen, fun j hj => ?_, ?_, fun h1 => ?_⟩
    · rw [hget j (by omega)]
      exact hhigh j (by omega)
    · rw [hlen, Nat.add_sub_cancel, hget k (by omega)]
      exact hlow
    · rw [hlen, Nat.add_sub_cancel, hget k (by omega)]
      rcases hidle with h0 | h0
      · omega
      · exact h0
  have hw := wide_dec hc
  refine .inr ⟨?_, by rw [hw, hlen], by rw [hw]; exact List.take_prefix _ _⟩
  rcases Nat.lt_or_ge k 9 with h9 | h9
  · have h1 := dec_lt (l.take (k + 1))
    rw [hlen] at h1
    have h2 : 128 ^ (k + 1) ≤ 128 ^ 9 := Nat.pow_le_pow_right (by decide) (by omega)
    have h3 : (128 : Nat) ^ 9 ≤ 18446744073709551616 := by decide
    omega
  · have h9' : k = 9 := by omega
    have hb := hmost h9'
    rw [dec_take_succ l k hk]
    have h1 := dec_lt (l.take k)
    have hl9 : (l.take k).length = 9 := by simp; omega
    rw [hl9] at h1
    rw [h9'] at hb ⊢
    rw [h9'] at h1
    have h3 : (128 : Nat) ^ 9 = 9223372036854775808 := by decide
    rw [h3] at h1 ⊢
    omega

theorem lead_no {l : List UInt8} {k : Nat} (hk : k < l.length) (hlow : (l.getD k 0).toNat < 128) (hhigh : ∀ j, j < k → 128 ≤ (l.getD j 0).toNat)
    (h : (0 < k ∧ (l.getD k 0).toNat = 0) ∨ (k = 9 ∧ 1 < (l.getD k 0).toNat)) : Lead l 0 0 := by
  refine .inl ⟨rfl, rfl, fun m hm hp => ?_⟩
  have hc := canon_wide m
  have e := canon_at hc hp hk hlow hhigh
  have hlen : (l.take (k + 1)).length = k + 1 := by simp; omega
  have hget : (l.take (k + 1)).getD k 0 = l.getD k 0 := by
    simp [List.getD]
  rw [e] at hc
  rcases h with ⟨h0, hz⟩ | ⟨h9, h1⟩
  · have := hc.2.2.2 (by rw [hlen]; omega)
    rw [hlen, Nat.add_sub_cancel, hget] at this
    exact this hz
  · have hd := dec_wide m
    rw [e, dec_take_succ l k hk, h9] at hd
    rw [h9] at h1 hlow
    have h3 : (128 : Nat) ^ 9 = 9223372036854775808 := by decide
    rw [h3] at hd
    omega

theorem lead_none {l : List UInt8} {k : Nat} (hk : k = l.length ∨ k = 10) (hhigh : ∀ j, j < k → 128 ≤ (l.getD j 0).toNat) : Lead l 0 0 := by
  refine .inl ⟨rfl, rfl, fun m hm hp => ?_⟩
  have h1 := canon_beyond (canon_wide m) hp hhigh
  have h2 := hp.length_le
  have h3 := wide_len hm
  rcases hk with h | h <;> omega

end Go.Proofs.Ytdngehfebmaegaa.Sty
