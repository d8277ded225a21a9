/-
  Which record bytes begin with: it is one alone, or none. No Go in sight.
-/
import Derived.Test.YtcofiidibhmhgaaCloses
namespace Go.Proofs.Ytcofiidibhmhgaa

/-- Bytes begin with the record of this load. -/
def Begins (l ld : List UInt8) : Prop := ld.length ≤ 1024 ∧ recB ld <+: l

/-- What Open answers. -/
def Opened (l ld : List UInt8) (n : Nat) : Prop := (Begins l ld ∧ n = ld.length + 6) ∨ (n = 0 ∧ ld = [] ∧ ∀ m, ¬ Begins l m)

/-- The length that stands ahead. -/
def lenB (l : List UInt8) : Nat := 256 * (l.getD 0 0).toNat + (l.getD 1 0).toNat

theorem recB_yes {ld : List UInt8} (h : ld.length ≤ 1024) : recB ld = bodyB ld ++ le 4 (sumN (bodyB ld)) := by
  unfold recB
  rw [if_neg (by omega)]

theorem lenB_body (ld r : List UInt8) (h : ld.length ≤ 1024) : lenB (bodyB ld ++ r) = ld.length := by
  have e1 : (UInt8.ofNat (ld.length / 256)).toNat = ld.length / 256 := by rw [UInt8.toNat_ofNat']; omega
  have e2 : (UInt8.ofNat (ld.length % 256)).toNat = ld.length % 256 := by rw [UInt8.toNat_ofNat']; omega
  show 256 * (UInt8.ofNat (ld.length / 256)).toNat + (UInt8.ofNat (ld.length % 256)).toNat = _
  rw [e1, e2]
  omega

theorem Begins.parts {l ld : List UInt8} (h : Begins l ld) : ∃ r, l = bodyB ld ++ le 4 (sumN (bodyB ld)) ++ r := by
  obtain ⟨h1, r, hr⟩ := h
  rw [recB_yes h1] at hr
  exact ⟨r, hr.symm⟩

theorem Begins.len {l ld : List UInt8} (h : Begins l ld) : lenB l = ld.length := by
  obtain ⟨r, hr⟩ := h.parts
  rw [hr, List.append_assoc]
  exact lenB_body _ _ h.1

theorem Begins.load {l ld : List UInt8} (h : Begins l ld) : (l.drop 2).take (lenB l) = ld := by
  rw [h.len]
  obtain ⟨r, hr⟩ := h.parts
  rw [hr, List.append_assoc]
  show (ld ++ _).take ld.length = ld
  simp

theorem Begins.size {l ld : List UInt8} (h : Begins l ld) : ld.length + 6 ≤ l.length := by
  have := h.2.length_le
  rw [recB_length (by have := h.1; omega)] at this
  exact this

theorem Begins.one {l a b : List UInt8} (ha : Begins l a) (hb : Begins l b) : a = b := by
  rw [← ha.load, ← hb.load]

theorem Opened.one {l a b : List UInt8} {m n : Nat} (ha : Opened l a m) (hb : Opened l b n) : a = b ∧ m = n := by
  rcases ha with ⟨h1, h2⟩ | ⟨h1, h2, h3⟩ <;> rcases hb with ⟨k1, k2⟩ | ⟨k1, k2, k3⟩
  · have e := h1.one k1
    subst e
    exact ⟨rfl, by omega⟩
  · exact absurd h1 (k3 _)
  · exact absurd k1 (h3 _)
  · exact ⟨by rw [h2, k2], by omega⟩

/-- Bytes whose length and sum are right begin with a record. -/
theorem begins_of {l : List UInt8} (h1 : lenB l ≤ 1024) (h2 : lenB l + 6 ≤ l.length) (h3 : (l.drop (2 + lenB l)).take 4 = le 4 (sumN (l.take (2 + lenB l)))) :
    Begins l ((l.drop 2).take (lenB l)) := by
  have hl : ((l.drop 2).take (lenB l)).length = lenB l := by simp; omega
  have hb : bodyB ((l.drop 2).take (lenB l)) = l.take (2 + lenB l) := by
    match l, h2 with
    | a :: b :: r, h2 =>
      have e : lenB (a :: b :: r) = 256 * a.toNat + b.toNat := rfl
      have ha := byte_lt a
      have hb := byte_lt b
      unfold bodyB
      rw [hl, e, Nat.add_comm 2]
      have e1 : UInt8.ofNat ((256 * a.toNat + b.toNat) / 256) = a := by
        apply UInt8.toNat_inj.1
        rw [UInt8.toNat_ofNat']
        omega
      have e2 : UInt8.ofNat ((256 * a.toNat + b.toNat) % 256) = b := by
        apply UInt8.toNat_inj.1
        rw [UInt8.toNat_ofNat']
        omega
      rw [e1, e2]
      rfl
  refine ⟨by omega, ?_⟩
  rw [recB_yes (by omega), hb, ← h3]
  refine ⟨l.drop (2 + lenB l + 4), ?_⟩
  have e : l.drop (2 + lenB l + 4) = (l.drop (2 + lenB l)).drop 4 := by rw [List.drop_drop]
  rw [e, List.append_assoc, List.take_append_drop, List.take_append_drop]

/-- Such whose sum is wrong begin with none. -/
theorem none_of {l : List UInt8} (h : 1024 < lenB l ∨ l.length < lenB l + 6 ∨ (l.drop (2 + lenB l)).take 4 ≠ le 4 (sumN (l.take (2 + lenB l)))) (m : List UInt8) : ¬ Begins l m := by
  intro hb
  have h1 := hb.len
  have h2 := hb.1
  have h3 := hb.size
  rcases h with h | h | h
  · omega
  · omega
  · apply h
    obtain ⟨r, hr⟩ := hb.parts
    have e : (bodyB m).length = 2 + lenB l := by rw [bodyB_length, h1]; omega
    rw [← e]
    rw [hr, List.append_assoc, List.drop_left, List.take_left]
    have e4 := le_length 4 (sumN (bodyB m))
    conv => lhs; arg 1; rw [← e4]
    rw [List.take_left]

theorem opened_yes {l : List UInt8} (h1 : lenB l ≤ 1024) (h2 : lenB l + 6 ≤ l.length) (h3 : (l.drop (2 + lenB l)).take 4 = le 4 (sumN (l.take (2 + lenB l)))) :
    Opened l ((l.drop 2).take (lenB l)) (lenB l + 6) :=
  .inl ⟨begins_of h1 h2 h3, by rw [List.length_take, List.length_drop]; omega⟩

theorem opened_no {l : List UInt8} (h : 1024 < lenB l ∨ l.length < lenB l + 6 ∨ (l.drop (2 + lenB l)).take 4 ≠ le 4 (sumN (l.take (2 + lenB l)))) : Opened l [] 0 :=
  .inr ⟨rfl, rfl, none_of h⟩

theorem opened_rec {ld r : List UInt8} (h : ld.length ≤ 1024) : Opened (recB ld ++ r) ld (ld.length + 6) :=
  .inl ⟨⟨h, r, rfl⟩, rfl⟩

end Go.Proofs.Ytcofiidibhmhgaa
