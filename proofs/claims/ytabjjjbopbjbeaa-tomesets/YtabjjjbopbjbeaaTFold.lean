/-
  Sets of unlike numbers: what the files are behind some of them, in whatever order.
-/
import Derived.Test.YtabjjjbopbjbeaaTSets
namespace Go.Proofs.Ytabjjjbopbjbeaa.Tom
open Go.RowKit Cel

theorem setR_yes {R : List ((Bool × ByteArray) × Int)} (hl : R.length = 6) {i : Int} {f : Bool × ByteArray} (h : okS i f = true) (v : Int) : (setR R i f v)[i.toNat]!.1 = f := by
  have hi : 0 ≤ i ∧ i < 6 := by
    unfold okS at h
    simp at h
    exact h.1
  unfold setR
  rw [if_pos h, getElem!_pos _ i.toNat (by rw [List.length_set]; omega)]
  simp
theorem setR_other {R : List ((Bool × ByteArray) × Int)} {i : Int} {f : Bool × ByteArray} {v : Int} {j : Nat} (hl : R.length = 6) (hj : j < 6) (h : okS i f = true → ¬ i = (j : Int)) : (setR R i f v)[j]! = R[j]! := by
  unfold setR
  split
  · rename_i hk
    have hi : 0 ≤ i ∧ i < 6 := by
      have := hk
      unfold okS at this
      simp at this
      exact this.1
    have hne := h hk
    rw [getElem!_pos _ j (by rw [List.length_set]; omega), getElem!_pos R j (by omega), List.getElem_set_ne (by omega)]
  · rfl

theorem okS_in {i : Int} {f : Bool × ByteArray} (h : okS i f = true) : 0 ≤ i ∧ i < 6 := by
  unfold okS at h
  simp at h
  exact h.1

/-- R is what a tome has behind the sets of cs at the places S. -/
structure Held (cs : List Sx) (S : Nat → Prop) (R : List ((Bool × ByteArray) × Int)) : Prop where
  len : R.length = 6
  yes : ∀ p, S p → okS cs[p]!.1 cs[p]!.2.1 = true → R[(cs[p]!.1).toNat]!.1 = cs[p]!.2.1
  no : ∀ j : Nat, j < 6 → (∀ p, S p → okS cs[p]!.1 cs[p]!.2.1 = true → ¬ cs[p]!.1 = (j : Int)) → R[j]!.1 = (false, ⟨#[]⟩)

theorem Held.start (cs : List Sx) {S : Nat → Prop} (h : ∀ p, ¬ S p) : Held cs S F.none6 :=
  ⟨rfl, fun p hp => absurd hp (h p), fun j hj _ => by rw [F.none6_get j hj]⟩

theorem Held.step {cs : List Sx} {S T : Nat → Prop} {R : List ((Bool × ByteArray) × Int)} (h : Held cs S R) (q : Nat) (hd : ∀ p, S p → p ≠ q → ¬ cs[p]!.1 = cs[q]!.1) (hT : ∀ p, T p ↔ S p ∨ p = q) (v : Int) : Held cs T (setR R cs[q]!.1 cs[q]!.2.1 v) := by
  refine ⟨by rw [setR_length]; exact h.len, fun p hp hok => ?_, fun j hj hn => ?_⟩
  · by_cases e : p = q
    · subst e
      exact setR_yes h.len hok v
    · have hS : S p := by
        rcases (hT p).1 hp with h1 | h1
        · exact h1
        · exact absurd h1 e
      have hi := okS_in hok
      rw [setR_other h.len (by omega) (fun _ hk => hd p hS e (by omega))]
      exact h.yes p hS hok
  · rw [setR_other h.len hj (fun hok hk => hn q ((hT q).2 (.inr rfl)) hok hk)]
    exact h.no j hj (fun p hp => hn p ((hT p).2 (.inl hp)))

theorem Held.same {cs : List Sx} {S : Nat → Prop} {R Q : List ((Bool × ByteArray) × Int)} (h : Held cs S R) (k : Held cs S Q) (hR : Six (filesOf R)) (hQ : Six (filesOf Q)) : filesOf R = filesOf Q := by
  refine hR.ext hQ fun j hj => ?_
  rw [files_get R j (by rw [h.len]; exact hj), files_get Q j (by rw [k.len]; exact hj)]
  by_cases e : ∃ p, S p ∧ okS cs[p]!.1 cs[p]!.2.1 = true ∧ cs[p]!.1 = (j : Int)
  · obtain ⟨p, hp, hok, hpj⟩ := e
    have h1 := h.yes p hp hok
    have h2 := k.yes p hp hok
    rw [hpj, Int.toNat_natCast] at h1 h2
    rw [h1, h2]
  · have hn : ∀ p, S p → okS cs[p]!.1 cs[p]!.2.1 = true → ¬ cs[p]!.1 = (j : Int) := fun p hp hok hk => e ⟨p, hp, hok, hk⟩
    rw [h.no j hj hn, k.no j hj hn]

/-- Turned by at, each place comes. -/
theorem turned_all {len at_ p : Nat} (ha : at_ ≤ len) (hp : p < len) : ∃ i, i < len ∧ p = (i + at_) % len := by
  by_cases h : at_ ≤ p
  · exact ⟨p - at_, by omega, by rw [Nat.sub_add_cancel h, Nat.mod_eq_of_lt hp]⟩
  · exact ⟨p + len - at_, by omega, by rw [Nat.sub_add_cancel (by omega), Nat.add_mod_right, Nat.mod_eq_of_lt hp]⟩

theorem TomeAt.other {w w' : World} {t b g t2 b2 g2 : Nat} {R S : List ((Bool × ByteArray) × Int)} (h : TomeAt w t b g R) (h2 : TomeAt w t2 b2 g2 S) (hb : But [g] w w') (hne : g2 ≠ g) : TomeAt w' t2 b2 g2 S := by
  have e1 : t2 ≠ g := fun e => by
    have h1 := h2.at_
    rw [e, h.row.row] at h1
    injection h1 with h1
    injection h1 with _ h1
    exact absurd h1 (by decide)
  have e2 : b2 ≠ g := fun e => by
    have h1 := h2.row.at_
    rw [e, h.row.row] at h1
    injection h1 with h1
    injection h1 with _ h1
    exact absurd h1 (by decide)
  exact h2.but hb (by simpa using e1) (by simpa using e2) (by simpa using hne)

end Go.Proofs.Ytabjjjbopbjbeaa.Tom
