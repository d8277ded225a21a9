/-
  What makes an instruction stand, or not, in the document's words; plain facts, no program.
-/
import Derived.Test.YtkpbampffndjoaaCLast
namespace Go.Proofs.Ytkpbampffndjoaa

theorem one_eq {ps : List Ins} {i : Nat} {x : Ins} (hx : x = ps[i]!) : oneB ps i = (fitsB x && standsB x.op (decide (inB ps i ≠ 0)) && letsB (elB ps i) (suB ps i) x.op && leadsB ps i x) := by
  unfold oneB
  rw [← hx]

theorem no_fit {ps : List Ins} {i : Nat} {x : Ins} (hx : x = ps[i]!) (h : ¬ fitsB x = true) : oneB ps i = false := by
  rw [one_eq hx, Bool.eq_false_iff.2 h]
  rfl
theorem no_lets {ps : List Ins} {i : Nat} {x : Ins} (hx : x = ps[i]!) (h : letsB (elB ps i) (suB ps i) x.op = false) : oneB ps i = false := by
  rw [one_eq hx, h]
  simp
theorem no_lead {ps : List Ins} {i : Nat} {x : Ins} (hx : x = ps[i]!) (h : leadsB ps i x = false) : oneB ps i = false := by
  rw [one_eq hx, h]
  simp

theorem no_stand {ps : List Ins} {i : Nat} {x : Ins} {L : Int} (S : Sh ps) (hi : i < ps.length) (hx : x = ps[i]!) (hL : L = lastB ps i) (h : (x.op = 0 ∨ x.op = 4) ∧ 0 ≤ L ∨ 4 < x.op ∧ L < 0) : oneB ps i = false := by
  have o := last_out S (k := i) (by omega)
  have hop : opA ps i = x.op := by unfold opA; rw [← hx]
  have hz := inB_zero (S.up i (by omega)).1
  rw [← hL] at o
  suffices hs : standsB x.op (decide (inB ps i ≠ 0)) = false by
    rw [one_eq hx, hs]
    simp
  rcases h with ⟨h1 | h1, h2⟩ | ⟨h1, h2⟩
  · have : inB ps i ≠ 0 := fun e => by have := o.2 e; omega
    rw [h1, decide_eq_true this]
    rfl
  · have := begin_out S hi (by rw [hop]; exact h1)
    have := o.2 (hz.2 this)
    omega
  · have e := o.1 h2
    have h5 : ¬ x.op = 5 := fun h5 => by
      have := end_in S hi (by rw [hop]; exact h5)
      have := hz.1 e
      omega
    rw [e]
    unfold standsB
    rw [if_neg (by omega), if_neg (by omega)]
    rfl

theorem fits_range {x : Ins} (h : fitsB x = true) : 0 ≤ x.op ∧ x.op ≤ 21 := by
  by_cases c : 0 ≤ x.op ∧ x.op ≤ 21
  · exact c
  · exfalso
    have hb : ¬ isBare x.op := by unfold isBare; omega
    have hf : ¬ isFile x.op := by unfold isFile; omega
    unfold fitsB at h
    rw [if_neg hb, if_neg (show ¬ x.op = 1 by omega), if_neg (show ¬ x.op = 2 by omega), if_neg (show ¬ x.op = 3 by omega), if_neg (show ¬ x.op = 6 by omega), if_neg (show ¬ x.op = 7 by omega), if_neg hf, if_neg (show ¬ x.op = 14 by omega), if_neg (show ¬ x.op = 15 by omega), if_neg (show ¬ x.op = 16 by omega), if_neg (show ¬ x.op = 17 by omega), if_neg (show ¬ x.op = 18 by omega), if_neg (show ¬ x.op = 20 by omega)] at h
    cases h

theorem yes_one {ps : List Ins} {i : Nat} {x : Ins} {L : Int} (S : Sh ps) (hi : i < ps.length) (hx : x = ps[i]!) (hL : L = lastB ps i) (hf : fitsB x = true) (h : ¬ ((x.op = 0 ∨ x.op = 4) ∧ 0 ≤ L ∨ 4 < x.op ∧ L < 0))
    (hl : letsB (elB ps i) (suB ps i) x.op = true) (hle : leadsB ps i x = true) : oneB ps i = true := by
  have o := last_out S (k := i) (by omega)
  have r := fits_range hf
  rw [← hL] at o
  have hs : standsB x.op (decide (inB ps i ≠ 0)) = true := by
    unfold standsB
    by_cases h0 : x.op = 0
    · rw [if_pos h0, o.1 (by omega)]
      rfl
    · rw [if_neg h0]
      by_cases h1 : x.op = 1 ∨ x.op = 2 ∨ x.op = 3 ∨ x.op = 4 ∨ x.op = 5
      · rw [if_pos h1]
      · rw [if_neg h1]
        exact decide_eq_true (fun e => by have := o.2 e; omega)
  rw [one_eq hx, hf, hs, hl, hle]
  rfl

theorem lead_none {ps : List Ins} {i : Nat} {x : Ins} (h3 : ¬ x.op = 3) (h20 : ¬ x.op = 20) : leadsB ps i x = true := by
  unfold leadsB
  rw [if_pos ⟨h3, h20⟩]
theorem lets_none {E : Nat} {S : Bool} {op : Int} (h : ¬ (op = 14 ∨ op = 19 ∨ op = 20 ∨ op = 21)) : letsB E S op = true := by
  unfold letsB
  rw [if_neg (by omega), if_neg (by omega), if_neg (by omega)]
theorem lead_yes {ps : List Ins} {i A : Nat} {x : Ins} (S : Sh ps) (hi : i < ps.length) (ha : x.a = (A : Int)) (h1 : i < A) (h2 : A ≤ ps.length) (h : lastB ps A = lastB ps i) : leadsB ps i x = true := by
  have e := (last_same S (by omega) h2).2 h
  unfold leadsB
  split
  · rfl
  · rw [ha]
    simp only [Int.toNat_natCast, e, decide_true, Bool.and_true, Bool.and_eq_true, decide_eq_true_eq]
    omega
theorem lead_no {ps : List Ins} {i A : Nat} {x : Ins} (S : Sh ps) (hi : i < ps.length) (ho : x.op = 3 ∨ x.op = 20) (ha : x.a = (A : Int)) (h2 : A ≤ ps.length) (h : ¬ lastB ps A = lastB ps i) : leadsB ps i x = false := by
  have e : ¬ inB ps A = inB ps i := fun e => h ((last_same S (by omega) h2).1 e)
  unfold leadsB
  rw [if_neg (by omega), ha, Int.toNat_natCast, decide_eq_false e, Bool.and_false]
theorem lead_low {ps : List Ins} {i : Nat} {x : Ins} (ho : x.op = 3 ∨ x.op = 20) (h : x.a ≤ (i : Int)) : leadsB ps i x = false := by
  unfold leadsB
  rw [if_neg (by omega), decide_eq_false (by omega), Bool.false_and, Bool.false_and]
theorem lead_high {ps : List Ins} {i : Nat} {x : Ins} (ho : x.op = 3 ∨ x.op = 20) (h : x.a > (ps.length : Int)) : leadsB ps i x = false := by
  unfold leadsB
  rw [if_neg (by omega), decide_eq_false (p := x.a < (ps.length + 1 : Nat)) (by omega), Bool.and_false, Bool.false_and]

theorem start_at {ps : List Ins} {i : Nat} {L : Int} (S : Sh ps) (hi : i < ps.length) (hL : L = lastB ps i) : ∃ s : Nat, L + 1 = (s : Int) ∧ s ≤ i := by
  rw [hL]
  rcases last_sh S i (by omega) with ⟨h1, _⟩ | ⟨t, h0, h1, _⟩
  · exact ⟨0, by rw [h1]; rfl, Nat.zero_le _⟩
  · exact ⟨t + 1, by rw [h1]; omega, by omega⟩

theorem in_block {ps : List Ins} {i : Nat} {L : Int} (S : Sh ps) (hi : i < ps.length) (hL : L = lastB ps i) (h : ¬ L < 0) :
    ∃ t : Nat, L = (t : Int) ∧ t < i ∧ elB ps (t + 1) = 0 ∧ suB ps (t + 1) = false ∧ ∀ j, t < j → j < i → opA ps j ≠ 4 := by
  rw [hL] at h ⊢
  rcases last_sh S i (by omega) with ⟨h1, _⟩ | ⟨t, h0, h1, h2, _, _, h3⟩
  · omega
  · exact ⟨t, h1, h0, by simp only [elB]; rw [h2]; rfl, by simp only [suB]; rw [h2]; rfl, fun j j1 j2 => (h3 j j1 j2).1⟩

theorem su_stays {ps : List Ins} {t i : Nat} (hno : ∀ j, t < j → j < i → opA ps j ≠ 4) {k : Nat} (hk : t < k) (h : suB ps k = true) : ∀ d, k + d ≤ i → suB ps (k + d) = true := by
  intro d
  induction d with
  | zero => intro _; exact h
  | succ d ih =>
    intro hd
    rw [← Nat.add_assoc]
    simp only [suB]
    rw [ih (by omega)]
    unfold nextS
    rw [if_neg (hno (k + d) (by omega) (by omega))]
    split <;> rfl

theorem no_sure {ps : List Ins} {t i k : Nat} {x : Ins} (hx : x = ps[i]!) (ho : x.op = 14 ∨ x.op = 19 ∨ x.op = 20 ∨ x.op = 21) (hno : ∀ j, t < j → j < i → opA ps j ≠ 4) (hk : t < k) (hki : k < i) (h : opA ps k = 21) : oneB ps i = false := by
  have h1 : suB ps (k + 1) = true := by
    simp only [suB]
    rw [h]
    rfl
  have h2 := su_stays hno (by omega) h1 (i - (k + 1)) (by omega)
  rw [show k + 1 + (i - (k + 1)) = i by omega] at h2
  refine no_lets hx ?_
  rw [h2]
  unfold letsB
  rcases ho with h | h | h | h <;> rw [h] <;> rfl

end Go.Proofs.Ytkpbampffndjoaa
