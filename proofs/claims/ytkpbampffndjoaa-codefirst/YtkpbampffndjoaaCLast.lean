/-
  Where the block of a place begins; plain facts, no program.
-/
import Derived.Test.YtkpbampffndjoaaCMove
namespace Go.Proofs.Ytkpbampffndjoaa

/-- The Begin of the block in which a place lies; -1: outside. -/
def lastB (ps : List Ins) : Nat → Int
  | 0 => -1
  | k + 1 => if opA ps k = 5 then -1 else if opA ps k = 4 then (k : Int) else lastB ps k

def blkV (ps : List Ins) (i : Nat) : Int := if opA ps i = 4 then -1 else lastB ps i

theorem last_sh {ps : List Ins} (S : Sh ps) : ∀ k, k ≤ ps.length → (lastB ps k = -1 ∧ bg ps k = en ps k) ∨
    (∃ t : Nat, t < k ∧ lastB ps k = t ∧ opA ps t = 4 ∧ bg ps k = en ps k + 1 ∧ bg ps k = bg ps t + 1 ∧ (∀ j, t < j → j < k → opA ps j ≠ 4 ∧ opA ps j ≠ 5)) := by
  intro k
  induction k with
  | zero => intro _; exact .inl ⟨rfl, rfl⟩
  | succ k ih =>
    intro hk
    have u := S.up (k + 1) hk
    have nb : bg ps (k + 1) = bg ps k + if opA ps k = 4 then 1 else 0 := rfl
    have ne : en ps (k + 1) = en ps k + if opA ps k = 5 then 1 else 0 := rfl
    have nl : lastB ps (k + 1) = if opA ps k = 5 then -1 else if opA ps k = 4 then (k : Int) else lastB ps k := rfl
    by_cases h5 : opA ps k = 5
    · rw [if_neg (by rw [h5]; decide)] at nb
      rw [if_pos h5] at ne nl
      rcases ih (by omega) with ⟨_, h2⟩ | ⟨t, _, _, _, h3, _⟩
      · omega
      · exact .inl ⟨nl, by omega⟩
    by_cases h4 : opA ps k = 4
    · rw [if_pos h4] at nb
      rw [if_neg h5] at ne
      rw [if_neg h5, if_pos h4] at nl
      rcases ih (by omega) with ⟨_, h2⟩ | ⟨t, _, _, _, h3, _⟩
      · exact .inr ⟨k, by omega, nl, h4, by omega, by omega, fun j h1 h2 => by omega⟩
      · omega
    · rw [if_neg h4] at nb
      rw [if_neg h5] at ne
      rw [if_neg h5, if_neg h4] at nl
      rcases ih (by omega) with ⟨h1, h2⟩ | ⟨t, h1, h2, h3, h4', h5', h6⟩
      · exact .inl ⟨by rw [nl]; exact h1, by omega⟩
      · refine .inr ⟨t, by omega, by rw [nl]; exact h2, h3, by omega, by omega, fun j j1 j2 => ?_⟩
        by_cases e : j = k
        · subst e; exact ⟨h4, h5⟩
        · exact h6 j j1 (by omega)

theorem begin_out {ps : List Ins} (S : Sh ps) {k : Nat} (hk : k < ps.length) (h : opA ps k = 4) : bg ps k = en ps k := by
  have u := S.up (k + 1) hk
  have u0 := S.up k (by omega)
  have nb : bg ps (k + 1) = bg ps k + if opA ps k = 4 then 1 else 0 := rfl
  have ne : en ps (k + 1) = en ps k + if opA ps k = 5 then 1 else 0 := rfl
  rw [if_pos h] at nb
  rw [if_neg (by rw [h]; decide)] at ne
  omega

theorem end_in {ps : List Ins} (S : Sh ps) {k : Nat} (hk : k < ps.length) (h : opA ps k = 5) : bg ps k = en ps k + 1 := by
  have u := S.up (k + 1) hk
  have u0 := S.up k (by omega)
  have nb : bg ps (k + 1) = bg ps k + if opA ps k = 4 then 1 else 0 := rfl
  have ne : en ps (k + 1) = en ps k + if opA ps k = 5 then 1 else 0 := rfl
  rw [if_neg (by rw [h]; decide)] at nb
  rw [if_pos h] at ne
  omega

theorem last_out {ps : List Ins} (S : Sh ps) {k : Nat} (hk : k ≤ ps.length) : lastB ps k < 0 ↔ inB ps k = 0 := by
  rw [inB_zero (S.up k hk).1]
  rcases last_sh S k hk with ⟨h1, h2⟩ | ⟨t, _, h1, _, h2, _⟩
  · constructor
    · intro _; exact h2
    · intro _; rw [h1]; decide
  · constructor
    · intro h; omega
    · intro h; omega

theorem last_neg {ps : List Ins} (S : Sh ps) {k : Nat} (hk : k ≤ ps.length) (h : lastB ps k < 0) : lastB ps k = -1 := by
  rcases last_sh S k hk with ⟨h1, h2⟩ | ⟨t, _, h1, _, h2, _⟩
  · exact h1
  · omega

theorem blk_last {ps : List Ins} (S : Sh ps) {k : Nat} (hk : k < ps.length) : blkV ps k = lastB ps k := by
  unfold blkV
  split
  · next h =>
    refine (last_neg S (by omega) ?_).symm
    rw [last_out S (by omega), inB_zero (S.up k (by omega)).1]
    exact begin_out S hk h
  · rfl

theorem last_same {ps : List Ins} (S : Sh ps) {i k : Nat} (hi : i ≤ ps.length) (hk : k ≤ ps.length) : inB ps k = inB ps i ↔ lastB ps k = lastB ps i := by
  have oi := last_out S hi
  have ok := last_out S hk
  have ti : ∀ t, opA ps t = 4 → bg ps (t + 1) = bg ps t + 1 := fun t h => by simp only [bg]; rw [h]; rfl
  rcases last_sh S i hi with ⟨a1, a2⟩ | ⟨t, a0, a1, a3, a2, a4, _⟩ <;> rcases last_sh S k hk with ⟨b1, b2⟩ | ⟨u, b0, b1, b3, b2, b4, _⟩
  · rw [a1, b1, ok.1 (by omega), oi.1 (by omega)]; simp
  · constructor
    · intro h; rw [oi.1 (by omega)] at h; have := ok.2 h; omega
    · intro h; omega
  · constructor
    · intro h; rw [ok.1 (by omega)] at h; have := oi.2 h.symm; omega
    · intro h; omega
  · have ei : inB ps i = bg ps i := by unfold inB; rw [if_neg (by omega)]
    have ek : inB ps k = bg ps k := by unfold inB; rw [if_neg (by omega)]
    rw [ei, ek, a1, b1]
    constructor
    · intro h
      rcases Nat.lt_trichotomy t u with c | c | c
      · have := bg_mono ps (t + 1) (u - (t + 1)); rw [show t + 1 + (u - (t + 1)) = u by omega, ti t a3] at this; omega
      · rw [c]
      · have := bg_mono ps (u + 1) (t - (u + 1)); rw [show u + 1 + (t - (u + 1)) = t by omega, ti u b3] at this; omega
    · intro h
      have : t = u := by omega
      subst this
      omega

theorem last_len {ps : List Ins} (S : Sh ps) : lastB ps ps.length = -1 := by
  refine last_neg S (Nat.le_refl _) ?_
  rw [last_out S (Nat.le_refl _), inB_zero (S.up _ (Nat.le_refl _)).1]
  exact S.last

end Go.Proofs.Ytkpbampffndjoaa
