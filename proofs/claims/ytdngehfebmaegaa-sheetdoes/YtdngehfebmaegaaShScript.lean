/-
  A sheet of a law's own, the document's beside it, from world to world; how many files were written.
-/
import Derived.Test.YtdngehfebmaegaaShOverW
namespace Go.Proofs.Ytdngehfebmaegaa.Sht
open Go.RowKit Go.Deep Go.Proofs.Ytdngehfebmaegaa.Cel Go.Proofs.Ytdngehfebmaegaa.Dft Go.Proofs.Ytdngehfebmaegaa.Dft.F
open Tom (CanF TomeAt)

/-- A sheet of the law's own, and the document's: all that they are made of lies from B on. -/
structure LD (B : Nat) (w W : World) (t b g : Nat) (T : List (Fl × Int)) (s d : Nat) (v : Value) (R : List (Int × Fl)) (m : Nat) : Prop where
  du : Du W t b g T s d v R m
  lo : ∀ k, FD d v m k → B ≤ k
  log : B ≤ g
  bel : Below B w W

section
variable {B t b g s d m : Nat} {w W W' : World} {T : List (Fl × Int)} {v v' : Value} {R R' : List (Int × Fl)}

theorem LD.size (h : LD B w W t b g T s d v R m) : B ≤ W.heap.size := by have := h.lo d (.inl (.inl rfl)); have := h.du.sh.dr.lt; omega
theorem LD.grown (h : LD B w W t b g T s d v R m) (hb : Below W.heap.size W W') : LD B w W' t b g T s d v R m := ⟨h.du.grown hb, h.lo, h.log, h.bel.trans (hb.mono h.size)⟩
theorem LD.did (h : LD B w W t b g T s d v R m) (hd : Du W' t b g T s d v' R' m) (hw : Wrote (FD d v m) (FD d v' m) W W') : LD B w W' t b g T s d v' R' m := ⟨hd, hw.lo h.size h.lo, h.log, h.bel.trans (hw.below h.size h.lo)⟩

/-- The start. -/
theorem LD.start {w1 : World} {f : Nat → Fl} (hz : w.heap.size ≤ w1.heap.size) (hw : Below w.heap.size w w1) (hdu : Du W t b g (tomeF f) s d (.slice none 0 0) [] m) (hb : Below w1.heap.size w1 W)
    (hlo : w1.heap.size ≤ t ∧ w1.heap.size ≤ b ∧ w1.heap.size ≤ g ∧ w1.heap.size ≤ s ∧ w1.heap.size ≤ d ∧ w1.heap.size ≤ m) : LD w.heap.size w W t b g (tomeF f) s d (.slice none 0 0) [] m :=
  ⟨hdu, fun k hk => by
    rcases hk with (e | ⟨x, hx, e⟩) | e
    · omega
    · simp at hx
      subst hx
      cases e
    · omega, by omega, hw.trans (hb.mono hz)⟩
end

/-- How many of the first files were written. -/
def cnt (R : List (Int × Fl)) : Nat → Nat
  | 0 => 0
  | j + 1 => cnt R j + if (Dft.look R (j : Int)).isSome then 1 else 0

theorem cnt_le (R : List (Int × Fl)) : ∀ j, cnt R j ≤ j
  | 0 => Nat.le_refl _
  | j + 1 => by
    have := cnt_le R j
    unfold cnt
    split <;> omega

theorem cnt_all : ∀ (L : List (Int × Fl)), Fits L → cnt L 6 = L.length := by
  intro L
  induction L with
  | nil => intro _; rfl
  | cons e r ih =>
    intro hf
    have hup := List.pairwise_cons.1 hf.up
    have hfr : Fits r := ⟨hup.2, fun x hx => hf.is x (List.mem_cons_of_mem _ hx)⟩
    have he := hf.is e List.mem_cons_self
    have h1 := ih hfr
    have hlk : ∀ j : Int, Dft.look (e :: r) j = if e.1 = j then some e.2 else Dft.look r j := fun j => by
      unfold Dft.look
      by_cases h : e.1 = j
      · rw [List.find?_cons_of_pos (by simpa using h), if_pos h]; rfl
      · rw [List.find?_cons_of_neg (by simpa using h), if_neg h]
    have hn : Dft.look r e.1 = none := by
      cases hl : Dft.look r e.1 with
      | none => rfl
      | some x =>
        have hm := hup.1 _ (look_mem hl)
        have : e.1 < e.1 := hm
        omega
    have hlen : (e :: r).length = r.length + 1 := rfl
    rw [hlen, ← h1]
    have hc : e.1 = 0 ∨ e.1 = 1 ∨ e.1 = 2 ∨ e.1 = 3 ∨ e.1 = 4 ∨ e.1 = 5 := by omega
    simp only [cnt, hlk]
    rcases hc with h | h | h | h | h | h <;> rw [h] at hn <;> simp [h, hn] <;> omega

end Go.Proofs.Ytdngehfebmaegaa.Sht
