/-
  Files that were written, over those that there are: plain facts, without the program.
-/
import Derived.Test.YtdngehfebmaegaaDfPutF
import Derived.Test.YtdngehfebmaegaaTMem
import Derived.Test.YtdngehfebmaegaaFBoth
namespace Go.Proofs.Ytdngehfebmaegaa.Sht
open Go.RowKit Go.Proofs.Ytdngehfebmaegaa.Cel Go.Proofs.Ytdngehfebmaegaa.Dft
open Tom (CanF)
open Dft.F (noFile)

/-- A file. -/
abbrev Fl := Bool × ByteArray

/-- A tome's file, of that number; none, if there is no such number. -/
def base (T : List (Fl × Int)) (i : Int) : Fl := if 0 ≤ i ∧ i < 6 then T[i.toNat]!.1 else noFile

/-- A file over a tome. -/
def ovr (T : List (Fl × Int)) (R : List (Int × Fl)) (i : Int) : Fl := (Dft.look R i).getD (base T i)

/-- What was written, behind a change. -/
def chg (T : List (Fl × Int)) (R : List (Int × Fl)) (i : Int) (f : Fl) : List (Int × Fl) := if 0 ≤ i ∧ i < 6 then (if ovr T R i = f then R else put R i f) else R

/-- A file with another byte at a place; cut; there. -/
def putV (f : Fl) (k : Int) (b : UInt8) : Fl := if 0 ≤ k ∧ k < 32 then (true, Fil.txt (Fil.put f.2.data.toList k.toNat b)) else f
def cutV (f : Fl) (n : Int) : Fl := (f.1, Fil.cutS f.1 f.2 n)
def mkV (f : Fl) : Fl := (true, f.2)

theorem canF_no : CanF noFile := .inr rfl
theorem putV_can {f : Fl} (h : CanF f) (k : Int) (b : UInt8) : CanF (putV f k b) := by
  unfold putV
  split
  · exact (Tom.canF_iff _).2 (Fil.put_can f.2 k.toNat b (Tom.canF_le h) (by omega))
  · exact h
theorem cutV_can {f : Fl} (h : CanF f) (n : Int) : CanF (cutV f n) := (Tom.canF_iff _).2 (Fil.cutS_can ((Tom.canF_iff f).1 h) n)
theorem mkV_can {f : Fl} (h : CanF f) : CanF (mkV f) := .inl ⟨rfl, Tom.canF_le (f := f) h⟩

/-- What was written can be, and has numbers of files. -/
structure Fits (R : List (Int × Fl)) : Prop where
  up : Rises R
  is : ∀ e ∈ R, 0 ≤ e.1 ∧ e.1 < 6 ∧ CanF e.2

section
variable {T : List (Fl × Int)} {R : List (Int × Fl)}

theorem Fits.nil : Fits [] := ⟨rises_nil, fun e h => by cases h⟩

theorem mem_put {i : Int} {x : Fl} {e : Int × Fl} (h : e ∈ put R i x) : e = (i, x) ∨ e ∈ R := by
  unfold put at h
  rcases List.mem_append.1 h with h | h
  · exact .inr ((List.mem_filter.1 h).1)
  · rcases List.mem_cons.1 h with h | h
    · exact .inl h
    · exact .inr ((List.mem_filter.1 h).1)

theorem Fits.put (h : Fits R) {i : Int} {x : Fl} (hi : 0 ≤ i ∧ i < 6) (hx : CanF x) : Fits (Dft.put R i x) :=
  ⟨rises_put h.up i x, fun e he => by
    rcases mem_put he with rfl | he
    · exact ⟨hi.1, hi.2, hx⟩
    · exact h.is e he⟩

theorem Fits.chg (h : Fits R) {i : Int} {x : Fl} (hx : CanF x) : Fits (chg T R i x) := by
  unfold Sht.chg
  split
  · split
    · exact h
    · rename_i hi _; exact h.put hi hx
  · exact h

theorem look_mem {i : Int} {x : Fl} (h : Dft.look R i = some x) : (i, x) ∈ R := by
  unfold Dft.look at h
  obtain ⟨e, he, rfl⟩ := Option.map_eq_some_iff.1 h
  have h1 := List.find?_some he
  have h2 := List.mem_of_find?_eq_some he
  have h3 : e.1 = i := by simpa using h1
  rw [← h3]
  exact h2

theorem Fits.look_out (h : Fits R) {i : Int} (hi : ¬ (0 ≤ i ∧ i < 6)) : Dft.look R i = none := by
  cases e : Dft.look R i with
  | none => rfl
  | some x => have := h.is _ (look_mem e); exact absurd ⟨this.1, this.2.1⟩ hi

theorem base_can (hT : Tom.Six (T.map (·.1))) (i : Int) : CanF (base T i) := by
  unfold base
  split
  · rename_i h
    have hl : T.length = 6 := by simpa using hT.len
    have := hT.at_ i.toNat (by omega)
    rw [getElem!_pos _ _ (by simp; omega)] at this
    rw [getElem!_pos T _ (by omega)]
    simpa using this
  · exact canF_no

theorem ovr_can (hT : Tom.Six (T.map (·.1))) (h : Fits R) (i : Int) : CanF (ovr T R i) := by
  unfold ovr
  cases e : Dft.look R i with
  | none => exact base_can hT i
  | some x => exact (h.is _ (look_mem e)).2.2

theorem ovr_out (h : Fits R) {i : Int} (hi : ¬ (0 ≤ i ∧ i < 6)) : ovr T R i = noFile := by
  unfold ovr base
  rw [h.look_out hi, if_neg hi]
  rfl

theorem at_least (h : Fits R) : ∀ t, t < R.length → (t : Int) ≤ R[t]!.1 := by
  intro t
  induction t with
  | zero =>
    intro ht
    have := h.is R[0]! (by rw [getElem!_pos R 0 ht]; exact List.getElem_mem _)
    omega
  | succ t ih =>
    intro ht
    have h1 := ih (by omega)
    have h2 : R[t]!.1 < R[t + 1]!.1 := h.up.at t (t + 1) (by omega) ht
    omega

theorem Fits.short (h : Fits R) : R.length ≤ 6 := by
  rcases Nat.eq_zero_or_pos R.length with h0 | h0
  · omega
  · have h1 := at_least h (R.length - 1) (by omega)
    have h2 := h.is R[R.length - 1]! (by rw [getElem!_pos R _ (by omega)]; exact List.getElem_mem _)
    omega

theorem ovr_put (i j : Int) (x : Fl) : ovr T (Dft.put R i x) j = if j = i then x else ovr T R j := by
  unfold ovr
  rw [look_put]
  split <;> rfl

theorem ovr_chg (i j : Int) (x : Fl) : ovr T (Sht.chg T R i x) j = if j = i ∧ 0 ≤ i ∧ i < 6 then x else ovr T R j := by
  unfold Sht.chg
  by_cases hi : 0 ≤ i ∧ i < 6
  · rw [if_pos hi]
    by_cases he : ovr T R i = x
    · rw [if_pos he]
      by_cases hj : j = i
      · rw [if_pos ⟨hj, hi⟩, hj, he]
      · rw [if_neg (fun k => hj k.1)]
    · rw [if_neg he, ovr_put]
      by_cases hj : j = i
      · rw [if_pos hj, if_pos ⟨hj, hi⟩]
      · rw [if_neg hj, if_neg (fun k => hj k.1)]
  · rw [if_neg hi, if_neg (fun k => hi k.2)]

end

/-- A call. -/
structure Cl where
  kind : Int
  a : Int
  b : Int
  c : UInt8

/-- What was written, behind a Rename. -/
def ren (T : List (Fl × Int)) (R : List (Int × Fl)) (a b : Int) : List (Int × Fl) :=
  if (0 ≤ a ∧ a < 6) ∧ (0 ≤ b ∧ b < 6) ∧ (ovr T R a).1 = true ∧ a ≠ b then chg T (chg T R b (ovr T R a)) a noFile else R

/-- What was written, behind a call. -/
def stp (T : List (Fl × Int)) (R : List (Int × Fl)) (c : Cl) : List (Int × Fl) :=
  if c.kind = 0 then chg T R c.a (putV (ovr T R c.a) c.b c.c)
  else if c.kind = 1 then chg T R c.a (cutV (ovr T R c.a) c.b)
  else if c.kind = 2 then chg T R c.a (mkV (ovr T R c.a))
  else if c.kind = 3 then chg T R c.a noFile
  else if c.kind = 4 then ren T R c.a c.b
  else R

theorem Fits.ren {T : List (Fl × Int)} {R : List (Int × Fl)} (hT : Tom.Six (T.map (·.1))) (h : Fits R) (a b : Int) : Fits (ren T R a b) := by
  unfold Sht.ren
  split
  · exact (h.chg (ovr_can hT h a)).chg canF_no
  · exact h

theorem Fits.stp {T : List (Fl × Int)} {R : List (Int × Fl)} (hT : Tom.Six (T.map (·.1))) (h : Fits R) (c : Cl) : Fits (stp T R c) := by
  unfold Sht.stp
  split
  · exact h.chg (putV_can (ovr_can hT h _) _ _)
  · split
    · exact h.chg (cutV_can (ovr_can hT h _) _)
    · split
      · exact h.chg (mkV_can (ovr_can hT h _))
      · split
        · exact h.chg canF_no
        · split
          · exact h.ren hT _ _
          · exact h

/-- What was written behind all of some calls. -/
def stps (T : List (Fl × Int)) (R : List (Int × Fl)) (l : List Cl) : List (Int × Fl) := l.foldl (stp T) R

theorem stps_snoc (T : List (Fl × Int)) (R : List (Int × Fl)) (l : List Cl) (c : Cl) : stps T R (l ++ [c]) = stp T (stps T R l) c := by simp [stps, List.foldl_append]

theorem Fits.stps {T : List (Fl × Int)} (hT : Tom.Six (T.map (·.1))) (l : List Cl) : ∀ R, Fits R → Fits (stps T R l) := by
  induction l with
  | nil => intro R h; exact h
  | cons c r ih => intro R h; exact ih _ (h.stp hT c)

end Go.Proofs.Ytdngehfebmaegaa.Sht
