/-
  Acts: rows of what goes out, of notes and opens; the document's one row of all. Plain facts, without the program.
-/
import Derived.Test.YtnjmnbclbjebbaaRows
import Derived.RowKit
namespace Go.Proofs.Ytnjmnbclbjebbaa.Ac

/-- An act of the document's row: its kind, and two numbers. -/
abbrev A3 := Int × Int × Int
/-- A byte that goes out, and where; an open: a tally, and how much. -/
abbrev Pr := Int × Int

/-- What an attempt does besides. -/
structure AS where
  out : List Pr
  beh : List Pr
  notes : List Int
  ops : List Pr

def AS.zero : AS := ⟨[], [], [], []⟩

def okS (s : Int) : Bool := decide (0 ≤ s) && decide (s ≤ 2)
def okT (t : Int) : Bool := decide (0 ≤ t) && decide (t ≤ 3)
def negI (d : Int) : Int := RowKit.wrap64 (-d)
def u8I (b : Int) : Int := IntKind.u8.wrap b
def amendsL (l : List Pr) : List Pr := l.reverse.map fun o => (o.1, negI o.2)

/-- What does an act answer? -/
def ans (x : A3) : Bool := if x.1 = 0 ∨ x.1 = 1 then okS x.2.1 else if x.1 = 2 then true else okT x.2.1
def outOf (x : A3) : Pr := (x.2.1, u8I x.2.2)

def AS.send (T : AS) (s b : Int) : AS := if okS s then { T with out := T.out ++ [(s, b)] } else T
def AS.later (T : AS) (s b : Int) : AS := if okS s then { T with beh := T.beh ++ [(s, b)] } else T
def AS.note (T : AS) (n : Int) : AS := { T with notes := T.notes ++ [n] }
def AS.opened (T : AS) (t d : Int) : AS := if okT t then { T with ops := T.ops ++ [(t, d)] } else T

def AS.add (T : AS) (x : A3) : AS :=
  if x.1 = 0 then T.send x.2.1 (u8I x.2.2) else if x.1 = 1 then T.later x.2.1 (u8I x.2.2) else if x.1 = 2 then T.note x.2.1 else T.opened x.2.1 x.2.2

def AS.back (T : AS) (m : Nat → Int) : AS := ⟨T.out.take (m 0).toNat, T.beh.take (m 1).toNat, T.notes.take (m 2).toNat, T.ops.take (m 3).toNat⟩
def AS.flush (T : AS) : AS := { T with out := [] }
def AS.mark (T : AS) : Nat → Int := fun i => match i with | 0 => T.out.length | 1 => T.beh.length | 2 => T.notes.length | _ => T.ops.length

/-- At most so many of each. -/
structure AS.Le (T : AS) (N : Nat) : Prop where
  out : T.out.length ≤ N
  beh : T.beh.length ≤ N
  notes : T.notes.length ≤ N
  ops : T.ops.length ≤ N

theorem AS.zero_le (N : Nat) : AS.zero.Le N := ⟨Nat.zero_le _, Nat.zero_le _, Nat.zero_le _, Nat.zero_le _⟩
theorem AS.Le.up {T : AS} {N M : Nat} (h : T.Le N) (hm : N ≤ M) : T.Le M := ⟨Nat.le_trans h.out hm, Nat.le_trans h.beh hm, Nat.le_trans h.notes hm, Nat.le_trans h.ops hm⟩
theorem AS.Le.send {T : AS} {N : Nat} (h : T.Le N) (s b : Int) : (T.send s b).Le (N + 1) := by
  unfold AS.send
  split
  · exact ⟨by have := h.out; simp; omega, by have := h.beh; simp; omega, by have := h.notes; simp; omega, by have := h.ops; simp; omega⟩
  · exact h.up (Nat.le_succ _)
theorem AS.Le.later {T : AS} {N : Nat} (h : T.Le N) (s b : Int) : (T.later s b).Le (N + 1) := by
  unfold AS.later
  split
  · exact ⟨by have := h.out; simp; omega, by have := h.beh; simp; omega, by have := h.notes; simp; omega, by have := h.ops; simp; omega⟩
  · exact h.up (Nat.le_succ _)
theorem AS.Le.note {T : AS} {N : Nat} (h : T.Le N) (n : Int) : (T.note n).Le (N + 1) :=
  ⟨by have := h.out; simp [AS.note]; omega, by have := h.beh; simp [AS.note]; omega, by have := h.notes; simp [AS.note]; omega, by have := h.ops; simp [AS.note]; omega⟩
theorem AS.Le.opened {T : AS} {N : Nat} (h : T.Le N) (t d : Int) : (T.opened t d).Le (N + 1) := by
  unfold AS.opened
  split
  · exact ⟨by have := h.out; simp; omega, by have := h.beh; simp; omega, by have := h.notes; simp; omega, by have := h.ops; simp; omega⟩
  · exact h.up (Nat.le_succ _)
theorem AS.Le.add {T : AS} {N : Nat} (h : T.Le N) (x : A3) : (T.add x).Le (N + 1) := by
  unfold AS.add
  split
  · exact h.send _ _
  · split
    · exact h.later _ _
    · split
      · exact h.note _
      · exact h.opened _ _
theorem AS.Le.back {T : AS} {N : Nat} (h : T.Le N) (m : Nat → Int) : (T.back m).Le N :=
  ⟨by have := h.out; simp [AS.back]; omega, by have := h.beh; simp [AS.back]; omega, by have := h.notes; simp [AS.back]; omega, by have := h.ops; simp [AS.back]; omega⟩
theorem AS.Le.flush {T : AS} {N : Nat} (h : T.Le N) : T.flush.Le N := ⟨Nat.zero_le _, h.beh, h.notes, h.ops⟩

/-! ### The document's row -/

def ofK (all : List A3) (k : Int) : List A3 := all.filter fun x => decide (x.1 = k)
/-- Kinds are kinds. -/
def Kinds (all : List A3) : Prop := ∀ x ∈ all, 0 ≤ x.1 ∧ x.1 ≤ 3

def good (x : A3) : Bool := decide (x.1 = 2) || (decide (0 ≤ x.2.1) && ((decide (x.1 < 2) && decide (x.2.1 ≤ 2)) || (decide (x.1 = 3) && decide (x.2.1 ≤ 3))))

theorem good_ans {x : A3} (h0 : 0 ≤ x.1) (h3 : x.1 ≤ 3) : good x = ans x := by
  obtain ⟨k, a, b⟩ := x
  simp only at h0 h3
  have : k = 0 ∨ k = 1 ∨ k = 2 ∨ k = 3 := by omega
  rcases this with rfl | rfl | rfl | rfl <;> simp [good, ans, okS, okT]

def toAS (all : List A3) : AS := ⟨(ofK all 0).map outOf, (ofK all 1).map outOf, (ofK all 2).map (·.2.1), (ofK all 3).map fun x => (x.2.1, x.2.2)⟩

theorem ofK_snoc (all : List A3) (x : A3) (k : Int) : ofK (all ++ [x]) k = if x.1 = k then ofK all k ++ [x] else ofK all k := by
  unfold ofK
  rw [List.filter_append]
  by_cases h : x.1 = k <;> simp [h]

theorem ofK_nil (k : Int) : ofK [] k = [] := rfl
theorem ofK_len (all : List A3) (k : Int) : (ofK all k).length ≤ all.length := List.length_filter_le _ _

theorem toAS_nil : toAS [] = AS.zero := rfl
theorem toAS_add (all : List A3) (x : A3) (h0 : 0 ≤ x.1) (h3 : x.1 ≤ 3) (h : ans x = true) : toAS (all ++ [x]) = (toAS all).add x := by
  obtain ⟨k, a, b⟩ := x
  simp only at h0 h3
  have hk : k = 0 ∨ k = 1 ∨ k = 2 ∨ k = 3 := by omega
  rcases hk with rfl | rfl | rfl | rfl
  · have e : okS a = true := by simpa [ans] using h
    simp [toAS, AS.add, AS.send, ofK_snoc, e, outOf]
  · have e : okS a = true := by simpa [ans] using h
    simp [toAS, AS.add, AS.later, ofK_snoc, e, outOf]
  · simp [toAS, AS.add, AS.note, ofK_snoc]
  · have e : okT a = true := by simpa [ans] using h
    simp [toAS, AS.add, AS.opened, ofK_snoc, e]
theorem add_no (T : AS) (x : A3) (h : ans x = false) : T.add x = T := by
  obtain ⟨k, a, b⟩ := x
  unfold ans at h
  simp only at h
  unfold AS.add
  simp only
  by_cases h0 : k = 0
  · subst h0
    have e : okS a = false := by simpa using h
    simp [AS.send, e]
  · by_cases h1 : k = 1
    · subst h1
      have e : okS a = false := by simpa using h
      simp [AS.later, e]
    · by_cases h2 : k = 2
      · subst h2
        simp at h
      · have e : okT a = false := by simpa [h0, h1, h2] using h
        simp [AS.opened, e, h0, h1, h2]

/-! ### The first ones of each kind -/

abbrev Fs := List A3 × List A3 × List A3
def fst1 (m : Nat → Int) (s : Fs) (x : A3) : Fs :=
  if ((ofK s.2.2 x.1).length : Int) < m x.1.toNat then (s.1 ++ [x], s.2.1, s.2.2 ++ [x]) else (s.1, s.2.1 ++ [x], s.2.2 ++ [x])
def firstL (m : Nat → Int) (all : List A3) : Fs := all.foldl (fst1 m) ([], [], [])

theorem firstL_snoc (m : Nat → Int) (all : List A3) (x : A3) : firstL m (all ++ [x]) = fst1 m (firstL m all) x := by simp [firstL]
theorem fst1_all (m : Nat → Int) (s : Fs) (x : A3) : (fst1 m s x).2.2 = s.2.2 ++ [x] := by unfold fst1; split <;> rfl
theorem first_fold (m : Nat → Int) (all : List A3) (s : Fs) : (all.foldl (fst1 m) s).2.2 = s.2.2 ++ all := by
  induction all generalizing s with
  | nil => simp
  | cons x r ih => rw [List.foldl_cons, ih, fst1_all]; simp
theorem firstL_all (m : Nat → Int) (all : List A3) : (firstL m all).2.2 = all := by
  have := first_fold m all ([], [], [])
  simpa [firstL] using this

/-- What holds behind the first ones. -/
structure FInv (m : Nat → Int) (s : Fs) : Prop where
  stay : ∀ k : Int, ofK s.1 k = (ofK s.2.2 k).take (m k.toNat).toNat
  gone : ∀ k : Int, ofK s.2.1 k = (ofK s.2.2 k).drop (m k.toNat).toNat
  sm : ∀ x ∈ s.1, x ∈ s.2.2
  gm : ∀ x ∈ s.2.1, x ∈ s.2.2
  sl : s.1.length ≤ s.2.2.length
  gl : s.2.1.length ≤ s.2.2.length

theorem FInv.nil (m : Nat → Int) : FInv m ([], [], []) := ⟨fun k => by simp [ofK], fun k => by simp [ofK], fun _ h => h, fun _ h => h, Nat.le_refl _, Nat.le_refl _⟩
theorem FInv.step {m : Nat → Int} {s : Fs} (h : FInv m s) (x : A3) : FInv m (fst1 m s x) := by
  obtain ⟨st, gn, p⟩ := s
  have hs : ∀ k : Int, ofK st k = (ofK p k).take (m k.toNat).toNat := h.stay
  have hg : ∀ k : Int, ofK gn k = (ofK p k).drop (m k.toNat).toNat := h.gone
  have hsm : ∀ y ∈ st, y ∈ p := h.sm
  have hgm : ∀ y ∈ gn, y ∈ p := h.gm
  have hsl : st.length ≤ p.length := h.sl
  have hgl : gn.length ≤ p.length := h.gl
  unfold fst1
  simp only
  split
  · rename_i hlt
    refine ⟨fun k => ?_, fun k => ?_, fun y hy => ?_, fun y hy => ?_, ?_, ?_⟩
    · simp only
      rw [ofK_snoc, ofK_snoc]
      by_cases e : x.1 = k
      · subst e
        rw [if_pos rfl, if_pos rfl, hs, List.take_of_length_le (by omega), List.take_of_length_le (by simp; omega)]
      · rw [if_neg e, if_neg e]; exact hs k
    · simp only
      rw [ofK_snoc]
      by_cases e : x.1 = k
      · subst e
        rw [if_pos rfl, hg, List.drop_eq_nil_of_le (by omega), List.drop_eq_nil_of_le (by simp; omega)]
      · rw [if_neg e]; exact hg k
    · simp only at hy ⊢
      rcases List.mem_append.1 hy with hy | hy
      · exact List.mem_append.2 (.inl (hsm y hy))
      · exact List.mem_append.2 (.inr hy)
    · exact List.mem_append.2 (.inl (hgm y hy))
    · simp; omega
    · simp; omega
  · rename_i hlt
    refine ⟨fun k => ?_, fun k => ?_, fun y hy => ?_, fun y hy => ?_, ?_, ?_⟩
    · simp only
      rw [ofK_snoc]
      by_cases e : x.1 = k
      · subst e
        rw [if_pos rfl, hs, List.take_append_of_le_length (by omega)]
      · rw [if_neg e]; exact hs k
    · simp only
      rw [ofK_snoc, ofK_snoc]
      by_cases e : x.1 = k
      · subst e
        rw [if_pos rfl, if_pos rfl, hg, List.drop_append_of_le_length (by omega)]
      · rw [if_neg e, if_neg e]; exact hg k
    · exact List.mem_append.2 (.inl (hsm y hy))
    · simp only at hy ⊢
      rcases List.mem_append.1 hy with hy | hy
      · exact List.mem_append.2 (.inl (hgm y hy))
      · exact List.mem_append.2 (.inr hy)
    · simp; omega
    · simp; omega
theorem FInv.fold {m : Nat → Int} (all : List A3) {s : Fs} (h : FInv m s) : FInv m (all.foldl (fst1 m) s) := by
  induction all generalizing s with
  | nil => exact h
  | cons x r ih => exact ih (h.step x)
theorem firstL_inv (m : Nat → Int) (all : List A3) : FInv m (firstL m all) := (FInv.nil m).fold all

theorem stay_back (m : Nat → Int) (all : List A3) : toAS (firstL m all).1 = (toAS all).back m := by
  have h := firstL_inv m all
  have hs := h.stay
  rw [firstL_all] at hs
  unfold toAS AS.back
  simp only
  rw [hs 0, hs 1, hs 2, hs 3]
  simp [List.map_take]
theorem gone_ops (m : Nat → Int) (all : List A3) : (toAS (firstL m all).2.1).ops = (toAS all).ops.drop (m 3).toNat := by
  have h := (firstL_inv m all).gone 3
  rw [firstL_all] at h
  unfold toAS
  simp only
  rw [h]
  simp [List.map_drop]
theorem gone_flush (m : Nat → Int) (all : List A3) (h0 : all.length ≤ (m 0).toNat) (h1 : m 1 = 0) (h2 : m 2 = 0) (h3 : m 3 = 0) : toAS (firstL m all).2.1 = (toAS all).flush := by
  have h := (firstL_inv m all).gone
  rw [firstL_all] at h
  have e0 : ofK (firstL m all).2.1 0 = [] := by
    rw [h 0]
    exact List.drop_eq_nil_of_le (Nat.le_trans (ofK_len all 0) h0)
  have e1 : ofK (firstL m all).2.1 1 = ofK all 1 := by rw [h 1, show m (Int.toNat 1) = 0 from h1]; rfl
  have e2 : ofK (firstL m all).2.1 2 = ofK all 2 := by rw [h 2, show m (Int.toNat 2) = 0 from h2]; rfl
  have e3 : ofK (firstL m all).2.1 3 = ofK all 3 := by rw [h 3, show m (Int.toNat 3) = 0 from h3]; rfl
  unfold toAS AS.flush
  simp only
  rw [e0, e1, e2, e3]
  rfl

theorem Kinds.stay {all : List A3} (h : Kinds all) (m : Nat → Int) : Kinds (firstL m all).1 := fun x hx => h x (by
  have := (firstL_inv m all).sm x hx
  rwa [firstL_all] at this)
theorem Kinds.gone {all : List A3} (h : Kinds all) (m : Nat → Int) : Kinds (firstL m all).2.1 := fun x hx => h x (by
  have := (firstL_inv m all).gm x hx
  rwa [firstL_all] at this)
theorem Kinds.snoc {all : List A3} (h : Kinds all) (x : A3) (h0 : 0 ≤ x.1) (h3 : x.1 ≤ 3) : Kinds (all ++ [x]) := fun y hy => by
  rcases List.mem_append.1 hy with hy | hy
  · exact h y hy
  · obtain rfl : y = x := by simpa using hy
    exact ⟨h0, h3⟩
theorem stay_len (m : Nat → Int) (all : List A3) : (firstL m all).1.length ≤ all.length := by
  have := (firstL_inv m all).sl
  rwa [firstL_all] at this
theorem gone_len (m : Nat → Int) (all : List A3) : (firstL m all).2.1.length ≤ all.length := by
  have := (firstL_inv m all).gl
  rwa [firstL_all] at this

/-- What makes up, by the document. -/
def undoL (all : List A3) : List A3 := (ofK all 3).reverse.map fun x => (3, x.2.1, negI x.2.2)
theorem undoL_pr (all : List A3) : (undoL all).map (fun x => (x.2.1, x.2.2)) = amendsL (toAS all).ops := by
  unfold undoL amendsL toAS
  simp only [List.map_map, ← List.map_reverse]
  rfl
theorem undoL_len (all : List A3) : (undoL all).length ≤ all.length := by
  unfold undoL
  have := ofK_len all 3
  simpa using this

def countL (all : List A3) : Nat → Int := fun k => (ofK all (k : Int)).length
theorem countL_mark (all : List A3) (k : Nat) (hk : k < 4) : countL all k = (toAS all).mark k := by
  have : k = 0 ∨ k = 1 ∨ k = 2 ∨ k = 3 := by omega
  rcases this with rfl | rfl | rfl | rfl <;> simp [countL, toAS, AS.mark]

theorem toAS_Le (all : List A3) {N : Nat} (h : all.length ≤ N) : (toAS all).Le N := by
  have h0 := ofK_len all 0
  have h1 := ofK_len all 1
  have h2 := ofK_len all 2
  have h3 := ofK_len all 3
  exact ⟨by simp [toAS]; omega, by simp [toAS]; omega, by simp [toAS]; omega, by simp [toAS]; omega⟩

end Go.Proofs.Ytnjmnbclbjebbaa.Ac
