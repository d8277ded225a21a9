/-
  The set, the world of changes, and the law's own boxes beside them: what is as it was, over every call.
-/
import Derived.Deep.CutRange
import Derived.Deep.CutBlock
import Derived.Deep.RegionLaw
import Derived.StillTailTactics
import Derived.Sort.CutIn
import Derived.Test.YtafpfioonbdgnaaNStart
namespace Go.Proofs.Ytafpfioonbdgnaa.Rds
open Go.RowKit Go.Shelf Go.Deep Go.Proofs.Ytafpfioonbdgnaa.Cel Go.Proofs.Ytafpfioonbdgnaa.Rng

theorem cell_past {w : World} {a : Addr} {o : Obj} {v : Value} (h : w.cell? a = some v) : (w.alloc o).cell? a = some v := (World.cell?_alloc_some w a o (by rw [h]; rfl)).trans h
theorem cell_past1 {w : World} {a : Addr} {o : Obj} {v : Value} (h : w.cell? a = some v) : (w.alloc o).drew.cell? a = some v := by
  simp only [World.cell?_drew]
  exact Rds.cell_past h

/-- Blocks of cells are as they were where no block of cells was turned. -/
theorem same_cells {A W : World} {row : Option Nat} (hg : A.grownBy W row) (hr : ∀ r, row = some r → ∃ o : Obj, A.heap[r]? = some o ∧ o.isCells = false) {k : Nat} {cs : Array Value} {t : TypeId} {m : Nat × Nat} (h : A.heap[k]? = some (.cells cs t m)) : W.heap[k]? = A.heap[k]? :=
  (block_kept h hg hr).trans h.symm

section
variable {w w' : World} {b m : Nat} {v u : Value} {l : List Th} {st : Int} {E : List En} {row : Option Nat}

theorem SetAt.kept (h : SetAt w b v st E) (hg : w.grownBy w' row) (hr : ∀ r, row = some r → ∃ o : Obj, w.heap[r]? = some o ∧ o.isCells = false) : SetAt w' b v st E := h.keep fun k hk => by
  rcases hk with e | ⟨x, hx, e⟩
  · rw [e]; exact same_cells hg hr h.at_
  · simp at hx; subst hx
    obtain ⟨cs, hc⟩ := own_at h.owns e
    exact same_cells hg hr hc

theorem WoAt.kept (h : WoAt w m u l) (hg : w.grownBy w' row) (hr : ∀ r, row = some r → ∃ o : Obj, w.heap[r]? = some o ∧ o.isCells = false) : WoAt w' m u l := h.keep fun k hk => by
  rcases hk with e | ⟨x, hx, e⟩
  · rw [e]; exact same_cells hg hr h.at_
  · simp at hx; subst hx
    obtain ⟨cs, hc⟩ := own_at h.owns e
    exact same_cells hg hr hc

/-- A block of another type is none of the world's. -/
theorem wo_free {X : Nat} {cs : Array Value} {t : TypeId} {q : Nat × Nat} (h : WoAt w m u l) (hx : w.heap[X]? = some (.cells cs t q)) (h1 : t ≠ 28) (h2 : t ≠ 36) : ¬ Foot m [u] X := fun e => by
  rcases e with e | ⟨x, hx', e⟩
  · rw [e] at hx
    exact block_ne hx h.at_ h1 rfl
  · simp at hx'
    subst hx'
    obtain ⟨cs, hc⟩ := own_at h.owns e
    exact block_ne hx hc h2 rfl

end

/-- No version is greater than the number of changes. -/
def Vs (A : List Th) (E : List En) : Prop := ∀ e ∈ E, e.2.2 ≤ (A.length : Nat)

theorem ofF_le (A : List Th) (k i : Int) : ofF (verF A) k i ≤ (A.length : Nat) := by
  unfold ofF
  split
  · unfold verF
    have := nw_le A ((((k.toNat * 8 + i.toNat) / 8 : Nat) : Int), (((k.toNat * 8 + i.toNat) % 8 : Nat) : Int))
    omega
  · omega

theorem Vs.note {A : List Th} {st : Int} {E : List En} {k i : Int} (h : Vs A E) : Vs A (noteE (ofF (verF A)) st E k i) := by
  have one : Vs A (E ++ [(k, i, ofF (verF A) k i)]) := fun e he => by
    rcases List.mem_append.1 he with he | he
    · exact h e he
    · simp at he
      subst he
      exact ofF_le A k i
  unfold noteE
  split
  · exact h
  · split
    · split
      · exact one
      · exact h
    · exact one

theorem Vs.snoc {A : List Th} {E : List En} (h : Vs A E) (x : Th) : Vs (A ++ [x]) E := fun e he => by
  have := h e he
  simp
  omega

/-- Where all is valid, whatever there is can be read. -/
theorem note_valid {vf : Int → Int → Int} {st : Int} {E : List En} (hv : validB vf E = true) (k i : Int) : noteB vf st E k i = true := by
  unfold noteB
  cases hf : findE E k i with
  | some e =>
    have h1 := List.mem_of_find?_eq_some hf
    have h2 := List.find?_some hf
    have h3 := validB_iff.1 hv e h1
    simp at h2
    rw [h2.1, h2.2] at h3
    simp [h3]
  | none =>
    dsimp only
    split
    · exact hv
    · rfl

/-- .. and all is valid behind that. -/
theorem valid_note {vf : Int → Int → Int} {st : Int} {E : List En} (hv : validB vf E = true) (k i : Int) : validB vf (noteE vf st E k i) = true := by
  have one : validB vf (E ++ [(k, i, vf k i)]) = true := validB_iff.2 fun e he => by
    rcases List.mem_append.1 he with he | he
    · exact validB_iff.1 hv e he
    · simp at he
      subst he
      rfl
  unfold noteE
  rw [if_pos hv]
  split
  · exact hv
  · split <;> exact one

/-- A thing that was read and is changed isn't valid any more. -/
theorem changed {A : List Th} {E : List En} {x : Th} (hk : isB x.1 x.2 = true) (hv : Vs A E) {e : En} (hf : findE E x.1 x.2 = some e) :
    validB (ofF (verF (A ++ [x]))) E = false ∧ (e.2.2 == ofF (verF (A ++ [x])) x.1 x.2) = false := by
  have h1 := List.mem_of_find?_eq_some hf
  have h2 := List.find?_some hf
  simp at h2
  have h3 := hv e h1
  have h4 : ofF (verF (A ++ [x])) x.1 x.2 = ((A.length + 1 : Nat) : Int) := by
    rw [ofF_is _ _ _ hk, nw_snoc, if_pos rfl]
  have h5 : e.2.2 ≠ ofF (verF (A ++ [x])) x.1 x.2 := by rw [h4]; omega
  refine ⟨?_, by simpa using h5⟩
  cases hc : validB (ofF (verF (A ++ [x]))) E with
  | false => rfl
  | true =>
    have h6 := validB_iff.1 hc e h1
    rw [h2.1, h2.2] at h6
    exact absurd h6.symm h5

/-- What was read can be read again, where all is valid. -/
theorem find_read {vf : Int → Int → Int} {E : List En} (hv : validB vf E = true) (j : Nat) (hj : j < E.length) : ∃ e, findE E E[j]!.1 E[j]!.2.1 = some e ∧ (e.2.2 == vf E[j]!.1 E[j]!.2.1) = true := by
  cases hf : findE E E[j]!.1 E[j]!.2.1 with
  | none =>
    have h1 := List.find?_eq_none.1 hf E[j] (List.getElem_mem hj)
    rw [getElem!_pos E j hj] at h1
    simp at h1
  | some e =>
    have h1 := List.mem_of_find?_eq_some hf
    have h2 := List.find?_some hf
    have h3 := validB_iff.1 hv e h1
    simp only [Bool.and_eq_true, decide_eq_true_eq] at h2
    rw [h2.1, h2.2] at h3
    exact ⟨e, rfl, by rw [h3]; simp⟩

section
variable {w : World} {b m D : Nat} {v u : Value} {l : List Th} {st : Int} {E : List En} {ds : Option (List Deferred)}

/-- A record of calls is none of their blocks. -/
theorem set_rec (h : SetAt w b v st E) (hd : w.heap[D]? = some (.deferred ds)) : ¬ Foot b [v] D := fun e => by
  rcases e with e | ⟨x, hx, e⟩
  · rw [e, h.at_] at hd; cases hd
  · simp at hx; subst hx
    obtain ⟨cs, hc⟩ := own_at h.owns e
    rw [hc] at hd; cases hd
theorem wo_rec (h : WoAt w m u l) (hd : w.heap[D]? = some (.deferred ds)) : ¬ Foot m [u] D := fun e => by
  rcases e with e | ⟨x, hx, e⟩
  · rw [e, h.at_] at hd; cases hd
  · simp at hx; subst hx
    obtain ⟨cs, hc⟩ := own_at h.owns e
    rw [hc] at hd; cases hd
end

/-- The law's own boxes. -/
structure Bx (B P Q m b : Nat) (x : Th) (W : World) : Prop where
  x : W.heap[B]? = some (.cells #[.int .i64 x.1, .int .i64 x.2] 36 (0, 0))
  r : W.heap[B + 1]? = some (.cells #[.bool false] 4 (0, 0))
  pw : W.heap[P]? = some (.cells #[.pointer (some ⟨m, 0, none⟩)] 26 (0, 0))
  ps : W.heap[Q]? = some (.cells #[.pointer (some ⟨b, 0, none⟩)] 29 (0, 0))

section
variable {B P Q m b : Nat} {x : Th} {A W : World}
theorem Bx.kept {row : Option Nat} (h : Bx B P Q m b x A) (hg : A.grownBy W row) (hr : ∀ r, row = some r → ∃ o : Obj, A.heap[r]? = some o ∧ o.isCells = false) : Bx B P Q m b x W :=
  ⟨block_kept h.x hg hr, block_kept h.r hg hr, block_kept h.pw hg hr, block_kept h.ps hg hr⟩
theorem Bx.grown (h : Bx B P Q m b x A) (hb : Below A.heap.size A W) : Bx B P Q m b x W := h.kept (grown_of_below hb) (fun _ e => by cases e)
theorem Bx.wrote {F F' : Nat → Prop} (h : Bx B P Q m b x A) (hw : Wrote F F' A W) (h0 : ¬ F B) (h1 : ¬ F (B + 1)) (h2 : ¬ F P) (h3 : ¬ F Q) : Bx B P Q m b x W :=
  ⟨(hw.block _ (Array.getElem?_eq_some_iff.1 h.x).1 h0).trans h.x, (hw.block _ (Array.getElem?_eq_some_iff.1 h.r).1 h1).trans h.r, (hw.block _ (Array.getElem?_eq_some_iff.1 h.pw).1 h2).trans h.pw, (hw.block _ (Array.getElem?_eq_some_iff.1 h.ps).1 h3).trans h.ps⟩
end

/-- The answer's box is written. -/
theorem Bx.answer {B P Q m b D : Nat} {x : Th} {W : World} (h : Bx B P Q m b x W) (v : Bool) : (W.setCell ⟨B + 1, 0, none⟩ (.bool v)).heap[B + 1]? = some (.cells #[.bool v] 4 (0, 0)) ∧
    ((W.setCell ⟨B + 1, 0, none⟩ (.bool v)).heap[D]? = some (.deferred (some [])) → ((W.setCell ⟨B + 1, 0, none⟩ (.bool v)).putObj D (.deferred none)).cell? ⟨B + 1, 0, none⟩ = some (.bool v)) := by
  have e : (W.setCell ⟨B + 1, 0, none⟩ (.bool v)).heap[B + 1]? = some (.cells #[.bool v] 4 (0, 0)) := by
    rw [heap_set _ h.r]
    simp
  exact ⟨e, fun hK => cell_at (block_kept e (grownBy_putObj' _ D (.deferred none)) (fun r e => by cases e; exact ⟨_, hK, rfl⟩)) rfl⟩

/-- What lies between two steps. -/
structure LS (B : Nat) (w0 W : World) (C m P b Q : Nat) (x : Th) (k : Nat) (A : List Th) (st : Int) (E : List En) : Prop where
  ex : ∃ v u, SetAt W b v st E ∧ WoAt W m u A ∧ (∀ q, Foot b [v] q → C ≤ q) ∧ ∀ q, Foot m [u] q → C ≤ q
  bx : Bx B P Q m b x W
  below : Below B w0 W
  far : B + 1 < C
  is : IsE E
  vs : Vs A E
  alen : A.length ≤ k
  elen : E.length ≤ k

section
variable {B C m P b Q k : Nat} {x : Th} {w0 W W' : World} {A : List Th} {st : Int} {E : List En}

theorem LS.size (h : LS B w0 W C m P b Q x k A st E) : C ≤ W.heap.size := by
  obtain ⟨v, u, h1, _, h3, _⟩ := h.ex
  have := h3 b (.inl rfl)
  have := h1.lt
  omega
theorem LS.sizeB (h : LS B w0 W C m P b Q x k A st E) : B ≤ W.heap.size := by have := h.size; have := h.far; omega

theorem LS.grown (h : LS B w0 W C m P b Q x k A st E) (hb : Below W.heap.size W W') : LS B w0 W' C m P b Q x k A st E := by
  obtain ⟨v, u, h1, h2, h3, h4⟩ := h.ex
  exact ⟨⟨v, u, h1.grown hb, h2.grown hb, h3, h4⟩, h.bx.grown hb, h.below.trans (hb.mono h.sizeB), h.far, h.is, h.vs, h.alen, h.elen⟩

theorem LS.kept {row : Option Nat} {S : Nat} (h : LS B w0 W C m P b Q x k A st E) (hg : W.grownBy W' row) (hr : ∀ r, row = some r → S ≤ r ∧ ∃ o : Obj, W.heap[r]? = some o ∧ o.isCells = false) (hS : B ≤ S) : LS B w0 W' C m P b Q x k A st E := by
  obtain ⟨v, u, h1, h2, h3, h4⟩ := h.ex
  have hr2 : ∀ r, row = some r → ∃ o : Obj, W.heap[r]? = some o ∧ o.isCells = false := fun r e => (hr r e).2
  exact ⟨⟨v, u, h1.kept hg hr2, h2.kept hg hr2, h3, h4⟩, h.bx.kept hg hr2, h.below.grown hg h.sizeB (fun q e => Nat.le_trans hS (hr q e).1), h.far, h.is, h.vs, h.alen, h.elen⟩

theorem LS.next (h : LS B w0 W C m P b Q x k A st E) : LS B w0 W C m P b Q x (k + 1) A st E := ⟨h.ex, h.bx, h.below, h.far, h.is, h.vs, by have := h.alen; omega, by have := h.elen; omega⟩

/-- A change. -/
theorem LS.change {u u' : Value} {y : Th} (h : LS B w0 W C m P b Q x k A st E) (hw : WoAt W m u A) (hu : ∀ q, Foot m [u] q → C ≤ q) (hw2 : WoAt W' m u' (A ++ [y])) (hr : Wrote (Foot m [u]) (Foot m [u']) W W') : LS B w0 W' C m P b Q x (k + 1) (A ++ [y]) st E := by
  obtain ⟨v, _, h1, _, h3, _⟩ := h.ex
  have hs := h.size
  have hf := h.far
  refine ⟨⟨v, u', h1.keep fun q hq => hr.block q (h1.foot_lt q hq) (fun e => set_wo h1 hw q e hq), hw2, h3, hr.lo hs hu⟩,
    h.bx.wrote hr (fun e => by have := hu _ e; omega) (fun e => by have := hu _ e; omega) (wo_free hw h.bx.pw (by decide) (by decide)) (wo_free hw h.bx.ps (by decide) (by decide)),
    h.below.trans (hr.below h.sizeB (fun q hq => by have := hu q hq; omega)), hf, h.is, h.vs.snoc y, ?_, by have := h.elen; omega⟩
  have := h.alen
  simp
  omega

/-- A thing is read, whatever Note answers. -/
theorem LS.note {v v' : Value} {c i : Int} (h : LS B w0 W C m P b Q x k A st E) (hs : SetAt W b v st E) (hv : ∀ q, Foot b [v] q → C ≤ q) (hs2 : SetAt W' b v' (noteT (ofF (verF A)) (A.length : Nat) st E c i) (noteE (ofF (verF A)) st E c i))
    (hr : Wrote (Foot b [v]) (Foot b [v']) W W') (hk : isB c i = true) :
    LS B w0 W' C m P b Q x (k + 1) A (noteT (ofF (verF A)) (A.length : Nat) st E c i) (noteE (ofF (verF A)) st E c i) := by
  obtain ⟨_, u, _, h2, _, h4⟩ := h.ex
  have hz := h.size
  have hf := h.far
  refine ⟨⟨v', u, hs2, h2.keep fun q hq => hr.block q (h2.foot_lt q hq) (fun e => set_wo hs h2 q hq e), hr.lo hz hv, h4⟩,
    h.bx.wrote hr (fun e => by have := hv _ e; omega) (fun e => by have := hv _ e; omega) (box_free hs h.bx.pw (by decide) (by decide)) (box_free hs h.bx.ps (by decide) (by decide)),
    h.below.trans (hr.below h.sizeB (fun q hq => by have := hv q hq; omega)), hf, noteE_is h.is hk, h.vs.note, by have := h.alen; omega, ?_⟩
  have := noteE_length (ofF (verF A)) st E c i
  have := h.elen
  omega

end

end Go.Proofs.Ytafpfioonbdgnaa.Rds
