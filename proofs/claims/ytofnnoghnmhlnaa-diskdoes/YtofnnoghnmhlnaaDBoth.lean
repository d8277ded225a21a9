/-
  The disk and the document's disk, one beside the other; the document's calls.
-/
import Derived.Test.YtofnnoghnmhlnaaDRefC
import Derived.Test.YtofnnoghnmhlnaaDTwo
namespace Go.Proofs.Ytofnnoghnmhlnaa
open Go.RowKit

theorem refA {w : World} {m : Nat} {v : Value} {dn ws : List Ch} (area : Int) (s : ByteArray) (h : Ref w m v (dn ++ ws) dn.length) (hf : Fits (dn ++ ws)) (hs : s.size ≤ 1099511627776) (hl : (dn ++ ws).length ≤ 1000000) :
    Calls Try.prog 12 #[.pointer (some ⟨m, 0, none⟩), .int .i64 area, .string s] w fun e w' => e = .returned (.int .i64 (stepA area s dn ws).e) ∧
      ∃ v', Ref w' m v' ((stepA area s dn ws).dn ++ (stepA area s dn ws).ws) (stepA area s dn ws).dn.length ∧ Wrote m v w v' w' := by
  unfold stepA
  by_cases ha : area = 0 ∨ area = 1
  · rw [if_pos ha]
    obtain ⟨o, ho⟩ : ∃ o, o = decide (area = 1) := ⟨_, rfl⟩
    have hao := ar_area ha
    rw [← ho] at hao ⊢
    rw [hao]
    by_cases hx : 16384 < (txt o (dn ++ ws)).size + s.size
    · rw [if_pos hx]
      exact (refAppend_full o s h hf hs hx hl).mono fun e w' ⟨he, hw⟩ => ⟨he, v, by rw [hw]; exact h, by rw [hw]; exact Wrote.refl _ _ _⟩
    · rw [if_neg hx]
      have hR := refAppend_raw o (ar o) (ar_cases o) s h hf (by omega) hl
      rw [List.append_assoc] at hR
      exact hR
  · rw [if_neg ha]
    exact (refAppend_no area s (fun e => ha (.inl e)) (fun e => ha (.inr e)) _).mono fun e w' ⟨he, hw⟩ => ⟨he, v, by rw [hw]; exact h, by rw [hw]; exact Wrote.refl _ _ _⟩

theorem refR {w : World} {m : Nat} {v : Value} {dn ws : List Ch} (area : Int) (h : Ref w m v (dn ++ ws) dn.length) (hl : (dn ++ ws).length ≤ 1000000) :
    Calls Try.prog 13 #[.pointer (some ⟨m, 0, none⟩), .int .i64 area] w fun e w' => e = .returned (.int .i64 (stepR area dn ws).e) ∧
      ∃ v', Ref w' m v' ((stepR area dn ws).dn ++ (stepR area dn ws).ws) (stepR area dn ws).dn.length ∧ Wrote m v w v' w' := by
  unfold stepR
  by_cases ha : area = 0 ∨ area = 1
  · rw [if_pos ha]
    obtain ⟨o, ho⟩ : ∃ o, o = decide (area = 1) := ⟨_, rfl⟩
    have hao := ar_area ha
    rw [← ho] at hao ⊢
    rw [hao]
    have hR := refReset_raw o (ar o) (ar_cases o) h hl
    rw [List.append_assoc] at hR
    exact hR
  · rw [if_neg ha]
    exact (refReset_no area (fun e => ha (.inl e)) (fun e => ha (.inr e)) _).mono fun e w' ⟨he, hw⟩ => ⟨he, v, by rw [hw]; exact h, by rw [hw]; exact Wrote.refl _ _ _⟩

theorem kept_length (ws : List Ch) (k p : Int) : (kept ws k p).length ≤ ws.length := by
  unfold kept
  rw [List.length_append, List.length_take]
  cases hc : ws[near k ws.length]? with
  | none => simp; omega
  | some c =>
    have hl := (List.getElem?_eq_some_iff.1 hc).1
    have : (torn c p).length ≤ 1 := by unfold torn; split <;> simp
    simp only
    omega

theorem step_len (c : Cl) (dn ws : List Ch) : ((step c dn ws).dn ++ (step c dn ws).ws).length ≤ (dn ++ ws).length + 1 := by
  unfold step stepA stepR
  split
  · split
    · split <;> simp <;> omega
    · simp
  split
  · split <;> simp <;> omega
  split
  · simp
  split
  · have := kept_length ws c.keep c.part
    simp
    omega
  · simp

/-- The two disks, behind k calls. -/
structure Both (w wr : World) (b m k : Nat) (v vm : Value) (dn ws : List Ch) : Prop where
  d : Mine w.heap.size w wr b v dn ws
  r : Ref wr m vm (dn ++ ws) dn.length
  mle : w.heap.size ≤ m
  mown : ∀ k, vm.ownBlock = some k → w.heap.size ≤ k
  ap : Apart b v m vm
  len : (dn ++ ws).length ≤ k

section
variable {w wr w' : World} {b m k : Nat} {v vm v' vm' : Value} {dn ws dn' ws' : List Ch}

/-- The document's disk has turned. -/
structure Half (w wr : World) (b m : Nat) (v vm : Value) (dn ws dn' ws' : List Ch) : Prop where
  d : Mine w.heap.size w wr b v dn ws
  r : Ref wr m vm (dn' ++ ws') dn'.length
  mle : w.heap.size ≤ m
  mown : ∀ k, vm.ownBlock = some k → w.heap.size ≤ k
  ap : Apart b v m vm

theorem Both.lo (h : Both w wr b m k v vm dn ws) : w.heap.size ≤ wr.heap.size := h.d.lo

theorem Both.alloc (h : Both w wr b m k v vm dn ws) (o : Obj) : Both w (wr.alloc o) b m k v vm dn ws :=
  ⟨h.d.alloc o, h.r.grown ((Below.refl _ _).alloc (Nat.le_refl _) _), h.mle, h.mown, h.ap, h.len⟩

theorem Both.half (h : Both w wr b m k v vm dn ws) : Half w wr b m v vm dn ws dn ws := ⟨h.d, h.r, h.mle, h.mown, h.ap⟩

theorem Both.turn (h : Both w wr b m k v vm dn ws) (h1 : Ref w' m vm' (dn' ++ ws') dn'.length) (hw : Wrote m vm wr vm' w') : Half w w' b m v vm' dn ws dn' ws' :=
  ⟨⟨h.d.has.beside hw h.ap.ne h.ap.own2 fun k hk => ⟨fun e => h.ap.own1 (by rw [← e]; exact hk), h.ap.owns k hk⟩, h.d.le, h.d.own, h.d.below.trans (hw.below h.lo h.mle h.mown)⟩,
    h1, h.mle, hw.own_from h.lo h.mown, h.ap.step h.d.has hw⟩

theorem Half.turn (h : Half w wr b m v vm dn ws dn' ws') (h1 : Has w' b v' dn' ws') (hw : Wrote b v wr v' w') (hl : (dn' ++ ws').length ≤ k) : Both w w' b m k v' vm dn' ws' := by
  have hap := h.ap.symm
  refine ⟨h.d.step h1 hw, h.r.beside hw hap.ne hap.own2 fun k hk => ⟨fun e => hap.own1 (by rw [← e]; exact hk), hap.owns k hk⟩, h.mle, h.mown, ?_, hl⟩
  refine Apart.symm ⟨hap.ne, fun e => ?_, hap.own1, fun k hk e => ?_⟩
  · rcases hw.own m e with e1 | e1
    · exact hap.own2 e1
    · have := h.r.lt; omega
  · rcases hw.own k e with e1 | e1
    · exact hap.owns k hk e1
    · have := h.r.own_lt k hk; omega

theorem Both.drew (h : Both w wr b m k v vm dn ws) : Both w wr.drew b m k v vm dn ws :=
  ⟨h.d.grow ((Below.refl _ _).drew), h.r.grown ((Below.refl _ _).drew), h.mle, h.mown, h.ap, h.len⟩

theorem Half.drew (h : Half w wr b m v vm dn ws dn' ws') : Half w wr.drew b m v vm dn ws dn' ws' :=
  ⟨h.d.grow ((Below.refl _ _).drew), h.r.grown ((Below.refl _ _).drew), h.mle, h.mown, h.ap⟩

/-- A block that was laid ahead of a call is as it was. -/
theorem box_ref {cs : Array Value} {t : TypeId} (h : Both w wr b m k v vm dn ws) (hw : Wrote m vm (wr.alloc (.cells cs t)) vm' w') : w'.heap[wr.heap.size]? = some (.cells cs t (0, 0)) := by
  have hlt := h.r.lt
  rw [hw.block wr.heap.size (by simp) (by omega) (fun e => by have := h.r.own_lt _ e; omega)]
  exact heap_alloc_new wr _

/-- The cells of a call in block C. -/
def Box (C : Nat) (c : Cl) (w : World) : Prop := w.heap[C]? = some (.cells #[.int .i64 c.kind, .int .i64 c.area, .string c.s, .int .i64 c.keep, .int .i64 c.part] 32 (0, 0))

theorem Box.cells {C : Nat} {c : Cl} {w : World} (h : Box C c w) : w.cell? ⟨C, 0, none⟩ = some (.int .i64 c.kind) ∧ w.cell? ⟨C, 1, none⟩ = some (.int .i64 c.area) ∧ w.cell? ⟨C, 2, none⟩ = some (.string c.s) ∧ w.cell? ⟨C, 3, none⟩ = some (.int .i64 c.keep) ∧ w.cell? ⟨C, 4, none⟩ = some (.int .i64 c.part) := by
  unfold Box at h
  simp [World.cell?, h]

theorem Box.keep {C : Nat} {c : Cl} {w w' : World} {b : Nat} {v v' : Value} (h : Box C c w) (hw : Wrote b v w.drew v' w') (hb : C ≠ b) (hv : v.ownBlock ≠ some C) : Box C c w' := by
  unfold Box at h ⊢
  rw [hw.block C (Array.getElem?_eq_some_iff.1 h).1 hb hv]
  exact h

/-- What the document's Text answers of all, and of what is safe. -/
theorem Both.text (h : Both w wr b m k v vm dn ws) (hl : k ≤ 1000000) (o : Bool) :
    Calls Try.prog 18 #[.pointer (some ⟨m, 0, none⟩), .int .i64 (ar o), .int .i64 ((dn ++ ws).length : Nat)] wr fun e w' => e = .returned (.string (txt o (dn ++ ws))) ∧ w' = wr := by
  have ht := text_any o (dn ++ ws).length h.r h.d.has.fits (Nat.le_refl _) (by have := h.len; omega)
  rw [List.take_length] at ht
  exact ht
theorem Both.text2 (h : Both w wr b m k v vm dn ws) (hl : k ≤ 1000000) (o : Bool) :
    Calls Try.prog 18 #[.pointer (some ⟨m, 0, none⟩), .int .i64 (ar o), .int .i64 (dn.length : Nat)] wr fun e w' => e = .returned (.string (txt o dn)) ∧ w' = wr := by
  have ht := text_any o dn.length h.r h.d.has.fits (by simp) (by have := h.len; omega)
  rw [List.take_left' rfl] at ht
  exact ht

theorem Ref.sync (h : Ref w m v (dn ++ ws) dn.length) : Ref (w.setCell ⟨m, 1, none⟩ (.int .i64 ((dn ++ ws).length : Nat))) m v ((dn ++ ws) ++ []) (dn ++ ws).length := by
  refine ⟨?_, h.apart, ?_, by simp⟩
  · rw [heap_set _ h.at_]; simp
  · rw [List.append_nil]
    exact ownsRow_carry h.owns fun k hk => Below.heap_setCell _ _ _ _ (fun e => h.apart (by rw [show m = k from e.symm]; exact hk))

end

end Go.Proofs.Ytofnnoghnmhlnaa
