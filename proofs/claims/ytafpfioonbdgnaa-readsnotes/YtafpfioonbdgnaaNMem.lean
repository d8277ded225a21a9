/-
  What reads, the world of changes, and the document's set are in memory: each a block, and the rows that its slices own; what calls leave of the world.
-/
import Derived.Test.YtafpfioonbdgnaaNOf
namespace Go.Proofs.Ytafpfioonbdgnaa.Rds
open Go.RowKit Go.Proofs.Ytafpfioonbdgnaa.Cel

/-- What was read, as cells. -/
def enC : List En → List Value
  | [] => []
  | e :: r => .int .i64 e.1 :: .int .i64 e.2.1 :: .int .i64 e.2.2 :: enC r

theorem enC_length (l : List En) : (enC l).length = l.length * 3 := by
  induction l with
  | nil => rfl
  | cons c r ih => simp [enC, ih]; omega

theorem enC_append (a b : List En) : enC (a ++ b) = enC a ++ enC b := by
  induction a with
  | nil => rfl
  | cons c r ih => simp [enC, ih]

theorem enC_get (l : List En) : ∀ j, j < l.length → (enC l)[j * 3]? = some (.int .i64 l[j]!.1) ∧ (enC l)[j * 3 + 1]? = some (.int .i64 l[j]!.2.1) ∧ (enC l)[j * 3 + 2]? = some (.int .i64 l[j]!.2.2) := by
  induction l with
  | nil => intro j hj; simp at hj
  | cons c r ih =>
    intro j hj
    cases j with
    | zero => exact ⟨rfl, rfl, rfl⟩
    | succ j =>
      have h := ih j (by simpa using hj)
      have e0 : (j + 1) * 3 = j * 3 + 3 := by omega
      rw [e0]
      have g : (c :: r)[j + 1]! = r[j]! := by simp
      rw [g]
      exact h

/-- Things as cells. -/
def thC : List Th → List Value
  | [] => []
  | x :: r => .int .i64 x.1 :: .int .i64 x.2 :: thC r

theorem thC_length (l : List Th) : (thC l).length = l.length * 2 := by
  induction l with
  | nil => rfl
  | cons c r ih => simp [thC, ih]; omega

theorem thC_append (a b : List Th) : thC (a ++ b) = thC a ++ thC b := by
  induction a with
  | nil => rfl
  | cons c r ih => simp [thC, ih]

theorem thC_get (l : List Th) : ∀ j, j < l.length → (thC l)[j * 2]? = some (.int .i64 l[j]!.1) ∧ (thC l)[j * 2 + 1]? = some (.int .i64 l[j]!.2) := by
  induction l with
  | nil => intro j hj; simp at hj
  | cons c r ih =>
    intro j hj
    cases j with
    | zero => exact ⟨rfl, rfl⟩
    | succ j =>
      have h := ih j (by simpa using hj)
      have e0 : (j + 1) * 2 = j * 2 + 2 := by omega
      rw [e0]
      have g : (c :: r)[j + 1]! = r[j]! := by simp
      rw [g]
      exact h

theorem thC_one (l : List Th) : ∀ u ∈ thC l, u.oneCell' = true := by
  induction l with
  | nil => intro u hu; cases hu
  | cons c r ih =>
    intro u hu
    simp only [thC, List.mem_cons] at hu
    rcases hu with rfl | rfl | hu
    · simp [Value.oneCell']
    · simp [Value.oneCell']
    · exact ih u hu

/-- Numbers as cells. -/
def nuC (l : List Int) : List Value := l.map fun x => .int .i64 x

theorem nuC_length (l : List Int) : (nuC l).length = l.length := by simp [nuC]
theorem nuC_append (a b : List Int) : nuC (a ++ b) = nuC a ++ nuC b := by simp [nuC]
theorem nuC_get (l : List Int) (j : Nat) (hj : j < l.length) : (nuC l)[j]? = some (.int .i64 l[j]!) := by
  simp [nuC, hj]

/-- The blocks of an object: its own, and those of its rows. -/
def Foot (b : Nat) (vs : List Value) (k : Nat) : Prop := k = b ∨ ∃ v ∈ vs, v.ownBlock = some k

/-- What calls on an object left: its blocks, and new ones, alone are others. -/
structure Wrote (F F' : Nat → Prop) (w w' : World) : Prop where
  os : w'.os = w.os
  tape : w'.tape = w.tape
  output : w'.output = w.output
  size : w.heap.size ≤ w'.heap.size
  block : ∀ k, k < w.heap.size → ¬ F k → w'.heap[k]? = w.heap[k]?
  own : ∀ k, F' k → F k ∨ w.heap.size ≤ k

theorem Wrote.refl (F : Nat → Prop) (w : World) : Wrote F F w w := ⟨rfl, rfl, rfl, Nat.le_refl _, fun _ _ _ => rfl, fun _ h => .inl h⟩

theorem Wrote.trans {F0 F1 F2 : Nat → Prop} {w0 w1 w2 : World} (h : Wrote F0 F1 w0 w1) (k : Wrote F1 F2 w1 w2) : Wrote F0 F2 w0 w2 := by
  refine ⟨k.os.trans h.os, k.tape.trans h.tape, k.output.trans h.output, Nat.le_trans h.size k.size, fun i hi hf => ?_, fun i hi => ?_⟩
  · rw [k.block i (Nat.lt_of_lt_of_le hi h.size) (fun e => by
      rcases h.own i e with e' | e'
      · exact hf e'
      · omega)]
    exact h.block i hi hf
  · rcases k.own i hi with e | e
    · exact h.own i e
    · right; have := h.size; omega

theorem Wrote.of_below {F : Nat → Prop} {w w' : World} (hb : Below w.heap.size w w') : Wrote F F w w' :=
  ⟨hb.os, hb.tape, hb.output, hb.size, fun k hk _ => hb.block k hk, fun _ h => .inl h⟩

theorem Wrote.below {B : Nat} {F F' : Nat → Prop} {w w' : World} (h : Wrote F F' w w') (hB : B ≤ w.heap.size) (hv : ∀ k, F k → B ≤ k) : Below B w w' :=
  ⟨h.os, h.tape, h.output, h.size, fun k hk => h.block k (by omega) (fun e => by have := hv k e; omega)⟩

theorem Wrote.lo {B : Nat} {F F' : Nat → Prop} {w w' : World} (h : Wrote F F' w w') (hB : B ≤ w.heap.size) (hv : ∀ k, F k → B ≤ k) : ∀ k, F' k → B ≤ k := fun k hk => by
  rcases h.own k hk with e | e
  · exact hv k e
  · omega

theorem ownsRow_carry {w w' : World} {B e size : Nat} {v : Value} {n : Nat} {xs : List Value} (h : w.ownsRow B e size v n xs) (hv : ∀ k, v.ownBlock = some k → w'.heap[k]? = w.heap[k]?) : w'.ownsRow B e size v n xs := by
  refine ⟨h.1, ?_⟩
  rcases h.2 with e | ⟨g, cap, cur, e, h0, hg, r⟩
  · exact .inl e
  · exact .inr ⟨g, cap, cur, e, h0, by rw [hv g (by rw [e]; rfl)]; exact hg, r⟩

theorem block_ne {w : World} {i j : Nat} {c d : Array Value} {s t : TypeId} {m n : Nat × Nat} (h : w.heap[i]? = some (.cells c s m)) (k : w.heap[j]? = some (.cells d t n)) (hne : s ≠ t) : i ≠ j := fun e => by
  subst e
  rw [h] at k
  injection k with k
  injection k with _ k _
  exact hne k

/-- The block of a row that is owned. -/
theorem own_at {w : World} {B e size : Nat} {v : Value} {n : Nat} {xs : List Value} {k : Nat} (h : w.ownsRow B e size v n xs) (hk : v.ownBlock = some k) : ∃ cs, w.heap[k]? = some (.cells cs e (0, 0)) := by
  rcases h.2 with ⟨e, _⟩ | ⟨g, cap, cur, e, _, hg, _⟩
  · rw [e] at hk; cases hk
  · rw [e] at hk
    cases hk
    exact ⟨_, hg⟩

theorem row_shape {w : World} {B e size : Nat} {v : Value} {n : Nat} {xs : List Value} (h : w.ownsRow B e size v n xs) : ∃ a cap, v = .slice a n cap := by
  rcases h.2 with ⟨rfl, h0⟩ | ⟨g, cap, cur, rfl, _⟩
  · exact ⟨none, 0, by rw [h0]⟩
  · exact ⟨_, _, rfl⟩

theorem row_full {w : World} {B e size : Nat} {v : Value} {n : Nat} {xs : List Value} (h : w.ownsRow B e size v n xs) (hp : 0 < n) : ∃ g cap, v = .slice (some ⟨g, 0, none⟩) n cap := by
  rcases h.2 with ⟨rfl, h0⟩ | ⟨g, cap, cur, rfl, _⟩
  · omega
  · exact ⟨g, cap, rfl⟩

theorem addP (g i : Nat) : (⟨g, 0, none⟩ : Addr).add i = ⟨g, i, none⟩ := by unfold Addr.add; split <;> simp_all

/-- What was read, and the stamp, in block b. -/
structure SetAt (w : World) (b : Nat) (v : Value) (st : Int) (E : List En) : Prop where
  at_ : w.heap[b]? = some (.cells #[.int .i64 st, v] 65 (0, 0))
  owns : w.ownsRow 0 54 3 v E.length (enC E)

section
variable {w w' : World} {b : Nat} {v : Value} {st : Int} {E : List En}

theorem SetAt.lt (h : SetAt w b v st E) : b < w.heap.size := (Array.getElem?_eq_some_iff.1 h.at_).1
theorem SetAt.own_lt (h : SetAt w b v st E) : ∀ k, v.ownBlock = some k → k < w.heap.size := fun k hk => (h.owns.lt k hk).2
theorem SetAt.foot_lt (h : SetAt w b v st E) : ∀ k, Foot b [v] k → k < w.heap.size := fun k hk => by
  rcases hk with e | ⟨x, hx, e⟩
  · rw [e]; exact h.lt
  · simp at hx; subst hx; exact h.own_lt k e
theorem SetAt.c0 (h : SetAt w b v st E) : w.cell? ⟨b, 0, none⟩ = some (.int .i64 st) := cell_at h.at_ rfl
theorem SetAt.c1 (h : SetAt w b v st E) : w.cell? ⟨b, 1, none⟩ = some v := cell_at h.at_ rfl
theorem SetAt.fz (h : SetAt w b v st E) (i : Nat) : w.frozen? ⟨b, i, none⟩ = false := free_at h.at_
theorem SetAt.keep (h : SetAt w b v st E) (hk : ∀ k, Foot b [v] k → w'.heap[k]? = w.heap[k]?) : SetAt w' b v st E :=
  ⟨(hk b (.inl rfl)).trans h.at_, ownsRow_carry h.owns fun k e => hk k (.inr ⟨v, by simp, e⟩)⟩
theorem SetAt.grown (h : SetAt w b v st E) (hb : Below w.heap.size w w') : SetAt w' b v st E := h.keep fun k hk => hb.block k (h.foot_lt k hk)
theorem SetAt.drew (h : SetAt w b v st E) : SetAt w.drew b v st E := h.keep fun _ _ => rfl
theorem SetAt.alloc (h : SetAt w b v st E) (o : Obj) : SetAt (w.alloc o) b v st E := h.grown ((Below.refl _ _).alloc (Nat.le_refl _) _)
theorem SetAt.own_b (h : SetAt w b v st E) : v.ownBlock ≠ some b := fun e => by
  obtain ⟨cs, hc⟩ := own_at h.owns e
  exact block_ne hc h.at_ (by decide) rfl

theorem row_en {B g n cap : Nat} {e : TypeId} (h : w.ownsRow B e 3 (.slice (some ⟨g, 0, none⟩) n cap) n (enC E)) (j : Nat) (hj : j < E.length) :
    w.cell? ⟨g, j * 3, none⟩ = some (.int .i64 E[j]!.1) ∧ w.cell? ⟨g, j * 3 + 1, none⟩ = some (.int .i64 E[j]!.2.1) ∧ w.cell? ⟨g, j * 3 + 2, none⟩ = some (.int .i64 E[j]!.2.2) := by
  obtain ⟨e0, e1, e2⟩ := enC_get E j hj
  have k0 := h.cells (g := g) rfl _ _ e0
  have k1 := h.cells (g := g) rfl _ _ e1
  have k2 := h.cells (g := g) rfl _ _ e2
  rw [addP] at k0 k1 k2
  exact ⟨k0, k1, k2⟩

/-- Another stamp. -/
theorem SetAt.stamp (h : SetAt w b v st E) (t : Int) : SetAt (w.setCell ⟨b, 0, none⟩ (.int .i64 t)) b v t E ∧ Wrote (Foot b [v]) (Foot b [v]) w (w.setCell ⟨b, 0, none⟩ (.int .i64 t)) := by
  refine ⟨⟨?_, ownsRow_carry h.owns fun k e => Below.heap_setCell _ _ _ _ (fun e' => h.own_b (by rw [e]; exact congrArg some e'))⟩, rfl, rfl, rfl, by simp [World.setCell], fun k hk hf => Below.heap_setCell _ _ _ _ (fun e => hf (.inl e)), fun _ h => .inl h⟩
  rw [heap_set _ h.at_]
  simp

/-- One more. -/
theorem SetAt.more {w1 w2 : World} {g cap : Nat} (h : SetAt w b v st E) (e : En) (hown : w2.ownsRow 0 54 3 (.slice (some ⟨g, 0, none⟩) (E.length + 1) cap) (E.length + 1) (enC E ++ enC [e]))
    (hw1 : Below w.heap.size w w1) (hgrow : w1.grownBy w2 v.ownBlock) (hat : v.ownBlock = some g ∨ w.heap.size ≤ g) :
    SetAt (w2.setCell ⟨b, 1, none⟩ (.slice (some ⟨g, 0, none⟩) (E.length + 1) cap)) b (.slice (some ⟨g, 0, none⟩) (E.length + 1) cap) st (E ++ [e]) ∧
      Wrote (Foot b [v]) (Foot b [.slice (some ⟨g, 0, none⟩) (E.length + 1) cap]) w (w2.setCell ⟨b, 1, none⟩ (.slice (some ⟨g, 0, none⟩) (E.length + 1) cap)) := by
  have hlt := h.lt
  have hsz := hw1.size
  have hb2 : w2.heap[b]? = some (.cells #[.int .i64 st, v] 65 (0, 0)) := by
    rw [hgrow.block b (by omega) (fun e => h.own_b e.symm), hw1.block b hlt]
    exact h.at_
  have hgb : g ≠ b := by
    rcases hat with e | e
    · exact fun e' => h.own_b (by rw [e, e'])
    · omega
  have hs2 := hgrow.size
  refine ⟨⟨?_, ?_⟩, ?_, ?_, ?_, ?_, fun k hk hf => ?_, fun k hk => ?_⟩
  · rw [heap_set _ hb2]
    simp
  · rw [List.length_append, enC_append]
    exact ownsRow_carry hown fun k hk => by
      simp [Value.ownBlock] at hk
      subst hk
      exact Below.heap_setCell _ _ _ _ hgb
  · exact hgrow.os.trans hw1.os
  · exact hgrow.tape.trans hw1.tape
  · exact hgrow.output.trans hw1.output
  · simp [World.setCell]; omega
  · rw [Below.heap_setCell _ _ _ _ (fun e => hf (.inl e)), hgrow.block k (by omega) (fun e => hf (.inr ⟨v, by simp, e.symm⟩))]
    exact hw1.block k hk
  · rcases hk with e | ⟨x, hx, e⟩
    · exact .inl (.inl e)
    · simp at hx
      subst hx
      simp [Value.ownBlock] at e
      subst e
      rcases hat with e | e
      · exact .inl (.inr ⟨v, by simp, e⟩)
      · exact .inr e
end

/-- All changes, in block b. -/
structure WoAt (w : World) (b : Nat) (v : Value) (l : List Th) : Prop where
  at_ : w.heap[b]? = some (.cells #[v] 28 (0, 0))
  owns : w.ownsRow 0 36 2 v l.length (thC l)

section
variable {w w' : World} {b : Nat} {v : Value} {l : List Th}

theorem WoAt.lt (h : WoAt w b v l) : b < w.heap.size := (Array.getElem?_eq_some_iff.1 h.at_).1
theorem WoAt.own_lt (h : WoAt w b v l) : ∀ k, v.ownBlock = some k → k < w.heap.size := fun k hk => (h.owns.lt k hk).2
theorem WoAt.foot_lt (h : WoAt w b v l) : ∀ k, Foot b [v] k → k < w.heap.size := fun k hk => by
  rcases hk with e | ⟨x, hx, e⟩
  · rw [e]; exact h.lt
  · simp at hx; subst hx; exact h.own_lt k e
theorem WoAt.c0 (h : WoAt w b v l) : w.cell? ⟨b, 0, none⟩ = some v := cell_at h.at_ rfl
theorem WoAt.fz (h : WoAt w b v l) (i : Nat) : w.frozen? ⟨b, i, none⟩ = false := free_at h.at_
theorem WoAt.keep (h : WoAt w b v l) (hk : ∀ k, Foot b [v] k → w'.heap[k]? = w.heap[k]?) : WoAt w' b v l :=
  ⟨(hk b (.inl rfl)).trans h.at_, ownsRow_carry h.owns fun k e => hk k (.inr ⟨v, by simp, e⟩)⟩
theorem WoAt.grown (h : WoAt w b v l) (hb : Below w.heap.size w w') : WoAt w' b v l := h.keep fun k hk => hb.block k (h.foot_lt k hk)
theorem WoAt.drew (h : WoAt w b v l) : WoAt w.drew b v l := h.keep fun _ _ => rfl
theorem WoAt.alloc (h : WoAt w b v l) (o : Obj) : WoAt (w.alloc o) b v l := h.grown ((Below.refl _ _).alloc (Nat.le_refl _) _)
theorem WoAt.own_b (h : WoAt w b v l) : v.ownBlock ≠ some b := fun e => by
  obtain ⟨cs, hc⟩ := own_at h.owns e
  exact block_ne hc h.at_ (by decide) rfl
theorem row_th {B g n cap : Nat} {e : TypeId} (h : w.ownsRow B e 2 (.slice (some ⟨g, 0, none⟩) n cap) n (thC l)) (j : Nat) (hj : j < l.length) :
    w.cell? ⟨g, j * 2, none⟩ = some (.int .i64 l[j]!.1) ∧ w.cell? ⟨g, j * 2 + 1, none⟩ = some (.int .i64 l[j]!.2) := by
  obtain ⟨e0, e1⟩ := thC_get l j hj
  have k0 := h.cells (g := g) rfl _ _ e0
  have k1 := h.cells (g := g) rfl _ _ e1
  rw [addP] at k0 k1
  exact ⟨k0, k1⟩

/-- One change more. -/
theorem WoAt.more {w1 w2 : World} {g cap : Nat} (h : WoAt w b v l) (x : Th) (hown : w2.ownsRow 0 36 2 (.slice (some ⟨g, 0, none⟩) (l.length + 1) cap) (l.length + 1) (thC l ++ thC [x]))
    (hw1 : Below w.heap.size w w1) (hgrow : w1.grownBy w2 v.ownBlock) (hat : v.ownBlock = some g ∨ w.heap.size ≤ g) :
    WoAt (w2.setCell ⟨b, 0, none⟩ (.slice (some ⟨g, 0, none⟩) (l.length + 1) cap)) b (.slice (some ⟨g, 0, none⟩) (l.length + 1) cap) (l ++ [x]) ∧
      Wrote (Foot b [v]) (Foot b [.slice (some ⟨g, 0, none⟩) (l.length + 1) cap]) w (w2.setCell ⟨b, 0, none⟩ (.slice (some ⟨g, 0, none⟩) (l.length + 1) cap)) := by
  have hlt := h.lt
  have hsz := hw1.size
  have hb2 : w2.heap[b]? = some (.cells #[v] 28 (0, 0)) := by
    rw [hgrow.block b (by omega) (fun e => h.own_b e.symm), hw1.block b hlt]
    exact h.at_
  have hgb : g ≠ b := by
    rcases hat with e | e
    · exact fun e' => h.own_b (by rw [e, e'])
    · omega
  have hs2 := hgrow.size
  refine ⟨⟨?_, ?_⟩, ?_, ?_, ?_, ?_, fun k hk hf => ?_, fun k hk => ?_⟩
  · rw [heap_set _ hb2]
    simp
  · rw [List.length_append, thC_append]
    exact ownsRow_carry hown fun k hk => by
      simp [Value.ownBlock] at hk
      subst hk
      exact Below.heap_setCell _ _ _ _ hgb
  · exact hgrow.os.trans hw1.os
  · exact hgrow.tape.trans hw1.tape
  · exact hgrow.output.trans hw1.output
  · simp [World.setCell]; omega
  · rw [Below.heap_setCell _ _ _ _ (fun e => hf (.inl e)), hgrow.block k (by omega) (fun e => hf (.inr ⟨v, by simp, e.symm⟩))]
    exact hw1.block k hk
  · rcases hk with e | ⟨x, hx, e⟩
    · exact .inl (.inl e)
    · simp at hx
      subst hx
      simp [Value.ownBlock] at e
      subst e
      rcases hat with e | e
      · exact .inl (.inr ⟨v, by simp, e⟩)
      · exact .inr e
end

end Go.Proofs.Ytafpfioonbdgnaa.Rds
