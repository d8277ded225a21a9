/-
  What a feed is in memory: a block of four cells (three slices of bytes, and the row of places), the rows that the slices own, and the row of places with its things; what a call leaves of the world.
-/
import Derived.Test.YtmgimohnednlgaaRNewJ
import Derived.Test.YtmgimohnednlgaaEMath
namespace Go.Proofs.Ytmgimohnednlgaa.Fee
open Go.RowKit Go.Proofs.Ytmgimohnednlgaa.Cel

/-- Bytes as cells. -/
def bcells (bs : List UInt8) : List Value := bs.map fun c => .int .u8 (c.toNat : Int)

theorem bcells_append (a b : List UInt8) : bcells (a ++ b) = bcells a ++ bcells b := by simp [bcells]
theorem bcells_length (a : List UInt8) : (bcells a).length = a.length := by simp [bcells]

/-- Where a feed lies: its block, its row's, the row's things', and its slices. -/
structure Lie where
  b : Nat
  r : Nat
  g : Nat
  vs : Nat → Value

/-- The feed that lies there has these sockets. -/
structure FeedAt (w : World) (A : Lie) (f : Nat → Sk) : Prop where
  at_ : w.heap[A.b]? = some (.cells #[A.vs 0, A.vs 1, A.vs 2, .pointer (some ⟨A.r, 0, none⟩)] 50 (0, 0))
  row : I.RowAt w A.r A.g (rowOf f)
  two : ∀ i j, i < 3 → j < 3 → i ≠ j → ∀ k, (A.vs i).ownBlock = some k → (A.vs j).ownBlock ≠ some k
  owns : ∀ i, i < 3 → w.ownsRow 0 5 1 (A.vs i) (f i).bs.length (bcells (f i).bs)
  good : ∀ i, i < 3 → (f i).Good

/-- The blocks of a feed. -/
def Foot (A : Lie) (k : Nat) : Prop := k = A.b ∨ k = A.r ∨ k = A.g ∨ ∃ i, i < 3 ∧ (A.vs i).ownBlock = some k

/-- What calls on a feed left: its blocks, and new ones, alone are others. -/
structure Wrote (A : Lie) (w : World) (A' : Lie) (w' : World) : Prop where
  os : w'.os = w.os
  tape : w'.tape = w.tape
  output : w'.output = w.output
  size : w.heap.size ≤ w'.heap.size
  block : ∀ k, k < w.heap.size → ¬ Foot A k → w'.heap[k]? = w.heap[k]?
  own : ∀ k, Foot A' k → Foot A k ∨ w.heap.size ≤ k

theorem Wrote.refl (A : Lie) (w : World) : Wrote A w A w := ⟨rfl, rfl, rfl, Nat.le_refl _, fun _ _ _ => rfl, fun _ h => .inl h⟩

theorem Wrote.trans {A0 A1 A2 : Lie} {w0 w1 w2 : World} (h : Wrote A0 w0 A1 w1) (k : Wrote A1 w1 A2 w2) : Wrote A0 w0 A2 w2 := by
  refine ⟨k.os.trans h.os, k.tape.trans h.tape, k.output.trans h.output, Nat.le_trans h.size k.size, fun i hi hf => ?_, fun i hi => ?_⟩
  · rw [k.block i (Nat.lt_of_lt_of_le hi h.size) (fun e => by
      rcases h.own i e with e' | e'
      · exact hf e'
      · omega)]
    exact h.block i hi hf
  · rcases k.own i hi with e | e
    · exact h.own i e
    · right; have := h.size; omega

/-- New blocks alone. -/
theorem Wrote.of_below {A : Lie} {w w' : World} (hb : Below w.heap.size w w') : Wrote A w A w' :=
  ⟨hb.os, hb.tape, hb.output, hb.size, fun k hk _ => hb.block k hk, fun _ h => .inl h⟩

theorem Wrote.drewN {A A' : Lie} {w w' : World} (h : Wrote A w A' w') (n : Nat) : Wrote A w A' (w'.drewN n) := h.trans (.of_below (below_drewN (Below.refl _ _) n))

/-- Below a number that is no more than the feed's own blocks nothing has turned. -/
theorem Wrote.below {B : Nat} {A A' : Lie} {w w' : World} (h : Wrote A w A' w') (hB : B ≤ w.heap.size) (hv : ∀ k, Foot A k → B ≤ k) : Below B w w' :=
  ⟨h.os, h.tape, h.output, h.size, fun k hk => h.block k (by omega) (fun e => by have := hv k e; omega)⟩

theorem Wrote.own_from {B : Nat} {A A' : Lie} {w w' : World} (h : Wrote A w A' w') (hB : B ≤ w.heap.size) (hv : ∀ k, Foot A k → B ≤ k) : ∀ k, Foot A' k → B ≤ k := fun k hk => by
  rcases h.own k hk with e | e
  · exact hv k e
  · omega

/-- A row that is owned, in a world whose blocks, as far as it has them, are the same. -/
theorem ownsRow_carry {w w' : World} {e size : Nat} {v : Value} {n : Nat} {xs : List Value} (h : w.ownsRow 0 e size v n xs) (hv : ∀ k, v.ownBlock = some k → w'.heap[k]? = w.heap[k]?) : w'.ownsRow 0 e size v n xs := by
  refine ⟨h.1, ?_⟩
  rcases h.2 with e | ⟨g, cap, cur, e, h0, hg, r⟩
  · exact .inl e
  · exact .inr ⟨g, cap, cur, e, h0, by rw [hv g (by rw [e]; rfl)]; exact hg, r⟩

theorem block_ne {w : World} {i j : Nat} {c d : Array Value} {s t : TypeId} {m n : Nat × Nat} (h : w.heap[i]? = some (.cells c s m)) (k : w.heap[j]? = some (.cells d t n)) (hne : s ≠ t) : i ≠ j := fun e => by
  subst e
  rw [h] at k
  injection k with k
  injection k with _ k _
  exact hne k

/-- The block of a row of bytes. -/
theorem own_at {w : World} {v : Value} {n : Nat} {xs : List Value} {k : Nat} (h : w.ownsRow 0 5 1 v n xs) (hk : v.ownBlock = some k) : ∃ cs m, w.heap[k]? = some (.cells cs 5 m) := by
  rcases h.2 with ⟨e, _⟩ | ⟨g, cap, cur, e, _, hg, _⟩
  · rw [e] at hk; cases hk
  · rw [e] at hk
    cases hk
    exact ⟨_, _, hg⟩

section
variable {w w' : World} {A : Lie} {f : Nat → Sk}

theorem FeedAt.lt (h : FeedAt w A f) : A.b < w.heap.size := (Array.getElem?_eq_some_iff.1 h.at_).1
theorem FeedAt.own_lt (h : FeedAt w A f) {i : Nat} (hi : i < 3) : ∀ k, (A.vs i).ownBlock = some k → k < w.heap.size := fun k hk => ((h.owns i hi).lt k hk).2
theorem FeedAt.foot_lt (h : FeedAt w A f) : ∀ k, Foot A k → k < w.heap.size := fun k hk => by
  rcases hk with e | e | e | ⟨i, hi, e⟩
  · rw [e]; exact h.lt
  · rw [e]; exact h.row.lt
  · rw [e]; exact h.row.ltg
  · exact h.own_lt hi k e

theorem FeedAt.cv (h : FeedAt w A f) : ∀ i, i < 3 → w.cell? ⟨A.b, i, none⟩ = some (A.vs i) :=
  below3 (by simp [World.cell?, h.at_]) (by simp [World.cell?, h.at_]) (by simp [World.cell?, h.at_])
theorem FeedAt.cr (h : FeedAt w A f) : w.cell? ⟨A.b, 3, none⟩ = some (.pointer (some ⟨A.r, 0, none⟩)) := by simp [World.cell?, h.at_]
theorem FeedAt.fz (h : FeedAt w A f) (i : Nat) : w.frozen? ⟨A.b, i, none⟩ = false := by simp [World.frozen?, h.at_]

theorem FeedAt.b_r (h : FeedAt w A f) : A.b ≠ A.r := block_ne h.at_ h.row.at_ (by decide)
theorem FeedAt.b_g (h : FeedAt w A f) : A.b ≠ A.g := block_ne h.at_ h.row.row (by decide)
theorem FeedAt.own_b (h : FeedAt w A f) {i : Nat} (hi : i < 3) : ∀ k, (A.vs i).ownBlock = some k → k ≠ A.b := fun k hk => by
  obtain ⟨cs, m, e⟩ := own_at (h.owns i hi) hk
  exact block_ne e h.at_ (by decide)
theorem FeedAt.own_r (h : FeedAt w A f) {i : Nat} (hi : i < 3) : ∀ k, (A.vs i).ownBlock = some k → k ≠ A.r := fun k hk => by
  obtain ⟨cs, m, e⟩ := own_at (h.owns i hi) hk
  exact block_ne e h.row.at_ (by decide)
theorem FeedAt.own_g (h : FeedAt w A f) {i : Nat} (hi : i < 3) : ∀ k, (A.vs i).ownBlock = some k → k ≠ A.g := fun k hk => by
  obtain ⟨cs, m, e⟩ := own_at (h.owns i hi) hk
  exact block_ne e h.row.row (by decide)

theorem FeedAt.keep (h : FeedAt w A f) (hk : ∀ k, Foot A k → w'.heap[k]? = w.heap[k]?) : FeedAt w' A f :=
  ⟨(hk _ (.inl rfl)).trans h.at_, h.row.keep (hk _ (.inr (.inl rfl))) (hk _ (.inr (.inr (.inl rfl)))), h.two, fun i hi => ownsRow_carry (h.owns i hi) fun k e => hk k (.inr (.inr (.inr ⟨i, hi, e⟩))), h.good⟩

theorem FeedAt.grown (h : FeedAt w A f) (hb : Below w.heap.size w w') : FeedAt w' A f := h.keep fun k hk => hb.block k (h.foot_lt k hk)
theorem FeedAt.drewN (h : FeedAt w A f) (n : Nat) : FeedAt (w.drewN n) A f := h.keep fun _ _ => by rw [heap_drewN]
theorem FeedAt.drew (h : FeedAt w A f) : FeedAt w.drew A f := h.keep fun _ _ => rfl
theorem FeedAt.alloc (h : FeedAt w A f) (o : Obj) : FeedAt (w.alloc o) A f := h.grown ((Below.refl _ _).alloc (Nat.le_refl _) _)

/-- Another feed's calls. -/
theorem FeedAt.beside {A2 A2' : Lie} (h : FeedAt w A f) (k : Wrote A2 w A2' w') (ha : ∀ k, Foot A k → ¬ Foot A2 k) : FeedAt w' A f :=
  h.keep fun i hi => k.block i (h.foot_lt i hi) (ha i hi)

/-- Another place. -/
theorem FeedAt.setP {i p : Nat} {v : Int} (h : FeedAt w A f) (hi : i < 3) (hp : p ≤ (f i).bs.length) (hr : I.RowAt w' A.r A.g ((rowOf f).set i ((p : Int), v))) (ho : Only A.g w w') : FeedAt w' A (upd f i ((f i).took p v)) ∧ Wrote A w A w' := by
  have hbs : ∀ j, (upd f i ((f i).took p v) j).bs = (f j).bs := fun j => by
    unfold upd; split
    · next e => rw [e]; rfl
    · rfl
  refine ⟨⟨(ho.block _ h.b_g).trans h.at_, ?_, h.two, fun j hj => ?_, good_upd h.good i ((h.good i hi).took hp v)⟩, ?_⟩
  · rw [← rowOf_set f p v i hi]; exact hr
  · rw [hbs]
    exact ownsRow_carry (h.owns j hj) fun k hk => ho.block k (h.own_g hj k hk)
  · exact ⟨ho.os, ho.tape, ho.output, Nat.le_of_eq ho.size.symm, fun k _ hf => ho.block k (fun e => hf (.inr (.inr (.inl e)))), fun _ hk => .inl hk⟩

/-- The feed's place with another slice. -/
def Lie.turn (A : Lie) (i : Nat) (v : Value) : Lie := ⟨A.b, A.r, A.g, upd A.vs i v⟩

/-- Another slice of a socket, whose row is owned, laid into the block; all other rows are as they were. -/
theorem FeedAt.setV {w1 : World} {s : List UInt8} (h : FeedAt w A f) (i : Nat) (hi : i < 3) (v : Value) (hs : (f i).bs.length + s.length ≤ 64)
    (hown : w1.ownsRow 0 5 1 v ((f i).more s).bs.length (bcells ((f i).more s).bs)) (hgrow : w.grownBy w1 (A.vs i).ownBlock) (hat : ∀ k, v.ownBlock = some k → (A.vs i).ownBlock = some k ∨ w.heap.size ≤ k) :
    FeedAt (w1.setCell ⟨A.b, i, none⟩ v) (A.turn i v) (upd f i ((f i).more s)) ∧ Wrote A w (A.turn i v) (w1.setCell ⟨A.b, i, none⟩ v) := by
  have hlt := h.lt
  have hne : ∀ k, v.ownBlock = some k → k ≠ A.b := fun k hk => by
    rcases hat k hk with e | e
    · exact h.own_b hi k e
    · omega
  have hb1 : w1.heap[A.b]? = w.heap[A.b]? := hgrow.block A.b hlt (fun e => h.own_b hi A.b e.symm rfl)
  have hr1 : w1.heap[A.r]? = w.heap[A.r]? := hgrow.block A.r h.row.lt (fun e => h.own_r hi A.r e.symm rfl)
  have hg1 : w1.heap[A.g]? = w.heap[A.g]? := hgrow.block A.g h.row.ltg (fun e => h.own_g hi A.g e.symm rfl)
  refine ⟨⟨?_, ?_, fun j l hj hl hjl k hk => ?_, fun j hj => ?_, good_upd h.good i ((h.good i hi).more s hs)⟩, ?_⟩
  · show (w1.setCell ⟨A.b, i, none⟩ v).heap[A.b]? = some (.cells #[upd A.vs i v 0, upd A.vs i v 1, upd A.vs i v 2, .pointer (some ⟨A.r, 0, none⟩)] 50 (0, 0))
    rw [heap_set _ (hb1.trans h.at_)]
    clear hne hat hown hgrow hs
    revert i
    exact below3 (by simp [upd]) (by simp [upd]) (by simp [upd])
  · rw [rowOf_more f s i hi]
    exact h.row.keep ((Below.heap_setCell _ _ _ _ (Ne.symm h.b_r)).trans hr1) ((Below.heap_setCell _ _ _ _ (Ne.symm h.b_g)).trans hg1)
  · unfold Lie.turn upd at hk ⊢
    dsimp only at hk ⊢
    split at hk
    · next e =>
      rw [if_neg (by omega)]
      intro e2
      rcases hat k hk with e3 | e3
      · exact h.two i l hi hl (by omega) k e3 e2
      · have := h.own_lt hl k e2; omega
    · next e =>
      split
      · next e2 =>
        intro e3
        rcases hat k e3 with e4 | e4
        · exact h.two j i hj hi (by omega) k hk e4
        · have := h.own_lt hj k hk; omega
      · exact h.two j l hj hl hjl k hk
  · show (w1.setCell ⟨A.b, i, none⟩ v).ownsRow 0 5 1 (upd A.vs i v j) _ _
    by_cases e : j = i
    · subst e
      rw [upd_same, upd_same]
      exact ownsRow_carry hown fun k hk => Below.heap_setCell _ _ _ _ (hne k hk)
    · rw [upd_other _ _ _ _ e, upd_other _ _ _ _ e]
      refine ownsRow_carry (h.owns j hj) fun k hk => ?_
      rw [Below.heap_setCell _ _ _ _ (h.own_b hj k hk), hgrow.block k (h.own_lt hj k hk) (fun e2 => h.two j i hj hi e k hk e2.symm)]
  · refine ⟨hgrow.os, hgrow.tape, hgrow.output, by have := hgrow.size; simpa [World.setCell] using this, fun k hk hf => ?_, fun k hk => ?_⟩
    · rw [Below.heap_setCell _ _ _ _ (fun e => hf (.inl e)), hgrow.block k hk (fun e => hf (.inr (.inr (.inr ⟨i, hi, e.symm⟩))))]
    · rcases hk with e | e | e | ⟨j, hj, e⟩
      · exact .inl (.inl e)
      · exact .inl (.inr (.inl e))
      · exact .inl (.inr (.inr (.inl e)))
      · unfold Lie.turn upd at e
        dsimp only at e
        split at e
        · rcases hat k e with e2 | e2
          · exact .inl (.inr (.inr (.inr ⟨i, hi, e2⟩)))
          · exact .inr e2
        · exact .inl (.inr (.inr (.inr ⟨j, hj, e⟩)))

theorem FeedAt.cells (h : FeedAt w A f) (i : Nat) (hi : i < 3) {g n cap : Nat} (hv : A.vs i = .slice (some ⟨g, 0, none⟩) n cap) : ∀ j (hj : j < (f i).bs.length), w.cell? ⟨g, j, none⟩ = some (.int .u8 ((f i).bs[j].toNat : Int)) := fun j hj => by
  have := (h.owns i hi).cells (g := g) (by rw [hv]; rfl) j (.int .u8 ((f i).bs[j].toNat : Int)) (by simp [bcells, hj])
  rw [add_plain, Nat.zero_add] at this
  exact this

/-- A socket's slice is nil, and there are no bytes; or it has its row. -/
theorem FeedAt.kind (h : FeedAt w A f) (i : Nat) (hi : i < 3) : (A.vs i = .slice none 0 0 ∧ (f i).bs = [] ∧ (f i).place = 0) ∨ ∃ g cap, A.vs i = .slice (some ⟨g, 0, none⟩) (f i).bs.length cap ∧ (f i).bs.length ≤ cap ∧ cap ≤ maxLen := by
  have hg := h.good i hi
  rcases (h.owns i hi).2 with ⟨e, h0⟩ | ⟨g, cap, cur, e, _, _, r1, r2, _⟩
  · have h1 := hg.le
    exact .inl ⟨e, List.length_eq_zero_iff.1 h0, by omega⟩
  · exact .inr ⟨g, cap, e, r1, r2⟩

theorem FeedAt.sl (h : FeedAt w A f) (i : Nat) (hi : i < 3) : ∃ a cap, A.vs i = .slice a (f i).bs.length cap := by
  rcases h.kind i hi with ⟨e, h0, _⟩ | ⟨g, cap, e, _⟩
  · exact ⟨none, 0, by rw [e, h0]; rfl⟩
  · exact ⟨_, cap, e⟩

end

/-- No slices. -/
def nils : Nat → Value := fun _ => .slice none 0 0

theorem FeedAt.new {w1 : World} {r g : Nat} (hr : I.RowAt w1 r g (List.replicate (I.made 3) (0, 0))) :
    FeedAt (w1.alloc (.cells #[.slice none 0 0, .slice none 0 0, .slice none 0 0, .pointer (some ⟨r, 0, none⟩)] 50)) ⟨w1.heap.size, r, g, nils⟩ nones :=
  ⟨heap_new w1 _, hr.grown ((Below.refl _ _).alloc (Nat.le_refl _) _), fun i j _ _ _ k hk => by simp [nils, Value.ownBlock] at hk, fun _ _ => World.ownsRow_nil _ _ _ _, fun _ _ => Sk.none_good⟩

end Go.Proofs.Ytmgimohnednlgaa.Fee
