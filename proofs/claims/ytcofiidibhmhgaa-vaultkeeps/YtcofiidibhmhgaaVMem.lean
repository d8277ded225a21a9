/-
  A vault in memory; what calls on it leave of the world.
-/
import Derived.Test.YtcofiidibhmhgaaVTold
namespace Go.Proofs.Ytcofiidibhmhgaa
open Go.RowKit

/-- The vault in block vb: its log, the other one, its epoch, whether it has settled. -/
structure VAt (w : World) (vb lb ob e : Nat) (st : Bool) : Prop where
  at_ : w.heap[vb]? = some (.cells #[.pointer (some ⟨lb, 0, none⟩), .pointer (some ⟨ob, 0, none⟩), .int .i64 e, .bool st] 66 (0, 0))

/-- All blocks but those of vaults, logs and disks are as they were. -/
structure Keeps (w w' : World) : Prop where
  size : w.heap.size ≤ w'.heap.size
  block : ∀ (k : Nat) (cs : Array Value) (t : TypeId) (m : Nat × Nat), w.heap[k]? = some (.cells cs t m) → t ≠ 55 → t ≠ 59 → t ≠ 76 → t ≠ 66 → w'.heap[k]? = w.heap[k]?

theorem Keeps.refl (w : World) : Keeps w w := ⟨Nat.le_refl _, fun _ _ _ _ _ _ _ _ _ => rfl⟩
theorem Keeps.trans {a b c : World} (h : Keeps a b) (k : Keeps b c) : Keeps a c :=
  ⟨Nat.le_trans h.size k.size, fun i cs t m hi h1 h2 h3 h4 => by
    have := h.block i cs t m hi h1 h2 h3 h4
    rw [k.block i cs t m (this.trans hi) h1 h2 h3 h4]
    exact this⟩
theorem Keeps.below {w w' : World} (h : Below w.heap.size w w') : Keeps w w' :=
  ⟨h.size, fun k _ _ _ hk _ _ _ _ => h.block k (Array.getElem?_eq_some_iff.1 hk).1⟩
theorem Keeps.wrote {w w' : World} {b : Nat} {v v' : Value} {dn ws : List Ch} (h : Has w b v dn ws) (hw : Wrote b v w v' w') : Keeps w w' :=
  ⟨hw.size, fun _ _ _ _ hk h1 h2 _ _ => hw.other h hk h1 h2⟩
theorem Keeps.wroteL {w w' : World} {lb b b0 : Nat} {v v' : Value} {dn ws : List Ch} {o tn : Bool} (h : Has w b v dn ws) (hl : LogAt w lb b0 o tn) (hw : WroteL lb b v w v' w') : Keeps w w' :=
  ⟨hw.size, fun _ _ _ _ hk h1 h2 h3 _ => hw.other h hl hk h1 h2 h3⟩

theorem Keeps.cell {w w' : World} (h : Keeps w w') {k : Nat} {cs : Array Value} {t : TypeId} {m : Nat × Nat} (hk : w.heap[k]? = some (.cells cs t m)) (h1 : t ≠ 55) (h2 : t ≠ 59) (h3 : t ≠ 76) (h4 : t ≠ 66) :
    w'.heap[k]? = some (.cells cs t m) := (h.block k cs t m hk h1 h2 h3 h4).trans hk

theorem Keeps.row {w w' : World} (h : Keeps w w') {base n : Nat} {v : Value} {xs : List Value} (hr : w.ownsRow base 9 1 v n xs) : w'.ownsRow base 9 1 v n xs := by
  refine ⟨hr.1, ?_⟩
  rcases hr.2 with e | ⟨g, cap, cur, e, h0, hg, r⟩
  · exact .inl e
  · exact .inr ⟨g, cap, cur, e, h0, (h.block g _ _ _ hg (by decide) (by decide) (by decide) (by decide)).trans hg, r⟩

section
variable {w w' : World} {vb lb ob e : Nat} {st : Bool}
theorem VAt.lt (h : VAt w vb lb ob e st) : vb < w.heap.size := (Array.getElem?_eq_some_iff.1 h.at_).1
theorem VAt.c0 (h : VAt w vb lb ob e st) : w.cell? ⟨vb, 0, none⟩ = some (.pointer (some ⟨lb, 0, none⟩)) := by simp [World.cell?, h.at_]
theorem VAt.c1 (h : VAt w vb lb ob e st) : w.cell? ⟨vb, 1, none⟩ = some (.pointer (some ⟨ob, 0, none⟩)) := by simp [World.cell?, h.at_]
theorem VAt.c2 (h : VAt w vb lb ob e st) : w.cell? ⟨vb, 2, none⟩ = some (.int .i64 e) := by simp [World.cell?, h.at_]
theorem VAt.c3 (h : VAt w vb lb ob e st) : w.cell? ⟨vb, 3, none⟩ = some (.bool st) := by simp [World.cell?, h.at_]
theorem VAt.fz (h : VAt w vb lb ob e st) (i : Nat) : w.frozen? ⟨vb, i, none⟩ = false := by simp [World.frozen?, h.at_]
theorem VAt.carry (h : VAt w vb lb ob e st) (hb : w'.heap[vb]? = w.heap[vb]?) : VAt w' vb lb ob e st := ⟨hb.trans h.at_⟩
theorem VAt.grown (h : VAt w vb lb ob e st) (hb : Below w.heap.size w w') : VAt w' vb lb ob e st := h.carry (hb.block vb h.lt)
theorem VAt.disk {b : Nat} {v v' : Value} {dn ws : List Ch} (h : VAt w vb lb ob e st) (hd : Has w b v dn ws) (hw : Wrote b v w v' w') : VAt w' vb lb ob e st := h.carry (hw.other hd h.at_ (by decide) (by decide))
theorem VAt.log {k b b0 : Nat} {v v' : Value} {o tn : Bool} {dn ws : List Ch} (h : VAt w vb lb ob e st) (hd : Has w b v dn ws) (hl : LogAt w k b0 o tn) (hw : WroteL k b v w v' w') : VAt w' vb lb ob e st := h.carry (hw.other hd hl h.at_ (by decide) (by decide) (by decide))
end

/-- Another log, behind a log's calls. -/
theorem LogAt.beside {w w' : World} {lb kb b : Nat} {v v' : Value} {o tn : Bool} {dn ws : List Ch} (hl : LogAt w lb b o tn) (hd : Has w b v dn ws) (hw : WroteL kb b v w v' w') (hne : lb ≠ kb) : LogAt w' lb b o tn :=
  hl.carry (hw.block lb hl.lt hne (hd.not hl.at_ (by decide) (by decide)).1 (hd.not hl.at_ (by decide) (by decide)).2)

/-- A vault, its logs and its disk, of the law's own. y: the area of its log. -/
structure MV (B : Nat) (w0 w : World) (vb lb ob b : Nat) (v : Value) (y tn tm : Bool) (e : Nat) (st : Bool) (dn ws : List Ch) : Prop where
  d : Mine B w0 w b v dn ws
  a : VAt w vb lb ob e st
  l : LogAt w lb b y tn
  o : LogAt w ob b (!y) tm
  ne : lb ≠ ob
  bv : B ≤ vb
  bl : B ≤ lb
  bo : B ≤ ob

section
variable {B : Nat} {w0 w w' : World} {vb lb ob b : Nat} {v v' : Value} {y tn tm tn' : Bool} {e : Nat} {st : Bool} {dn ws dn' ws' : List Ch}

theorem MV.lo (h : MV B w0 w vb lb ob b v y tn tm e st dn ws) : B ≤ w.heap.size := h.d.lo
theorem MV.step (h : MV B w0 w vb lb ob b v y tn tm e st dn ws) (h1 : Has w' b v' dn' ws') (hw : Wrote b v w v' w') : MV B w0 w' vb lb ob b v' y tn tm e st dn' ws' :=
  ⟨h.d.step h1 hw, h.a.disk h.d.has hw, h.l.disk h.d.has hw, h.o.disk h.d.has hw, h.ne, h.bv, h.bl, h.bo⟩
theorem MV.grow (h : MV B w0 w vb lb ob b v y tn tm e st dn ws) (hb : Below w.heap.size w w') : MV B w0 w' vb lb ob b v y tn tm e st dn ws :=
  ⟨h.d.grow hb, h.a.grown hb, h.l.grown hb, h.o.grown hb, h.ne, h.bv, h.bl, h.bo⟩
theorem MV.stepO (h : MV B w0 w vb lb ob b v y tn tm e st dn ws) (h1 : Has w' b v' dn' ws') (h2 : LogAt w' ob b (!y) tn') (hw : WroteL ob b v w v' w') : MV B w0 w' vb lb ob b v' y tn tn' e st dn' ws' :=
  ⟨⟨h1, h.d.le, hw.own_from h.lo h.d.own, h.d.below.trans (hw.below h.lo h.bo h.d.le h.d.own)⟩, h.a.log h.d.has h.o hw, h.l.beside h.d.has hw h.ne, h2, h.ne, h.bv, h.bl, h.bo⟩
theorem MV.stepL (h : MV B w0 w vb lb ob b v y tn tm e st dn ws) (h1 : Has w' b v' dn' ws') (h2 : LogAt w' lb b y tn') (hw : WroteL lb b v w v' w') : MV B w0 w' vb lb ob b v' y tn' tm e st dn' ws' :=
  ⟨⟨h1, h.d.le, hw.own_from h.lo h.d.own, h.d.below.trans (hw.below h.lo h.bl h.d.le h.d.own)⟩, h.a.log h.d.has h.l hw, h2, h.o.beside h.d.has hw (Ne.symm h.ne), h.ne, h.bv, h.bl, h.bo⟩
end

/-- What a disk's areas tell: the area of the youngest, its epoch, image and loads. -/
def Fnd (dn ws : List Ch) (y : Bool) (e : Nat) (s : ByteArray) (lds : List ByteArray) : Prop :=
  ∃ L M f t m, AllOf (txt y (dn ++ ws)).data.toList L ∧ AllOf (txt (!y) (dn ++ ws)).data.toList M ∧ Told L e s lds ∧ Told M f t m ∧ (if y then f < e else f ≤ e)

theorem fnd_exists (dn ws : List Ch) : ∃ y e s lds, Fnd dn ws y e s lds := by
  obtain ⟨L, hL⟩ := all_exists _ (txt false (dn ++ ws)).data.toList (Nat.le_refl _)
  obtain ⟨M, hM⟩ := all_exists _ (txt true (dn ++ ws)).data.toList (Nat.le_refl _)
  obtain ⟨e, s, l, h1⟩ := Told.exists_ L
  obtain ⟨f, t, m, h2⟩ := Told.exists_ M
  by_cases h : e < f
  · exact ⟨true, f, t, m, M, L, e, s, l, hM, hL, h2, h1, h⟩
  · exact ⟨false, e, s, l, L, M, f, t, m, hL, hM, h1, h2, by simp; omega⟩

end Go.Proofs.Ytcofiidibhmhgaa
