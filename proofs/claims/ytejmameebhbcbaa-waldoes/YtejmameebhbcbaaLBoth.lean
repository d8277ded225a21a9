/-
  The law's 'both': the log and the document's log, one beside the other; what calls make of them; the walk of 'start'.
-/
import Derived.Test.YtejmameebhbcbaaLRef
namespace Go.Proofs.Ytejmameebhbcbaa
open Go.RowKit

/-- Both logs: the program's (torn or not, changes done, changes that wait), and the document's. -/
structure Two (w wr : World) (bb b lb m rl : Nat) (v vm : Value) (o tn : Bool) (dn ws : List Ch) (tr : Bool) (dr rs : List Ch) : Prop where
  bx : wr.heap[bb]? = some (.cells #[.pointer (some ⟨b, 0, none⟩), .pointer (some ⟨lb, 0, none⟩), .pointer (some ⟨rl, 0, none⟩)] 42 (0, 0))
  ble : w.heap.size ≤ bb
  l : ML w.heap.size w wr lb b v o tn dn ws
  g : RLog wr rl m o tr
  gle : w.heap.size ≤ rl
  r : Ref wr m vm (dr ++ rs) dr.length
  mle : w.heap.size ≤ m
  mown : ∀ k, vm.ownBlock = some k → w.heap.size ≤ k

theorem set_other {w : World} {bb k i : Nat} {cs cs' : Array Value} {t t' : TypeId} {m m' : Nat × Nat} (x : Value) (hb : w.heap[bb]? = some (.cells cs t m)) (hk : w.heap[k]? = some (.cells cs' t' m')) (ht : t' ≠ t) : (w.setCell ⟨bb, i, none⟩ x).heap[k]? = w.heap[k]? :=
  Below.heap_setCell _ _ _ _ (ne_block hk hb ht)

section
variable {w wr w' : World} {bb b lb m rl : Nat} {v vm v' vm' : Value} {o tn tr tn' tr' : Bool} {dn ws dr rs dn' ws' dr' rs' : List Ch}

theorem ML.setbox {B : Nat} {cs : Array Value} {mm : Nat × Nat} (h : ML B w wr lb b v o tn dn ws) (hbx : wr.heap[bb]? = some (.cells cs 42 mm)) (hB : B ≤ bb) (i : Nat) (x : Value) : ML B w (wr.setCell ⟨bb, i, none⟩ x) lb b v o tn dn ws := by
  refine ⟨⟨h.d.has.carry (set_other x hbx h.d.has.dsk.at_ (by decide)) fun k hk => ?_, h.d.le, h.d.own, h.d.below.setCell (p := ⟨bb, i, none⟩) hB _⟩, h.l.carry (set_other x hbx h.l.at_ (by decide)), h.le⟩
  obtain ⟨cur, hc⟩ := own_block h.d.has.dsk.owns k hk
  exact set_other x hbx hc (by decide)
theorem Ref.setbox {cs : Array Value} {mm : Nat × Nat} {all : List Ch} {sf : Nat} (h : Ref wr m vm all sf) (hbx : wr.heap[bb]? = some (.cells cs 42 mm)) (i : Nat) (x : Value) : Ref (wr.setCell ⟨bb, i, none⟩ x) m vm all sf :=
  h.carry (set_other x hbx h.at_ (by decide)) fun k hk => by
    obtain ⟨cur, hc⟩ := own_block h.owns k hk
    exact set_other x hbx hc (by decide)
theorem RLog.setbox {cs : Array Value} {mm : Nat × Nat} (h : RLog wr rl m o tr) (hbx : wr.heap[bb]? = some (.cells cs 42 mm)) (i : Nat) (x : Value) : RLog (wr.setCell ⟨bb, i, none⟩ x) rl m o tr :=
  h.carry (set_other x hbx h.at_ (by decide))

theorem Two.lo (h : Two w wr bb b lb m rl v vm o tn dn ws tr dr rs) : w.heap.size ≤ wr.heap.size := h.l.lo
theorem Two.blt (h : Two w wr bb b lb m rl v vm o tn dn ws tr dr rs) : bb < wr.heap.size := (Array.getElem?_eq_some_iff.1 h.bx).1
theorem Two.x0 (h : Two w wr bb b lb m rl v vm o tn dn ws tr dr rs) : wr.cell? ⟨bb, 0, none⟩ = some (.pointer (some ⟨b, 0, none⟩)) := by simp [World.cell?, h.bx]
theorem Two.x1 (h : Two w wr bb b lb m rl v vm o tn dn ws tr dr rs) : wr.cell? ⟨bb, 1, none⟩ = some (.pointer (some ⟨lb, 0, none⟩)) := by simp [World.cell?, h.bx]
theorem Two.x2 (h : Two w wr bb b lb m rl v vm o tn dn ws tr dr rs) : wr.cell? ⟨bb, 2, none⟩ = some (.pointer (some ⟨rl, 0, none⟩)) := by simp [World.cell?, h.bx]
theorem Two.fz (h : Two w wr bb b lb m rl v vm o tn dn ws tr dr rs) (i : Nat) : wr.frozen? ⟨bb, i, none⟩ = false := by simp [World.frozen?, h.bx]

theorem Two.grow (h : Two w wr bb b lb m rl v vm o tn dn ws tr dr rs) (hb : Below wr.heap.size wr w') : Two w w' bb b lb m rl v vm o tn dn ws tr dr rs :=
  ⟨(hb.block bb h.blt).trans h.bx, h.ble, h.l.grow hb, h.g.grown hb, h.gle, h.r.grown hb, h.mle, h.mown⟩
theorem Two.drew (h : Two w wr bb b lb m rl v vm o tn dn ws tr dr rs) : Two w wr.drew bb b lb m rl v vm o tn dn ws tr dr rs := h.grow ((Below.refl _ _).drew)

/-- The program's log has turned. -/
theorem Two.prog (h : Two w wr bb b lb m rl v vm o tn dn ws tr dr rs) (h1 : Has w' b v' dn' ws') (h2 : LogAt w' lb b o tn') (hw : WroteL lb b v wr v' w') : Two w w' bb b lb m rl v' vm o tn' dn' ws' tr dr rs := by
  have hd := h.l.d.has
  have hl := h.l.l
  refine ⟨(hw.other hd hl h.bx (by decide) (by decide) (by decide)).trans h.bx, h.ble, h.l.stepL h1 h2 hw, h.g.carry (hw.other hd hl h.g.at_ (by decide) (by decide) (by decide)), h.gle, h.r.carry (hw.other hd hl h.r.at_ (by decide) (by decide) (by decide)) fun k hk => ?_, h.mle, h.mown⟩
  obtain ⟨cur, hc⟩ := own_block h.r.owns k hk
  exact hw.other hd hl hc (by decide) (by decide) (by decide)

/-- The document's log has turned. -/
theorem Two.doc (h : Two w wr bb b lb m rl v vm o tn dn ws tr dr rs) (h1 : Ref w' m vm' (dr' ++ rs') dr'.length) (h2 : RLog w' rl m o tr') (hw : WroteL rl m vm wr vm' w') : Two w w' bb b lb m rl v vm' o tn dn ws tr' dr' rs' := by
  refine ⟨(hw.otherR h.r h.g h.bx (by decide) (by decide) (by decide)).trans h.bx, h.ble, ⟨⟨h.l.d.has.carry (hw.otherR h.r h.g h.l.d.has.dsk.at_ (by decide) (by decide) (by decide)) fun k hk => ?_, h.l.d.le, h.l.d.own, h.l.d.below.trans (hw.below h.lo h.gle h.mle h.mown)⟩,
    h.l.l.carry (hw.otherR h.r h.g h.l.l.at_ (by decide) (by decide) (by decide)), h.l.le⟩, h2, h.gle, h1, h.mle, hw.own_from h.lo h.mown⟩
  obtain ⟨cur, hc⟩ := own_block h.l.d.has.dsk.owns k hk
  exact hw.otherR h.r h.g hc (by decide) (by decide) (by decide)

/-- The program's log is opened anew. -/
theorem Two.relog (h : Two w wr bb b lb m rl v vm o tn dn ws tr dr rs) (hl : LogAt w' wr.heap.size b o tn') (hb : Below wr.heap.size wr w') : Two w (w'.setCell ⟨bb, 1, none⟩ (.pointer (some ⟨wr.heap.size, 0, none⟩))) bb b wr.heap.size m rl v vm o tn' dn ws tr dr rs := by
  have h1 := h.grow hb
  have h2 : ML w.heap.size w w' wr.heap.size b v o tn' dn ws := ⟨h1.l.d, hl, h.lo⟩
  refine ⟨?_, h.ble, h2.setbox h1.bx h.ble _ _, h1.g.setbox h1.bx _ _, h.gle, h1.r.setbox h1.bx _ _, h.mle, h.mown⟩
  rw [heap_set _ h1.bx]
  simp

/-- The document's log is opened anew. -/
theorem Two.redoc (h : Two w wr bb b lb m rl v vm o tn dn ws tr dr rs) (hl : RLog w' wr.heap.size m o tr') (hb : Below wr.heap.size wr w') : Two w (w'.setCell ⟨bb, 2, none⟩ (.pointer (some ⟨wr.heap.size, 0, none⟩))) bb b lb m wr.heap.size v vm o tn dn ws tr' dr rs := by
  have h1 := h.grow hb
  refine ⟨?_, h.ble, h1.l.setbox h1.bx h.ble _ _, hl.setbox h1.bx _ _, h.lo, h1.r.setbox h1.bx _ _, h.mle, h.mown⟩
  rw [heap_set _ h1.bx]
  simp

end

set_option maxHeartbeats 1600000 in
theorem start_any (o : Bool) (w w1 : World) (hb : Below w.heap.size w w1) :
    Calls Try.prog 20 #[.int .i64 (ar o)] w1 fun e w' => ∃ (bb b lb m rl : Nat) (v vm : Value) (tn : Bool), e = .returned (.pointer (some ⟨bb, 0, none⟩)) ∧ Two w w' bb b lb m rl v vm o tn [] [] tn [] [] := by
  have h0 := Mine.new hb hb.size
  have hT : AllOf (txt o ([] ++ [])).data.toList [] := by
    show AllOf (⟨#[]⟩ : ByteArray).data.toList []
    exact none_empty
  obtain ⟨tn, htn⟩ : ∃ tn, tn = isTorn (txt o ([] ++ [])) [] := ⟨_, rfl⟩
  have HTN := Hid.mk htn
  have HB := Hid.mk hb.size
  clear htn hb
  go_enter Try.func20, Try.ntmps20
  go_wp2_with fail
  refine (new_any w1).mono ?_
  rintro e w2 ⟨rfl, hw2⟩
  rw [← hw2] at h0
  have hz2 : w1.heap.size < w2.heap.size := by rw [hw2]; simp
  clear hw2
  have h3 := h0.grow ((Below.refl _ _).alloc (Nat.le_refl _) (.cells #[.pointer (some ⟨w1.heap.size, 0, none⟩), .pointer none, .pointer none] 42))
  have bx3 : (w2.alloc (.cells #[.pointer (some ⟨w1.heap.size, 0, none⟩), .pointer none, .pointer none] 42)).heap[w2.heap.size]? = some (.cells #[.pointer (some ⟨w1.heap.size, 0, none⟩), .pointer none, .pointer none] 42 (0, 0)) := heap_alloc_new w2 _
  obtain ⟨w3, hw3⟩ : ∃ w3, w3 = w2.alloc (.cells #[.pointer (some ⟨w1.heap.size, 0, none⟩), .pointer none, .pointer none] 42) := ⟨_, rfl⟩
  rw [← hw3] at h3 bx3
  have hz3 : w2.heap.size < w3.heap.size := by rw [hw3]; simp
  have x3 : w3.cell? ⟨w2.heap.size, 0, none⟩ = some (.pointer (some ⟨w1.heap.size, 0, none⟩)) := by simp [World.cell?, bx3]
  have HW3 := Hid.mk hw3
  clear hw3 h0
  go_wp2_with fail
  rw [← HW3.out]
  refine (walOpen_yes o h3.has [] hT).mono ?_
  rintro e w4 ⟨rfl, hl4, hb4⟩
  have m4 := h3.opened hl4 hb4
  rw [← HTN.out] at m4
  have bx4 : w4.heap[w2.heap.size]? = some (.cells #[.pointer (some ⟨w1.heap.size, 0, none⟩), .pointer none, .pointer none] 42 (0, 0)) := (hb4.block _ (by omega)).trans bx3
  have hz4 := hb4.size
  have x4 : w4.cell? ⟨w2.heap.size, 1, none⟩ = some (.pointer none) := by simp [World.cell?, bx4]
  have f4 : w4.frozen? ⟨w2.heap.size, 1, none⟩ = false := by simp [World.frozen?, bx4]
  have hle : w.heap.size ≤ w2.heap.size := by have := HB.out; omega
  have m5 := m4.setbox bx4 hle 1 (.pointer (some ⟨w3.heap.size, 0, none⟩))
  have bx5 := heap_set (i := 1) (.pointer (some ⟨w3.heap.size, 0, none⟩)) bx4
  obtain ⟨w5, hw5⟩ : ∃ w5, w5 = w4.setCell ⟨w2.heap.size, 1, none⟩ (.pointer (some ⟨w3.heap.size, 0, none⟩)) := ⟨_, rfl⟩
  rw [← hw5] at m5 bx5
  have hz5e : w5.heap.size = w4.heap.size := by rw [hw5]; simp [World.setCell]
  have hz5 : w4.heap.size ≤ w5.heap.size := by omega
  have HW5 := Hid.mk hw5
  clear hw5 hl4 hb4 m4 h3 bx3 x3
  have r6 := Ref.new w5
  rw [hz5e] at r6
  clear hz5e
  have m6 := m5.grow ((Below.refl _ _).alloc (Nat.le_refl _) (.cells #[.slice none 0 0, .int .i64 0] 51))
  have bx6 := ((Below.heap_alloc w5 (.cells #[.slice none 0 0, .int .i64 0] 51) w2.heap.size (by omega))).trans bx5
  go_wp2_with fail
  rw [← HW5.out]
  refine (refOpen4_any o (dn := []) (ws := []) r6 Fits.nil (by decide) [] hT).mono ?_
  rintro e w7 ⟨rfl, hg7, hb7⟩
  rw [← HTN.out] at hg7
  have m7 := m6.grow hb7
  have r7 := r6.grown hb7
  have bx7 := (hb7.block w2.heap.size (by simp; omega)).trans bx6
  have x7 : w7.cell? ⟨w2.heap.size, 2, none⟩ = some (.pointer none) := by simp [World.cell?, bx7]
  have f7 : w7.frozen? ⟨w2.heap.size, 2, none⟩ = false := by simp [World.frozen?, bx7]
  obtain ⟨rl, hrl⟩ : ∃ rl, rl = (w5.alloc (.cells #[.slice none 0 0, .int .i64 0] 51)).heap.size := ⟨_, rfl⟩
  have hrl2 : w.heap.size ≤ rl := by rw [hrl]; simp; omega
  rw [← hrl] at hg7
  rw [← hrl]
  have T := Two.mk (w := w) (bb := w2.heap.size) (b := w1.heap.size) (lb := w3.heap.size) (m := w4.heap.size) (rl := rl) (by rw [heap_set _ bx7]; simp) hle (m7.setbox bx7 hle 2 (.pointer (some ⟨rl, 0, none⟩))) (hg7.setbox bx7 2 _) hrl2 (dr := []) (rs := []) (r7.setbox bx7 2 _) (by omega) (by simp [Value.ownBlock])
  have HT := Hid.mk T
  clear T m5 m6 m7 r6 r7 bx4 bx5 bx6 bx7 hg7 hb7 hrl hT
  go_wp2
  go_ret
  exact ⟨_, _, _, _, _, _, _, _, rfl, HT.out⟩

end Go.Proofs.Ytejmameebhbcbaa
