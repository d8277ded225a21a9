/-
  A call on the sheet and on the document's: the same answers; what 'alive' tells.
-/
import Derived.Test.YtdngehfebmaegaaShBoth
namespace Go.Proofs.Ytdngehfebmaegaa.Sht
open Go.RowKit Go.Deep Go.Proofs.Ytdngehfebmaegaa.Cel Go.Proofs.Ytdngehfebmaegaa.Dft Go.Proofs.Ytdngehfebmaegaa.Dft.F
open Tom (CanF TomeAt)

/-- A sheet over a tome, and the document's. -/
structure Du (w : World) (t b g : Nat) (T : List (Fl × Int)) (s d : Nat) (v : Value) (R : List (Int × Fl)) (m : Nat) : Prop where
  sh : SheetAt w t b g T s d v R
  md : MdAt w m T R

/-- The blocks that calls on both write. -/
def FD (d : Nat) (v : Value) (m k : Nat) : Prop := Foot d [v] k ∨ k = m

section
variable {w w' : World} {t b g s d m : Nat} {T : List (Fl × Int)} {v : Value} {R : List (Int × Fl)}

theorem Du.grown (h : Du w t b g T s d v R m) (hb : Below w.heap.size w w') : Du w' t b g T s d v R m := ⟨h.sh.grown hb, h.md.grown hb⟩

/-- A block of another type lies as it lay behind a sheet's call. -/
theorem SheetAt.other {F : Nat → Prop} {k : Nat} {cs : Array Value} {ty : TypeId} {n : Nat × Nat} (h : SheetAt w t b g T s d v R) (hw : Wrote (Foot d [v]) F w w') (hk : w.heap[k]? = some (.cells cs ty n)) (h1 : ty ≠ 79) (h2 : ty ≠ 77) :
    w'.heap[k]? = some (.cells cs ty n) :=
  (hw.block k (Array.getElem?_eq_some_iff.1 hk).1 (fun e => by
    rcases e with e | ⟨x, hx, e⟩
    · exact block_ne hk h.dr.at_ h1 e
    · simp at hx
      subst hx
      obtain ⟨cs', hc⟩ := own_at h.dr.owns e
      exact block_ne hk hc h2 rfl)).trans hk

theorem Du.first {v' : Value} (h : Du w t b g T s d v R m) (hw : Wrote (Foot d [v]) (Foot d [v']) w w') : MdAt w' m T R := h.sh.other hw h.md (by decide) (by decide)

theorem SheetAt.md {m : Nat} {Q : List (Int × Fl)} (h : SheetAt w t b g T s d v R) (hm : MdAt w m T Q) (hb : But [m] w w') : SheetAt w' t b g T s d v R := by
  have no : ∀ (k : Nat) (cs : Array Value) (ty : TypeId) (n : Nat × Nat), w.heap[k]? = some (.cells cs ty n) → ty ≠ 42 → w'.heap[k]? = w.heap[k]? := fun k cs ty n hk h1 =>
    hb.block k (Array.getElem?_eq_some_iff.1 hk).1 (fun e => by
      have e : k = m := by simpa using e
      exact block_ne hk hm h1 e)
  refine ⟨h.tome.keep (no _ _ _ _ h.tome.at_ (by decide)) (no _ _ _ _ h.tome.row.at_ (by decide)) (no _ _ _ _ h.tome.row.row (by decide)), (no _ _ _ _ h.at_ (by decide)).trans h.at_, h.dr.keep fun k hk => ?_, h.fit⟩
  rcases hk with e | ⟨x, hx, e⟩
  · subst e; exact no _ _ _ _ h.dr.at_ (by decide)
  · simp at hx
    subst hx
    obtain ⟨cs', hc⟩ := own_at h.dr.owns e
    exact no _ _ _ _ hc (by decide)

end

/-- A call's box. -/
def CBox (w : World) (C : Nat) (k a b : Int) (c : UInt8) : Prop := w.heap[C]? = some (.cells #[.int .i64 k, .int .i64 a, .int .i64 b, .int .u8 c.toNat] 34 (0, 0))

theorem CBox.cells {w : World} {C : Nat} {k a b : Int} {c : UInt8} (h : CBox w C k a b c) : w.cell? ⟨C, 1, none⟩ = some (.int .i64 a) ∧ w.cell? ⟨C, 2, none⟩ = some (.int .i64 b) ∧ w.cell? ⟨C, 3, none⟩ = some (.int .u8 c.toNat) := ⟨cell_at h rfl, cell_at h rfl, cell_at h rfl⟩

/-- What a call on both leaves. -/
def Does (w : World) (t b g : Nat) (T : List (Fl × Int)) (s d : Nat) (v : Value) (m : Nat) (R' : List (Int × Fl)) (e : Ending) (w' : World) : Prop :=
  e = .returned (.bool true) ∧ ∃ v', Du w' t b g T s d v' R' m ∧ Wrote (FD d v m) (FD d v' m) w w'

theorem both_wrote {w w1 w2 : World} {d m : Nat} {v v' : Value} (h : Wrote (Foot d [v]) (Foot d [v']) w w1) (hb : But [m] w1 w2) : Wrote (FD d v m) (FD d v' m) w w2 := by
  refine ⟨hb.os.trans h.os, hb.tape.trans h.tape, hb.output.trans h.output, Nat.le_trans h.size hb.size, fun k hk hf => ?_, fun k hk => ?_⟩
  · rw [hb.block k (Nat.lt_of_lt_of_le hk h.size) (fun e => hf (.inr (by simpa using e)))]
    exact h.block k hk (fun e => hf (.inl e))
  · rcases hk with e | e
    · exact (h.own k e).imp .inl id
    · exact .inl (.inr e)

section
variable {w w' : World} {t b g s d m : Nat} {T : List (Fl × Int)} {v : Value} {R : List (Int × Fl)}

set_option maxHeartbeats 3200000 in
set_option maxRecDepth 100000 in
theorem does0 (h : Du w t b g T s d v R m) (a b' : Int) (c : UInt8) :
    Calls Try.prog 10 #[.pointer (some ⟨t, 0, none⟩), .pointer (some ⟨s, 0, none⟩), .pointer (some ⟨m, 0, none⟩), .agg #[.int .i64 0, .int .i64 a, .int .i64 b', .int .u8 c.toNat]] w (Does w t b g T s d v m (chg T R a (putV (ovr T R a) b' c)) ) := by
  obtain ⟨w0, hw0⟩ : ∃ z, z = w.alloc (.cells #[.int .i64 0, .int .i64 a, .int .i64 b', .int .u8 c.toNat] 34) := ⟨_, rfl⟩
  have hb0 := (Below.refl w.heap.size w).alloc (Nat.le_refl _) (.cells #[.int .i64 0, .int .i64 a, .int .i64 b', .int .u8 c.toNat] 34)
  have hn0 := heap_new w (.cells #[.int .i64 0, .int .i64 a, .int .i64 b', .int .u8 c.toNat] 34)
  rw [← hw0] at hb0 hn0
  have hh := (h.grown hb0).grown (Below.refl _ w0).drew
  have hbx : CBox w0.drew w.heap.size 0 a b' c := hn0
  obtain ⟨C, hC⟩ : ∃ C, C = w.heap.size := ⟨_, rfl⟩
  rw [← hC] at hn0 hbx
  have d0 : w0.cell? ⟨C, 0, none⟩ = some (.int .i64 0) := cell_at hn0 rfl
  have HS : Hid (w0.drew.cell? ⟨C, 1, none⟩ = some (.int .i64 a) ∧ w0.drew.cell? ⟨C, 2, none⟩ = some (.int .i64 b') ∧ w0.drew.cell? ⟨C, 3, none⟩ = some (.int .u8 c.toNat)) := Hid.mk hbx.cells
  obtain ⟨R2, hR2⟩ : ∃ z, z = chg T R a (putV (ovr T R a) b' c) := ⟨_, rfl⟩
  obtain ⟨OK, hOK⟩ : ∃ z, z = decide (Is a) := ⟨_, rfl⟩
  have H1 := put_any hh.sh a b' c
  have H2 := fun (z : World) (hz : MdAt z m T R) => rWrite hz hh.sh.tome.six hh.sh.fit a b' c
  rw [← hR2, ← hOK] at H1
  rw [← hR2, ← hOK] at H2
  rw [← hR2]
  have HH1 := Hid.mk H1
  have HH2 := Hid.mk H2
  have HD := Hid.mk hh
  have HBX := Hid.mk hbx
  have HB0 := Hid.mk hb0.drew
  have heq : (OK == OK) = true := by cases OK <;> rfl
  clear h hb0 hn0 hh hbx hR2 hOK H1 H2
  go_enter Try.func10, Try.ntmps10
  go_wp2_with fail
  rw [← hw0, ← hC]
  clear hw0 hC
  go_wp2_with fail
  have hS0 := HS.out
  go_region_held3 (fun wx => wx.cell? ⟨C, 1, none⟩ = some (.int .i64 a) ∧ wx.cell? ⟨C, 2, none⟩ = some (.int .i64 b') ∧ wx.cell? ⟨C, 3, none⟩ = some (.int .u8 c.toNat))
    (first
      | exact hS0
      | exact hS2
      | exact hS1
      | fail)
    (first
      | (have := m1; go_at_call 31; refine (HH2.out _ hm1).mono ?_; rintro e w2 ⟨rfl, hm2, hb2⟩; have hx2 : CBox w2 C 0 a b' c := (hb2.block C (Array.getElem?_eq_some_iff.1 hx1).1 (fun e => block_ne hx1 hm1 (by decide) (by simpa using e))).trans hx1; have hS2 := hx2.cells)
      | (go_at_call 16; refine HH1.out.mono ?_; rintro e w1 ⟨rfl, v1, hs1, hw1⟩; have hm1 := HD.out.first hw1; have hx1 : CBox w1 C 0 a b' c := HD.out.sh.other hw1 HBX.out (by decide) (by decide); have hS1 := hx1.cells; have m1 := Hid.mk trivial))
  have HDU : Hid (Du w2 t b g T s d v1 R2 m) := Hid.mk ⟨hs1.md hm1 hb2, hm2⟩
  have HW : Hid (Wrote (FD d v m) (FD d v1 m) w w2) := Hid.mk ((Wrote.of_below HB0.out).trans (both_wrote hw1 hb2))
  clear hS0 hS1 hS2 hs1 hw1 hm1 hm2 hb2 hx1 hx2 d0
  go_wp2
  go_ret
  exact ⟨rfl, v1, HDU.out, HW.out⟩

set_option maxHeartbeats 3200000 in
set_option maxRecDepth 100000 in
theorem does1 (h : Du w t b g T s d v R m) (a b' : Int) (c : UInt8) :
    Calls Try.prog 10 #[.pointer (some ⟨t, 0, none⟩), .pointer (some ⟨s, 0, none⟩), .pointer (some ⟨m, 0, none⟩), .agg #[.int .i64 1, .int .i64 a, .int .i64 b', .int .u8 c.toNat]] w (Does w t b g T s d v m (chg T R a (cutV (ovr T R a) b')) ) := by
  obtain ⟨w0, hw0⟩ : ∃ z, z = w.alloc (.cells #[.int .i64 1, .int .i64 a, .int .i64 b', .int .u8 c.toNat] 34) := ⟨_, rfl⟩
  have hb0 := (Below.refl w.heap.size w).alloc (Nat.le_refl _) (.cells #[.int .i64 1, .int .i64 a, .int .i64 b', .int .u8 c.toNat] 34)
  have hn0 := heap_new w (.cells #[.int .i64 1, .int .i64 a, .int .i64 b', .int .u8 c.toNat] 34)
  rw [← hw0] at hb0 hn0
  have hh := (h.grown hb0).grown (Below.refl _ w0).drew
  have hbx : CBox w0.drew w.heap.size 1 a b' c := hn0
  obtain ⟨C, hC⟩ : ∃ C, C = w.heap.size := ⟨_, rfl⟩
  rw [← hC] at hn0 hbx
  have d0 : w0.cell? ⟨C, 0, none⟩ = some (.int .i64 1) := cell_at hn0 rfl
  have HS : Hid (w0.drew.cell? ⟨C, 1, none⟩ = some (.int .i64 a) ∧ w0.drew.cell? ⟨C, 2, none⟩ = some (.int .i64 b')) := Hid.mk (And.intro hbx.cells.1 hbx.cells.2.1)
  obtain ⟨R2, hR2⟩ : ∃ z, z = chg T R a (cutV (ovr T R a) b') := ⟨_, rfl⟩
  obtain ⟨OK, hOK⟩ : ∃ z, z = decide (Is a) := ⟨_, rfl⟩
  have H1 := cut_any hh.sh a b'
  have H2 := fun (z : World) (hz : MdAt z m T R) => rCut hz hh.sh.tome.six hh.sh.fit a b'
  rw [← hR2, ← hOK] at H1
  rw [← hR2, ← hOK] at H2
  rw [← hR2]
  have HH1 := Hid.mk H1
  have HH2 := Hid.mk H2
  have HD := Hid.mk hh
  have HBX := Hid.mk hbx
  have HB0 := Hid.mk hb0.drew
  have heq : (OK == OK) = true := by cases OK <;> rfl
  clear h hb0 hn0 hh hbx hR2 hOK H1 H2
  go_enter Try.func10, Try.ntmps10
  go_wp2_with fail
  rw [← hw0, ← hC]
  clear hw0 hC
  go_wp2_with fail
  have hS0 := HS.out
  go_region_held3 (fun wx => wx.cell? ⟨C, 1, none⟩ = some (.int .i64 a) ∧ wx.cell? ⟨C, 2, none⟩ = some (.int .i64 b'))
    (first
      | exact hS0
      | exact hS2
      | exact hS1
      | fail)
    (first
      | (have := m1; go_at_call 32; refine (HH2.out _ hm1).mono ?_; rintro e w2 ⟨rfl, hm2, hb2⟩; have hx2 : CBox w2 C 1 a b' c := (hb2.block C (Array.getElem?_eq_some_iff.1 hx1).1 (fun e => block_ne hx1 hm1 (by decide) (by simpa using e))).trans hx1; have hS2 := (And.intro hx2.cells.1 hx2.cells.2.1))
      | (go_at_call 17; refine HH1.out.mono ?_; rintro e w1 ⟨rfl, v1, hs1, hw1⟩; have hm1 := HD.out.first hw1; have hx1 : CBox w1 C 1 a b' c := HD.out.sh.other hw1 HBX.out (by decide) (by decide); have hS1 := (And.intro hx1.cells.1 hx1.cells.2.1); have m1 := Hid.mk trivial))
  have HDU : Hid (Du w2 t b g T s d v1 R2 m) := Hid.mk ⟨hs1.md hm1 hb2, hm2⟩
  have HW : Hid (Wrote (FD d v m) (FD d v1 m) w w2) := Hid.mk ((Wrote.of_below HB0.out).trans (both_wrote hw1 hb2))
  clear hS0 hS1 hS2 hs1 hw1 hm1 hm2 hb2 hx1 hx2 d0
  go_wp2
  go_ret
  exact ⟨rfl, v1, HDU.out, HW.out⟩

set_option maxHeartbeats 3200000 in
set_option maxRecDepth 100000 in
theorem does2 (h : Du w t b g T s d v R m) (a b' : Int) (c : UInt8) :
    Calls Try.prog 10 #[.pointer (some ⟨t, 0, none⟩), .pointer (some ⟨s, 0, none⟩), .pointer (some ⟨m, 0, none⟩), .agg #[.int .i64 2, .int .i64 a, .int .i64 b', .int .u8 c.toNat]] w (Does w t b g T s d v m (chg T R a (mkV (ovr T R a))) ) := by
  obtain ⟨w0, hw0⟩ : ∃ z, z = w.alloc (.cells #[.int .i64 2, .int .i64 a, .int .i64 b', .int .u8 c.toNat] 34) := ⟨_, rfl⟩
  have hb0 := (Below.refl w.heap.size w).alloc (Nat.le_refl _) (.cells #[.int .i64 2, .int .i64 a, .int .i64 b', .int .u8 c.toNat] 34)
  have hn0 := heap_new w (.cells #[.int .i64 2, .int .i64 a, .int .i64 b', .int .u8 c.toNat] 34)
  rw [← hw0] at hb0 hn0
  have hh := (h.grown hb0).grown (Below.refl _ w0).drew
  have hbx : CBox w0.drew w.heap.size 2 a b' c := hn0
  obtain ⟨C, hC⟩ : ∃ C, C = w.heap.size := ⟨_, rfl⟩
  rw [← hC] at hn0 hbx
  have d0 : w0.cell? ⟨C, 0, none⟩ = some (.int .i64 2) := cell_at hn0 rfl
  have HS : Hid (w0.drew.cell? ⟨C, 1, none⟩ = some (.int .i64 a)) := Hid.mk hbx.cells.1
  obtain ⟨R2, hR2⟩ : ∃ z, z = chg T R a (mkV (ovr T R a)) := ⟨_, rfl⟩
  obtain ⟨OK, hOK⟩ : ∃ z, z = decide (Is a) := ⟨_, rfl⟩
  have H1 := mk_any hh.sh a
  have H2 := fun (z : World) (hz : MdAt z m T R) => rCreate hz a
  rw [← hR2, ← hOK] at H1
  rw [← hR2, ← hOK] at H2
  rw [← hR2]
  have HH1 := Hid.mk H1
  have HH2 := Hid.mk H2
  have HD := Hid.mk hh
  have HBX := Hid.mk hbx
  have HB0 := Hid.mk hb0.drew
  have heq : (OK == OK) = true := by cases OK <;> rfl
  clear h hb0 hn0 hh hbx hR2 hOK H1 H2
  go_enter Try.func10, Try.ntmps10
  go_wp2_with fail
  rw [← hw0, ← hC]
  clear hw0 hC
  go_wp2_with fail
  have hS0 := HS.out
  go_region_held3 (fun wx => wx.cell? ⟨C, 1, none⟩ = some (.int .i64 a))
    (first
      | exact hS0
      | exact hS2
      | exact hS1
      | fail)
    (first
      | (have := m1; go_at_call 33; refine (HH2.out _ hm1).mono ?_; rintro e w2 ⟨rfl, hm2, hb2⟩; have hx2 : CBox w2 C 2 a b' c := (hb2.block C (Array.getElem?_eq_some_iff.1 hx1).1 (fun e => block_ne hx1 hm1 (by decide) (by simpa using e))).trans hx1; have hS2 := hx2.cells.1)
      | (go_at_call 18; refine HH1.out.mono ?_; rintro e w1 ⟨rfl, v1, hs1, hw1⟩; have hm1 := HD.out.first hw1; have hx1 : CBox w1 C 2 a b' c := HD.out.sh.other hw1 HBX.out (by decide) (by decide); have hS1 := hx1.cells.1; have m1 := Hid.mk trivial))
  have HDU : Hid (Du w2 t b g T s d v1 R2 m) := Hid.mk ⟨hs1.md hm1 hb2, hm2⟩
  have HW : Hid (Wrote (FD d v m) (FD d v1 m) w w2) := Hid.mk ((Wrote.of_below HB0.out).trans (both_wrote hw1 hb2))
  clear hS0 hS1 hS2 hs1 hw1 hm1 hm2 hb2 hx1 hx2 d0
  go_wp2
  go_ret
  exact ⟨rfl, v1, HDU.out, HW.out⟩

set_option maxHeartbeats 3200000 in
set_option maxRecDepth 100000 in
theorem does3 (h : Du w t b g T s d v R m) (a b' : Int) (c : UInt8) :
    Calls Try.prog 10 #[.pointer (some ⟨t, 0, none⟩), .pointer (some ⟨s, 0, none⟩), .pointer (some ⟨m, 0, none⟩), .agg #[.int .i64 3, .int .i64 a, .int .i64 b', .int .u8 c.toNat]] w (Does w t b g T s d v m (chg T R a (noFile)) ) := by
  obtain ⟨w0, hw0⟩ : ∃ z, z = w.alloc (.cells #[.int .i64 3, .int .i64 a, .int .i64 b', .int .u8 c.toNat] 34) := ⟨_, rfl⟩
  have hb0 := (Below.refl w.heap.size w).alloc (Nat.le_refl _) (.cells #[.int .i64 3, .int .i64 a, .int .i64 b', .int .u8 c.toNat] 34)
  have hn0 := heap_new w (.cells #[.int .i64 3, .int .i64 a, .int .i64 b', .int .u8 c.toNat] 34)
  rw [← hw0] at hb0 hn0
  have hh := (h.grown hb0).grown (Below.refl _ w0).drew
  have hbx : CBox w0.drew w.heap.size 3 a b' c := hn0
  obtain ⟨C, hC⟩ : ∃ C, C = w.heap.size := ⟨_, rfl⟩
  rw [← hC] at hn0 hbx
  have d0 : w0.cell? ⟨C, 0, none⟩ = some (.int .i64 3) := cell_at hn0 rfl
  have HS : Hid (w0.drew.cell? ⟨C, 1, none⟩ = some (.int .i64 a)) := Hid.mk hbx.cells.1
  obtain ⟨R2, hR2⟩ : ∃ z, z = chg T R a (noFile) := ⟨_, rfl⟩
  obtain ⟨OK, hOK⟩ : ∃ z, z = decide (Is a) := ⟨_, rfl⟩
  have H1 := remove_any hh.sh a
  have H2 := fun (z : World) (hz : MdAt z m T R) => rRemove hz a
  rw [← hR2, ← hOK] at H1
  rw [← hR2, ← hOK] at H2
  rw [← hR2]
  have HH1 := Hid.mk H1
  have HH2 := Hid.mk H2
  have HD := Hid.mk hh
  have HBX := Hid.mk hbx
  have HB0 := Hid.mk hb0.drew
  have heq : (OK == OK) = true := by cases OK <;> rfl
  clear h hb0 hn0 hh hbx hR2 hOK H1 H2
  go_enter Try.func10, Try.ntmps10
  go_wp2_with fail
  rw [← hw0, ← hC]
  clear hw0 hC
  go_wp2_with fail
  have hS0 := HS.out
  go_region_held3 (fun wx => wx.cell? ⟨C, 1, none⟩ = some (.int .i64 a))
    (first
      | exact hS0
      | exact hS2
      | exact hS1
      | fail)
    (first
      | (have := m1; go_at_call 34; refine (HH2.out _ hm1).mono ?_; rintro e w2 ⟨rfl, hm2, hb2⟩; have hx2 : CBox w2 C 3 a b' c := (hb2.block C (Array.getElem?_eq_some_iff.1 hx1).1 (fun e => block_ne hx1 hm1 (by decide) (by simpa using e))).trans hx1; have hS2 := hx2.cells.1)
      | (go_at_call 19; refine HH1.out.mono ?_; rintro e w1 ⟨rfl, v1, hs1, hw1⟩; have hm1 := HD.out.first hw1; have hx1 : CBox w1 C 3 a b' c := HD.out.sh.other hw1 HBX.out (by decide) (by decide); have hS1 := hx1.cells.1; have m1 := Hid.mk trivial))
  have HDU : Hid (Du w2 t b g T s d v1 R2 m) := Hid.mk ⟨hs1.md hm1 hb2, hm2⟩
  have HW : Hid (Wrote (FD d v m) (FD d v1 m) w w2) := Hid.mk ((Wrote.of_below HB0.out).trans (both_wrote hw1 hb2))
  clear hS0 hS1 hS2 hs1 hw1 hm1 hm2 hb2 hx1 hx2 d0
  go_wp2
  go_ret
  exact ⟨rfl, v1, HDU.out, HW.out⟩

set_option maxHeartbeats 3200000 in
set_option maxRecDepth 100000 in
theorem does4 (h : Du w t b g T s d v R m) (a b' : Int) (c : UInt8) :
    Calls Try.prog 10 #[.pointer (some ⟨t, 0, none⟩), .pointer (some ⟨s, 0, none⟩), .pointer (some ⟨m, 0, none⟩), .agg #[.int .i64 4, .int .i64 a, .int .i64 b', .int .u8 c.toNat]] w (Does w t b g T s d v m (ren T R a b') ) := by
  obtain ⟨w0, hw0⟩ : ∃ z, z = w.alloc (.cells #[.int .i64 4, .int .i64 a, .int .i64 b', .int .u8 c.toNat] 34) := ⟨_, rfl⟩
  have hb0 := (Below.refl w.heap.size w).alloc (Nat.le_refl _) (.cells #[.int .i64 4, .int .i64 a, .int .i64 b', .int .u8 c.toNat] 34)
  have hn0 := heap_new w (.cells #[.int .i64 4, .int .i64 a, .int .i64 b', .int .u8 c.toNat] 34)
  rw [← hw0] at hb0 hn0
  have hh := (h.grown hb0).grown (Below.refl _ w0).drew
  have hbx : CBox w0.drew w.heap.size 4 a b' c := hn0
  obtain ⟨C, hC⟩ : ∃ C, C = w.heap.size := ⟨_, rfl⟩
  rw [← hC] at hn0 hbx
  have d0 : w0.cell? ⟨C, 0, none⟩ = some (.int .i64 4) := cell_at hn0 rfl
  have HS : Hid (w0.drew.cell? ⟨C, 1, none⟩ = some (.int .i64 a) ∧ w0.drew.cell? ⟨C, 2, none⟩ = some (.int .i64 b')) := Hid.mk (And.intro hbx.cells.1 hbx.cells.2.1)
  obtain ⟨R2, hR2⟩ : ∃ z, z = ren T R a b' := ⟨_, rfl⟩
  obtain ⟨OK, hOK⟩ : ∃ z, z = decide (Is a ∧ Is b') := ⟨_, rfl⟩
  have H1 := rename_any hh.sh a b'
  have H2 := fun (z : World) (hz : MdAt z m T R) => rRename hz a b'
  rw [← hR2, ← hOK] at H1
  rw [← hR2, ← hOK] at H2
  rw [← hR2]
  have HH1 := Hid.mk H1
  have HH2 := Hid.mk H2
  have HD := Hid.mk hh
  have HBX := Hid.mk hbx
  have HB0 := Hid.mk hb0.drew
  have heq : (OK == OK) = true := by cases OK <;> rfl
  clear h hb0 hn0 hh hbx hR2 hOK H1 H2
  go_enter Try.func10, Try.ntmps10
  go_wp2_with fail
  rw [← hw0, ← hC]
  clear hw0 hC
  go_wp2_with fail
  have hS0 := HS.out
  go_region_held3 (fun wx => wx.cell? ⟨C, 1, none⟩ = some (.int .i64 a) ∧ wx.cell? ⟨C, 2, none⟩ = some (.int .i64 b'))
    (first
      | exact hS0
      | exact hS2
      | exact hS1
      | fail)
    (first
      | (have := m1; go_at_call 35; refine (HH2.out _ hm1).mono ?_; rintro e w2 ⟨rfl, hm2, hb2⟩; have hx2 : CBox w2 C 4 a b' c := (hb2.block C (Array.getElem?_eq_some_iff.1 hx1).1 (fun e => block_ne hx1 hm1 (by decide) (by simpa using e))).trans hx1; have hS2 := (And.intro hx2.cells.1 hx2.cells.2.1))
      | (go_at_call 20; refine HH1.out.mono ?_; rintro e w1 ⟨rfl, v1, hs1, hw1⟩; have hm1 := HD.out.first hw1; have hx1 : CBox w1 C 4 a b' c := HD.out.sh.other hw1 HBX.out (by decide) (by decide); have hS1 := (And.intro hx1.cells.1 hx1.cells.2.1); have m1 := Hid.mk trivial))
  have HDU : Hid (Du w2 t b g T s d v1 R2 m) := Hid.mk ⟨hs1.md hm1 hb2, hm2⟩
  have HW : Hid (Wrote (FD d v m) (FD d v1 m) w w2) := Hid.mk ((Wrote.of_below HB0.out).trans (both_wrote hw1 hb2))
  clear hS0 hS1 hS2 hs1 hw1 hm1 hm2 hb2 hx1 hx2 d0
  go_wp2
  go_ret
  exact ⟨rfl, v1, HDU.out, HW.out⟩

set_option maxHeartbeats 1600000 in
set_option maxRecDepth 100000 in
theorem does5 (h : Du w t b g T s d v R m) (k a b' : Int) (c : UInt8) (hk : k ≠ 0 ∧ k ≠ 1 ∧ k ≠ 2 ∧ k ≠ 3 ∧ k ≠ 4) :
    Calls Try.prog 10 #[.pointer (some ⟨t, 0, none⟩), .pointer (some ⟨s, 0, none⟩), .pointer (some ⟨m, 0, none⟩), .agg #[.int .i64 k, .int .i64 a, .int .i64 b', .int .u8 c.toNat]] w (Does w t b g T s d v m R) := by
  have hb0 := (Below.refl w.heap.size w).alloc (Nat.le_refl _) (.cells #[.int .i64 k, .int .i64 a, .int .i64 b', .int .u8 c.toNat] 34)
  have HH := Hid.mk (h.grown hb0)
  have HB := Hid.mk hb0
  have e0 : (k == 0) = false := by simpa using hk.1
  have e1 : (k == 1) = false := by simpa using hk.2.1
  have e2 : (k == 2) = false := by simpa using hk.2.2.1
  have e3 : (k == 3) = false := by simpa using hk.2.2.2.1
  have e4 : (k == 4) = false := by simpa using hk.2.2.2.2
  clear h hb0 hk
  go_enter Try.func10, Try.ntmps10
  go_wp2
  go_ret
  exact ⟨rfl, v, HH.out, Wrote.of_below HB.out⟩

set_option maxRecDepth 100000 in
theorem does_any (h : Du w t b g T s d v R m) (c : Cl) :
    Calls Try.prog 10 #[.pointer (some ⟨t, 0, none⟩), .pointer (some ⟨s, 0, none⟩), .pointer (some ⟨m, 0, none⟩), .agg #[.int .i64 c.kind, .int .i64 c.a, .int .i64 c.b, .int .u8 c.c.toNat]] w (Does w t b g T s d v m (stp T R c)) := by
  obtain ⟨k, a, b', x⟩ := c
  dsimp only
  unfold stp
  dsimp only
  by_cases h0 : k = 0
  · rw [if_pos h0, h0]; exact does0 h a b' x
  · rw [if_neg h0]
    by_cases h1 : k = 1
    · rw [if_pos h1, h1]; exact does1 h a b' x
    · rw [if_neg h1]
      by_cases h2 : k = 2
      · rw [if_pos h2, h2]; exact does2 h a b' x
      · rw [if_neg h2]
        by_cases h3 : k = 3
        · rw [if_pos h3, h3]; exact does3 h a b' x
        · rw [if_neg h3]
          by_cases h4 : k = 4
          · rw [if_pos h4, h4]; exact does4 h a b' x
          · rw [if_neg h4]; exact does5 h k a b' x ⟨h0, h1, h2, h3, h4⟩

end

end Go.Proofs.Ytdngehfebmaegaa.Sht
