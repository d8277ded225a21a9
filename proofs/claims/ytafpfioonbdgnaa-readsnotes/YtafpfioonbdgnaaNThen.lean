/-
  The walk of 'then': whether all that was read was so at the stamp.
-/
import Derived.Test.YtafpfioonbdgnaaNLists
namespace Go.Proofs.Ytafpfioonbdgnaa.Rds
open Go.RowKit Go.Shelf Go.Proofs.Ytafpfioonbdgnaa.Cel Go.Proofs.Ytafpfioonbdgnaa.Rng
attribute [local go_sem] Oper.semAt_some

/-- What its own cells hold between two rounds. -/
structure Lt (B b m : Nat) (W : World) : Prop where
  w : W.heap[B]? = some (.cells #[.pointer (some ⟨b, 0, none⟩)] 26 (0, 0))
  s : W.heap[B + 1]? = some (.cells #[.pointer (some ⟨m, 0, none⟩)] 29 (0, 0))
  res : W.heap[B + 1 + 1]? = some (.cells #[.bool false] 4 (0, 0))

theorem Lt.kept {B b m : Nat} {A W : World} {row : Option Nat} (h : Lt B b m A) (hg : A.grownBy W row) (hr : ∀ r, row = some r → ∃ o : Obj, A.heap[r]? = some o ∧ o.isCells = false) : Lt B b m W :=
  ⟨block_kept h.w hg hr, block_kept h.s hg hr, block_kept h.res hg hr⟩
theorem Lt.grown {B b m : Nat} {A W : World} (h : Lt B b m A) (hb : Below A.heap.size A W) : Lt B b m W := h.kept (grown_of_below hb) (fun _ e => by cases e)

/-- Whether all that was read was so at a time. -/
def thenB (l : List Th) (st : Int) (E : List En) : Bool := validB (fun k i => (atN l (k, i) st : Int)) E

/-- Each one that was handed was so. -/
def okThen (l : List Th) (st : Int) (E : List En) (pre : List (Ix E.length)) : Prop := ∀ x ∈ pre, (atN l (E[x.1]!.1, E[x.1]!.2.1) st : Int) = E[x.1]!.2.2
/-- The last one that was handed wasn't. -/
def offThen (l : List Th) (st : Int) (E : List En) (pre : List (Ix E.length)) : Prop := ∃ x pr, pre = pr ++ [x] ∧ (atN l (E[x.1]!.1, E[x.1]!.2.1) st : Int) ≠ E[x.1]!.2.2

set_option maxRecDepth 100000 in
set_option maxHeartbeats 4000000 in
theorem then_any {b m : Nat} {v u : Value} {l : List Th} {st : Int} {E : List En} (w : World) (hwo : WoAt w m u l) (hl : l.length ≤ 1000000) (h : SetAt w b v st E) (hE : E.length ≤ 1000000) :
    Calls Try.prog 22 #[.pointer (some ⟨m, 0, none⟩), .pointer (some ⟨b, 0, none⟩)] w fun e w' => e = .returned (.bool (thenB l st E)) ∧ Below w.heap.size w w' := by
  refine (callsIn_wide (n := 5)).1 ?_
  refine callsIn_of_wp_marks Try.func22 rfl trivial ?_ rfl
  simp only [Try.ntmps22, List.size_toArray, List.length_cons, List.length_nil, Nat.reduceAdd, Nat.reduceSub, Array.replicate_succ, Array.replicate_zero, List.push_toArray, List.append_toArray, List.nil_append, List.cons_append]
  gi_wp2_with fail
  refine ⟨trivial, (all_in _ _ _).mono ?_⟩
  rintro e w1 ⟨rfl, hw1⟩
  obtain ⟨w0, hw0⟩ : ∃ w0, w0 = ((w.alloc (.cells #[.pointer (some ⟨m, 0, none⟩)] 26)).alloc (.cells #[.pointer (some ⟨b, 0, none⟩)] 29)).alloc (.cells #[.bool false] 4) := ⟨_, rfl⟩
  have hz0 : w0.heap.size = w.heap.size + 3 := by rw [hw0]; simp
  have hb0 : Below w.heap.size w w0 := by rw [hw0]; exact (((Below.refl _ w).alloc (Nat.le_refl _) _).alloc (by simp) _).alloc (by simp; omega) _
  have L0 : Lt w.heap.size m b w0 := by
    rw [hw0]
    refine ⟨?_, ?_, ?_⟩
    · rw [Below.heap_alloc _ _ _ (by simp; omega), Below.heap_alloc _ _ _ (by simp), heap_new]
    · rw [Below.heap_alloc _ _ _ (by simp)]
      have h := heap_new (w.alloc (.cells #[.pointer (some ⟨m, 0, none⟩)] 26)) (.cells #[.pointer (some ⟨b, 0, none⟩)] 29)
      rw [World.size_alloc] at h
      exact h
    · have h := heap_new ((w.alloc (.cells #[.pointer (some ⟨m, 0, none⟩)] 26)).alloc (.cells #[.pointer (some ⟨b, 0, none⟩)] 29)) (.cells #[.bool false] 4)
      rw [World.size_alloc, World.size_alloc] at h
      exact h
  have hb01 : Below w0.heap.size w0 w1 := by rw [hw1, hw0]; exact (Below.refl _ _).alloc (Nat.le_refl _) _
  have hS1 : SetAt w1 b v st E := (h.grown hb0).grown hb01
  have HWO := Hid.mk hwo
  have HSW := Hid.mk h
  have HLL := Hid.mk hl
  have L1 := L0.grown hb01
  have hb1 : Below w.heap.size w w1 := hb0.trans (hb01.mono (by omega))
  have hc1 : w1.cell? ⟨w.heap.size + 3, 0, none⟩ = some (.pointer (some ⟨b, 0, none⟩)) := by rw [hw1, ← hw0, ← hz0]; exact cell_at (heap_new _ _) rfl
  have hz1 : w1.heap.size = w.heap.size + 4 := by rw [hw1, ← hw0]; simp; omega
  rw [← hw0, hz0]
  have HL1 := Hid.mk L1
  have HS1 := Hid.mk hS1
  have HB1 := Hid.mk hb1
  have HZ1 := Hid.mk hz1
  have HC1 := Hid.mk hc1
  clear hw1 hw0 hb0 L0 hb01 L1 hS1 hb1 hc1 hz1 h hwo hl hz0 w0
  gi_wp2
  refine range_over2 (gf := 24) (lb := #[.pointer (some ⟨w.heap.size + 3, 0, none⟩)]) rfl (enters_of Try.func24 (by kernel_rfl) rfl)
    (all_gives 4 (by omega) _ b v st E w1 HC1.out HS1.out hE) (Below.refl _ _) (fun _ _ _ h k => h.trans k) (fun W l r r' hl hr => Kp.put W l _ (fun k hk => by have := HS1.out.own_lt k hk; omega)) (fun _ => rfl)
    (fun (pre : List (Ix E.length)) W => okThen l st E pre ∧ Lt w.heap.size m b W ∧ Below w.heap.size w W)
    (fun (pre : List (Ix E.length)) W => offThen l st E pre ∧ Lt w.heap.size m b W ∧ Below w.heap.size w W)
    (OwnFrom.and (fun _ _ _ _ h _ _ => h) (OwnFrom.and (Own.from (fun s X Y row hs hg hr => hs.kept hg hr) _) (ownFrom_below (Nat.le_refl _) (by have := HZ1.out; omega))))
    (OwnFrom.and (fun _ _ _ _ h _ _ => h) (OwnFrom.and (Own.from (fun s X Y row hs hg hr => hs.kept hg hr) _) (ownFrom_below (Nat.le_refl _) (by have := HZ1.out; omega))))
    ⟨(fun x hx => by cases hx), HL1.out, HB1.out⟩ ?round ?done ?stop
  case round =>
    rintro lp pre x W r hl hr ⟨hp, hL, hBW⟩ hgood
    have hlW : lp < W.heap.size := (Array.getElem?_eq_some_iff.1 hr).1
    unfold encE
    obtain ⟨y0, hy0⟩ : ∃ y, y = E[x.1]!.1 := ⟨_, rfl⟩
    obtain ⟨y1, hy1⟩ : ∃ y, y = E[x.1]!.2.1 := ⟨_, rfl⟩
    obtain ⟨y2, hy2⟩ : ∃ y, y = E[x.1]!.2.2 := ⟨_, rfl⟩
    rw [← hy0, ← hy1, ← hy2]
    have HY : Hid (y0 = E[x.1]!.1 ∧ y1 = E[x.1]!.2.1 ∧ y2 = E[x.1]!.2.2) := Hid.mk ⟨hy0, hy1, hy2⟩
    have HP := Hid.mk hp
    have HL := Hid.mk hL
    have HBW := Hid.mk hBW
    have hr1 : (W.alloc (.cells #[.int .i64 y0, .int .i64 y1, .int .i64 y2] 54)).heap[lp]? = some (.loop r) := (Below.heap_alloc _ _ _ hlW).trans hr
    have HR := Hid.mk hr1
    clear hy0 hy1 hy2 hgood hp hL hBW hr hr1
    gi_wp2
    refine ⟨others_below ((Below.refl _ _).alloc (Nat.le_refl _) _) _, Kp.of_below (B := W.heap.size) (fun k hk => by have := HS1.out.own_lt k hk; omega) ((Below.refl _ _).alloc (Nat.le_refl _) _), fun r' => ?_⟩
    obtain ⟨M, hM⟩ : ∃ M, M = W.heap.size := ⟨_, rfl⟩
    obtain ⟨Z, hZ⟩ : ∃ Z, Z = (W.alloc (.cells #[.int .i64 y0, .int .i64 y1, .int .i64 y2] 54)).putObj lp (.loop r') := ⟨_, rfl⟩
    have hzZ : Z.heap.size = W.heap.size + 1 := by rw [hZ]; simp
    have hg1 : (W.alloc (.cells #[.int .i64 y0, .int .i64 y1, .int .i64 y2] 54)).grownBy Z (some lp) := by rw [hZ]; exact grownBy_putObj' _ _ _
    have hrow : ∀ q, some lp = some q → ∃ o : Obj, (W.alloc (.cells #[.int .i64 y0, .int .i64 y1, .int .i64 y2] 54)).heap[q]? = some o ∧ o.isCells = false := fun q e => by cases e; exact ⟨_, HR.out, rfl⟩
    have hLZ : Lt w.heap.size m b Z := (HL.out.grown ((Below.refl _ _).alloc (Nat.le_refl _) _)).kept hg1 hrow
    have heZ : Z.heap[M]? = some (.cells #[.int .i64 y0, .int .i64 y1, .int .i64 y2] 54 (0, 0)) := block_kept (by rw [hM]; exact heap_new _ _) hg1 hrow
    have hbZ : Below w.heap.size w Z := by
      have h1 := HBW.out.alloc HBW.out.size (.cells #[.int .i64 y0, .int .i64 y1, .int .i64 y2] 54)
      exact h1.grown hg1 (by have := HBW.out.size; simp; omega) (fun q e => by cases e; have := HZ1.out; omega)
    rw [← hZ, ← hM]
    have hne := Wider.some Z.heap.size Z
    have hat := fun (g : Wider Z.heap.size Z) => at_any ((HWO.out.grown hbZ).grown g.h) HLL.out (y0, y1) st
    have hst := fun (g : Wider Z.heap.size Z) => stamp_any ((HSW.out.grown hbZ).grown g.h)
    obtain ⟨V, hV⟩ : ∃ V : Int, V = (atN l (y0, y1) st : Nat) := ⟨_, rfl⟩
    have HV := Hid.mk hV
    rw [← hV] at hat
    have HAT := Hid.mk hat
    have HST := Hid.mk hst
    have HLZ := Hid.mk hLZ
    have HEZ := Hid.mk heZ
    have HBZ := Hid.mk hbZ
    have kw : ∀ g : Wider Z.heap.size Z, g.z.cell? ⟨w.heap.size, 0, none⟩ = some (.pointer (some ⟨m, 0, none⟩)) := fun g => cell_at (HLZ.out.grown g.h).w rfl
    have ks : ∀ g : Wider Z.heap.size Z, g.z.cell? ⟨w.heap.size + 1, 0, none⟩ = some (.pointer (some ⟨b, 0, none⟩)) := fun g => cell_at (HLZ.out.grown g.h).s rfl
    clear hat hst hV
    have k0 : ∀ g : Wider Z.heap.size Z, g.z.cell? ⟨M, 0, none⟩ = some (.int .i64 y0) := fun g => cell_at ((g.h.block M (Array.getElem?_eq_some_iff.1 HEZ.out).1).trans HEZ.out) rfl
    have k1 : ∀ g : Wider Z.heap.size Z, g.z.cell? ⟨M, 1, none⟩ = some (.int .i64 y1) := fun g => cell_at ((g.h.block M (Array.getElem?_eq_some_iff.1 HEZ.out).1).trans HEZ.out) rfl
    have k2 : ∀ g : Wider Z.heap.size Z, g.z.cell? ⟨M, 2, none⟩ = some (.int .i64 y2) := fun g => cell_at ((g.h.block M (Array.getElem?_eq_some_iff.1 HEZ.out).1).trans HEZ.out) rfl
    have HLV : Hid (lp < Z.heap.size) := Hid.mk (by omega)
    clear hZ hM hzZ hg1 hrow hLZ heZ hbZ
    gi_wp2_with fail
    refine wpIn_wider_round (B := Z.heap.size) (w0 := Z) _ (by kernel_rfl) (by kernel_rfl) (by kernel_rfl) (Below.refl _ Z) ?_
    repeat (go_big_quiet_step ((first
      | (go_at_call 21; refine (HAT.out _).mono ?_; rintro e w6 ⟨rfl, hb6⟩; exact ⟨rfl, ⟨w6, by rename_i g; exact farther (Nat.le_refl _) g.h hb6⟩, rfl⟩)
      | (go_at_call 15; refine (HST.out _).mono ?_; rintro e w6 ⟨rfl, hb6⟩; rw [hb6]; exact ⟨rfl, ⟨_, rfl⟩⟩))))
    refine wpQuiet_nil ?_
    rintro z ⟨g, hg⟩
    have hz : Below Z.heap.size Z z := by rw [hg]; exact g.h
    clear hg g
    have hLz := HLZ.out.grown hz
    have hbz : Below w.heap.size w z := HBZ.out.trans (hz.mono HBZ.out.size)
    have hkf := Hid.mk (others_below hz w1.heap.size)
    have hkp : Hid (Kp v Z z) := Hid.mk (Kp.of_below (B := Z.heap.size) (fun k hk => by have := HS1.out.own_lt k hk; have := hl; have := HLV.out; omega) hz)
    have cr : z.cell? ⟨w.heap.size + 1 + 1, 0, none⟩ = some (.bool false) := cell_at hLz.res rfl
    have fr : z.frozen? ⟨w.heap.size + 1 + 1, 0, none⟩ = false := free_at hLz.res
    have HLz := Hid.mk hLz
    have HBz := Hid.mk hbz
    clear hz hLz hbz k0 k1 k2 kw ks hne HL HBW HR
    by_cases hq : V = y2
    · have e1 : (V != y2) = false := by simp [hq]
      have HQ := Hid.mk hq
      clear hq
      gi_wp2
      refine ⟨hkf.out, hkp.out, ?_, HLz.out, HBz.out⟩
      intro q hq
      rcases List.mem_append.1 hq with hq | hq
      · exact HP.out q hq
      · simp at hq
        subst hq
        obtain ⟨q0, q1, q2⟩ := HY.out
        rw [← q0, ← q1, ← q2, ← HV.out]
        exact HQ.out
    · have e1 : (V != y2) = true := by simp [hq]
      have HQ := Hid.mk hq
      clear hq
      gi_wp2
      refine ⟨hkf.out.trans (others_set _ _ _ _), rfl, ⟨x, pre, rfl, ?_⟩, ⟨?_, ?_, ?_⟩, HBz.out.setCell (p := ⟨w.heap.size + 1 + 1, 0, none⟩) (by show w.heap.size ≤ w.heap.size + 1 + 1; omega) _⟩
      · obtain ⟨q0, q1, q2⟩ := HY.out
        rw [← q0, ← q1, ← q2, ← HV.out]
        exact HQ.out
      · rw [Below.heap_setCell _ _ _ _ (by show w.heap.size ≠ w.heap.size + 1 + 1; omega)]
        exact HLz.out.w
      · rw [Below.heap_setCell _ _ _ _ (by show w.heap.size + 1 ≠ w.heap.size + 1 + 1; omega)]
        exact HLz.out.s
      · rw [heap_set _ HLz.out.res]
        simp
  case done =>
    rintro D ys W hD hys ⟨hok, hL, hBW⟩ hK
    have hv : thenB l st E = true := validB_yes (all_of_range hys (p := fun j => (atN l (E[j]!.1, E[j]!.2.1) st : Int) = E[j]!.2.2) hok)
    have HV := Hid.mk hv
    have cr : W.cell? ⟨w.heap.size + 1 + 1, 0, none⟩ = some (.bool false) := cell_at hL.res rfl
    have fr : W.frozen? ⟨w.heap.size + 1 + 1, 0, none⟩ = false := free_at hL.res
    have HL := Hid.mk hL
    have HBW := Hid.mk hBW
    have HK := Hid.mk hK
    clear hv hok hys hL hBW hK
    gi_wp2
    have hK' := (KeepsOthers.setCell W ⟨w.heap.size + 1 + 1, 0, none⟩ (.bool true)).same D _ HK.out rfl
    refine ⟨by simp, .inl ⟨_, _, rfl, run_takeDeferred hK', ?_⟩⟩
    have hc5 := cell_kept (World.cell?_setCell_same' W ⟨w.heap.size + 1 + 1, 0, none⟩ (.bool true) (by rw [cr]; rfl)) (grownBy_putObj' _ D (.deferred none)) (fun r e => by cases e; exact ⟨_, hK', rfl⟩)
    refine ⟨.bool true, ?_, by rw [HV.out], (HBW.out.setCell (p := ⟨w.heap.size + 1 + 1, 0, none⟩) (by show w.heap.size ≤ w.heap.size + 1 + 1; omega) _).trans (belowK_b (w := w) (Nat.le_refl _) _ D _ _ (by have := HZ1.out; omega) hK' rfl rfl)⟩
    simp [results, Try.f22, go_sem, hc5]
  case stop =>
    rintro D pre W hD ⟨k, hk, hpre⟩ ⟨⟨x, pr, rfl, hoff⟩, hL, hBW⟩ hK
    have hv : thenB l st E = false := validB_no (vf := fun k i => (atN l (k, i) st : Int)) x.1 x.2 hoff
    have HV := Hid.mk hv
    have cr : W.cell? ⟨w.heap.size + 1 + 1, 0, none⟩ = some (.bool false) := cell_at hL.res rfl
    have fr : W.frozen? ⟨w.heap.size + 1 + 1, 0, none⟩ = false := free_at hL.res
    have HL := Hid.mk hL
    have HBW := Hid.mk hBW
    have HK := Hid.mk hK
    clear hv hoff hpre hL hBW hK
    gi_wp2
    refine ⟨by simp, .inl ⟨_, _, rfl, run_takeDeferred HK.out, ?_⟩⟩
    have hc5 := cell_kept cr (grownBy_putObj' W D (.deferred none)) (fun r e => by cases e; exact ⟨_, HK.out, rfl⟩)
    refine ⟨.bool false, ?_, by rw [HV.out], HBW.out.trans (belowK_b (w := w) (Nat.le_refl _) _ D _ _ (by have := HZ1.out; omega) HK.out rfl rfl)⟩
    simp [results, Try.f22, go_sem, hc5]

end Go.Proofs.Ytafpfioonbdgnaa.Rds
