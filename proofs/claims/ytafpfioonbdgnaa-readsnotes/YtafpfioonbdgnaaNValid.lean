/-
  The walks of Valid, find, Has, Stamp and Len; of a nil set.
-/
import Derived.Test.YtafpfioonbdgnaaNAll
namespace Go.Proofs.Ytafpfioonbdgnaa.Rds
open Go.RowKit Go.Shelf Go.Proofs.Ytafpfioonbdgnaa.Cel Go.Proofs.Ytafpfioonbdgnaa.Rng
attribute [local go_sem] Oper.semAt_some

theorem grown_of_below {w w' : World} (h : Below w.heap.size w w') : w.grownBy w' none := ⟨h.os, h.tape, h.output, h.size, fun k hk _ => h.block k hk⟩

theorem block_kept {A W : World} {row : Option Nat} {B : Nat} {cs : Array Value} {t : TypeId} {m : Nat × Nat} (h : A.heap[B]? = some (.cells cs t m)) (hg : A.grownBy W row) (hr : ∀ r, row = some r → ∃ o : Obj, A.heap[r]? = some o ∧ o.isCells = false) : W.heap[B]? = some (.cells cs t m) := by
  rw [hg.block B (Array.getElem?_eq_some_iff.1 h).1 (fun e => ?_)]
  · exact h
  · obtain ⟨o, ho, hw⟩ := hr B e.symm
    rw [h] at ho; cases ho; cases hw

theorem others_below {w w' : World} (h : Below w.heap.size w w') (B : Nat) : KeepsFrom B w w' := ⟨h.size, fun k _ _ hk _ => (h.block k (Array.getElem?_eq_some_iff.1 hk).1).trans hk⟩
theorem others_set (B : Nat) (w : World) (a : Addr) (x : Value) : KeepsFrom B w (w.setCell a x) := (KeepsOthers.setCell w a x).from B

theorem map_val_snoc {N : Nat} {pre : List (Ix N)} {x : Ix N} {k : Nat} (h : (pre ++ [x]).map (·.1) = List.range k) : k = pre.length + 1 ∧ x.1 = pre.length ∧ pre.map (·.1) = List.range pre.length := by
  have hl := congrArg List.length h
  simp at hl
  subst hl
  rw [List.map_append, List.range_succ] at h
  have := List.append_inj' h (by simp)
  refine ⟨rfl, ?_, this.1⟩
  have e := this.2
  simpa using e

/-- All of them, where each one of those that were handed is. -/
theorem all_of_range {N M : Nat} {ys : List (Ix N)} (h : ys.map (·.1) = List.range M) {p : Nat → Prop} (hp : ∀ x ∈ ys, p x.1) : ∀ j, j < M → p j := fun j hj => by
  have : j ∈ ys.map (·.1) := by rw [h]; simpa using hj
  obtain ⟨x, hx, rfl⟩ := List.mem_map.1 this
  exact hp x hx

theorem validB_yes {vf : Int → Int → Int} {E : List En} (h : ∀ j, j < E.length → vf E[j]!.1 E[j]!.2.1 = E[j]!.2.2) : validB vf E = true := by
  unfold validB
  rw [List.all_eq_true]
  intro e he
  obtain ⟨j, hj, rfl⟩ := List.mem_iff_getElem.1 he
  have := h j hj
  rw [getElem!_pos E j hj] at this
  simpa using this

theorem validB_no {vf : Int → Int → Int} {E : List En} (j : Nat) (hj : j < E.length) (h : vf E[j]!.1 E[j]!.2.1 ≠ E[j]!.2.2) : validB vf E = false := by
  cases hv : validB vf E with
  | false => rfl
  | true =>
    unfold validB at hv
    rw [List.all_eq_true] at hv
    have := hv E[j] (List.getElem_mem hj)
    rw [getElem!_pos E j hj] at h
    exact absurd (by simpa using this) h

/-- What Valid's own cells hold between two rounds. -/
structure Lv (B : Nat) (f : Nat → Int) (c : Int) (W : World) : Prop where
  now : W.heap[B]? = some (.cells (nowA f c) 43 (0, 0))
  res : W.heap[B + 1]? = some (.cells #[.bool false] 4 (0, 0))

theorem Lv.kept {B : Nat} {f : Nat → Int} {c : Int} {A W : World} {row : Option Nat} (h : Lv B f c A) (hg : A.grownBy W row) (hr : ∀ r, row = some r → ∃ o : Obj, A.heap[r]? = some o ∧ o.isCells = false) : Lv B f c W :=
  ⟨block_kept h.now hg hr, block_kept h.res hg hr⟩
theorem Lv.grown {B : Nat} {f : Nat → Int} {c : Int} {A W : World} (h : Lv B f c A) (hb : Below A.heap.size A W) : Lv B f c W := h.kept (grown_of_below hb) (fun _ e => by cases e)

/-- Each one that was handed has its version. -/
def okAt (f : Nat → Int) (E : List En) (pre : List (Ix E.length)) : Prop := ∀ x ∈ pre, ofF f E[x.1]!.1 E[x.1]!.2.1 = E[x.1]!.2.2
/-- The last one that was handed hasn't. -/
def offAt (f : Nat → Int) (E : List En) (pre : List (Ix E.length)) : Prop := ∃ x pr, pre = pr ++ [x] ∧ ofF f E[x.1]!.1 E[x.1]!.2.1 ≠ E[x.1]!.2.2

set_option maxRecDepth 100000 in
set_option maxHeartbeats 4000000 in
theorem valid_any {b : Nat} {v : Value} {st : Int} {E : List En} (f : Nat → Int) (c : Int) (w : World) (h : SetAt w b v st E) (hE : E.length ≤ 1000000) :
    Calls Try.prog 13 #[.pointer (some ⟨b, 0, none⟩), .agg (nowA f c)] w fun e w' => e = .returned (.bool (validB (ofF f) E)) ∧ Below w.heap.size w w' := by
  refine (callsIn_wide (n := 5)).1 ?_
  refine callsIn_of_wp_marks Try.func13 rfl trivial ?_ rfl
  simp only [Try.ntmps13, List.size_toArray, List.length_cons, List.length_nil, Nat.reduceAdd, Nat.reduceSub, Array.replicate_succ, Array.replicate_zero, List.push_toArray, List.append_toArray, List.nil_append, List.cons_append]
  gi_wp2_with fail
  refine ⟨trivial, (all_in _ _ _).mono ?_⟩
  rintro e w1 ⟨rfl, hw1⟩
  obtain ⟨w0, hw0⟩ : ∃ w0, w0 = (w.alloc (.cells (nowA f c) 43)).alloc (.cells #[.bool false] 4) := ⟨_, rfl⟩
  have hz0 : w0.heap.size = w.heap.size + 2 := by rw [hw0]; simp
  have hb0 : Below w.heap.size w w0 := by rw [hw0]; exact ((Below.refl _ w).alloc (Nat.le_refl _) _).alloc (by simp) _
  have L0 : Lv w.heap.size f c w0 := by
    rw [hw0]
    refine ⟨?_, ?_⟩
    · rw [Below.heap_alloc _ _ _ (by simp), heap_new]
    · have h := heap_new (w.alloc (.cells (nowA f c) 43)) (.cells #[.bool false] 4)
      rw [World.size_alloc] at h
      exact h
  have hb01 : Below w0.heap.size w0 w1 := by rw [hw1, hw0]; exact (Below.refl _ _).alloc (Nat.le_refl _) _
  have hS1 : SetAt w1 b v st E := (h.grown hb0).grown hb01
  have L1 := L0.grown hb01
  have hb1 : Below w.heap.size w w1 := hb0.trans (hb01.mono (by omega))
  have hc1 : w1.cell? ⟨w.heap.size + 2, 0, none⟩ = some (.pointer (some ⟨b, 0, none⟩)) := by rw [hw1, ← hw0, ← hz0]; exact cell_at (heap_new _ _) rfl
  have hz1 : w1.heap.size = w.heap.size + 3 := by rw [hw1, ← hw0]; simp; omega
  rw [← hw0, hz0]
  have HL1 := Hid.mk L1
  have HS1 := Hid.mk hS1
  have HB1 := Hid.mk hb1
  have HZ1 := Hid.mk hz1
  have HC1 := Hid.mk hc1
  clear hw1 hw0 hb0 L0 hb01 L1 hS1 hb1 hc1 hz1 h hz0 w0
  gi_wp2
  refine range_over2 (gf := 24) (lb := #[.pointer (some ⟨w.heap.size + 2, 0, none⟩)]) rfl (enters_of Try.func24 (by kernel_rfl) rfl)
    (all_gives 4 (by omega) _ b v st E w1 HC1.out HS1.out hE) (Below.refl _ _) (fun _ _ _ h k => h.trans k) (fun W l r r' hl hr => Kp.put W l _ (fun k hk => by have := HS1.out.own_lt k hk; omega)) (fun _ => rfl)
    (fun (pre : List (Ix E.length)) W => okAt f E pre ∧ Lv w.heap.size f c W ∧ Below w.heap.size w W)
    (fun (pre : List (Ix E.length)) W => offAt f E pre ∧ Lv w.heap.size f c W ∧ Below w.heap.size w W)
    (OwnFrom.and (fun _ _ _ _ h _ _ => h) (OwnFrom.and (Own.from (fun s X Y row hs hg hr => hs.kept hg hr) _) (ownFrom_below (Nat.le_refl _) (by have := HZ1.out; omega))))
    (OwnFrom.and (fun _ _ _ _ h _ _ => h) (OwnFrom.and (Own.from (fun s X Y row hs hg hr => hs.kept hg hr) _) (ownFrom_below (Nat.le_refl _) (by have := HZ1.out; omega))))
    ⟨(fun x hx => by cases hx), HL1.out, HB1.out⟩ ?round ?done ?stop
  case round =>
    rintro l pre x W r hl hr ⟨hp, hL, hBW⟩ hgood
    have hlW : l < W.heap.size := (Array.getElem?_eq_some_iff.1 hr).1
    unfold encE
    obtain ⟨y0, hy0⟩ : ∃ y, y = E[x.1]!.1 := ⟨_, rfl⟩
    obtain ⟨y1, hy1⟩ : ∃ y, y = E[x.1]!.2.1 := ⟨_, rfl⟩
    obtain ⟨y2, hy2⟩ : ∃ y, y = E[x.1]!.2.2 := ⟨_, rfl⟩
    rw [← hy0, ← hy1, ← hy2]
    have HY : Hid (y0 = E[x.1]!.1 ∧ y1 = E[x.1]!.2.1 ∧ y2 = E[x.1]!.2.2) := Hid.mk ⟨hy0, hy1, hy2⟩
    have HP := Hid.mk hp
    have HL := Hid.mk hL
    have HBW := Hid.mk hBW
    have hr1 : (W.alloc (.cells #[.int .i64 y0, .int .i64 y1, .int .i64 y2] 54)).heap[l]? = some (.loop r) := (Below.heap_alloc _ _ _ hlW).trans hr
    have HR := Hid.mk hr1
    clear hy0 hy1 hy2 hgood hp hL hBW hr hr1
    gi_wp2
    refine ⟨others_below ((Below.refl _ _).alloc (Nat.le_refl _) _) _, Kp.of_below (B := W.heap.size) (fun k hk => by have := HS1.out.own_lt k hk; omega) ((Below.refl _ _).alloc (Nat.le_refl _) _), fun r' => ?_⟩
    obtain ⟨M, hM⟩ : ∃ M, M = W.heap.size := ⟨_, rfl⟩
    obtain ⟨Z, hZ⟩ : ∃ Z, Z = (W.alloc (.cells #[.int .i64 y0, .int .i64 y1, .int .i64 y2] 54)).putObj l (.loop r') := ⟨_, rfl⟩
    have hzZ : Z.heap.size = W.heap.size + 1 := by rw [hZ]; simp
    have hg1 : (W.alloc (.cells #[.int .i64 y0, .int .i64 y1, .int .i64 y2] 54)).grownBy Z (some l) := by rw [hZ]; exact grownBy_putObj' _ _ _
    have hrow : ∀ q, some l = some q → ∃ o : Obj, (W.alloc (.cells #[.int .i64 y0, .int .i64 y1, .int .i64 y2] 54)).heap[q]? = some o ∧ o.isCells = false := fun q e => by cases e; exact ⟨_, HR.out, rfl⟩
    have hLZ : Lv w.heap.size f c Z := (HL.out.grown ((Below.refl _ _).alloc (Nat.le_refl _) _)).kept hg1 hrow
    have heZ : Z.heap[M]? = some (.cells #[.int .i64 y0, .int .i64 y1, .int .i64 y2] 54 (0, 0)) := block_kept (by rw [hM]; exact heap_new _ _) hg1 hrow
    have hbZ : Below w.heap.size w Z := by
      have h1 := HBW.out.alloc HBW.out.size (.cells #[.int .i64 y0, .int .i64 y1, .int .i64 y2] 54)
      exact h1.grown hg1 (by have := HBW.out.size; simp; omega) (fun q e => by cases e; have := HZ1.out; omega)
    rw [← hZ, ← hM]
    have hne := Wider.some Z.heap.size Z
    have HLZ := Hid.mk hLZ
    have HEZ := Hid.mk heZ
    have HBZ := Hid.mk hbZ
    have k0 : ∀ g : Wider Z.heap.size Z, g.z.cell? ⟨M, 0, none⟩ = some (.int .i64 y0) := fun g => cell_at ((g.h.block M (Array.getElem?_eq_some_iff.1 HEZ.out).1).trans HEZ.out) rfl
    have k1 : ∀ g : Wider Z.heap.size Z, g.z.cell? ⟨M, 1, none⟩ = some (.int .i64 y1) := fun g => cell_at ((g.h.block M (Array.getElem?_eq_some_iff.1 HEZ.out).1).trans HEZ.out) rfl
    have k2 : ∀ g : Wider Z.heap.size Z, g.z.cell? ⟨M, 2, none⟩ = some (.int .i64 y2) := fun g => cell_at ((g.h.block M (Array.getElem?_eq_some_iff.1 HEZ.out).1).trans HEZ.out) rfl
    have HLV : Hid (l < Z.heap.size) := Hid.mk (by omega)
    clear hZ hM hzZ hg1 hrow hLZ heZ hbZ
    gi_wp2_with fail
    refine wpIn_wider_round (B := Z.heap.size) (w0 := Z) _ (by kernel_rfl) (by kernel_rfl) (by kernel_rfl) (Below.refl _ Z) ?_
    refine BigFrame.wpQuiet_want rfl ?_
    intro K hK
    refine quiet_load_now (B := w.heap.size) (f := f) (c := c) _ rfl rfl (by rintro _ ⟨g, rfl⟩; exact (HLZ.out.grown g.h).now) ?_
    go_simp
    go_big_quiet_on
    repeat (go_big_quiet_step ((go_at_call 19; refine (of_any _ _ _ _ _).mono ?_; rintro e w6 ⟨rfl, hb6⟩; exact ⟨rfl, ⟨w6, by rename_i g; exact farther (Nat.le_refl _) g.h hb6⟩, rfl⟩)))
    refine wpQuiet_nil ?_
    rintro z ⟨g, hg⟩
    have hz : Below Z.heap.size Z z := by rw [hg]; exact g.h
    clear hg g
    have hLz := HLZ.out.grown hz
    have hbz : Below w.heap.size w z := HBZ.out.trans (hz.mono HBZ.out.size)
    have hkf := Hid.mk (others_below hz w1.heap.size)
    have hkp : Hid (Kp v Z z) := Hid.mk (Kp.of_below (B := Z.heap.size) (fun k hk => by have := HS1.out.own_lt k hk; have := hl; have := HLV.out; omega) hz)
    have cr : z.cell? ⟨w.heap.size + 1, 0, none⟩ = some (.bool false) := cell_at hLz.res rfl
    have fr : z.frozen? ⟨w.heap.size + 1, 0, none⟩ = false := free_at hLz.res
    have HLz := Hid.mk hLz
    have HBz := Hid.mk hbz
    clear hz hLz hbz k0 k1 k2 hne HL HBW HR
    by_cases hq : ofF f y0 y1 = y2
    · have e1 : (ofF f y0 y1 != y2) = false := by simp [hq]
      have HQ := Hid.mk hq
      clear hq
      gi_wp2
      refine ⟨hkf.out, hkp.out, ?_, HLz.out, HBz.out⟩
      intro q hq
      rcases List.mem_append.1 hq with hq | hq
      · exact HP.out q hq
      · simp at hq
        subst hq
        obtain ⟨q0, q1, q2⟩ := HY.out
        rw [← q0, ← q1, ← q2]
        exact HQ.out
    · have e1 : (ofF f y0 y1 != y2) = true := by simp [hq]
      have HQ := Hid.mk hq
      clear hq
      gi_wp2
      refine ⟨hkf.out.trans (others_set _ _ _ _), rfl, ⟨x, pre, rfl, ?_⟩, ⟨?_, ?_⟩, HBz.out.setCell (p := ⟨w.heap.size + 1, 0, none⟩) (Nat.le_succ _) _⟩
      · obtain ⟨q0, q1, q2⟩ := HY.out
        rw [← q0, ← q1, ← q2]
        exact HQ.out
      · rw [Below.heap_setCell _ _ _ _ (by show w.heap.size ≠ w.heap.size + 1; omega)]
        exact HLz.out.now
      · rw [heap_set _ HLz.out.res]
        simp
  case done =>
    rintro D ys W hD hys ⟨hok, hL, hBW⟩ hK
    have hv : validB (ofF f) E = true := validB_yes (all_of_range hys (p := fun j => ofF f E[j]!.1 E[j]!.2.1 = E[j]!.2.2) hok)
    have HV := Hid.mk hv
    have cr : W.cell? ⟨w.heap.size + 1, 0, none⟩ = some (.bool false) := cell_at hL.res rfl
    have fr : W.frozen? ⟨w.heap.size + 1, 0, none⟩ = false := free_at hL.res
    have HL := Hid.mk hL
    have HBW := Hid.mk hBW
    have HK := Hid.mk hK
    clear hv hok hys hL hBW hK
    gi_wp2
    have hK' := (KeepsOthers.setCell W ⟨w.heap.size + 1, 0, none⟩ (.bool true)).same D _ HK.out rfl
    refine ⟨by simp, .inl ⟨_, _, rfl, run_takeDeferred hK', ?_⟩⟩
    have hc5 := cell_kept (World.cell?_setCell_same' W ⟨w.heap.size + 1, 0, none⟩ (.bool true) (by rw [cr]; rfl)) (grownBy_putObj' _ D (.deferred none)) (fun r e => by cases e; exact ⟨_, hK', rfl⟩)
    refine ⟨.bool true, ?_, by rw [HV.out], (HBW.out.setCell (p := ⟨w.heap.size + 1, 0, none⟩) (Nat.le_succ _) _).trans (belowK_b (w := w) (Nat.le_refl _) _ D _ _ (by have := HZ1.out; omega) hK' rfl rfl)⟩
    simp [results, Try.f13, go_sem, hc5]
  case stop =>
    rintro D pre W hD ⟨k, hk, hpre⟩ ⟨⟨x, pr, rfl, hoff⟩, hL, hBW⟩ hK
    have hv : validB (ofF f) E = false := validB_no x.1 x.2 hoff
    have HV := Hid.mk hv
    have cr : W.cell? ⟨w.heap.size + 1, 0, none⟩ = some (.bool false) := cell_at hL.res rfl
    have fr : W.frozen? ⟨w.heap.size + 1, 0, none⟩ = false := free_at hL.res
    have HL := Hid.mk hL
    have HBW := Hid.mk hBW
    have HK := Hid.mk hK
    clear hv hoff hpre hL hBW hK
    gi_wp2
    refine ⟨by simp, .inl ⟨_, _, rfl, run_takeDeferred HK.out, ?_⟩⟩
    have hc5 := cell_kept cr (grownBy_putObj' W D (.deferred none)) (fun r e => by cases e; exact ⟨_, HK.out, rfl⟩)
    refine ⟨.bool false, ?_, by rw [HV.out], HBW.out.trans (belowK_b (w := w) (Nat.le_refl _) _ D _ _ (by have := HZ1.out; omega) HK.out rfl rfl)⟩
    simp [results, Try.f13, go_sem, hc5]

end Go.Proofs.Ytafpfioonbdgnaa.Rds
