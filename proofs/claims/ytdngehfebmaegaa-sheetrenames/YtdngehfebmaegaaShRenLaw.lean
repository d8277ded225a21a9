/-
  SheetRenames: for all six files and every two numbers, the law returns true: a file that is there, renamed to a number that has none, and back, is as it was, and so are all others. No condition.
-/
import Derived.Deep.CutRange
import Derived.Deep.CutBlock
import Derived.Test.YtdngehfebmaegaaShLists
namespace Go.Proofs.Ytdngehfebmaegaa.sheetRenames
open Go.ChangeShapes Go.WideShapes Go.ChangeAt Go.RowKit Go.Deep Go.Proofs.Ytdngehfebmaegaa.Cel Go.Proofs.Ytdngehfebmaegaa.Dft Go.Proofs.Ytdngehfebmaegaa.Dft.F Go.Proofs.Ytdngehfebmaegaa.Sht
open Tom (CanF TomeAt)

/-- A sheet of the law's own, beside the box of the files that came in. -/
structure LS (B A : Nat) (f : Nat → Fl) (w W : World) (t b g : Nat) (T : List (Fl × Int)) (s d : Nat) (v : Value) (R : List (Int × Fl)) : Prop where
  sh : SheetAt W t b g T s d v R
  lo : ∀ k, Foot d [v] k → B ≤ k
  box : W.heap[A]? = some (.cells (sixA f) 24 (0, 0))
  bel : Below B w W

section
variable {B A t b g s d : Nat} {f : Nat → Fl} {w W W' : World} {T : List (Fl × Int)} {v v' : Value} {R R' : List (Int × Fl)}

theorem LS.size (h : LS B A f w W t b g T s d v R) : B ≤ W.heap.size := by have := h.lo d (.inl rfl); have := h.sh.dr.lt; omega
theorem LS.grown (h : LS B A f w W t b g T s d v R) (hb : Below W.heap.size W W') : LS B A f w W' t b g T s d v R :=
  ⟨h.sh.grown hb, h.lo, (hb.block A (Array.getElem?_eq_some_iff.1 h.box).1).trans h.box, h.bel.trans (hb.mono h.size)⟩
theorem LS.left (h : LS B A f w W t b g T s d v R) (hs : SheetAt W' t b g T s d v' R') (hw : Wrote (Foot d [v]) (Foot d [v']) W W') : LS B A f w W' t b g T s d v' R' :=
  ⟨hs, hw.lo h.size h.lo, h.sh.other hw h.box (by decide) (by decide), h.bel.trans (hw.below h.size h.lo)⟩
theorem LS.cells (h : LS B A f w W t b g T s d v R) (j : Nat) (hj : j < 6) : W.cell? ⟨A, j * 2, none⟩ = some (.bool (f j).1) ∧ W.cell? ⟨A, j * 2 + 1, none⟩ = some (.string (f j).2) :=
  ⟨cell_at h.box (sixA_get f j hj).1, cell_at h.box (sixA_get f j hj).2⟩
end

/-- What is over the tome behind a Rename, and behind the one back. -/
theorem ren_there (f : Nat → Fl) (a c : Nat) (ha : a < 6) (hc : c < 6) (hne : a ≠ c) (hf : (f a).1 = true) (hcan : ∀ j, j < 6 → CanF (f j)) (hg : (f c).1 = false) :
    ovr (tomeF f) (ren (tomeF f) [] a c) c = f a ∧ ovr (tomeF f) (ren (tomeF f) [] a c) a = noFile ∧ ∀ j, j < 6 → ovr (tomeF f) (ren (tomeF f) (ren (tomeF f) [] a c) c a) (j : Nat) = f j := by
  have e0 : ∀ j, j < 6 → ovr (tomeF f) [] (j : Nat) = f j := fun j hj => base_tome f j hj
  have r1 : ren (tomeF f) [] a c = chg (tomeF f) (chg (tomeF f) [] c (f a)) a noFile := by
    unfold ren
    rw [e0 a ha, if_pos ⟨by omega, by omega, hf, by omega⟩]
  have o1 : ovr (tomeF f) (ren (tomeF f) [] a c) c = f a := by
    rw [r1, ovr_chg, if_neg (fun k => by omega), ovr_chg, if_pos ⟨rfl, by omega, by omega⟩]
  have o2 : ovr (tomeF f) (ren (tomeF f) [] a c) a = noFile := by
    rw [r1, ovr_chg, if_pos ⟨rfl, by omega, by omega⟩]
  refine ⟨o1, o2, fun j hj => ?_⟩
  have r2 : ren (tomeF f) (ren (tomeF f) [] a c) c a = chg (tomeF f) (chg (tomeF f) (ren (tomeF f) [] a c) a (f a)) c noFile := by
    conv => lhs; unfold ren
    rw [show (if (0 ≤ (a : Int) ∧ (a : Int) < 6) ∧ (0 ≤ (c : Int) ∧ (c : Int) < 6) ∧ (ovr (tomeF f) [] a).1 = true ∧ (a : Int) ≠ c then chg (tomeF f) (chg (tomeF f) [] c (ovr (tomeF f) [] a)) a noFile else []) = ren (tomeF f) [] a c from rfl]
    rw [o1, if_pos ⟨by omega, by omega, hf, by omega⟩]
  rw [r2, ovr_chg]
  by_cases hjc : j = c
  · rw [if_pos ⟨by omega, by omega, by omega⟩, hjc]
    exact (Tom.canF_no (hcan c hc) hg).symm
  · rw [if_neg (fun k => by omega), ovr_chg]
    by_cases hja : j = a
    · rw [if_pos ⟨by omega, by omega, by omega⟩, hja]
    · rw [if_neg (fun k => by omega), r1, ovr_chg, if_neg (fun k => by omega), ovr_chg, if_neg (fun k => by omega), e0 j hj]

set_option maxRecDepth 100000 in
set_option maxHeartbeats 8000000 in
theorem walk (f : Nat → Fl) (a c : Int) (w : World) :
    Calls Try.prog 6 #[.agg (sixA f), .int .i64 a, .int .i64 c] w fun e w' => e = .returned (.bool true) ∧ Below w.heap.size w w' := by
  obtain ⟨w0, hw0⟩ : ∃ z, z = w.alloc (.cells (sixA f) 24) := ⟨_, rfl⟩
  have hb0 := (Below.refl w.heap.size w).alloc (Nat.le_refl _) (.cells (sixA f) 24)
  have hn0 := heap_new w (.cells (sixA f) 24)
  rw [← hw0] at hb0 hn0
  have HB0 := Hid.mk hb0
  have HN0 := Hid.mk hn0
  clear hb0 hn0
  go_enter Try.func6, Try.ntmps6
  go_wp2_with fail
  rw [← hw0]
  clear hw0
  refine (aliveS w0).mono ?_
  rintro e w1 ⟨rfl, hb1⟩
  have HN1 := Hid.mk ((hb1.block _ (Array.getElem?_eq_some_iff.1 HN0.out).1).trans HN0.out)
  have HB1 := Hid.mk (HB0.out.trans (hb1.mono HB0.out.size))
  clear hb1 HN0 HB0
  go_wp2_with (refine wpList_load_row rfl 24 _ rfl w.heap.size rfl 24 (sixA f) (0, 0) _ HN1.out Try.underlying24 rfl (size_six f) ?_)
  refine (build_any f w1).mono ?_
  rintro e w2 (⟨rfl, hb2, hbad⟩ | ⟨t, b, g, s, d, m, rfl, hdu, hb2, hlo, hcan⟩)
  · have HB2 := Hid.mk (HB1.out.trans (hb2.mono HB1.out.size))
    clear hb2 hbad
    go_wp2
    go_ret
    exact ⟨rfl, HB2.out⟩
  have hz := HB1.out.size
  have hft : ∀ k, Foot d [(.slice none 0 0 : Value)] k → w.heap.size ≤ k := fun k hk => by
    rcases hk with e | ⟨x, hx, e⟩
    · omega
    · simp at hx
      subst hx
      cases e
  have hls : LS w.heap.size w.heap.size f w w2 t b g (tomeF f) s d (.slice none 0 0) [] :=
    ⟨hdu.sh, hft, (hb2.block _ (Array.getElem?_eq_some_iff.1 HN1.out).1).trans HN1.out, HB1.out.trans (hb2.mono hz)⟩
  have HLS := Hid.mk hls
  have HCAN := Hid.mk hcan
  have HIA := Hid.mk (isRef_any a w2)
  have HIC := Hid.mk (isRef_any c w2)
  obtain ⟨A, hA⟩ : ∃ A, A = w.heap.size := ⟨_, rfl⟩
  rw [← hA] at HLS
  have HA := Hid.mk hA
  rw [← hA]
  clear hdu hb2 hlo hcan hls hft HN1 HB1 hz hA
  have fin : ∀ w', Below A w w' → Below w.heap.size w w' := fun w' h => by rw [← HA.out]; exact h
  have FIN := Hid.mk fin
  clear fin
  by_cases ia : Is a
  rotate_left
  · rw [decide_eq_false ia] at HIA
    clear ia
    go_wp2_with fail
    refine HIA.out.mono ?_
    rintro e w3 ⟨rfl, hw3⟩
    rw [hw3]
    clear hw3 w3
    go_wp2
    go_ret
    exact ⟨rfl, FIN.out _ HLS.out.bel⟩
  rw [decide_eq_true ia] at HIA
  by_cases ic : Is c
  rotate_left
  · rw [decide_eq_false ic] at HIC
    clear ia ic
    go_wp2_with fail
    refine HIA.out.mono ?_
    rintro e w3 ⟨rfl, hw3⟩
    rw [hw3]
    clear hw3 w3
    go_wp2_with fail
    refine HIC.out.mono ?_
    rintro e w3 ⟨rfl, hw3⟩
    rw [hw3]
    clear hw3 w3
    go_wp2
    go_ret
    exact ⟨rfl, FIN.out _ HLS.out.bel⟩
  rw [decide_eq_true ic] at HIC
  obtain ⟨i, rfl⟩ : ∃ i : Nat, a = (i : Int) := ⟨a.toNat, by omega⟩
  obtain ⟨j, rfl⟩ : ∃ j : Nat, c = (j : Int) := ⟨c.toNat, by omega⟩
  have hi : i < 6 := by omega
  have hj : j < 6 := by omega
  have HI := Hid.mk hi
  have HJ := Hid.mk hj
  obtain ⟨p0, p1⟩ := HLS.out.cells i hi
  obtain ⟨q0, q1⟩ := HLS.out.cells j hj
  go_wp2_with fail
  refine HIA.out.mono ?_
  rintro e w3 ⟨rfl, hw3⟩
  rw [hw3]
  clear hw3 w3
  go_wp2_with fail
  refine HIC.out.mono ?_
  rintro e w3 ⟨rfl, hw3⟩
  rw [hw3]
  clear hw3 w3 ia ic
  by_cases hij : i = j
  · have hij2 : ((i : Int) == (j : Int)) = true := by simp [hij]
    clear hij
    go_wp2
    go_ret
    exact ⟨rfl, FIN.out _ HLS.out.bel⟩
  have hij2 : ((i : Int) == (j : Int)) = false := by simp; omega
  have hji2 : ((j : Int) == (i : Int)) = false := by simp; omega
  have HIJ := Hid.mk hij
  clear hij
  cases hfi : (f i).1 with
  | false =>
    rw [hfi] at p0
    clear hfi
    go_wp2
    go_ret
    exact ⟨rfl, FIN.out _ HLS.out.bel⟩
  | true =>
  cases hfj : (f j).1 with
  | true =>
    rw [hfi] at p0
    rw [hfj] at q0
    clear hfi hfj
    go_wp2
    go_ret
    exact ⟨rfl, FIN.out _ HLS.out.bel⟩
  | false =>
  obtain ⟨y, hy⟩ : ∃ y, y = (f i).2 := ⟨_, rfl⟩
  have HFI : Hid (f i = (true, y)) := Hid.mk (Prod.ext hfi hy.symm)
  have hren := ren_there f i j hi hj HIJ.out hfi HCAN.out hfj
  rw [HFI.out] at hren
  have HREN := Hid.mk hren
  rw [hfi] at p0
  rw [hfj] at q0
  clear hfi hfj hren hy
  have hr1 := rename_any HLS.out.sh (i : Int) (j : Int)
  rw [show decide (Is (i : Int) ∧ Is (j : Int)) = true from decide_eq_true ⟨by have := HI.out; omega, by have := HJ.out; omega⟩] at hr1
  have HR1 := Hid.mk hr1
  clear hr1
  go_wp2_with fail
  refine HR1.out.mono ?_
  rintro e w4 ⟨rfl, v4, hs4, hw4⟩
  have hl4 := HLS.out.left hs4 hw4
  have HL4 := Hid.mk hl4
  obtain ⟨R1, hR1⟩ : ∃ z, z = ren (tomeF f) [] (i : Int) (j : Int) := ⟨_, rfl⟩
  rw [← hR1] at HL4
  rw [← hR1] at HREN
  have HL4i : Hid (Is (i : Int)) := Hid.mk (by omega)
  have hg4 := sget HL4.out.sh (j : Int)
  rw [HREN.out.1] at hg4
  have HG4 := Hid.mk hg4
  have HRR := Hid.mk hR1
  clear hs4 hw4 hl4 hg4 hR1 HR1 HLS p0 p1 q0 q1
  go_wp2_with fail
  refine HG4.out.mono ?_
  rintro e w5 ⟨rfl, hb5⟩
  have hb6 := hb5.alloc hb5.size (.cells #[.bool true, .string y] 23)
  have hn6 := heap_new w5 (.cells #[.bool true, .string y] 23)
  have hl6 := HL4.out.grown hb6
  have hg6 := sget hl6.sh (i : Int)
  rw [HREN.out.2.1] at hg6
  have HG6 := Hid.mk hg6
  have HL6 := Hid.mk hl6
  have HN6 := Hid.mk hn6
  clear hb5 hb6 hn6 hl6 hg6 HG4 HL4
  dsimp only
  go_wp2_with fail
  refine HG6.out.mono ?_
  rintro e w7 ⟨rfl, hb7⟩
  have hb8 := hb7.alloc hb7.size (.cells #[.bool false, .string ⟨#[]⟩] 23)
  have hn8 := heap_new w7 (.cells #[.bool false, .string ⟨#[]⟩] 23)
  have hl8 := HL6.out.grown hb8
  have HL8 := Hid.mk hl8
  have hn7 := (hb8.block w5.heap.size (Array.getElem?_eq_some_iff.1 HN6.out).1).trans HN6.out
  obtain ⟨p0, p1⟩ := hl8.cells i HI.out
  rw [HFI.out] at p0 p1
  have d0 := cell_at (i := 0) hn7 rfl
  have d1 := cell_at (i := 1) hn7 rfl
  have k0 := cell_at (i := 0) hn8 rfl
  have heq := eq_fl (true, y) (true, y)
  rw [decide_eq_true rfl] at heq
  have hilt : (i : Int) < 6 := by omega
  dsimp only at heq p0 p1 ⊢
  clear hb7 hb8 hn7 hn8 hl8 HG6 HL6 HN6
  go_upto_region 9 with fail
  obtain ⟨w8, hw8⟩ : ∃ z, z = w7.alloc (.cells #[.bool false, .string ⟨#[]⟩] 23) := ⟨_, rfl⟩
  rw [← hw8] at HL8 p0 p1 d0 d1 k0 ⊢
  obtain ⟨P, hP⟩ : ∃ P, P = w5.heap.size := ⟨_, rfl⟩
  obtain ⟨Q, hQ⟩ : ∃ P, P = w7.heap.size := ⟨_, rfl⟩
  rw [← hP] at d0 d1 ⊢
  rw [← hQ] at k0 ⊢
  clear hw8 hP hQ
  go_quiet (fail)
  have hb9 : Below w8.heap.size w8 (w8.drewN nq) := ⟨rfl, rfl, rfl, by rw [heap_drewN]; exact Nat.le_refl _, fun k _ => by rw [heap_drewN]⟩
  have HL9 := Hid.mk (HL8.out.grown hb9)
  obtain ⟨w9, hw9⟩ : ∃ z, z = w8.drewN nq := ⟨_, rfl⟩
  rw [← hw9] at HL9 ⊢
  have hr9 := rename_any HL9.out.sh (j : Int) (i : Int)
  rw [show decide (Is (j : Int) ∧ Is (i : Int)) = true from decide_eq_true ⟨by have := HJ.out; omega, HL4i.out⟩] at hr9
  have HR9 := Hid.mk hr9
  clear hb9 hw9 hr9 HL8 p0 p1 d0 d1 k0 heq hilt
  go_wp2_with fail
  refine HR9.out.mono ?_
  rintro e wa ⟨rfl, va, hsa, hwa⟩
  have hla := HL9.out.left hsa hwa
  have HOV := Hid.mk HREN.out.2.2
  obtain ⟨R2, hR2⟩ : ∃ z, z = ren (tomeF f) R1 (j : Int) (i : Int) := ⟨_, rfl⟩
  rw [← hR2] at hla HOV
  have HLA := Hid.mk hla
  clear hsa hwa hla HR9 HL9 hR2 HREN hij2 hji2 hi hj HRR
  go_wp2
  go_loopw [15, 16, 17, 90] (fun _ _ _ idx wr => ∃ k : Nat, k ≤ 6 ∧ idx = .int .i64 k ∧ Hid (LS A A f w wr t b g (tomeF f) s d va R2)) (fun _ _ _ idx _ => 6 - (intOf idx).toNat)
  case atStart => exact ⟨0, Nat.zero_le _, rfl, HLA⟩
  case round =>
    clear HLA
    obtain ⟨k, hk, rfl, HL⟩ := hrel
    by_cases hlt : k < 6
    · have hlt2 : (k : Int) < 6 := by omega
      have hg := sget HL.out.sh (k : Int)
      rw [HOV.out k hlt] at hg
      obtain ⟨⟨q, x⟩, hq⟩ : ∃ q, q = f k := ⟨_, rfl⟩
      rw [← hq] at hg
      have HQ := Hid.mk hq
      have HG := Hid.mk hg
      have HLT := Hid.mk hlt
      clear hg hq
      go_wp2_with fail
      refine HG.out.mono ?_
      rintro e wb ⟨rfl, hbb⟩
      have hbc := hbb.alloc hbb.size (.cells #[.bool q, .string x] 23)
      have hlc := HL.out.grown hbc
      have HLC := Hid.mk hlc
      have hnc := heap_new wb (.cells #[.bool q, .string x] 23)
      obtain ⟨p0, p1⟩ := hlc.cells k HLT.out
      rw [← HQ.out] at p0 p1
      have d0 := cell_at (i := 0) hnc rfl
      have d1 := cell_at (i := 1) hnc rfl
      have heq := eq_fl (q, x) (q, x)
      rw [decide_eq_true rfl] at heq
      dsimp only at heq p0 p1 ⊢
      clear hbb hbc hlc hnc HG HL
      go_upto_region 16 with fail
      obtain ⟨wc, hwc⟩ : ∃ z, z = wb.alloc (.cells #[.bool q, .string x] 23) := ⟨_, rfl⟩
      rw [← hwc] at HLC p0 p1 d0 d1 ⊢
      obtain ⟨P2, hP2⟩ : ∃ P, P = wb.heap.size := ⟨_, rfl⟩
      rw [← hP2] at d0 d1 ⊢
      clear hwc hP2
      go_quiet (fail)
      have hb9 : Below wc.heap.size wc (wc.drewN nq) := ⟨rfl, rfl, rfl, by rw [heap_drewN]; exact Nat.le_refl _, fun k _ => by rw [heap_drewN]⟩
      have HL9 := Hid.mk (HLC.out.grown hb9)
      clear hb9 p0 p1 d0 d1 heq
      go_wp2
      go_roundw
      case rel => exact ⟨k + 1, by have := HLT.out; omega, by go_num, HL9⟩
      case measure => have := HLT.out; simp [intOf]; omega
    · have hge : (6 : Int) ≤ (k : Int) := by omega
      go_wp2
      go_ret
      exact ⟨rfl, FIN.out _ HL.out.bel⟩
set_option maxRecDepth 100000 in
theorem lifted (os : Os) (started : os.Started) (H : Type) (enc : TypeId × Value → H) :
    ReturnsInHanded {} Try.checked os 6 .any (Rows.sheetRenamesSpec.pre6 enc Try.prog Try.f6 Rows.sheetRenamesRow.domain false) (Rows.sheetRenamesSpec.post enc Try.prog Try.f6 false true false false) := by
  refine returnsInHanded_of_change (C := Try.checked) own started (by kernel_rfl) Try.func6
    (ChangeSpec.witness6 (enc := enc) (C := Try.checked) false ⟨#[], #[.agg #[.bool false, .string .empty, .bool false, .string .empty, .bool false, .string .empty, .bool false, .string .empty, .bool false, .string .empty, .bool false, .string .empty], .int .i64 0, .int .i64 0], []⟩ 8 (by kernel_rfl) (by kernel_rfl) (by kernel_rfl) (by kernel_rfl)) ?_
  intro W base args ds gs before hval0 hW hcnd _
  have hval : ∀ (j : Nat) t v, Try.f6.params[j]? = some t → args[j]? = some v → Value.okWide Try.prog W .any base t v := hval0
  have hW' := hW
  obtain ⟨p, q, hA0, hV, rfl, hfz, hnd⟩ := hW
  have hA : DataW.TrodAll enc Try.prog W 0 (fun _ => true) true Try.f6.params.toList args.toList ds p := hA0
  rw [Try.params6] at hA hval
  obtain ⟨v0, vs0, d0, ds0, p0, q0, hargs, rfl, rfl, h0, r0⟩ := trodAll_cons hA
  obtain ⟨v1, vs1, d1, ds1, p1, q1, rfl, rfl, rfl, h1, r1⟩ := trodAll_cons r0
  obtain ⟨v2, vs2, d2, ds2, p2, q2, rfl, rfl, rfl, h2, r2⟩ := trodAll_cons r1
  obtain ⟨rfl, rfl, rfl⟩ := trodAll_nil r2
  obtain rfl : args = #[v0, v1, v2] := by cases args; simp_all
  obtain ⟨rfl, rfl⟩ := trodVars_none hV
  obtain ⟨ca0, rfl, hz0⟩ := okWide_arr Try.underlying24 (hval 0 24 v0 rfl rfl)
  have lt0 : ∀ x ∈ p0, x.block < W.heap.size := by obtain ⟨m, hm⟩ := h0; exact DataW.trod_lt m _ _ _ hm
  obtain ⟨fi0, e0⟩ : ∃ fi : Nat → Fl, ca0 = sixA fi := by
    obtain ⟨fuel, hf⟩ := h0
    obtain ⟨c, hc⟩ := open_six hf
    exact ⟨c, by simpa [Value.cells] using congrArg List.toArray hc⟩
  subst e0
  have k0 := h0
  obtain ⟨a1, rfl, rfl, rfl, w1⟩ := open_int Try.underlying3 (hval 1 3 v1 rfl rfl) h1
  obtain ⟨a2, rfl, rfl, rfl, w2⟩ := open_int Try.underlying3 (hval 2 3 v2 rfl rfl) h2
  clear hA0 hval0
  refine (walk fi0 a1 a2 W ).mono fun e W' ⟨he, bel⟩ => ?_
  subst he
  exact ⟨_, rfl, _, _, _, [], _, [], hW', trodAll_mk1 (shut_bool Try.underlying4 _), (trodAll_cons_mk (Below.trod laidOut (by kernel_rfl) (of_decide_eq_true (by kernel_rfl)) k0 bel lt0) (trodAll_cons_mk (shut_int Try.underlying3 w1) (trodAll_cons_mk (shut_int Try.underlying3 w2) trodAll_mk0))), rfl, bel.frame _, fun h => by cases h⟩

set_option maxRecDepth 100000 in
theorem over : Rows.sheetRenamesRow.holds Try.pinned (OpenSpec.ofChange Rows.sheetRenamesSpec) :=
  OpenClaim.holds_of_wide 6 Try.f6 rfl rfl rfl rfl rfl rfl rfl ⟨rfl, rfl, rfl, rfl, rfl⟩ rfl rfl rfl rfl rfl (by kernel_rfl) Try.func6 (by kernel_rfl)
    (of_decide_eq_true (by kernel_rfl)) (by unfold Func.isWrapper; first | (rw [if_pos (by decide +kernel)]; kernel_rfl) | (rw [if_neg (by decide +kernel)]; exact ⟨rfl, rfl⟩))
    (fun os started H enc _ => lifted os started H enc)

end Go.Proofs.Ytdngehfebmaegaa.sheetRenames

namespace Go.Proofs.Ytdngehfebmaegaa
/-- The statement. -/
theorem sheetRenames_holds : Rows.SheetRenamesSaid := sheetRenames.over
#print axioms sheetRenames_holds
end Go.Proofs.Ytdngehfebmaegaa
