/-
  SheetCopies: for all six files and every two rows of calls, the law returns true: a copy has the same, and what is done to it isn't done to the first one. No condition.
-/
import Derived.Deep.CutRange
import Derived.Deep.CutBlock
import Derived.Test.YtdngehfebmaegaaShTwo
namespace Go.Proofs.Ytdngehfebmaegaa.sheetCopies
open Go.ChangeShapes Go.WideShapes Go.ChangeAt Go.RowKit Go.Deep Go.Proofs.Ytdngehfebmaegaa.Cel Go.Proofs.Ytdngehfebmaegaa.Dft Go.Proofs.Ytdngehfebmaegaa.Dft.F Go.Proofs.Ytdngehfebmaegaa.Sht
open Tom (CanF TomeAt)

set_option maxRecDepth 100000 in
set_option maxHeartbeats 16000000 in
theorem walk (f : Nat → Fl) (a : Option Addr) (la ca : Nat) (l : List Cl) (a2 : Option Addr) (lb cb : Nat) (l2 : List Cl) (w : World) (h1 : IsCls w a la ca l) (h2 : IsCls w a2 lb cb l2) :
    Calls Try.prog 5 #[.agg (sixA f), .slice a la ca, .slice a2 lb cb] w fun e w' => e = .returned (.bool true) ∧ Below w.heap.size w w' := by
  have H1 := Hid.mk h1
  have HL := Hid.mk h1.1
  have H2 := Hid.mk h2
  have HL2 := Hid.mk h2.1
  clear h1 h2
  obtain ⟨w0, hw0⟩ : ∃ z, z = w.alloc (.cells (sixA f) 24) := ⟨_, rfl⟩
  have hb0 := (Below.refl w.heap.size w).alloc (Nat.le_refl _) (.cells (sixA f) 24)
  have hn0 := heap_new w (.cells (sixA f) 24)
  rw [← hw0] at hb0 hn0
  have HB0 := Hid.mk hb0
  have HN0 := Hid.mk hn0
  clear hb0 hn0
  go_enter Try.func5, Try.ntmps5
  go_wp2_with fail
  rw [← hw0]
  clear hw0
  refine (aliveS w0).mono ?_
  rintro e w1 ⟨rfl, hb1⟩
  have HN1 := Hid.mk ((hb1.block _ (Array.getElem?_eq_some_iff.1 HN0.out).1).trans HN0.out)
  have HB1 := Hid.mk (HB0.out.trans (hb1.mono HB0.out.size))
  clear hb1 HN0 HB0
  go_wp2_with (refine wpList_load_row rfl 24 _ rfl w.heap.size rfl 24 (sixA f) (0, 0) _ HN1.out Try.underlying24 rfl (size_six f) ?_)
  refine (build_any f w1).mono ?_
  rintro e w2 (⟨rfl, hb2, hbad⟩ | ⟨t, b, g, s, d, m, rfl, hdu, hb2, hlo, hcan⟩)
  · have HB2 := Hid.mk (HB1.out.trans (hb2.mono HB1.out.size))
    clear hb2 hbad
    go_wp2
    go_ret
    exact ⟨rfl, HB2.out⟩
  have hld := LD.start HB1.out.size HB1.out hdu hb2 hlo
  have HLD := Hid.mk hld
  obtain ⟨B, hB⟩ : ∃ B, B = w.heap.size := ⟨_, rfl⟩
  rw [← hB] at HLD
  have HB := Hid.mk hB
  clear hdu hb2 hlo hcan hld HN1 HB1 hB
  obtain ⟨T, hT⟩ : ∃ T, T = tomeF f := ⟨_, rfl⟩
  rw [← hT] at HLD
  clear hT
  by_cases hla : 60 < la
  · have hla2 : (60 : Int) < (la : Int) := by omega
    go_wp2
    go_ret
    exact ⟨rfl, by rw [← HB.out]; exact HLD.out.bel⟩
  have hla2 : ¬ (60 : Int) < (la : Int) := by omega
  by_cases hlb : 60 < lb
  · have hlb2 : (60 : Int) < (lb : Int) := by omega
    go_wp2
    go_ret
    exact ⟨rfl, by rw [← HB.out]; exact HLD.out.bel⟩
  have hlb2 : ¬ (60 : Int) < (lb : Int) := by omega
  go_upto_region 6 with fail
  go_wp2
  go_loopw [12, 45] (fun _ idx wr => ∃ (k : Nat) (v : Value), k ≤ la ∧ idx = .int .i64 k ∧ Hid (LD B w wr t b g T s d v (stps T [] (l.take k)) m)) (fun _ idx _ => la - (intOf idx).toNat)
  case atStart => exact ⟨0, _, Nat.zero_le _, rfl, HLD⟩
  case round =>
    clear HLD
    obtain ⟨k, v, hk, rfl, HS⟩ := hrel
    by_cases hlt : k < la
    · have hkl : k < l.length := by have := HL.out; omega
      have HI := Hid.mk (H1.out.carry (by rw [← HB.out]; exact HS.out.bel))
      obtain ⟨ga, off, e, hat⟩ := HI.out.here (by omega)
      subst e
      obtain ⟨c0, c1, c2, c3⟩ := hat.k k hkl
      have hgl := World.block_lt_of_cell? wr _ c0
      obtain ⟨c, hc⟩ : ∃ c, c = l[k]?.getD ⟨0, 0, 0, 0⟩ := ⟨_, rfl⟩
      rw [← hc] at c0 c1 c2 c3
      have HTK : Hid (stps T [] (l.take (k + 1)) = stp T (stps T [] (l.take k)) c) := Hid.mk (by
        rw [hc, List.getElem?_eq_getElem hkl, Option.getD_some, List.take_succ_eq_append_getElem hkl, stps_snoc])
      have HDO := Hid.mk (fun (z : World) (v : Value) (hz : Du z t b g T s d v (stps T [] (l.take k)) m) => does_any hz c)
      obtain ⟨ck, cx, cy, cz⟩ := c
      dsimp only at c0 c1 c2 c3 HDO
      have HSA := Hid.mk (HS.out.grown ((Below.refl _ wr).alloc (Nat.le_refl _) (.cells #[.int .i64 ck, .int .i64 cx, .int .i64 cy, .int .u8 cz.toNat] 34)))
      clear hat hkl HI hc
      go_wp2_with fail
      refine (HDO.out _ _ HSA.out.du).mono ?_
      rintro e w3 ⟨rfl, v3, hd3, hw3⟩
      have hS3 := HSA.out.did hd3 hw3
      rw [← HTK.out] at hS3
      have HS3 := Hid.mk hS3
      clear hd3 hw3 hS3 c0 c1 c2 c3
      go_wp2
      go_roundw
      case rel => exact ⟨k + 1, v3, by omega, by go_num, HS3⟩
      case measure => simp [intOf]; omega
    · have hle : (la : Int) ≤ (k : Int) := by omega
      obtain ⟨R, hR⟩ : ∃ R, R = stps T [] (l.take k) := ⟨_, rfl⟩
      have hS := HS.out
      rw [← hR] at hS
      have HSR := Hid.mk hS
      have HCP := Hid.mk (copy_any hS.du.sh)
      clear HS hS hR
      go_wp2_with fail
      refine HCP.out.mono ?_
      rintro e w4 ⟨s2, d2, v2, rfl, hs2, hf2, hlo2, hb4⟩
      have hS4 := HSR.out.grown hb4
      have HS4 := Hid.mk hS4
      have HS2 := Hid.mk hs2
      have HF2 := Hid.mk (fun k hk => Nat.le_trans HSR.out.size (hf2 k hk))
      have HFR : Hid (∀ k, Foot d2 [v2] k → ¬ FD d v m k) := Hid.mk (fun k hk e => by have := hf2 k hk; have := HSR.out.du.lt k e; omega)
      obtain ⟨wz, hwz⟩ : ∃ z, z = w4.alloc (.cells #[.bool false, .string ⟨#[]⟩, .bool false, .string ⟨#[]⟩, .bool false, .string ⟨#[]⟩, .bool false, .string ⟨#[]⟩, .bool false, .string ⟨#[]⟩, .bool false, .string ⟨#[]⟩, .bool false, .string ⟨#[]⟩, .bool false, .string ⟨#[]⟩, .bool false, .string ⟨#[]⟩, .bool false, .string ⟨#[]⟩, .bool false, .string ⟨#[]⟩, .bool false, .string ⟨#[]⟩, .bool false, .bool false, .bool false, .bool false, .bool false, .bool false] 42) := ⟨_, rfl⟩
      have hz1 : wz.heap[w4.heap.size]? = some (.cells (mdA (fun _ => noFile) (fun _ => noFile) (fun _ => false)) 42 (0, 0)) := by rw [hwz]; exact heap_new _ _
      have hbz : Below w4.heap.size w4 wz := by rw [hwz]; exact (Below.refl _ _).alloc (Nat.le_refl _) _
      rw [hwz] at hz1
      have HZ1 := Hid.mk hz1
      clear hs2 hf2 hlo2 HSR HCP hz1
      go_wp2_with (first
        | (refine wpList_load_row rfl 42 _ rfl m rfl 42 (mdA (fun j => base T j) (fun j => ovr T R j) (fun j => (Dft.look R j).isSome)) (0, 0) _ HS4.out.du.md Try.underlying42 rfl (size_md _ _ _) ?_)
        | (refine wpList_store_row rfl 42 _ _ rfl w4.heap.size (mdA (fun j => base T j) (fun j => ovr T R j) (fun j => (Dft.look R j).isSome)) rfl rfl 42 (mdA (fun _ => noFile) (fun _ => noFile) (fun _ => false)) HZ1.out (size_md _ _ _) rfl (md_one _ _ _) ?_))
      obtain ⟨w5, hw5⟩ : ∃ z, z = wz.setRow w4.heap.size (mdA (fun j : Nat => base T j) (fun j : Nat => ovr T R j) (fun j : Nat => (Dft.look R j).isSome)) := ⟨_, rfl⟩
      rw [← hwz, ← hw5]
      have hb5 : Below w4.heap.size w4 w5 := by rw [hw5]; exact hbz.trans ⟨rfl, rfl, rfl, by simp, fun k hk => setRow_other wz _ k _ (Nat.ne_of_lt hk)⟩
      have hm5 : MdAt w5 w4.heap.size T R := by
        have h := HZ1.out
        rw [← hwz] at h
        rw [hw5]
        exact setRow_heap wz _ _ _ _ _ h
      obtain ⟨N, hN⟩ : ∃ N, N = w4.heap.size := ⟨_, rfl⟩
      have h25 : LD2 B w w5 t b g T s d v R m s2 d2 v2 R N := by
        have h1 := HS4.out.grown hb5
        refine ⟨h1, ⟨⟨HS2.out.grown hb5, by rw [hN]; exact hm5⟩, fun k hk => ?_, HS4.out.log, h1.bel⟩, fun k hk hk2 => ?_⟩
        · rcases hk with e | e
          · exact HF2.out k e
          · have := HS4.out.size; omega
        · rcases hk2 with e | e
          · exact HFR.out k e hk
          · have := HS4.out.du.lt k hk; omega
      have H25 := Hid.mk h25
      rw [← hN]
      clear hS4 hwz hbz hw5 hb5 hm5 h25 hN HS4 HS2 HF2 HFR HZ1
      go_loopw [16, 62] (fun _ idx wr => ∃ (j : Nat) (u : Value), j ≤ lb ∧ idx = .int .i64 j ∧ Hid (LD2 B w wr t b g T s d v R m s2 d2 u (stps T R (l2.take j)) N)) (fun _ idx _ => lb - (intOf idx).toNat)
      case atStart => exact ⟨0, _, Nat.zero_le _, rfl, H25⟩
      case round =>
        clear H25
        obtain ⟨j, u, hj, rfl, HQ⟩ := hrel
        by_cases hltb : j < lb
        · have hkl : j < l2.length := by have := HL2.out; omega
          have HI := Hid.mk (H2.out.carry (by rw [← HB.out]; exact HQ.out.one.bel))
          obtain ⟨ga, off, e, hat⟩ := HI.out.here (by omega)
          subst e
          obtain ⟨c0, c1, c2, c3⟩ := hat.k j hkl
          have hgl := World.block_lt_of_cell? wr _ c0
          obtain ⟨c, hc⟩ : ∃ c, c = l2[j]?.getD ⟨0, 0, 0, 0⟩ := ⟨_, rfl⟩
          rw [← hc] at c0 c1 c2 c3
          have HTK : Hid (stps T R (l2.take (j + 1)) = stp T (stps T R (l2.take j)) c) := Hid.mk (by
            rw [hc, List.getElem?_eq_getElem hkl, Option.getD_some, List.take_succ_eq_append_getElem hkl, stps_snoc])
          have HDO := Hid.mk (fun (z : World) (u : Value) (hz : Du z t b g T s2 d2 u (stps T R (l2.take j)) N) => does_any hz c)
          obtain ⟨ck, cx, cy, cz⟩ := c
          dsimp only at c0 c1 c2 c3 HDO
          have HSA := Hid.mk (HQ.out.grown ((Below.refl _ wr).alloc (Nat.le_refl _) (.cells #[.int .i64 ck, .int .i64 cx, .int .i64 cy, .int .u8 cz.toNat] 34)))
          clear hat hkl HI hc
          go_wp2_with fail
          refine (HDO.out _ _ HSA.out.two.du).mono ?_
          rintro e w7 ⟨rfl, u7, hd7, hw7⟩
          have hS7 := HSA.out.did hd7 hw7
          rw [← HTK.out] at hS7
          have HS7 := Hid.mk hS7
          clear hd7 hw7 hS7 c0 c1 c2 c3
          go_wp2
          go_roundw
          case rel => exact ⟨j + 1, u7, by omega, by go_num, HS7⟩
          case measure => simp [intOf]; omega
        · have hleb : (lb : Int) ≤ (j : Int) := by omega
          obtain ⟨R2, hR2⟩ : ∃ R2, R2 = stps T R (l2.take j) := ⟨_, rfl⟩
          rw [← hR2] at HQ
          clear hR2
          go_wp2
          go_loopw [17, 18, 19, 20, 21, 72] (fun _ _ _ _ _ idx wr => ∃ i : Nat, i ≤ 6 ∧ idx = .int .i64 i ∧ Hid (LD2 B w wr t b g T s d v R m s2 d2 u R2 N)) (fun _ _ _ _ _ idx _ => 6 - (intOf idx).toNat)
          case atStart => exact ⟨0, Nat.zero_le _, rfl, HQ⟩
          case round =>
            clear HQ
            obtain ⟨i, hi, rfl, HS⟩ := hrel
            by_cases hlt6 : i < 6
            · have hlt62 : (i : Int) < 6 := by omega
              have HLT := Hid.mk hlt6
              have hg1 := sget HS.out.one.du.sh (i : Int)
              have hm1 := fun (z : World) (hz : MdAt z m T R) => MD.files hz i hlt6
              have hm2 := fun (z : World) (hz : MdAt z N T R2) => MD.files hz i hlt6
              have hg2 := fun (z : World) (hz : SheetAt z t b g T s2 d2 u R2) => sget hz (i : Int)
              try dsimp only at hm1 hm2
              obtain ⟨⟨q, x⟩, hq⟩ : ∃ q, q = ovr T R i := ⟨_, rfl⟩
              obtain ⟨⟨q2, x2⟩, hq2⟩ : ∃ q, q = ovr T R2 i := ⟨_, rfl⟩
              rw [← hq] at hg1 hm1
              rw [← hq2] at hg2 hm2
              dsimp only at hg1 hm1 hg2 hm2
              have HG1 := Hid.mk hg1
              have HG2 := Hid.mk hg2
              have HM1 := Hid.mk hm1
              have HM2 := Hid.mk hm2
              have heq := eq_rf (q, x) (q, x)
              have heq2 := eq_rf (q2, x2) (q2, x2)
              rw [decide_eq_true rfl] at heq heq2
              try dsimp only at heq heq2
              clear hg1 hg2 hm1 hm2 hq hq2
              go_wp2_with fail
              refine HG1.out.mono ?_
              rintro e w8 ⟨rfl, hb8⟩
              have hb9 := hb8.alloc hb8.size (.cells #[.bool q, .string x] 23)
              have HS9 := Hid.mk (HS.out.grown hb9)
              have HN9 := Hid.mk (heap_new w8 (.cells #[.bool q, .string x] 23))
              clear hb8 hb9 HS HG1
              go_wp2_with fail
              refine (HG2.out _ HS9.out.two.du.sh).mono ?_
              rintro e wa ⟨rfl, hba⟩
              have hbb := hba.alloc hba.size (.cells #[.bool q2, .string x2] 23)
              have HSB := Hid.mk (HS9.out.grown hbb)
              have hn8 := (hbb.block w8.heap.size (Array.getElem?_eq_some_iff.1 HN9.out).1).trans HN9.out
              have hnb := heap_new wa (.cells #[.bool q2, .string x2] 23)
              obtain ⟨c0, c1⟩ := HM1.out _ HSB.out.one.du.md
              obtain ⟨c2, c3⟩ := HM2.out _ HSB.out.two.du.md
              have d0 := cell_at (i := 0) hn8 rfl
              have d1 := cell_at (i := 1) hn8 rfl
              have d2' := cell_at (i := 0) hnb rfl
              have d3 := cell_at (i := 1) hnb rfl
              obtain ⟨P, hP⟩ : ∃ P, P = w8.heap.size := ⟨_, rfl⟩
              rw [← hP] at d0 d1 ⊢
              clear hba hbb hn8 hnb HS9 HN9 HG2 HM1 HM2 hP
              go_upto_region 24 with fail
              obtain ⟨wb, hwb⟩ : ∃ z, z = wa.alloc (.cells #[.bool q2, .string x2] 23) := ⟨_, rfl⟩
              rw [← hwb] at HSB c0 c1 c2 c3 d0 d1 d2' d3 ⊢
              obtain ⟨P2, hP2⟩ : ∃ P, P = wa.heap.size := ⟨_, rfl⟩
              rw [← hP2] at d2' d3 ⊢
              clear hwb hP2
              go_quiet (fail)
              have hb9 : Below wb.heap.size wb (wb.drewN nq) := ⟨rfl, rfl, rfl, by rw [heap_drewN]; exact Nat.le_refl _, fun k _ => by rw [heap_drewN]⟩
              have HSC := Hid.mk (HSB.out.grown hb9)
              clear hb9 c0 c1 c2 c3 d0 d1 d2' d3 heq heq2 HSB
              go_wp2
              go_roundw
              case rel => exact ⟨i + 1, by have := HLT.out; omega, by go_num, HSC⟩
              case measure => have := HLT.out; simp [intOf]; omega
            · have hge6 : (6 : Int) ≤ (i : Int) := by omega
              go_wp2
              go_ret
              exact ⟨rfl, by rw [← HB.out]; exact HS.out.one.bel⟩
set_option maxRecDepth 100000 in
theorem lifted (os : Os) (started : os.Started) (H : Type) (enc : TypeId × Value → H) :
    ReturnsInHanded {} Try.checked os 5 .any (Rows.sheetCopiesSpec.pre6 enc Try.prog Try.f5 Rows.sheetCopiesRow.domain false) (Rows.sheetCopiesSpec.post enc Try.prog Try.f5 false true false false) := by
  refine returnsInHanded_of_change (C := Try.checked) own started (by kernel_rfl) Try.func5
    (ChangeSpec.witness6 (enc := enc) (C := Try.checked) false ⟨#[], #[.agg #[.bool false, .string .empty, .bool false, .string .empty, .bool false, .string .empty, .bool false, .string .empty, .bool false, .string .empty, .bool false, .string .empty], .slice none 0 0, .slice none 0 0], []⟩ 8 (by kernel_rfl) (by kernel_rfl) (by kernel_rfl) (by kernel_rfl)) ?_
  intro W base args ds gs before hval0 hW hcnd _
  have hval : ∀ (j : Nat) t v, Try.f5.params[j]? = some t → args[j]? = some v → Value.okWide Try.prog W .any base t v := hval0
  have hW' := hW
  obtain ⟨p, q, hA0, hV, rfl, hfz, hnd⟩ := hW
  have hA : DataW.TrodAll enc Try.prog W 0 (fun _ => true) true Try.f5.params.toList args.toList ds p := hA0
  rw [Try.params5] at hA hval
  obtain ⟨v0, vs0, d0, ds0, p0, q0, hargs, rfl, rfl, h0, r0⟩ := trodAll_cons hA
  obtain ⟨v1, vs1, d1, ds1, p1, q1, rfl, rfl, rfl, h1, r1⟩ := trodAll_cons r0
  obtain ⟨v2, vs2, d2, ds2, p2, q2, rfl, rfl, rfl, h2, r2⟩ := trodAll_cons r1
  obtain ⟨rfl, rfl, rfl⟩ := trodAll_nil r2
  obtain rfl : args = #[v0, v1, v2] := by cases args; simp_all
  obtain ⟨rfl, rfl⟩ := trodVars_none hV
  obtain ⟨ca0, rfl, hz0⟩ := okWide_arr Try.underlying24 (hval 0 24 v0 rfl rfl)
  have lt0 : ∀ x ∈ p0, x.block < W.heap.size := by obtain ⟨m, hm⟩ := h0; exact DataW.trod_lt m _ _ _ hm
  obtain ⟨fi0, e0⟩ : ∃ fi : Nat → Fl, ca0 = sixA fi := by
    obtain ⟨fuel, hf⟩ := h0
    obtain ⟨c, hc⟩ := open_six hf
    exact ⟨c, by simpa [Value.cells] using congrArg List.toArray hc⟩
  subst e0
  have k0 := h0
  obtain ⟨a1, len1, cap1, rfl⟩ := okWide_slice Try.underlying25 (hval 1 25 v1 rfl rfl)
  have k1 := h1
  have lt1 : ∀ x ∈ p1, x.block < W.heap.size := by obtain ⟨m, hm⟩ := k1; exact DataW.trod_lt m _ _ _ hm
  obtain ⟨ts1, w1⟩ : ∃ ts, IsCls W a1 len1 cap1 ts := by
    obtain ⟨fuel, hf⟩ := h1
    exact open_cls hf
  obtain ⟨a2, len2, cap2, rfl⟩ := okWide_slice Try.underlying25 (hval 2 25 v2 rfl rfl)
  have k2 := h2
  have lt2 : ∀ x ∈ p2, x.block < W.heap.size := by obtain ⟨m, hm⟩ := k2; exact DataW.trod_lt m _ _ _ hm
  obtain ⟨ts2, w2⟩ : ∃ ts, IsCls W a2 len2 cap2 ts := by
    obtain ⟨fuel, hf⟩ := h2
    exact open_cls hf
  clear hA0 hval0
  refine (walk fi0 a1 len1 cap1 ts1 a2 len2 cap2 ts2 W w1 w2).mono fun e W' ⟨he, bel⟩ => ?_
  subst he
  exact ⟨_, rfl, _, _, _, [], _, [], hW', trodAll_mk1 (shut_bool Try.underlying4 _), (trodAll_cons_mk (Below.trod laidOut (by kernel_rfl) (of_decide_eq_true (by kernel_rfl)) k0 bel lt0) (trodAll_cons_mk (Below.trod laidOut (by kernel_rfl) (of_decide_eq_true (by kernel_rfl)) k1 bel lt1) (trodAll_cons_mk (Below.trod laidOut (by kernel_rfl) (of_decide_eq_true (by kernel_rfl)) k2 bel lt2) trodAll_mk0))), rfl, bel.frame _, fun h => by cases h⟩

set_option maxRecDepth 100000 in
theorem over : Rows.sheetCopiesRow.holds Try.pinned (OpenSpec.ofChange Rows.sheetCopiesSpec) :=
  OpenClaim.holds_of_wide 5 Try.f5 rfl rfl rfl rfl rfl rfl rfl ⟨rfl, rfl, rfl, rfl, rfl⟩ rfl rfl rfl rfl rfl (by kernel_rfl) Try.func5 (by kernel_rfl)
    (of_decide_eq_true (by kernel_rfl)) (by unfold Func.isWrapper; first | (rw [if_pos (by decide +kernel)]; kernel_rfl) | (rw [if_neg (by decide +kernel)]; exact ⟨rfl, rfl⟩))
    (fun os started H enc _ => lifted os started H enc)

end Go.Proofs.Ytdngehfebmaegaa.sheetCopies

namespace Go.Proofs.Ytdngehfebmaegaa
/-- The statement. -/
theorem sheetCopies_holds : Rows.SheetCopiesSaid := sheetCopies.over
#print axioms sheetCopies_holds
end Go.Proofs.Ytdngehfebmaegaa
