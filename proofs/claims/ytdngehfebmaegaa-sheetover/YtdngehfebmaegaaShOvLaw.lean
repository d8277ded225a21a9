/-
  SheetOver: for all six files, every row of calls and every version, the law returns true: what was written, set over the tome, gives the very files that were over it, of that version; the others stay as they were. No condition.
-/
import Derived.Deep.CutRange
import Derived.Deep.CutBlock
import Derived.Test.YtdngehfebmaegaaShScript
namespace Go.Proofs.Ytdngehfebmaegaa.sheetOver
open Go.ChangeShapes Go.WideShapes Go.ChangeAt Go.RowKit Go.Deep Go.Proofs.Ytdngehfebmaegaa.Cel Go.Proofs.Ytdngehfebmaegaa.Dft Go.Proofs.Ytdngehfebmaegaa.Dft.F Go.Proofs.Ytdngehfebmaegaa.Sht
open Tom (CanF TomeAt)

set_option maxRecDepth 100000 in
set_option maxHeartbeats 16000000 in
theorem walk (f : Nat → Fl) (a : Option Addr) (la ca : Nat) (l : List Cl) (ver : Int) (w : World) (h1 : IsCls w a la ca l) :
    Calls Try.prog 4 #[.agg (sixA f), .slice a la ca, .int .i64 ver] w fun e w' => e = .returned (.bool true) ∧ Below w.heap.size w w' := by
  have H1 := Hid.mk h1
  have HL := Hid.mk h1.1
  clear h1
  obtain ⟨w0, hw0⟩ : ∃ z, z = w.alloc (.cells (sixA f) 24) := ⟨_, rfl⟩
  have hb0 := (Below.refl w.heap.size w).alloc (Nat.le_refl _) (.cells (sixA f) 24)
  have hn0 := heap_new w (.cells (sixA f) 24)
  rw [← hw0] at hb0 hn0
  have HB0 := Hid.mk hb0
  have HN0 := Hid.mk hn0
  clear hb0 hn0
  go_enter Try.func4, Try.ntmps4
  go_wp2_with fail
  rw [← hw0]
  clear hw0
  refine (aliveS w0).mono ?_
  rintro e w1 ⟨rfl, hb1⟩
  have HN1 := Hid.mk ((hb1.block _ (Array.getElem?_eq_some_iff.1 HN0.out).1).trans HN0.out)
  have HB1 := Hid.mk (HB0.out.trans (hb1.mono HB0.out.size))
  clear hb1 HN0 HB0
  go_wp2_with (refine wpList_load_row rfl 24 _ rfl w.heap.size rfl 24 (sixA f) (0, 0) _ HN1.out Try.underlying24 rfl (size_six f) ?_)
  refine (build_any f w1).mono ?_
  rintro e w2 (⟨rfl, hb2, hbad⟩ | ⟨t, b, g, s, d, m, rfl, hdu, hb2, hlo, hcan⟩)
  · have HB2 := Hid.mk (HB1.out.trans (hb2.mono HB1.out.size))
    clear hb2 hbad
    go_wp2
    go_ret
    exact ⟨rfl, HB2.out⟩
  have hld := LD.start HB1.out.size HB1.out hdu hb2 hlo
  have HLD := Hid.mk hld
  obtain ⟨B, hB⟩ : ∃ B, B = w.heap.size := ⟨_, rfl⟩
  rw [← hB] at HLD
  have HB := Hid.mk hB
  clear hdu hb2 hlo hcan hld HN1 HB1 hB
  obtain ⟨T, hT⟩ : ∃ T, T = tomeF f := ⟨_, rfl⟩
  have HTV : Hid (∀ j : Nat, j < 6 → T[j]!.2 = (j : Int)) := Hid.mk (fun j hj => by rw [hT, tome_ver f j hj])
  rw [← hT] at HLD
  clear hT
  by_cases hla : 60 < la
  · have hla2 : (60 : Int) < (la : Int) := by omega
    go_wp2
    go_ret
    exact ⟨rfl, by rw [← HB.out]; exact HLD.out.bel⟩
  have hla2 : ¬ (60 : Int) < (la : Int) := by omega
  go_upto_region 6 with fail
  go_wp2
  go_loopw [12, 37] (fun _ idx wr => ∃ (k : Nat) (v : Value), k ≤ la ∧ idx = .int .i64 k ∧ Hid (LD B w wr t b g T s d v (stps T [] (l.take k)) m)) (fun _ idx _ => la - (intOf idx).toNat)
  case atStart => exact ⟨0, _, Nat.zero_le _, rfl, HLD⟩
  case round =>
    clear HLD
    obtain ⟨k, v, hk, rfl, HS⟩ := hrel
    by_cases hlt : k < la
    · have hkl : k < l.length := by have := HL.out; omega
      have HI := Hid.mk (H1.out.carry (by rw [← HB.out]; exact HS.out.bel))
      obtain ⟨ga, off, e, hat⟩ := HI.out.here (by omega)
      subst e
      obtain ⟨c0, c1, c2, c3⟩ := hat.k k hkl
      have hgl := World.block_lt_of_cell? wr _ c0
      obtain ⟨c, hc⟩ : ∃ c, c = l[k]?.getD ⟨0, 0, 0, 0⟩ := ⟨_, rfl⟩
      rw [← hc] at c0 c1 c2 c3
      have HTK : Hid (stps T [] (l.take (k + 1)) = stp T (stps T [] (l.take k)) c) := Hid.mk (by
        rw [hc, List.getElem?_eq_getElem hkl, Option.getD_some, List.take_succ_eq_append_getElem hkl, stps_snoc])
      have HDO := Hid.mk (fun (z : World) (v : Value) (hz : Du z t b g T s d v (stps T [] (l.take k)) m) => does_any hz c)
      obtain ⟨ck, cx, cy, cz⟩ := c
      dsimp only at c0 c1 c2 c3 HDO
      have HSA := Hid.mk (HS.out.grown ((Below.refl _ wr).alloc (Nat.le_refl _) (.cells #[.int .i64 ck, .int .i64 cx, .int .i64 cy, .int .u8 cz.toNat] 34)))
      clear hat hkl HI hc
      go_wp2_with fail
      refine (HDO.out _ _ HSA.out.du).mono ?_
      rintro e w3 ⟨rfl, v3, hd3, hw3⟩
      have hS3 := HSA.out.did hd3 hw3
      rw [← HTK.out] at hS3
      have HS3 := Hid.mk hS3
      clear hd3 hw3 hS3 c0 c1 c2 c3
      go_wp2
      go_roundw
      case rel => exact ⟨k + 1, v3, by omega, by go_num, HS3⟩
      case measure => simp [intOf]; omega
    · have hle : (la : Int) ≤ (k : Int) := by omega
      obtain ⟨R, hR⟩ : ∃ R, R = stps T [] (l.take k) := ⟨_, rfl⟩
      have hS := HS.out
      rw [← hR] at hS
      have HSR := Hid.mk hS
      have HOV := Hid.mk (over_any hS.du.sh ver)
      clear HS hS hR
      go_wp2_with fail
      refine HOV.out.mono ?_
      rintro e w4 ⟨rfl, ht4, hb4⟩
      have hm4 : MdAt w4 m T R := (hb4.block m HSR.out.du.md.lt (fun e => block_ne HSR.out.du.md HSR.out.du.sh.tome.row.row (by decide) (by simpa using e))).trans HSR.out.du.md
      have hbl4 : Below B w w4 := HSR.out.bel.trans (hb4.below (B := B) HSR.out.size (fun x hx => by
        have : x = g := by simpa using hx
        rw [this]; exact HSR.out.log))
      have hov : ∀ j : Nat, j < 6 → (oT T R ver)[j]! = (ovr T R j, if (Dft.look R j).isSome then ver else (j : Int)) := fun j hj => by
        rw [over_at HSR.out.du.sh.tome.len HSR.out.du.sh.fit ver j hj, HTV.out j hj]
      obtain ⟨TT, hTT⟩ : ∃ z, z = oT T R ver := ⟨_, rfl⟩
      rw [← hTT] at ht4 hov
      have HOT := Hid.mk hov
      have HCN := Hid.mk (cnt_all R HSR.out.du.sh.fit)
      obtain ⟨N, hN⟩ : ∃ N, N = R.length := ⟨_, rfl⟩
      rw [← hN] at HCN ⊢
      have HST : Hid (TomeAt w4 t b g TT ∧ MdAt w4 m T R ∧ Below B w w4) := ⟨ht4, hm4, hbl4⟩
      clear ht4 hb4 hm4 hbl4 hov hTT hN HSR HOV
      go_wp2
      go_loopw [14, 15, 16, 17, 18, 51] (fun cv _ _ _ _ idx wr => ∃ j : Nat, j ≤ 6 ∧ idx = .int .i64 j ∧ cv = .int .i64 (cnt R j : Nat) ∧ Hid (TomeAt wr t b g TT ∧ MdAt wr m T R ∧ Below B w wr)) (fun _ _ _ _ _ idx _ => 6 - (intOf idx).toNat)
      case atStart => exact ⟨0, Nat.zero_le _, rfl, rfl, HST⟩
      case round =>
        clear HST
        obtain ⟨j, hj, rfl, rfl, HS⟩ := hrel
        have hcl := cnt_le R j
        by_cases hlt : j < 6
        · have hlt2 : (j : Int) < 6 := by omega
          have hget := Tom.get_yes HS.out.1 j hlt
          rw [HOT.out j hlt] at hget
          have HLT := Hid.mk hlt
          obtain ⟨⟨q, x⟩, hq⟩ : ∃ q, q = ovr T R j := ⟨_, rfl⟩
          rw [← hq] at hget
          have HQ := Hid.mk hq
          have hcs : cnt R (j + 1) = cnt R j + if (Dft.look R (j : Int)).isSome then 1 else 0 := rfl
          obtain ⟨CN, hCN⟩ : ∃ c, c = cnt R j := ⟨_, rfl⟩
          rw [← hCN] at hcs hcl ⊢
          clear hCN
          obtain ⟨IS, hIS⟩ : ∃ i, i = (Dft.look R (j : Int)).isSome := ⟨_, rfl⟩
          rw [← hIS] at hget hcs
          have HIS := Hid.mk hIS
          try dsimp only at hget
          have hm5 := fun (z : World) (hz : MdAt z m T R) => And.intro (MD.files hz j hlt) (MD.wrote hz j hlt)
          try dsimp only at hm5
          rw [← hq, ← hIS] at hm5
          try dsimp only at hm5
          have HM5 := Hid.mk hm5
          have heq := eq_rf (q, x) (q, x)
          rw [decide_eq_true rfl] at heq
          try dsimp only at heq
          cases IS with
          | true =>
            rw [if_pos rfl] at hget hcs
            have HCS := Hid.mk hcs
            have HG := Hid.mk hget
            clear hget hcs hq hIS hm5
            go_wp2_with fail
            refine HG.out.mono ?_
            rintro e w5 ⟨rfl, hb5⟩
            have hb6 := hb5.alloc hb5.size (.cells #[.bool q, .string x] 23)
            have hn6 := heap_new w5 (.cells #[.bool q, .string x] 23)
            have HST : Hid (TomeAt (w5.alloc (.cells #[.bool q, .string x] 23)) t b g TT ∧ MdAt (w5.alloc (.cells #[.bool q, .string x] 23)) m T R ∧ Below B w (w5.alloc (.cells #[.bool q, .string x] 23))) :=
              ⟨HS.out.1.grown hb6, HS.out.2.1.grown hb6, HS.out.2.2.trans (hb6.mono (by have := HS.out.2.2.size; have := HB.out; omega))⟩
            obtain ⟨⟨c0, c1⟩, c2⟩ := HM5.out _ HST.out.2.1
            have d0 := cell_at (i := 0) hn6 rfl
            have d1 := cell_at (i := 1) hn6 rfl
            obtain ⟨w6, hw6⟩ : ∃ z, z = w5.alloc (.cells #[.bool q, .string x] 23) := ⟨_, rfl⟩
            rw [← hw6] at HST c0 c1 c2 d0 d1
            clear hb5 hb6 hn6 HG HS
            go_upto_region 18 with fail
            rw [← hw6]
            obtain ⟨P, hP⟩ : ∃ P, P = w5.heap.size := ⟨_, rfl⟩
            rw [← hP] at d0 d1 ⊢
            clear hw6 hP
            go_upto_region 21 with fail
            go_quiet (fail)
            have hb9 : Below w6.heap.size w6 (w6.drewN nq) := ⟨rfl, rfl, rfl, by rw [heap_drewN]; exact Nat.le_refl _, fun k _ => by rw [heap_drewN]⟩
            have HST9 : Hid (TomeAt (w6.drewN nq) t b g TT ∧ MdAt (w6.drewN nq) m T R ∧ Below B w (w6.drewN nq)) := ⟨HST.out.1.grown hb9, HST.out.2.1.grown hb9, HST.out.2.2.trans (hb9.mono (by have := HST.out.2.2.size; have := HB.out; omega))⟩
            clear hb9 c0 c1 c2 d0 d1 heq HST
            go_wp2
            go_roundw
            case rel => exact ⟨j + 1, by have := HLT.out; omega, by go_num, by rw [HCS.out]; go_num, HST9⟩
            case measure => have := HLT.out; simp [intOf]; omega
          | false =>
            rw [if_neg (by decide)] at hget hcs
            have HCS := Hid.mk hcs
            have HG := Hid.mk hget
            clear hget hcs hq hIS hm5
            go_wp2_with fail
            refine HG.out.mono ?_
            rintro e w5 ⟨rfl, hb5⟩
            have hb6 := hb5.alloc hb5.size (.cells #[.bool q, .string x] 23)
            have hn6 := heap_new w5 (.cells #[.bool q, .string x] 23)
            have HST : Hid (TomeAt (w5.alloc (.cells #[.bool q, .string x] 23)) t b g TT ∧ MdAt (w5.alloc (.cells #[.bool q, .string x] 23)) m T R ∧ Below B w (w5.alloc (.cells #[.bool q, .string x] 23))) :=
              ⟨HS.out.1.grown hb6, HS.out.2.1.grown hb6, HS.out.2.2.trans (hb6.mono (by have := HS.out.2.2.size; have := HB.out; omega))⟩
            obtain ⟨⟨c0, c1⟩, c2⟩ := HM5.out _ HST.out.2.1
            have d0 := cell_at (i := 0) hn6 rfl
            have d1 := cell_at (i := 1) hn6 rfl
            obtain ⟨w6, hw6⟩ : ∃ z, z = w5.alloc (.cells #[.bool q, .string x] 23) := ⟨_, rfl⟩
            rw [← hw6] at HST c0 c1 c2 d0 d1
            clear hb5 hb6 hn6 HG HS
            go_upto_region 18 with fail
            rw [← hw6]
            obtain ⟨P, hP⟩ : ∃ P, P = w5.heap.size := ⟨_, rfl⟩
            rw [← hP] at d0 d1 ⊢
            clear hw6 hP
            go_upto_region 21 with fail
            go_quiet (fail)
            have hb9 : Below w6.heap.size w6 (w6.drewN nq) := ⟨rfl, rfl, rfl, by rw [heap_drewN]; exact Nat.le_refl _, fun k _ => by rw [heap_drewN]⟩
            have HST9 : Hid (TomeAt (w6.drewN nq) t b g TT ∧ MdAt (w6.drewN nq) m T R ∧ Below B w (w6.drewN nq)) := ⟨HST.out.1.grown hb9, HST.out.2.1.grown hb9, HST.out.2.2.trans (hb9.mono (by have := HST.out.2.2.size; have := HB.out; omega))⟩
            clear hb9 c0 c1 c2 d0 d1 heq HST
            go_wp2
            go_roundw
            case rel => exact ⟨j + 1, by have := HLT.out; omega, by go_num, by rw [HCS.out]; go_num, HST9⟩
            case measure => have := HLT.out; simp [intOf]; omega
        · have hj6 : j = 6 := by omega
          subst hj6
          rw [HCN.out] at hcl ⊢
          go_wp2
          go_ret
          refine ⟨by simp, by rw [← HB.out]; exact HS.out.2.2⟩
set_option maxRecDepth 100000 in
theorem lifted (os : Os) (started : os.Started) (H : Type) (enc : TypeId × Value → H) :
    ReturnsInHanded {} Try.checked os 4 .any (Rows.sheetOverSpec.pre6 enc Try.prog Try.f4 Rows.sheetOverRow.domain false) (Rows.sheetOverSpec.post enc Try.prog Try.f4 false true false false) := by
  refine returnsInHanded_of_change (C := Try.checked) own started (by kernel_rfl) Try.func4
    (ChangeSpec.witness6 (enc := enc) (C := Try.checked) false ⟨#[], #[.agg #[.bool false, .string .empty, .bool false, .string .empty, .bool false, .string .empty, .bool false, .string .empty, .bool false, .string .empty, .bool false, .string .empty], .slice none 0 0, .int .i64 0], []⟩ 8 (by kernel_rfl) (by kernel_rfl) (by kernel_rfl) (by kernel_rfl)) ?_
  intro W base args ds gs before hval0 hW hcnd _
  have hval : ∀ (j : Nat) t v, Try.f4.params[j]? = some t → args[j]? = some v → Value.okWide Try.prog W .any base t v := hval0
  have hW' := hW
  obtain ⟨p, q, hA0, hV, rfl, hfz, hnd⟩ := hW
  have hA : DataW.TrodAll enc Try.prog W 0 (fun _ => true) true Try.f4.params.toList args.toList ds p := hA0
  rw [Try.params4] at hA hval
  obtain ⟨v0, vs0, d0, ds0, p0, q0, hargs, rfl, rfl, h0, r0⟩ := trodAll_cons hA
  obtain ⟨v1, vs1, d1, ds1, p1, q1, rfl, rfl, rfl, h1, r1⟩ := trodAll_cons r0
  obtain ⟨v2, vs2, d2, ds2, p2, q2, rfl, rfl, rfl, h2, r2⟩ := trodAll_cons r1
  obtain ⟨rfl, rfl, rfl⟩ := trodAll_nil r2
  obtain rfl : args = #[v0, v1, v2] := by cases args; simp_all
  obtain ⟨rfl, rfl⟩ := trodVars_none hV
  obtain ⟨ca0, rfl, hz0⟩ := okWide_arr Try.underlying24 (hval 0 24 v0 rfl rfl)
  have lt0 : ∀ x ∈ p0, x.block < W.heap.size := by obtain ⟨m, hm⟩ := h0; exact DataW.trod_lt m _ _ _ hm
  obtain ⟨fi0, e0⟩ : ∃ fi : Nat → Fl, ca0 = sixA fi := by
    obtain ⟨fuel, hf⟩ := h0
    obtain ⟨c, hc⟩ := open_six hf
    exact ⟨c, by simpa [Value.cells] using congrArg List.toArray hc⟩
  subst e0
  have k0 := h0
  obtain ⟨a1, len1, cap1, rfl⟩ := okWide_slice Try.underlying25 (hval 1 25 v1 rfl rfl)
  have k1 := h1
  have lt1 : ∀ x ∈ p1, x.block < W.heap.size := by obtain ⟨m, hm⟩ := k1; exact DataW.trod_lt m _ _ _ hm
  obtain ⟨ts1, w1⟩ : ∃ ts, IsCls W a1 len1 cap1 ts := by
    obtain ⟨fuel, hf⟩ := h1
    exact open_cls hf
  obtain ⟨a2, rfl, rfl, rfl, w2⟩ := open_int Try.underlying3 (hval 2 3 v2 rfl rfl) h2
  clear hA0 hval0
  refine (walk fi0 a1 len1 cap1 ts1 a2 W w1).mono fun e W' ⟨he, bel⟩ => ?_
  subst he
  exact ⟨_, rfl, _, _, _, [], _, [], hW', trodAll_mk1 (shut_bool Try.underlying4 _), (trodAll_cons_mk (Below.trod laidOut (by kernel_rfl) (of_decide_eq_true (by kernel_rfl)) k0 bel lt0) (trodAll_cons_mk (Below.trod laidOut (by kernel_rfl) (of_decide_eq_true (by kernel_rfl)) k1 bel lt1) (trodAll_cons_mk (shut_int Try.underlying3 w2) trodAll_mk0))), rfl, bel.frame _, fun h => by cases h⟩

set_option maxRecDepth 100000 in
theorem over : Rows.sheetOverRow.holds Try.pinned (OpenSpec.ofChange Rows.sheetOverSpec) :=
  OpenClaim.holds_of_wide 4 Try.f4 rfl rfl rfl rfl rfl rfl rfl ⟨rfl, rfl, rfl, rfl, rfl⟩ rfl rfl rfl rfl rfl (by kernel_rfl) Try.func4 (by kernel_rfl)
    (of_decide_eq_true (by kernel_rfl)) (by unfold Func.isWrapper; first | (rw [if_pos (by decide +kernel)]; kernel_rfl) | (rw [if_neg (by decide +kernel)]; exact ⟨rfl, rfl⟩))
    (fun os started H enc _ => lifted os started H enc)

end Go.Proofs.Ytdngehfebmaegaa.sheetOver

namespace Go.Proofs.Ytdngehfebmaegaa
/-- The statement. -/
theorem sheetOver_holds : Rows.SheetOverSaid := sheetOver.over
#print axioms sheetOver_holds
end Go.Proofs.Ytdngehfebmaegaa
