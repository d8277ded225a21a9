/-
  DraftPuts: for every list of writes and every number, the law returns true: behind each write what the number is to be is the document's; All tells what was written, by rising numbers; of a nil draft nothing. No condition.
-/
import Derived.Deep.CutRange
import Derived.Deep.CutBlock
import Derived.Deep.RegionLaw
import Derived.Sort.CutIn
import Derived.Test.YtocdnlnhjfigjaaDfBox
namespace Go.Proofs.Ytocdnlnhjfigjaa.draftPuts
open Go.ChangeShapes Go.WideShapes Go.ChangeAt Go.RowKit Go.Deep Go.Shelf Go.Proofs.Ytocdnlnhjfigjaa.Cel Go.Proofs.Ytocdnlnhjfigjaa.Rng Go.Proofs.Ytocdnlnhjfigjaa.Dft Go.Proofs.Ytocdnlnhjfigjaa.Dft.I
attribute [local go_sem] Oper.semAt_some

set_option maxRecDepth 100000 in
set_option maxHeartbeats 16000000 in
theorem walk (a : Option Addr) (la ca : Nat) (l : List (Int × Int)) (oth : Int) (w : World) (h1 : IsPts w a la ca l) :
    Calls Try.prog 3 #[.slice a la ca, .int .i64 oth] w fun e w' => e = .returned (.bool true) ∧ Below w.heap.size w w' := by
  have H1 := Hid.mk h1
  have HL := Hid.mk h1.1
  clear h1
  obtain ⟨B, hB⟩ : ∃ B, B = w.heap.size := ⟨_, rfl⟩
  have HB := Hid.mk hB
  refine (callsIn_wide (n := 6)).1 ?_
  refine callsIn_of_wp_marks Try.func3 rfl trivial ?_ rfl
  simp only [Try.ntmps3, List.size_toArray, List.length_cons, List.length_nil, Nat.reduceAdd, Nat.reduceSub, Array.replicate_succ, Array.replicate_zero, List.push_toArray, List.append_toArray, List.nil_append, List.cons_append]
  gi_wp2_with fail
  refine ⟨trivial, (callsIn_wide.2 (alive_any _)).mono ?_⟩
  rintro e w1 ⟨rfl, hb1⟩
  have hb0 : Below w.heap.size w ((w.alloc (.cells #[.slice a la ca] 22)).alloc (.cells #[.bool false] 4)) := ((Below.refl _ w).alloc (Nat.le_refl _) _).alloc (by simp) _
  have k0 : ((w.alloc (.cells #[.slice a la ca] 22)).alloc (.cells #[.bool false] 4)).heap[B]? = some (.cells #[.slice a la ca] 22 (0, 0)) := by
    rw [hB]; exact (Below.heap_alloc _ _ _ (by simp)).trans (heap_new _ _)
  have k1 : ((w.alloc (.cells #[.slice a la ca] 22)).alloc (.cells #[.bool false] 4)).heap[B + 1]? = some (.cells #[.bool false] 4 (0, 0)) := by
    have h := heap_new (w.alloc (.cells #[.slice a la ca] 22)) (.cells #[.bool false] 4)
    rw [World.size_alloc] at h
    rw [hB]; exact h
  have K0 := Hid.mk ((hb1.block _ (Array.getElem?_eq_some_iff.1 k0).1).trans k0)
  have K1 := Hid.mk ((hb1.block _ (Array.getElem?_eq_some_iff.1 k1).1).trans k1)
  have HB1 := Hid.mk (hb0.trans (hb1.mono hb0.size))
  rw [← hB] at HB1
  rw [← hB]
  clear hb0 hb1 k0 k1
  have c0 : w1.cell? ⟨B, 0, none⟩ = some (.slice a la ca) := cell_at K0.out rfl
  have c1 : w1.cell? ⟨B + 1, 0, none⟩ = some (.bool false) := cell_at K1.out rfl
  have f1 : w1.frozen? ⟨B + 1, 0, none⟩ = false := free_at K1.out
  clear hB
  by_cases hla : 80 < la
  · have hla2 : (80 : Int) < (la : Int) := by omega
    gi_wp2
    have hc5 := World.cell?_setCell_same' w1 ⟨B + 1, 0, none⟩ (.bool true) (by rw [c1]; rfl)
    refine ⟨.bool true, ?_, rfl, ?_⟩
    · simp [results, Try.f3, go_sem, hc5]
    · rw [← HB.out]
      exact HB1.out.setCell (p := ⟨B + 1, 0, none⟩) (Nat.le_succ _) _
  have hla2 : ¬ (80 : Int) < (la : Int) := by omega
  clear c1 f1
  gi_upto_region 6 with fail
  obtain ⟨b, hb⟩ : ∃ b, b = w1.heap.size := ⟨_, rfl⟩
  obtain ⟨w2, hw2⟩ : ∃ z, z = w1.alloc (.cells #[.slice none 0 0] 27) := ⟨_, rfl⟩
  have hb2 : Below w1.heap.size w1 w2 := by rw [hw2]; exact (Below.refl _ _).alloc (Nat.le_refl _) _
  have hsz : B ≤ w1.heap.size := by have := HB1.out.size; have := HB.out; omega
  obtain ⟨bx, hbx⟩ : ∃ bx : List Bx, bx = [(B, #[.slice a la ca], 22), (B + 1, #[.bool false], 4)] := ⟨_, rfl⟩
  have hst : St B w w2 b (.slice none 0 0) [] bx := by
    refine ⟨by rw [hw2, hb]; exact DraftAt.made w1, fun k hk => ?_, ?_, by rw [← HB.out] at *; exact HB1.out.trans (hb2.mono hsz)⟩
    · rcases hk with e | ⟨x, hx, e⟩
      · omega
      · simp at hx
        subst hx
        cases e
    · rw [hbx]
      exact ((Boxes.nil _).cons ((hb2.block _ (Array.getElem?_eq_some_iff.1 K1.out).1).trans K1.out) (by dsimp only; decide) (by dsimp only; decide)).cons ((hb2.block _ (Array.getElem?_eq_some_iff.1 K0.out).1).trans K0.out) (by dsimp only; decide) (by dsimp only; decide)
  rw [← hb, ← hw2]
  have HST := Hid.mk hst
  have HBX := Hid.mk hbx
  have d0 : w2.cell? ⟨B, 0, none⟩ = some (.slice a la ca) := cell_at ((hb2.block _ (Array.getElem?_eq_some_iff.1 K0.out).1).trans K0.out) rfl
  clear hst hb hw2 hb2 c0 K0 K1 HB1 hsz hbx
  gi_wp2
  gi_loopw [30] (fun idx wr => ∃ (k : Nat) (v : Value), k ≤ la ∧ idx = .int .i64 k ∧ Hid (St B w wr b v (ofL (l.take k)) bx)) (fun idx _ => la - (intOf idx).toNat)
  case atStart => exact ⟨0, _, Nat.zero_le _, rfl, HST⟩
  case round =>
    clear HST d0
    obtain ⟨k, v, hk, rfl, HS⟩ := hrel
    by_cases hlt : k < la
    · have hkl : k < l.length := by have := HL.out; omega
      have HI := Hid.mk (H1.out.carry (by rw [← HB.out]; exact HS.out.below))
      obtain ⟨g, off, e, hat⟩ := HI.out.at_ (by omega)
      subst e
      have c0 := hat.k k hkl
      have c1 := hat.i k hkl
      have HTK : Hid (l.take (k + 1) = l.take k ++ [(l[k]!.1, l[k]!.2)]) := Hid.mk (by rw [getElem!_pos l k hkl, List.take_succ_eq_append_getElem hkl])
      obtain ⟨pi, hpi⟩ : ∃ y, y = l[k]!.1 := ⟨_, rfl⟩
      obtain ⟨pv, hpv⟩ : ∃ y, y = l[k]!.2 := ⟨_, rfl⟩
      rw [← hpi] at c0 HTK
      rw [← hpv] at c1 HTK
      have hgl : g < wr.heap.size := World.block_lt_of_cell? wr _ c0
      have hbW : Below wr.heap.size wr (wr.alloc (.cells #[.int .i64 pi, .int .i64 pv] 29)) := (Below.refl _ _).alloc (Nat.le_refl _) _
      have HSA := Hid.mk (HS.out.grown hbW)
      have HIA := Hid.mk (HI.out.carry hbW)
      have HLN := Hid.mk (length_ofL (l.take k))
      clear hat hpi hpv hkl hbW HI
      gi_wp2_with fail
      refine ⟨trivial, (callsIn_wide.2 (put_any HSA.out.d (by have := HLN.out; rw [List.length_take] at this; omega) pi pv)).mono ?_⟩
      rintro e w3 ⟨rfl, v3, hd3, hw3⟩
      have HS3 := Hid.mk (HSA.out.put hd3 hw3)
      clear hd3 hw3
      have hR : put (ofL (l.take k)) pi pv = ofL (l.take (k + 1)) := by rw [HTK.out, ofL_snoc]
      have hlen : (ofL (l.take (k + 1))).length ≤ 1000000 := by have := length_ofL (l.take (k + 1)); rw [List.length_take] at this; omega
      have hS3 := HS3.out
      rw [hR] at hS3
      have hget := get_yes hS3.d hlen oth
      rw [look_ofL] at hget
      obtain ⟨X, hX⟩ : ∃ X, X = (last (l.take (k + 1)) oth).getD 0 := ⟨_, rfl⟩
      obtain ⟨Y, hY⟩ : ∃ Y, Y = (last (l.take (k + 1)) oth).isSome := ⟨_, rfl⟩
      rw [← hX, ← hY] at hget
      have HS3' := Hid.mk hS3
      have HGET := Hid.mk hget
      have HX := Hid.mk hX
      have HY := Hid.mk hY
      clear hR hlen hS3 hget hX hY HS3
      gi_wp2_with fail
      refine ⟨trivial, (callsIn_wide.2 HGET.out).mono ?_⟩
      rintro e w4 ⟨rfl, hb4⟩
      have HS4 := Hid.mk (HS3'.out.grown hb4)
      clear hb4 HGET HS3'
      have hbx4 := HS4.out.bx
      rw [HBX.out] at hbx4
      have d0 : w4.cell? ⟨B, 0, none⟩ = some (.slice (some ⟨g, off, none⟩) la ca) := cell_at (hbx4 _ List.mem_cons_self).1 rfl
      have hcap : la ≤ ca := H1.out.2.1
      have hk1 : (k : Int) < 80 := by omega
      have hIT := (H1.out.carry (w' := w4) (by rw [← HB.out]; exact HS4.out.below)).take (k + 1) (by omega)
      have href := refGet_any hIT (by omega) oth
      rw [← HX.out, ← HY.out] at href
      have HREF := Hid.mk href
      clear hbx4 hIT href
      gi_wp2_with fail
      refine ⟨trivial, (callsIn_wide.2 HREF.out).mono ?_⟩
      rintro e w5 ⟨rfl, hw5⟩
      rw [hw5]
      clear hw5 w5 d0 c0 c1 HREF
      gi_wp2
      go_roundw
      case rel => exact ⟨k + 1, v3, by omega, by go_num, HS4⟩
      case measure => simp [intOf]; omega
    · have HLT : Hid (l.take k = l) := Hid.mk (by rw [show k = l.length by have := HL.out; omega, List.take_length])
      have hle : (la : Int) ≤ (k : Int) := by omega
      have hS := HS.out
      rw [HLT.out] at hS
      have HSE := Hid.mk hS
      have hbx4 := hS.bx
      rw [HBX.out] at hbx4
      have d0 : wr.cell? ⟨B, 0, none⟩ = some (.slice a la ca) := cell_at (hbx4 _ List.mem_cons_self).1 rfl
      have HI := Hid.mk (H1.out.carry (w' := wr) (by rw [← HB.out]; exact hS.below))
      clear HS hS hbx4 HLT
      gi_wp2_with fail
      refine ⟨trivial, (callsIn_wide.2 (refNumbers_any HI.out (by omega))).mono ?_⟩
      rintro e w6 ⟨⟨v6, rfl, hown⟩, hb6⟩
      obtain ⟨NS, hNS⟩ : ∃ NS, NS = nums l := ⟨_, rfl⟩
      rw [← hNS] at hown
      obtain ⟨ua, uc, rfl⟩ := row_shape hown
      obtain ⟨N, hN⟩ : ∃ N, N = NS.length := ⟨_, rfl⟩
      have HS6 := Hid.mk (HSE.out.grown hb6)
      have ho6 : w6.ownsRow 0 3 1 (.slice ua N uc) NS.length (nuC NS) := by rw [hN]; exact owns_zero hown
      have HO6 := Hid.mk ho6
      have HNS := Hid.mk hNS
      have HN := Hid.mk hN
      have hbl : B ≤ w6.heap.size := HS6.out.size
      rw [← hN]
      clear hown hb6 hNS d0 HSE HI hN ho6
      obtain ⟨K, hK⟩ : ∃ K, K = w6.heap.size := ⟨_, rfl⟩
      obtain ⟨w7, hw7⟩ : ∃ z, z = (w6.alloc (.cells #[.slice ua N uc] 34)).alloc (.cells #[.int .i64 0] 3) := ⟨_, rfl⟩
      have hb7 : Below w6.heap.size w6 w7 := by rw [hw7]; exact ((Below.refl _ _).alloc (Nat.le_refl _) _).alloc (by simp) _
      have hk0 : w7.heap[K]? = some (.cells #[.slice ua N uc] 34 (0, 0)) := by rw [hw7, hK]; exact (Below.heap_alloc _ _ _ (by simp)).trans (heap_new _ _)
      have hk1' : w7.heap[K + 1]? = some (.cells #[.int .i64 0] 3 (0, 0)) := by
        have h := heap_new (w6.alloc (.cells #[.slice ua N uc] 34)) (.cells #[.int .i64 0] 3)
        rw [World.size_alloc] at h
        rw [hw7, hK]; exact h
      have hp7 : P2 B w w7 b v (ofL l) bx K (.slice ua N uc) NS 0 := by
        have s7 := HS6.out.grown hb7
        have hf : ∀ x ∈ bx, x.1 < K := fun x hx => by rw [hK]; exact (Array.getElem?_eq_some_iff.1 (HS6.out.bx x hx).1).1
        exact ⟨(s7.more hk0 (by dsimp only; decide) (by dsimp only; decide)).more hk1' (by dsimp only; decide) (by dsimp only; decide), ownsRow_carry HO6.out fun q hq => hb7.block q (HO6.out.lt q hq).2, fun q hq => by rw [hK]; exact (HO6.out.lt q hq).2, hf, by rw [hK]; exact hbl⟩
      have HP7 := Hid.mk hp7
      clear hp7 hk0 hk1' hb7 HS6 HO6 hbl
      gi_wp2_with fail
      rw [← hw7, ← hK]
      refine ⟨trivial, (all_in _ _ _).mono ?_⟩
      rintro e w8 ⟨rfl, hw8⟩
      clear hw7 hK
      obtain ⟨ZS, hZS⟩ : ∃ ZS, ZS = w7.heap.size := ⟨_, rfl⟩
      rw [← hZS]
      have hb8 : Below w7.heap.size w7 w8 := by rw [hw8]; exact (Below.refl _ _).alloc (Nat.le_refl _) _
      have hc8 : w8.cell? ⟨ZS, 0, none⟩ = some (.pointer (some ⟨b, 0, none⟩)) := by rw [hw8, hZS]; exact cell_at (heap_new _ _) rfl
      have HP8 := Hid.mk (HP7.out.grown hb8)
      have HC8 := Hid.mk hc8
      have HLE : Hid ((ofL l).length ≤ 80) := Hid.mk (by have := length_ofL l; have := HL.out; omega)
      obtain ⟨R, hR⟩ : ∃ R, R = ofL l := ⟨_, rfl⟩
      rw [← hR] at HP8 HLE
      have HRR := Hid.mk hR
      have HNR : Hid (NS = R.map (·.1)) := Hid.mk (by rw [HNS.out, hR, map_ofL])
      have HNL : Hid (N = R.length) := Hid.mk (by rw [HN.out, HNR.out, List.length_map])
      clear hw8 hZS hb8 hc8 HP7 hR
      gi_wp2
      refine range_over2 (gf := 19) (lb := #[.pointer (some ⟨ZS, 0, none⟩)]) rfl (enters_of Try.func19 (by kernel_rfl) rfl)
        (all_gives 5 (by omega) _ b v R w8 HC8.out HP8.out.s.d (by have := HLE.out; omega)) (Below.refl _ _) (fun _ _ _ h k => h.trans k) (fun W l r r' hl hr => KT.put hr) (fun _ => rfl)
        (fun (pre : List (Ix R.length)) X => P2 B w X b v R bx K (.slice ua N uc) NS (pre.length : Nat)) (fun _ _ => False)
        (fun s X Y row hs hg hr => hs.kept hg hr HP8.out.s.size) (fun _ _ _ _ h _ _ => h) HP8.out ?round ?done ?stop
      case stop => intro D pre X hD hS hF; exact hF.elim
      case round =>
        intro q pre x X r hl hr hI hgood
        have hlX : q < X.heap.size := (Array.getElem?_eq_some_iff.1 hr).1
        unfold encE
        obtain ⟨J, hJ⟩ : ∃ J, J = pre.length := ⟨_, rfl⟩
        have hxJ : x.1 = J := by rw [hJ]; exact hgood
        have hJR : J < R.length := by rw [← hxJ]; exact x.2
        rw [← hJ] at hI
        rw [hxJ]
        have HLA : Hid (last l R[J]!.1 = some R[J]!.2) := Hid.mk (by rw [← look_ofL, ← HRR.out]; exact look_at HP8.out.s.d.up J hJR)
        have HNJ : Hid (NS[J]! = R[J]!.1) := Hid.mk (by rw [HNR.out, getElem!_pos _ J (by simpa using hJR), getElem!_pos R J hJR]; simp)
        obtain ⟨y0, hy0⟩ : ∃ y, y = R[J]!.1 := ⟨_, rfl⟩
        obtain ⟨y1, hy1⟩ : ∃ y, y = R[J]!.2 := ⟨_, rfl⟩
        rw [← hy0] at HNJ
        rw [← hy0, ← hy1] at HLA
        rw [← hy0, ← hy1]
        have HI := Hid.mk hI
        have HJP : Hid (J = pre.length) := Hid.mk hJ
        have HR := Hid.mk hr
        have hl0 : w8.heap.size ≤ q := hl
        have hJN : J < N := by rw [HNL.out]; exact hJR
        clear hy0 hy1 hgood hI hr hJ hxJ hJR
        gi_wp2
        refine ⟨keeps_refl _ _, KT.refl _, fun r' => ?_⟩
        obtain ⟨Z, hZ⟩ : ∃ Z, Z = X.putObj q (.loop r') := ⟨_, rfl⟩
        have hg1 : X.grownBy Z (some q) := by rw [hZ]; exact grownBy_putObj' _ _ _
        have hPZ := HI.out.kept hg1 (fun p e => by cases e; exact ⟨hl0, _, HR.out, rfl⟩) HP8.out.s.size
        have HPZ := Hid.mk hPZ
        rw [← hZ]
        have hbz := hPZ.bxs
        rw [HBX.out] at hbz
        have d0 : Z.cell? ⟨B, 0, none⟩ = some (.slice a la ca) := cell_at (hbz _ List.mem_cons_self).1 rfl
        have hpz := hPZ.s.below
        rw [HB.out] at hpz
        have href := refGet_any (H1.out.carry hpz) (by omega) y0
        rw [HLA.out] at href
        simp only [Option.getD_some, Option.isSome_some] at href
        have HREF := Hid.mk href
        clear hZ hg1 hPZ hbz hpz href
        gi_wp2_with fail
        refine ⟨trivial, (callsIn_wide.2 HREF.out).mono ?_⟩
        rintro e z2 ⟨rfl, hz2⟩
        rw [hz2]
        clear hz2 z2 HREF
        obtain ⟨gn, cn, e⟩ := row_full HPZ.out.row (by have := HN.out; omega)
        injection e with e1 e2 e3
        subst e1
        have m0 : Z.cell? ⟨K + 1, 0, none⟩ = some (.int .i64 (J : Nat)) := cell_at HPZ.out.kc rfl
        have m1 : Z.frozen? ⟨K + 1, 0, none⟩ = false := free_at HPZ.out.kc
        have m2 : Z.cell? ⟨K, 0, none⟩ = some (.slice (some ⟨gn, 0, none⟩) N uc) := cell_at HPZ.out.uc rfl
        have m3 : Z.cell? ⟨gn, J, none⟩ = some (.int .i64 y0) := by
          have h := HPZ.out.row.cells (g := gn) rfl J _ (nuC_get NS J (by rw [← HN.out]; exact hJN))
          rw [HNJ.out, addP] at h
          exact h
        have hJ2 : ¬ N ≤ J := by omega
        have hJ80 : J < 80 := by have := HNL.out; have := HLE.out; omega
        clear e2 e3 d0
        gi_wp2
        refine ⟨others_set _ _ _ _, KT.set _ HPZ.out.kc (by decide), ?_⟩
        have e1 : (pre ++ [x]).length = J + 1 := by simp; exact HJP.out.symm
        have h := HPZ.out.number ((J + 1 : Nat) : Int)
        dsimp only
        rw [e1]
        simpa using h
      case done =>
        intro D ys W hD hys hI hK
        have hyl : ys.length = N := by have h := congrArg List.length hys; rw [HNL.out]; simpa using h
        rw [hyl] at hI
        have HI := Hid.mk hI
        have HK := Hid.mk hK
        have HDB : Hid (w8.heap.size ≤ D) := Hid.mk hD
        clear hys hI hK hyl hD
        gi_wp2_with fail
        refine ⟨trivial, (all_in _ _ _).mono ?_⟩
        rintro e wb ⟨rfl, hwb⟩
        obtain ⟨ZT, hZT⟩ : ∃ ZT, ZT = W.heap.size := ⟨_, rfl⟩
        rw [← hZT]
        have hbb : Below W.heap.size W wb := by rw [hwb]; exact (Below.refl _ _).alloc (Nat.le_refl _) _
        have hcb : wb.cell? ⟨ZT, 0, none⟩ = some (.pointer none) := by rw [hwb, hZT]; exact cell_at (heap_new _ _) rfl
        have hkb := (hbb.block _ (Array.getElem?_eq_some_iff.1 HK.out).1).trans HK.out
        have HIb := Hid.mk (HI.out.grown hbb)
        have HKb := Hid.mk hkb
        have HCb := Hid.mk hcb
        have HDb : Hid (D < wb.heap.size) := Hid.mk (Array.getElem?_eq_some_iff.1 hkb).1
        clear hwb hZT hbb hcb hkb HI HK
        gi_wp2
        refine range_over2 (gf := 19) (lb := #[.pointer (some ⟨ZT, 0, none⟩)]) rfl (enters_of Try.func19 (by kernel_rfl) rfl)
          (nil_gives 5 _ wb HCb.out) (Below.refl _ _) (fun _ _ _ _ _ => trivial) (fun _ _ _ _ _ _ => trivial) (fun _ => rfl)
          (fun (pre : List Unit) X => P2 B w X b v R bx K (.slice ua N uc) NS (N : Nat) ∧ X.heap[D]? = some (.deferred (some []))) (fun _ _ => False)
          (fun s X Y row hs hg hr => ⟨hs.1.kept hg hr HIb.out.s.size, (hg.block D (Array.getElem?_eq_some_iff.1 hs.2).1 (fun e => by have := (hr D e.symm).1; have := HDb.out; omega)).trans hs.2⟩) (fun _ _ _ _ h _ _ => h) ⟨HIb.out, HKb.out⟩ ?round ?done ?stop
        case stop => intro D pre X hD hS hF; exact hF.elim
        case round => intro l pre x X r hl hr hI hgood; exact hgood.elim
        case done =>
          rintro D2 ys W2 hD2 hys ⟨hI, hkD⟩ hK2
          have HI2 := Hid.mk hI
          have HKD := Hid.mk hkD
          have HK2 := Hid.mk hK2
          have HD2 := Hid.mk hD2
          clear hys hI hkD hK2 hD2
          gi_wp2_with fail
          refine ⟨trivial, (callsIn_wide.2 (get_nil 0 W2)).mono ?_⟩
          rintro e W3 ⟨rfl, hW3⟩
          rw [hW3]
          clear hW3 W3
          have hb3 := HI2.out.bxs
          rw [HBX.out] at hb3
          have hres := (hb3 (B + 1, #[.bool false], 4) (by simp)).1
          have d1 : W2.cell? ⟨K + 1, 0, none⟩ = some (.int .i64 (N : Nat)) := cell_at HI2.out.kc rfl
          have d2 : W2.cell? ⟨K, 0, none⟩ = some (.slice ua N uc) := cell_at HI2.out.uc rfl
          have cr : W2.cell? ⟨B + 1, 0, none⟩ = some (.bool false) := cell_at hres rfl
          have fr : W2.frozen? ⟨B + 1, 0, none⟩ = false := free_at hres
          have HCR := Hid.mk cr
          have hlen := len_yes (HI2.out.s.d.keep (w' := W2.drew) (fun _ _ => rfl))
          rw [← HNL.out] at hlen
          have HLEN := Hid.mk hlen
          have HBW : Hid (Below B w W2) := Hid.mk HI2.out.s.below
          have HBS : Hid (B + 1 < W2.heap.size) := Hid.mk (Array.getElem?_eq_some_iff.1 hres).1
          have hfar : B + 1 < K := HI2.out.far (B + 1, #[.bool false], 4) (by rw [HBX.out]; simp)
          have e1 : (W2.setCell ⟨B + 1, 0, none⟩ (.bool true)).drew.cell? ⟨K + 1, 0, none⟩ = some (.int .i64 (N : Nat)) := (World.cell?_setCell_far _ _ _ _ (show B + 1 ≠ K + 1 by omega)).trans d1
          have e2 : (W2.setCell ⟨B + 1, 0, none⟩ (.bool true)).drew.cell? ⟨K, 0, none⟩ = some (.slice ua N uc) := (World.cell?_setCell_far _ _ _ _ (show B + 1 ≠ K by omega)).trans d2
          clear hb3 hres hlen
          gi_wp2_with fail
          refine Code.wpIn_mono NoPanic.imp ?_
          refine wpIn_wide.2 ?_
          go_region_held3 (fun wx => (wx.cell? ⟨K + 1, 0, none⟩ = some (.int .i64 (N : Nat)) ∧ wx.cell? ⟨K, 0, none⟩ = some (.slice ua N uc)))
            (first
              | exact ⟨d1, d2⟩
              | exact ⟨e1, e2⟩)
            (first
              | (go_at_call_of 12 (Value.pointer (some ⟨b, 0, none⟩)); refine HLEN.out.mono ?_; rintro e z1 ⟨rfl, rfl⟩)
              | (go_at_call 12; refine (len_nil _).mono ?_; rintro e z3 ⟨rfl, rfl⟩)
              | (go_at_call 7; refine (put_nil _ _ _).mono ?_; rintro e z2 ⟨rfl, rfl⟩)
              | (go_at_call 13; refine (copy_nil _).mono ?_; rintro e z4 ⟨rfl, rfl⟩))
          refine NoPanic.normal ?_
          obtain ⟨Wz, hWz⟩ : ∃ z, z = (W2.setCell ⟨B + 1, 0, none⟩ (.bool true)).drew := ⟨_, rfl⟩
          have HWZ := Hid.mk hWz
          rw [← hWz]
          clear d1 d2 e1 e2 cr fr hfar hWz
          gi_wp2
          have hcz : Wz.cell? ⟨B + 1, 0, none⟩ = some (.bool true) := by rw [HWZ.out]; exact World.cell?_setCell_same' W2 ⟨B + 1, 0, none⟩ (.bool true) (by rw [HCR.out]; rfl)
          have hK' : Wz.heap[D2]? = some (.deferred (some [])) := by rw [HWZ.out]; exact (KeepsOthers.setCell W2 ⟨B + 1, 0, none⟩ (.bool true)).same D2 _ HK2.out rfl
          have hKD : Wz.heap[D]? = some (.deferred (some [])) := by rw [HWZ.out]; exact (KeepsOthers.setCell W2 ⟨B + 1, 0, none⟩ (.bool true)).same D _ HKD.out rfl
          refine ⟨by simp, .inl ⟨_, _, rfl, run_takeDeferred hK', ?_⟩⟩
          have hc5 := cell_kept hcz (grownBy_putObj' _ D2 (.deferred none)) (fun r e => by cases e; exact ⟨_, hK', rfl⟩)
          have hbz : Below w.heap.size w Wz := by
            rw [HWZ.out, ← HB.out]
            exact (HBW.out.setCell (p := ⟨B + 1, 0, none⟩) (Nat.le_succ _) (.bool true)).drew
          have hwb : w.heap.size ≤ wb.heap.size := by rw [← HB.out]; exact HIb.out.s.size
          have hw8 : w.heap.size ≤ w8.heap.size := by rw [← HB.out]; exact HP8.out.s.size
          have hb5 := hbz.trans (belowK_b (w := w) (Nat.le_refl _) _ D2 _ (.deferred none) (Nat.le_trans hwb HD2.out) hK' rfl rfl)
          have hK6 : (Wz.putObj D2 (.deferred none)).heap[D]? = some (.deferred (some [])) := by
            have hne : D2 ≠ D := by have := HDb.out; have := HD2.out; omega
            simp only [World.putObj]
            rw [Array.getElem?_setIfInBounds_ne hne]
            exact hKD
          refine ⟨by simp, .inl ⟨_, _, rfl, run_takeDeferred hK6, ?_⟩⟩
          have hc6 := cell_kept hc5 (grownBy_putObj' _ D (.deferred none)) (fun r e => by cases e; exact ⟨_, hK6, rfl⟩)
          refine ⟨.bool true, ?_, rfl, hb5.trans (belowK_b (w := w) (Nat.le_refl _) _ D _ _ (Nat.le_trans hw8 HDB.out) hK6 rfl rfl)⟩
          simp [results, Try.f3, go_sem, hc6]

set_option maxRecDepth 100000 in
theorem lifted (os : Os) (started : os.Started) (H : Type) (enc : TypeId × Value → H) :
    ReturnsInHanded {} Try.checked os 3 .any (Rows.draftPutsSpec.pre6 enc Try.prog Try.f3 Rows.draftPutsRow.domain false) (Rows.draftPutsSpec.post enc Try.prog Try.f3 false true false false) := by
  refine returnsInHanded_of_change (C := Try.checked) own started (by kernel_rfl) Try.func3
    (ChangeSpec.witness6 (enc := enc) (C := Try.checked) false ⟨#[], #[.slice none 0 0, .int .i64 0], []⟩ 8 (by kernel_rfl) (by kernel_rfl) (by kernel_rfl) (by kernel_rfl)) ?_
  intro W base args ds gs before hval0 hW hcnd _
  have hval : ∀ (j : Nat) t v, Try.f3.params[j]? = some t → args[j]? = some v → Value.okWide Try.prog W .any base t v := hval0
  have hW' := hW
  obtain ⟨p, q, hA0, hV, rfl, hfz, hnd⟩ := hW
  have hA : DataW.TrodAll enc Try.prog W 0 (fun _ => true) true Try.f3.params.toList args.toList ds p := hA0
  rw [Try.params3] at hA hval
  obtain ⟨v0, vs0, d0, ds0, p0, q0, hargs, rfl, rfl, h0, r0⟩ := trodAll_cons hA
  obtain ⟨v1, vs1, d1, ds1, p1, q1, rfl, rfl, rfl, h1, r1⟩ := trodAll_cons r0
  obtain ⟨rfl, rfl, rfl⟩ := trodAll_nil r1
  obtain rfl : args = #[v0, v1] := by cases args; simp_all
  obtain ⟨rfl, rfl⟩ := trodVars_none hV
  obtain ⟨a0, len0, cap0, rfl⟩ := okWide_slice Try.underlying22 (hval 0 22 v0 rfl rfl)
  have k0 := h0
  have lt0 : ∀ x ∈ p0, x.block < W.heap.size := by obtain ⟨m, hm⟩ := k0; exact DataW.trod_lt m _ _ _ hm
  obtain ⟨ts0, w0⟩ : ∃ ts, IsPts W a0 len0 cap0 ts := by
    obtain ⟨fuel, hf⟩ := h0
    exact open_pts hf
  obtain ⟨a1, rfl, rfl, rfl, w1⟩ := open_int Try.underlying3 (hval 1 3 v1 rfl rfl) h1
  clear hA0 hval0
  refine (walk a0 len0 cap0 ts0 a1 W w0).mono fun e W' ⟨he, bel⟩ => ?_
  subst he
  exact ⟨_, rfl, _, _, _, [], _, [], hW', trodAll_mk1 (shut_bool Try.underlying4 _), (trodAll_cons_mk (Below.trod laidOut (by kernel_rfl) (of_decide_eq_true (by kernel_rfl)) k0 bel lt0) (trodAll_cons_mk (shut_int Try.underlying3 w1) trodAll_mk0)), rfl, bel.frame _, fun h => by cases h⟩

set_option maxRecDepth 100000 in
theorem over : Rows.draftPutsRow.holds Try.pinned (OpenSpec.ofChange Rows.draftPutsSpec) :=
  OpenClaim.holds_of_wide 3 Try.f3 rfl rfl rfl rfl rfl rfl rfl ⟨rfl, rfl, rfl, rfl, rfl⟩ rfl rfl rfl rfl rfl (by kernel_rfl) Try.func3 (by kernel_rfl)
    (of_decide_eq_true (by kernel_rfl)) (by unfold Func.isWrapper; first | (rw [if_pos (by decide +kernel)]; kernel_rfl) | (rw [if_neg (by decide +kernel)]; exact ⟨rfl, rfl⟩))
    (fun os started H enc _ => lifted os started H enc)

end Go.Proofs.Ytocdnlnhjfigjaa.draftPuts

namespace Go.Proofs.Ytocdnlnhjfigjaa
/-- The statement. -/
theorem draftPuts_holds : Rows.DraftPutsSaid := draftPuts.over
#print axioms draftPuts_holds
end Go.Proofs.Ytocdnlnhjfigjaa
