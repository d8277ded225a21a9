/-
  DraftOrder: for every list of writes and every number of places by which they are moved on, the law returns true: the order of writes at unlike numbers plays no part. No condition.
-/
import Derived.Deep.CutRange
import Derived.Deep.CutBlock
import Derived.Deep.RegionLaw
import Derived.Sort.CutIn
import Derived.Test.YtocdnlnhjfigjaaDfSame
namespace Go.Proofs.Ytocdnlnhjfigjaa.draftOrder
open Go.ChangeShapes Go.WideShapes Go.ChangeAt Go.RowKit Go.Deep Go.Shelf Go.Proofs.Ytocdnlnhjfigjaa.Cel Go.Proofs.Ytocdnlnhjfigjaa.Rng Go.Proofs.Ytocdnlnhjfigjaa.Dft Go.Proofs.Ytocdnlnhjfigjaa.Dft.I
attribute [local go_sem] Oper.semAt_some

/-- Two drafts, the boxes, and a row of numbers. -/
structure P4 (B : Nat) (w W : World) (b : Nat) (v : Value) (R : List (Int × Int)) (c : Nat) (u : Value) (Q : List (Int × Int)) (bx : List Bx) (n : Value) (NS : List Int) : Prop where
  s : St2 B w W b v R c u Q bx
  row : W.ownsRow 0 3 1 n NS.length (nuC NS)

section
variable {B b c : Nat} {w W W' : World} {v u n : Value} {R R' Q : List (Int × Int)} {bx : List Bx} {NS : List Int}

theorem P4.swap (h : P4 B w W b v R c u Q bx n NS) : P4 B w W c u Q b v R bx n NS := ⟨h.s.swap, h.row⟩
theorem P4.grown (h : P4 B w W b v R c u Q bx n NS) (hb : Below W.heap.size W W') : P4 B w W' b v R c u Q bx n NS := ⟨h.s.grown hb, ownsRow_carry h.row fun k hk => hb.block k (h.row.lt k hk).2⟩
theorem P4.put {v' : Value} (h : P4 B w W b v R c u Q bx n NS) (hd : DraftAt W' b v' R') (hw : Wrote (Foot b [v]) (Foot b [v']) W W') : P4 B w W' b v' R' c u Q bx n NS :=
  ⟨h.s.put hd hw, ownsRow_carry h.row fun k hk => hw.block k (h.row.lt k hk).2 (fun e => by
    obtain ⟨cs, hc⟩ := own_at h.row hk
    rcases e with e | ⟨y, hy, e⟩
    · rw [e, h.s.s.d.at_] at hc
      injection hc with hc
      injection hc with _ hc
      exact absurd hc (by decide)
    · simp at hy
      subst hy
      obtain ⟨cs', hc'⟩ := own_at h.s.s.d.owns e
      rw [hc'] at hc
      injection hc with hc
      injection hc with _ hc
      exact absurd hc (by decide))⟩
end

set_option maxRecDepth 100000 in
set_option maxHeartbeats 16000000 in
theorem walk (a : Option Addr) (la ca : Nat) (l : List (Int × Int)) (at_ : Int) (w : World) (h1 : IsPts w a la ca l) :
    Calls Try.prog 5 #[.slice a la ca, .int .i64 at_] w fun e w' => e = .returned (.bool true) ∧ Below w.heap.size w w' := by
  have H1 := Hid.mk h1
  have HL := Hid.mk h1.1
  clear h1
  obtain ⟨B, hB⟩ : ∃ B, B = w.heap.size := ⟨_, rfl⟩
  have HB := Hid.mk hB
  refine (callsIn_wide (n := 6)).1 ?_
  refine callsIn_of_wp_marks Try.func5 rfl trivial ?_ rfl
  simp only [Try.ntmps5, List.size_toArray, List.length_cons, List.length_nil, Nat.reduceAdd, Nat.reduceSub, Array.replicate_succ, Array.replicate_zero, List.push_toArray, List.append_toArray, List.nil_append, List.cons_append]
  gi_wp2_with fail
  refine ⟨trivial, (callsIn_wide.2 (alive_any _)).mono ?_⟩
  rintro e w1 ⟨rfl, hb1⟩
  have hb0 : Below w.heap.size w (w.alloc (.cells #[.bool false] 4)) := (Below.refl _ w).alloc (Nat.le_refl _) _
  have k0 : (w.alloc (.cells #[.bool false] 4)).heap[B]? = some (.cells #[.bool false] 4 (0, 0)) := by rw [hB]; exact heap_new _ _
  have K0 := Hid.mk ((hb1.block _ (Array.getElem?_eq_some_iff.1 k0).1).trans k0)
  have HB1 := Hid.mk (hb0.trans (hb1.mono hb0.size))
  rw [← hB] at HB1
  rw [← hB]
  clear hb0 hb1 k0 hB
  have c1 : w1.cell? ⟨B, 0, none⟩ = some (.bool false) := cell_at K0.out rfl
  have f1 : w1.frozen? ⟨B, 0, none⟩ = false := free_at K0.out
  by_cases hok : la ≤ 80 ∧ 0 ≤ at_ ∧ at_ ≤ (la : Int)
  case neg =>
    have hend : ∀ Wz : World, Wz = w1.setCell ⟨B, 0, none⟩ (.bool true) → Wz.cell? ⟨B, 0, none⟩ = some (.bool true) ∧ Below w.heap.size w Wz := fun Wz e => by
      rw [e]
      refine ⟨World.cell?_setCell_same' w1 ⟨B, 0, none⟩ (.bool true) (by rw [c1]; rfl), ?_⟩
      rw [← HB.out]
      exact HB1.out.setCell (p := ⟨B, 0, none⟩) (Nat.le_refl _) _
    have HEND := Hid.mk hend
    clear hend
    by_cases h1 : 80 < la
    · have h2 : (80 : Int) < (la : Int) := by omega
      clear hok
      gi_wp2
      refine ⟨.bool true, ?_, rfl, (HEND.out _ rfl).2⟩
      simp [results, Try.f5, go_sem, (HEND.out _ rfl).1]
    · have h2 : ¬ (80 : Int) < (la : Int) := by omega
      by_cases h3 : at_ < 0
      · clear hok
        gi_wp2
        refine ⟨.bool true, ?_, rfl, (HEND.out _ rfl).2⟩
        simp [results, Try.f5, go_sem, (HEND.out _ rfl).1]
      · have h4 : (la : Int) < at_ := by omega
        clear hok
        gi_wp2
        refine ⟨.bool true, ?_, rfl, (HEND.out _ rfl).2⟩
        simp [results, Try.f5, go_sem, (HEND.out _ rfl).1]
  case pos =>
  obtain ⟨hla, hat0, hat1⟩ := hok
  obtain ⟨A, rfl⟩ : ∃ A : Nat, at_ = (A : Int) := ⟨at_.toNat, by omega⟩
  have hAl : A ≤ la := by omega
  have h2 : ¬ (80 : Int) < (la : Int) := by omega
  have h3 : ¬ (la : Int) < (A : Int) := by omega
  have q1 : decide ((80 : Int) < (la : Int)) = false := decide_eq_false h2
  have q2 : decide ((A : Int) < 0) = false := by simp
  have q3 : decide (la < A) = false := by simpa using hAl
  clear c1 f1 hat0 hat1
  gi_upto_region 6 with fail
  obtain ⟨b, hb⟩ : ∃ b, b = w1.heap.size := ⟨_, rfl⟩
  obtain ⟨bx, hbx⟩ : ∃ bx : List Bx, bx = [(b + 1 + 1, #[.pointer (some ⟨b + 1, 0, none⟩)], 24), (B, #[.bool false], 4)] := ⟨_, rfl⟩
  have hsz : B ≤ w1.heap.size := by have := HB1.out.size; have := HB.out; omega
  have hst : St2 B w (((w1.alloc (.cells #[.slice none 0 0] 27)).alloc (.cells #[.slice none 0 0] 27)).alloc (.cells #[.pointer (some ⟨b + 1, 0, none⟩)] 24)) b (.slice none 0 0) [] (b + 1) (.slice none 0 0) [] bx := by
    have nofoot : ∀ x k, Foot x [(.slice none 0 0 : Value)] k → k = x := fun x k hk => by
      rcases hk with e | ⟨y, hy, e⟩
      · exact e
      · simp at hy
        subst hy
        cases e
    have s0 : St B w (w1.alloc (.cells #[.slice none 0 0] 27)) b (.slice none 0 0) [] [(B, #[.bool false], 4)] := by
      refine ⟨by rw [hb]; exact DraftAt.made w1, fun k hk => by have := nofoot _ _ hk; omega, (Boxes.nil _).cons ?_ (by dsimp only; decide) (by dsimp only; decide), ?_⟩
      · exact (Below.heap_alloc _ _ _ (Array.getElem?_eq_some_iff.1 K0.out).1).trans K0.out
      · rw [← HB.out] at *; exact HB1.out.trans (((Below.refl _ w1).alloc (Nat.le_refl _) _).mono hsz)
    have s1 := s0.beside (W' := (w1.alloc (.cells #[.slice none 0 0] 27)).alloc (.cells #[.slice none 0 0] 27)) (c := b + 1) (u := .slice none 0 0) (Q := []) ((Below.refl _ _).alloc (Nat.le_refl _) _)
      (by have h := DraftAt.made (w1.alloc (.cells #[.slice none 0 0] 27)); rw [World.size_alloc] at h; rw [hb]; exact h) (fun k hk => by have := nofoot _ _ hk; rw [World.size_alloc]; omega)
    rw [hbx]
    refine (s1.grown ((Below.refl _ _).alloc (Nat.le_refl _) _)).more (x := (b + 1 + 1, #[.pointer (some ⟨b + 1, 0, none⟩)], 24)) ?_ (by dsimp only; decide) (by dsimp only; decide)
    have h := heap_new ((w1.alloc (.cells #[.slice none 0 0] 27)).alloc (.cells #[.slice none 0 0] 27)) (.cells #[.pointer (some ⟨b + 1, 0, none⟩)] 24)
    rw [World.size_alloc, World.size_alloc, ← hb] at h
    exact h
  rw [← hb]
  obtain ⟨w2, hw2⟩ : ∃ z, z = ((w1.alloc (.cells #[.slice none 0 0] 27)).alloc (.cells #[.slice none 0 0] 27)).alloc (.cells #[.pointer (some ⟨b + 1, 0, none⟩)] 24) := ⟨_, rfl⟩
  rw [← hw2] at hst ⊢
  have HBX := Hid.mk hbx
  have HST := Hid.mk hst
  obtain ⟨NS, hNS⟩ : ∃ NS, NS = nums l := ⟨_, rfl⟩
  obtain ⟨N, hN⟩ : ∃ N, N = NS.length := ⟨_, rfl⟩
  obtain ⟨f, hf⟩ : ∃ f : Int → Int, f = fun i => (last l i).getD 0 := ⟨_, rfl⟩
  have HNS := Hid.mk hNS
  have HN := Hid.mk hN
  have HF : Hid (∀ (z : World) (i : Int), Below B w z → Calls Try.prog 9 #[.slice a la ca, .int .i64 i] z fun e w' => e = .returned (.tuple #[.int .i64 (f i), .bool (last l i).isSome]) ∧ w' = z) := Hid.mk (fun z i hz => by
    rw [hf]
    exact refGet_any (H1.out.carry (by rw [← HB.out]; exact hz)) (by omega) i)
  have HNL : Hid (N ≤ la) := Hid.mk (by rw [hN, hNS, length_nums]; have := length_ofL l; have := HL.out; omega)
  have HI2 := Hid.mk (H1.out.carry (w' := w2) (by rw [← HB.out]; exact hst.s.below))
  clear hst hb hw2 hsz hbx K0 HB1 hNS hN hf
  gi_wp2_with fail
  refine ⟨trivial, (callsIn_wide.2 (refNumbers_any HI2.out (by omega))).mono ?_⟩
  rintro e w3 ⟨⟨v3, rfl, hown⟩, hb3⟩
  rw [← HNS.out, ← HN.out] at hown
  obtain ⟨ua, uc, rfl⟩ := row_shape hown
  have hp3 : P4 B w w3 b (.slice none 0 0) [] (b + 1) (.slice none 0 0) [] bx (.slice ua N uc) NS := ⟨HST.out.grown hb3, by rw [← HN.out]; exact owns_zero hown⟩
  have HP3 := Hid.mk hp3
  have hN80 : N ≤ 80 := by have := HNL.out; omega
  clear hown hb3 hp3 HST HI2
  gi_wp2
  gi_loopw [42] (fun idx wr => ∃ (j : Nat) (v : Value), j ≤ N ∧ idx = .int .i64 j ∧ Hid (P4 B w wr b v (ofL (Dft.wr f (NS.take j))) (b + 1) (.slice none 0 0) [] bx (.slice ua N uc) NS)) (fun idx _ => N - (intOf idx).toNat)
  case atStart => exact ⟨0, _, Nat.zero_le _, rfl, HP3⟩
  case round =>
    clear HP3
    obtain ⟨j, v, hj, rfl, HP⟩ := hrel
    by_cases hlt : j < N
    · have hjl : j < NS.length := by have := HN.out; omega
      obtain ⟨gn, cn, e⟩ := row_full HP.out.row (by omega)
      injection e with e1 e2 e3
      subst e1
      clear e2
      have d0 : wr.cell? ⟨gn, j, none⟩ = some (.int .i64 NS[j]!) := by
        have h := HP.out.row.cells (g := gn) rfl j _ (nuC_get NS j hjl)
        rwa [addP] at h
      have HTK : Hid (ofL (Dft.wr f (NS.take (j + 1))) = put (ofL (Dft.wr f (NS.take j))) NS[j]! (f NS[j]!)) := Hid.mk (by
        rw [getElem!_pos NS j hjl, List.take_succ_eq_append_getElem hjl]
        have : Dft.wr f (NS.take j ++ [NS[j]]) = Dft.wr f (NS.take j) ++ [(NS[j], f NS[j])] := by simp only [Dft.wr, List.map_append, List.map_cons, List.map_nil]
        rw [this, ofL_snoc])
      obtain ⟨y, hy⟩ : ∃ y, y = NS[j]! := ⟨_, rfl⟩
      rw [← hy] at d0 HTK
      have HLN := Hid.mk (length_ofL (Dft.wr f (NS.take j)))
      clear hy e3
      gi_wp2_with fail
      refine ⟨trivial, (callsIn_wide.2 (HF.out wr y HP.out.s.s.below)).mono ?_⟩
      rintro e w5 ⟨rfl, hw5⟩
      rw [hw5]
      clear hw5 w5
      gi_wp2_with fail
      refine ⟨trivial, (callsIn_wide.2 (put_any HP.out.s.s.d (by have := HLN.out; rw [wr_length, List.length_take] at this; omega) y (f y))).mono ?_⟩
      rintro e w6 ⟨rfl, v6, hd6, hw6⟩
      have hP6 := HP.out.put hd6 hw6
      rw [← HTK.out] at hP6
      have HP6 := Hid.mk hP6
      clear hd6 hw6 hP6 d0
      gi_wp2
      go_roundw
      case rel => exact ⟨j + 1, v6, by omega, by go_num, HP6⟩
      case measure => simp [intOf]; omega
    · have HLT : Hid (NS.take j = NS) := Hid.mk (by rw [show j = NS.length by have := HN.out; omega, List.take_length])
      have hle : (N : Int) ≤ (j : Int) := by omega
      have hP := HP.out
      rw [HLT.out] at hP
      have HSE := Hid.mk hP.s
      have HI3 := Hid.mk (H1.out.carry (w' := wr) (by rw [← HB.out]; exact hP.s.s.below))
      clear HP hP HLT
      obtain ⟨R, hR⟩ : ∃ R, R = ofL (Dft.wr f NS) := ⟨_, rfl⟩
      rw [← hR] at HSE
      have HRR := Hid.mk hR
      clear hR
      gi_wp2_with fail
      refine ⟨trivial, (callsIn_wide.2 (refNumbers_any HI3.out (by omega))).mono ?_⟩
      rintro e w3 ⟨⟨v3, rfl, hown⟩, hb3⟩
      rw [← HNS.out, ← HN.out] at hown
      obtain ⟨ub, ud, rfl⟩ := row_shape hown
      have hp3 : P4 B w w3 (b + 1) (.slice none 0 0) [] b v R bx (.slice ub N ud) NS := ⟨(HSE.out.grown hb3).swap, by rw [← HN.out]; exact owns_zero hown⟩
      have HP3 := Hid.mk hp3
      clear hown hb3 hp3 HSE HI3
      gi_wp2
      gi_loopw [61] (fun idx wr => ∃ (j : Nat) (u : Value), j ≤ N ∧ idx = .int .i64 j ∧ Hid (P4 B w wr (b + 1) u (ofL (Dft.wr f ((List.range j).map (back NS A)))) b v R bx (.slice ub N ud) NS)) (fun idx _ => N - (intOf idx).toNat)
      case atStart => exact ⟨0, _, Nat.zero_le _, rfl, HP3⟩
      case round =>
        clear HP3
        obtain ⟨j, u, hj, rfl, HP⟩ := hrel
        by_cases hlt : j < N
        · have hjl : j < NS.length := by have := HN.out; omega
          obtain ⟨gn, cn, e⟩ := row_full HP.out.row (by omega)
          injection e with e1 e2 e3
          subst e1
          clear e2 e3
          have hTN : (N - 1 - j + A) % N < N := Nat.mod_lt _ (by omega)
          obtain ⟨y, hy⟩ : ∃ y, y = back NS A j := ⟨_, rfl⟩
          have d0 : wr.cell? ⟨gn, (N - 1 - j + A) % N, none⟩ = some (.int .i64 y) := by
            have h := HP.out.row.cells (g := gn) rfl ((N - 1 - j + A) % N) _ (nuC_get NS _ (by have := HN.out; omega))
            rw [addP] at h
            rw [h, hy]
            unfold back
            rw [← HN.out]
          have HTK : Hid (ofL (Dft.wr f ((List.range (j + 1)).map (back NS A))) = put (ofL (Dft.wr f ((List.range j).map (back NS A)))) y (f y)) := Hid.mk (by
            rw [List.range_succ, List.map_append]
            have : Dft.wr f ((List.range j).map (back NS A) ++ [j].map (back NS A)) = Dft.wr f ((List.range j).map (back NS A)) ++ [(y, f y)] := by simp only [Dft.wr, List.map_append, List.map_cons, List.map_nil, hy]
            rw [this, ofL_snoc])
          have hlw : (ofL (Dft.wr f ((List.range j).map (back NS A)))).length ≤ 1000000 := by
            have := length_ofL (Dft.wr f ((List.range j).map (back NS A)))
            rw [wr_length, List.length_map, List.length_range] at this
            omega
          have HLW := Hid.mk hlw
          have hbz := HP.out.s.s.bx
          rw [HBX.out] at hbz
          have p0 : wr.cell? ⟨b + 1 + 1, 0, none⟩ = some (.pointer (some ⟨b + 1, 0, none⟩)) := cell_at (hbz _ List.mem_cons_self).1 rfl
          have hn0 : ¬ (N : Int) = 0 := by omega
          have hA80 : A ≤ 80 := by omega
          have hx0 : (0 : Int) ≤ ((N : Int) - 1 - (j : Int) + (A : Int)) % (N : Int) := Int.emod_nonneg _ hn0
          have hx1 : ((N : Int) - 1 - (j : Int) + (A : Int)) % (N : Int) < (N : Int) := Int.emod_lt_of_pos _ (by omega)
          clear hy hlw hbz
          gi_wp2_with fail
          refine ⟨trivial, (callsIn_wide.2 (HF.out wr y HP.out.s.s.below)).mono ?_⟩
          rintro e w5 ⟨rfl, hw5⟩
          rw [hw5]
          clear hw5 w5
          gi_wp2_with fail
          refine ⟨trivial, (callsIn_wide.2 (put_any HP.out.s.s.d HLW.out y (f y))).mono ?_⟩
          rintro e w6 ⟨rfl, v6, hd6, hw6⟩
          have hP6 := HP.out.put hd6 hw6
          rw [← HTK.out] at hP6
          have HP6 := Hid.mk hP6
          clear hd6 hw6 hP6 d0 p0
          gi_wp2
          go_roundw
          case rel => exact ⟨j + 1, v6, by omega, by go_num, HP6⟩
          case measure => simp [intOf]; omega
        · have hle : (N : Int) ≤ (j : Int) := by omega
          have hP := HP.out.s
          rw [show ofL (Dft.wr f ((List.range j).map (back NS A))) = R by
            rw [HRR.out, show j = NS.length by have := HN.out; omega]
            exact wr_same f (fun i => back_all NS A i)] at hP
          have HS := Hid.mk hP.swap
          have hRl : R.length ≤ 80 := by rw [HRR.out]; have := length_ofL (Dft.wr f NS); rw [wr_length] at this; have := HN.out; omega
          have HRL := Hid.mk hRl
          obtain ⟨M, hM⟩ : ∃ M, M = R.length := ⟨_, rfl⟩
          have hla_ := fun n => len_yes (hP.o.keep (w' := wr.drewN n) (fun q _ => by rw [heap_drewN]))
          have hlb_ := fun n => len_yes (hP.s.d.keep (w' := wr.drewN n) (fun q _ => by rw [heap_drewN]))
          rw [← hM] at hla_ hlb_
          have HLA := Hid.mk hla_
          have HLB := Hid.mk hlb_
          have HM := Hid.mk hM
          have hbz := hP.s.bx
          rw [HBX.out] at hbz
          have p0 : wr.cell? ⟨b + 1 + 1, 0, none⟩ = some (.pointer (some ⟨b + 1, 0, none⟩)) := cell_at (hbz _ List.mem_cons_self).1 rfl
          clear HP hP hla_ hlb_ hM hbz hRl
          gi_wp2_with fail
          refine wpIn_wide.2 ?_
          go_quiet (first
            | (go_at_call_of 12 (Value.pointer (some ⟨b, 0, none⟩)); exact Calls.quiet_of_same (HLA.out _))
            | (go_at_call 12; exact Calls.quiet_of_same (HLB.out _)))
          have HS2 := Hid.mk (HS.out.grown (W' := wr.drewN nq) ⟨rfl, rfl, rfl, Nat.le_refl _, fun _ _ => rfl⟩)
          obtain ⟨W0, hW0⟩ : ∃ z, z = wr.drewN nq := ⟨_, rfl⟩
          rw [← hW0] at HS2 ⊢
          clear hW0 HS HLA HLB p0
          gi_wp2_with fail
          refine ⟨trivial, (all_in _ _ _).mono ?_⟩
          rintro e w8 ⟨rfl, hw8⟩
          obtain ⟨ZS, hZS⟩ : ∃ ZS, ZS = W0.heap.size := ⟨_, rfl⟩
          rw [← hZS]
          have hb8 : Below W0.heap.size W0 w8 := by rw [hw8]; exact (Below.refl _ _).alloc (Nat.le_refl _) _
          have hc8 : w8.cell? ⟨ZS, 0, none⟩ = some (.pointer (some ⟨b, 0, none⟩)) := by rw [hw8, hZS]; exact cell_at (heap_new _ _) rfl
          have HP8 := Hid.mk (HS2.out.grown hb8)
          have HC8 := Hid.mk hc8
          clear hw8 hZS hb8 hc8 HS2
          gi_wp2
          refine range_over2 (gf := 19) (lb := #[.pointer (some ⟨ZS, 0, none⟩)]) rfl (enters_of Try.func19 (by kernel_rfl) rfl)
            (all_gives 5 (by omega) _ b v R w8 HC8.out HP8.out.s.d (by have := HRL.out; omega)) (Below.refl _ _) (fun _ _ _ h k => h.trans k) (fun W l r r' hl hr => KT.put hr) (fun _ => rfl)
            (fun (pre : List (Ix R.length)) X => St2 B w X b v R (b + 1) u R bx) (fun _ _ => False)
            (fun s X Y row hs hg hr => hs.kept hg hr HP8.out.s.size) (fun _ _ _ _ h _ _ => h) HP8.out ?round ?done ?stop
          case stop => intro D pre X hD hS hF; exact hF.elim
          case round =>
            intro q pre x X r hl hr hI hgood
            unfold encE
            obtain ⟨J, hJ⟩ : ∃ J, J = x.1 := ⟨_, rfl⟩
            have hJR : J < R.length := by rw [hJ]; exact x.2
            rw [← hJ]
            have hlk := look_at HP8.out.s.d.up J hJR
            obtain ⟨y0, hy0⟩ : ∃ y, y = R[J]!.1 := ⟨_, rfl⟩
            obtain ⟨y1, hy1⟩ : ∃ y, y = R[J]!.2 := ⟨_, rfl⟩
            rw [← hy0, ← hy1] at hlk
            rw [← hy0, ← hy1]
            have HLK := Hid.mk hlk
            have HI := Hid.mk hI
            have HR := Hid.mk hr
            have hl0 : w8.heap.size ≤ q := hl
            clear hy0 hy1 hgood hI hr hJ hJR hlk
            gi_wp2
            refine ⟨keeps_refl _ _, KT.refl _, fun r' => ?_⟩
            obtain ⟨Z, hZ⟩ : ∃ Z, Z = X.putObj q (.loop r') := ⟨_, rfl⟩
            have hg1 : X.grownBy Z (some q) := by rw [hZ]; exact grownBy_putObj' _ _ _
            have hPZ := HI.out.kept hg1 (fun p e => by cases e; exact ⟨hl0, _, HR.out, rfl⟩) HP8.out.s.size
            have HPZ := Hid.mk hPZ
            rw [← hZ]
            have hbz := hPZ.s.bx
            rw [HBX.out] at hbz
            have p0 : Z.cell? ⟨b + 1 + 1, 0, none⟩ = some (.pointer (some ⟨b + 1, 0, none⟩)) := cell_at (hbz _ List.mem_cons_self).1 rfl
            have hget := get_yes hPZ.o (by have := HRL.out; omega) y0
            rw [HLK.out] at hget
            simp only [Option.getD_some, Option.isSome_some] at hget
            have HGET := Hid.mk hget
            clear hZ hg1 hPZ hbz hget
            gi_wp2_with fail
            refine ⟨trivial, (callsIn_wide.2 HGET.out).mono ?_⟩
            rintro e z2 ⟨rfl, hb2⟩
            have HP2 := Hid.mk (HPZ.out.grown hb2)
            have HKF := Hid.mk (others_below hb2 w8.heap.size)
            have HKT : Hid (KT Z z2) := Hid.mk (KT.of_below hb2)
            clear hb2 p0 HGET
            gi_wp2
            exact ⟨HKF.out, HKT.out, HP2.out⟩
          case done =>
            intro D ys W2 hD hys hI hK2
            have hb3 := hI.s.bx
            rw [HBX.out] at hb3
            have hres := (hb3 (B, #[.bool false], 4) (by simp)).1
            have cr : W2.cell? ⟨B, 0, none⟩ = some (.bool false) := cell_at hres rfl
            have fr : W2.frozen? ⟨B, 0, none⟩ = false := free_at hres
            have HCR := Hid.mk cr
            have HBW : Hid (Below B w W2) := Hid.mk hI.s.below
            have HDEF := Hid.mk hK2
            clear hb3 hres hys hI hK2
            gi_wp2
            have hcz : (W2.setCell ⟨B, 0, none⟩ (.bool true)).cell? ⟨B, 0, none⟩ = some (.bool true) := World.cell?_setCell_same' W2 ⟨B, 0, none⟩ (.bool true) (by rw [HCR.out]; rfl)
            have hK' : (W2.setCell ⟨B, 0, none⟩ (.bool true)).heap[D]? = some (.deferred (some [])) := (KeepsOthers.setCell W2 ⟨B, 0, none⟩ (.bool true)).same D _ HDEF.out rfl
            refine ⟨by simp, .inl ⟨_, _, rfl, run_takeDeferred hK', ?_⟩⟩
            have hc5 := cell_kept hcz (grownBy_putObj' _ D (.deferred none)) (fun r e => by cases e; exact ⟨_, hK', rfl⟩)
            have hbz : Below w.heap.size w (W2.setCell ⟨B, 0, none⟩ (.bool true)) := by
              rw [← HB.out]
              exact HBW.out.setCell (p := ⟨B, 0, none⟩) (Nat.le_refl _) (.bool true)
            have hw8 : w.heap.size ≤ w8.heap.size := by rw [← HB.out]; exact HP8.out.s.size
            refine ⟨.bool true, ?_, rfl, hbz.trans (belowK_b (w := w) (Nat.le_refl _) _ D _ (.deferred none) (Nat.le_trans hw8 hD) hK' rfl rfl)⟩
            simp [results, Try.f5, go_sem, hc5]

set_option maxRecDepth 100000 in
theorem lifted (os : Os) (started : os.Started) (H : Type) (enc : TypeId × Value → H) :
    ReturnsInHanded {} Try.checked os 5 .any (Rows.draftOrderSpec.pre6 enc Try.prog Try.f5 Rows.draftOrderRow.domain false) (Rows.draftOrderSpec.post enc Try.prog Try.f5 false true false false) := by
  refine returnsInHanded_of_change (C := Try.checked) own started (by kernel_rfl) Try.func5
    (ChangeSpec.witness6 (enc := enc) (C := Try.checked) false ⟨#[], #[.slice none 0 0, .int .i64 0], []⟩ 8 (by kernel_rfl) (by kernel_rfl) (by kernel_rfl) (by kernel_rfl)) ?_
  intro W base args ds gs before hval0 hW hcnd _
  have hval : ∀ (j : Nat) t v, Try.f5.params[j]? = some t → args[j]? = some v → Value.okWide Try.prog W .any base t v := hval0
  have hW' := hW
  obtain ⟨p, q, hA0, hV, rfl, hfz, hnd⟩ := hW
  have hA : DataW.TrodAll enc Try.prog W 0 (fun _ => true) true Try.f5.params.toList args.toList ds p := hA0
  rw [Try.params5] at hA hval
  obtain ⟨v0, vs0, d0, ds0, p0, q0, hargs, rfl, rfl, h0, r0⟩ := trodAll_cons hA
  obtain ⟨v1, vs1, d1, ds1, p1, q1, rfl, rfl, rfl, h1, r1⟩ := trodAll_cons r0
  obtain ⟨rfl, rfl, rfl⟩ := trodAll_nil r1
  obtain rfl : args = #[v0, v1] := by cases args; simp_all
  obtain ⟨rfl, rfl⟩ := trodVars_none hV
  obtain ⟨a0, len0, cap0, rfl⟩ := okWide_slice Try.underlying22 (hval 0 22 v0 rfl rfl)
  have k0 := h0
  have lt0 : ∀ x ∈ p0, x.block < W.heap.size := by obtain ⟨m, hm⟩ := k0; exact DataW.trod_lt m _ _ _ hm
  obtain ⟨ts0, w0⟩ : ∃ ts, IsPts W a0 len0 cap0 ts := by
    obtain ⟨fuel, hf⟩ := h0
    exact open_pts hf
  obtain ⟨a1, rfl, rfl, rfl, w1⟩ := open_int Try.underlying3 (hval 1 3 v1 rfl rfl) h1
  clear hA0 hval0
  refine (walk a0 len0 cap0 ts0 a1 W w0).mono fun e W' ⟨he, bel⟩ => ?_
  subst he
  exact ⟨_, rfl, _, _, _, [], _, [], hW', trodAll_mk1 (shut_bool Try.underlying4 _), (trodAll_cons_mk (Below.trod laidOut (by kernel_rfl) (of_decide_eq_true (by kernel_rfl)) k0 bel lt0) (trodAll_cons_mk (shut_int Try.underlying3 w1) trodAll_mk0)), rfl, bel.frame _, fun h => by cases h⟩

set_option maxRecDepth 100000 in
theorem over : Rows.draftOrderRow.holds Try.pinned (OpenSpec.ofChange Rows.draftOrderSpec) :=
  OpenClaim.holds_of_wide 5 Try.f5 rfl rfl rfl rfl rfl rfl rfl ⟨rfl, rfl, rfl, rfl, rfl⟩ rfl rfl rfl rfl rfl (by kernel_rfl) Try.func5 (by kernel_rfl)
    (of_decide_eq_true (by kernel_rfl)) (by unfold Func.isWrapper; first | (rw [if_pos (by decide +kernel)]; kernel_rfl) | (rw [if_neg (by decide +kernel)]; exact ⟨rfl, rfl⟩))
    (fun os started H enc _ => lifted os started H enc)

end Go.Proofs.Ytocdnlnhjfigjaa.draftOrder

namespace Go.Proofs.Ytocdnlnhjfigjaa
/-- The statement. -/
theorem draftOrder_holds : Rows.DraftOrderSaid := draftOrder.over
#print axioms draftOrder_holds
end Go.Proofs.Ytocdnlnhjfigjaa
