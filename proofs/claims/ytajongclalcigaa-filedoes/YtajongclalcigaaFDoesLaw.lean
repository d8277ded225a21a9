/-
  FileDoes: for every file, place and byte, the law returns true: At, Put, Cut, Make and Good answer what the document says. No condition.
-/
import Derived.Test.YtajongclalcigaaFGrown
namespace Go.Proofs.Ytajongclalcigaa.fileDoes
open Go.ChangeShapes Go.WideShapes Go.ChangeAt Go.RowKit Go.Deep Go.Proofs.Ytajongclalcigaa.Fil

set_option maxRecDepth 100000 in
set_option maxHeartbeats 4000000 in
theorem walk (is : Bool) (s : ByteArray) (at_ : Int) (b : UInt8) (w : World) (_h1 : (Lit.int .i64 at_).wf = true) :
    Calls Try.prog 3 #[.agg #[.bool is, .string s], .int .i64 at_, .int .u8 b.toNat] w fun e w' => e = .returned (.bool true) ∧ Below w.heap.size w w' := by
  have HB := Hid.mk ((Below.refl w.heap.size w).alloc (Nat.le_refl _) (.cells #[.bool is, .string s] 23))
  have HN := Hid.mk (heap_new w (.cells #[.bool is, .string s] 23))
  go_enter Try.func3, Try.ntmps3
  go_wp2_with fail
  refine (alive_any _).mono ?_
  rintro e w1 ⟨rfl, hb1⟩
  have r1 := (hb1.block w.heap.size (by simp)).trans HN.out
  have c0 : w1.cell? ⟨w.heap.size, 0, none⟩ = some (.bool is) := cell_at r1 rfl
  have c1 : w1.cell? ⟨w.heap.size, 1, none⟩ = some (.string s) := cell_at r1 rfl
  have HB1 := Hid.mk (HB.out.trans (hb1.mono (by simp)))
  have HR1 := Hid.mk r1
  have HL1 : Hid (w.heap.size + 1 ≤ w1.heap.size) := Hid.mk (by have := hb1.size; simpa using this)
  clear hb1 r1 HB HN
  obtain ⟨A, hA⟩ : ∃ A, A = w.heap.size := ⟨_, rfl⟩
  have lay : ∀ z, Below (A + 1) w1 z → z.cell? ⟨A, 0, none⟩ = some (.bool is) ∧ z.cell? ⟨A, 1, none⟩ = some (.string s) := by
    intro z hz
    have r1 := HR1.out
    rw [← hA] at r1
    have e1 := (hz.block A (by omega)).trans r1
    exact ⟨cell_at e1 rfl, cell_at e1 rfl⟩
  have LAY := Hid.mk lay
  have HZB : Hid (A + 1 ≤ w1.heap.size) := Hid.mk (by rw [hA]; exact HL1.out)
  rw [← hA] at c0 c1
  clear lay HR1 HL1
  obtain ⟨g, hg⟩ : ∃ g : Bool, (g = true ↔ CanBe is s) := by
    by_cases h : CanBe is s
    · exact ⟨true, by simp [h]⟩
    · exact ⟨false, by simp [h]⟩
  have cg : ∀ z, Calls Try.prog 9 #[.agg #[.bool is, .string s]] z fun e z' => e = .returned (.bool g) ∧ Below z.heap.size z z' := by
    intro z
    cases g with
    | true => exact good_yes (hg.1 rfl) z
    | false => exact good_no (fun k => by have := hg.2 k; cases this) z
  have CG := Hid.mk cg
  have HG := Hid.mk hg
  clear cg hg
  by_cases hs : 32 < s.size
  · have hq : decide ((s.size : Int) ≤ 32) = false := decide_eq_false (by omega)
    have eg : g = false := by
      cases g with
      | false => rfl
      | true =>
        have := (HG.out.1 rfl).le
        omega
    rw [eg] at CG
    clear HG eg hs
    go_wp2_with fail
    rw [← hA]
    have HA := Hid.mk hA
    clear hA
    have hne := Wider.some (A + 1) w1
    have k0 : ∀ g : Wider (A + 1) w1, g.z.cell? ⟨A, 0, none⟩ = some (.bool is) := fun g => (LAY.out _ g.h).1
    have k1 : ∀ g : Wider (A + 1) w1, g.z.cell? ⟨A, 1, none⟩ = some (.string s) := fun g => (LAY.out _ g.h).2
    refine wp_region_wider (B := A + 1) (w0 := w1) (by kernel_rfl) (by kernel_rfl) (Below.refl _ w1) ?_
    repeat (go_big_quiet_step ((go_at_call 9; refine (CG.out _).mono ?_; rintro e w6 ⟨rfl, hb6⟩; exact ⟨rfl, ⟨w6, by rename_i g; exact farther HZB.out g.h hb6⟩, rfl⟩)))
    refine wpQuiet_nil ?_
    rintro _ ⟨⟨z, hz⟩, rfl⟩
    obtain ⟨y0, y1⟩ := LAY.out _ hz
    have HBZ := Hid.mk hz
    clear hz k0 k1 hne
    go_wp2_with fail
    refine (CG.out _).mono ?_
    rintro e w3 ⟨rfl, hz3⟩
    have hb3 := farther HZB.out HBZ.out hz3
    obtain ⟨x0, x1⟩ := LAY.out _ hb3
    have HB3 := Hid.mk hb3
    have HBE : Hid (Below w.heap.size w w3) := Hid.mk (HB1.out.trans (hb3.mono (by rw [HA.out]; omega)))
    clear hz3 hb3 y0 y1
    go_wp2
    go_ret
    exact ⟨rfl, HBE.out⟩
  have hq : decide ((s.size : Int) ≤ 32) = true := decide_eq_true (by omega)
  have HS : Hid (s.size ≤ 32) := Hid.mk (by omega)
  clear hs
  cases is with
  | false =>
    by_cases he : s = ⟨#[]⟩
    · have eg : g = true := HG.out.2 (.inr ⟨rfl, he⟩)
      have hc : CanBe false s := .inr ⟨rfl, he⟩
      have HC := Hid.mk hc
      have e2 : s.toList.isEmpty = true := by rw [he, toList_txt]; rfl
      rw [eg] at CG
      clear HG eg he hc
      go_wp2_with fail
      rw [← hA]
      have HA := Hid.mk hA
      clear hA
      have hne := Wider.some (A + 1) w1
      have k0 : ∀ g : Wider (A + 1) w1, g.z.cell? ⟨A, 0, none⟩ = some (.bool false) := fun g => (LAY.out _ g.h).1
      have k1 : ∀ g : Wider (A + 1) w1, g.z.cell? ⟨A, 1, none⟩ = some (.string s) := fun g => (LAY.out _ g.h).2
      refine wp_region_wider (B := A + 1) (w0 := w1) (by kernel_rfl) (by kernel_rfl) (Below.refl _ w1) ?_
      repeat (go_big_quiet_step ((go_at_call 9; refine (CG.out _).mono ?_; rintro e w6 ⟨rfl, hb6⟩; exact ⟨rfl, ⟨w6, by rename_i g; exact farther HZB.out g.h hb6⟩, rfl⟩)))
      refine wpQuiet_nil ?_
      rintro _ ⟨⟨z, hz⟩, rfl⟩
      obtain ⟨y0, y1⟩ := LAY.out _ hz
      have HBZ := Hid.mk hz
      clear hz k0 k1 hne
      go_wp2_with fail
      refine (CG.out _).mono ?_
      rintro e w3 ⟨rfl, hz3⟩
      have hb3 := farther HZB.out HBZ.out hz3
      obtain ⟨x0, x1⟩ := LAY.out _ hb3
      have HB3 := Hid.mk hb3
      have HBE : Hid (Below w.heap.size w w3) := Hid.mk (HB1.out.trans (hb3.mono (by rw [HA.out]; omega)))
      clear hz3 hb3 y0 y1
      clear e2
      obtain ⟨pi, ps, hpc, cp, cpr⟩ := put_both HC.out at_ b
      have cc := fun z => cut_any HC.out at_ z
      have ccr := fun z => refCut_any HC.out at_ z
      have hcc := cutS_can HC.out at_
      obtain ⟨C, hC⟩ : ∃ C, C = cutS false s at_ := ⟨_, rfl⟩
      rw [← hC] at cc ccr hcc
      have CP := Hid.mk cp
      have CPR := Hid.mk cpr
      have CC := Hid.mk cc
      have CCR := Hid.mk ccr
      have HPC := Hid.mk hpc
      have HCC := Hid.mk hcc
      clear hC cp cpr cc ccr hpc hcc
      have hb4 := HB3.out.alloc (Nat.le_trans HZB.out HB3.out.size) (.cells #[.bool false, .string s] 26)
      have n4 := heap_new w3 (.cells #[.bool false, .string s] 26)
      have hlt : A + 1 ≤ w3.heap.size := Nat.le_trans HZB.out HB3.out.size
      obtain ⟨w4, hw4⟩ : ∃ w4, w4 = w3.alloc (.cells #[.bool false, .string s] 26) := ⟨_, rfl⟩
      have z4 : w4.heap.size = w3.heap.size + 1 := by rw [hw4]; simp
      rw [← hw4] at hb4 n4
      obtain ⟨u0, u1⟩ := LAY.out _ hb4
      have HW4 := Hid.mk hw4
      have HB4 := Hid.mk hb4
      have HN4 := Hid.mk n4
      have HZ4 := Hid.mk z4
      have HLT := Hid.mk hlt
      clear hw4 z4 n4 hb4 hlt
      go_wp2_with fail
      rw [← HW4.out]
      obtain ⟨B, hB⟩ : ∃ B, B = w3.heap.size := ⟨_, rfl⟩
      rw [← hB] at HN4 HZ4 HLT ⊢
      have HBB := Hid.mk hB
      have HZB4 : Hid (B + 1 ≤ w4.heap.size) := Hid.mk (by rw [HZ4.out]; exact Nat.le_refl _)
      have HLT2 : Hid (A + 1 ≤ B + 1) := Hid.mk (Nat.le_succ_of_le HLT.out)
      clear hB x0 x1
      have lay2 : ∀ z, Below (B + 1) w4 z → (z.cell? ⟨A, 0, none⟩ = some (.bool false) ∧ z.cell? ⟨A, 1, none⟩ = some (.string s)) ∧ z.cell? ⟨B, 0, none⟩ = some (.bool false) ∧ z.cell? ⟨B, 1, none⟩ = some (.string s) := by
        intro z hz
        have e1 := (hz.block B (by omega)).trans HN4.out
        exact ⟨LAY.out _ (HB4.out.trans (hz.mono HLT2.out)), cell_at e1 rfl, cell_at e1 rfl⟩
      have LAY2 := Hid.mk lay2
      clear lay2
      apply mono_via (fun M N wx => Fin2 M N pi ps false C (B + 1) w4 wx)
      case reg =>
        go_region_held3 (fun wx => wx.cell? ⟨A, 0, none⟩ = some (.bool false) ∧ wx.cell? ⟨A, 1, none⟩ = some (.string s))
          (first
            | exact (LAY2.out _ (by with_reducible repeat (first | exact hb6 | exact hb5 | exact Below.refl _ w4 | refine with_set HZB4.out hb6 ?_ _ _ | refine with_set HZB4.out hb5 ?_ _ _ | refine with_set HZB4.out (Below.refl _ w4) ?_ _ _ | refine with_set1 HZB4.out hb6 ?_ _ _ | refine with_set1 HZB4.out hb5 ?_ _ _ | refine with_set1 HZB4.out (Below.refl _ w4) ?_ _ _ | refine with_new HZB4.out ?_ _ | refine Below.drew ?_))).1
            | fail)
          (first
            | (go_at_call 10; refine (CP.out _).mono ?_; rintro e z5 ⟨rfl, hz5⟩; have hb5 : Below (B + 1) w4 z5 := farther HZB4.out (by with_reducible repeat (first | exact hb6 | exact hb5 | exact Below.refl _ w4 | refine Below.drew ?_ | refine with_new HZB4.out ?_ _)) hz5; first | ((with_reducible have fab := drew2 hz5); obtain ⟨fa, fb⟩ := fab; obtain ⟨pa0, pa1, pa2, pa3, pa4, pa5, pa6⟩ := fa.facts; obtain ⟨pb0, pb1, pb2, pb3, pb4, pb5, pb6⟩ := fb.facts) | ((with_reducible have fa := drew1 hz5); obtain ⟨pa0, pa1, pa2, pa3, pa4, pa5, pa6⟩ := fa.facts) | skip)
            | (go_at_call 11; refine (CC.out _).mono ?_; rintro e z6 ⟨rfl, hz6⟩; have hb6 : Below (B + 1) w4 z6 := farther HZB4.out (by with_reducible repeat (first | exact hb6 | exact hb5 | exact Below.refl _ w4 | refine Below.drew ?_ | refine with_new HZB4.out ?_ _)) hz6; first | ((with_reducible have fcd := behind2 hz6); obtain ⟨fc, fd⟩ := fcd; obtain ⟨qc0, qc1, qc2, qc3, qc4, qc5, qc6⟩ := fc.facts; obtain ⟨qd0, qd1, qd2, qd3, qd4, qd5, qd6⟩ := fd.facts) | ((with_reducible have fc := behind1 hz6); obtain ⟨qc0, qc1, qc2, qc3, qc4, qc5, qc6⟩ := fc.facts; first | ((with_reducible have ga := old1 fa hz6); obtain ⟨qa0, qa1, qa2, qa3, qa4, qa5, qa6⟩ := ga.facts) | skip) | ((with_reducible have ga := old0 fa hz6); obtain ⟨qa0, qa1, qa2, qa3, qa4, qa5, qa6⟩ := ga.facts; first | ((with_reducible have gb := old0 fb hz6); obtain ⟨qb0, qb1, qb2, qb3, qb4, qb5, qb6⟩ := gb.facts) | skip) | skip))
        · have hF : Fin2 z6.heap.size (z6.heap.size + 1) pi ps false C (B + 1) w4 ((z6.alloc (.cells #[.bool pi, .string ps] 23)).alloc (.cells #[.bool false, .string C] 23)) := by
            refine ⟨?_, ?_, ?_, ?_, (by with_reducible repeat (first | exact hb6 | exact hb5 | exact Below.refl _ w4 | refine with_set HZB4.out hb6 ?_ _ _ | refine with_set HZB4.out hb5 ?_ _ _ | refine with_set HZB4.out (Below.refl _ w4) ?_ _ _ | refine with_set1 HZB4.out hb6 ?_ _ _ | refine with_set1 HZB4.out hb5 ?_ _ _ | refine with_set1 HZB4.out (Below.refl _ w4) ?_ _ _ | refine with_new HZB4.out ?_ _ | refine Below.drew ?_))⟩ <;> simp [go_sem]
          generalize z6.heap.size + 1 = N0 at hF ⊢
          generalize z6.heap.size = M0 at hF ⊢
          exact ⟨rfl, M0, N0, hF, rfl⟩
        all_goals
          refine ⟨rfl, _, _, ⟨?_, ?_, ?_, ?_, (by with_reducible repeat (first | exact hb6 | exact hb5 | exact Below.refl _ w4 | refine with_set HZB4.out hb6 ?_ _ _ | refine with_set HZB4.out hb5 ?_ _ _ | refine with_set HZB4.out (Below.refl _ w4) ?_ _ _ | refine with_set1 HZB4.out hb6 ?_ _ _ | refine with_set1 HZB4.out hb5 ?_ _ _ | refine with_set1 HZB4.out (Below.refl _ w4) ?_ _ _ | refine with_new HZB4.out ?_ _ | refine Below.drew ?_))⟩, rfl⟩ <;> simp [go_sem, *]
      case imp =>
        intro M N w8 hF
        obtain ⟨⟨e0, e1⟩, e2, e3⟩ := LAY2.out _ hF.bel
        have hne := Wider.some w8.heap.size w8
        have k0 : ∀ g : Wider w8.heap.size w8, g.z.cell? ⟨A, 0, none⟩ = some (.bool false) := fun g => still e0 g.h
        have k1 : ∀ g : Wider w8.heap.size w8, g.z.cell? ⟨A, 1, none⟩ = some (.string s) := fun g => still e1 g.h
        have k2 : ∀ g : Wider w8.heap.size w8, g.z.cell? ⟨B, 0, none⟩ = some (.bool false) := fun g => still e2 g.h
        have k3 : ∀ g : Wider w8.heap.size w8, g.z.cell? ⟨B, 1, none⟩ = some (.string s) := fun g => still e3 g.h
        have k4 : ∀ g : Wider w8.heap.size w8, g.z.cell? ⟨M, 0, none⟩ = some (.bool pi) := fun g => still hF.m0 g.h
        have k5 : ∀ g : Wider w8.heap.size w8, g.z.cell? ⟨M, 1, none⟩ = some (.string ps) := fun g => still hF.m1 g.h
        have k6 : ∀ g : Wider w8.heap.size w8, g.z.cell? ⟨N, 0, none⟩ = some (.bool false) := fun g => still hF.n0 g.h
        have k7 : ∀ g : Wider w8.heap.size w8, g.z.cell? ⟨N, 1, none⟩ = some (.string C) := fun g => still hF.n1 g.h
        have HBL : Hid (Below w.heap.size w w8) := Hid.mk (HBE.out.trans ((with_new (Nat.le_refl _) (Below.refl w3.heap.size w3) (.cells #[.bool false, .string s] 26)).trans ((show Below w3.heap.size (w3.alloc _) w8 from by
          rw [← HW4.out]
          exact hF.bel.mono (by rw [HBB.out]; exact Nat.le_succ _))) |>.mono HBE.out.size))
        obtain ⟨X, hX⟩ : ∃ X, X = atI s at_ := ⟨_, rfl⟩
        have XA : Hid (∀ z, Calls Try.prog 14 #[.agg #[.bool false, .string s], .int .i64 at_] z fun e z' => e = .returned (.int .i64 X) ∧ Below z.heap.size z z') := Hid.mk (by
          rw [hX]
          exact at_any HC.out at_)
        have XB : Hid (∀ z, Calls Try.prog 15 #[.agg #[.bool false, .string s], .int .i64 at_] z fun e z' => e = .returned (.int .i64 X) ∧ Below z.heap.size z z') := Hid.mk (by
          rw [hX]
          exact refAt_any false s HS.out at_)
        clear hX hF e0 e1 e2 e3
        go_wp2_with fail
        refine wp_region_wider (B := w8.heap.size) (w0 := w8) (by kernel_rfl) (by kernel_rfl) (Below.refl _ w8) ?_
        repeat (go_big_quiet_step (first | (go_at_call 12; refine (CPR.out _).mono ?_; rintro e w6 ⟨rfl, hb6⟩; exact ⟨rfl, ⟨w6, by rename_i g; exact g.h.trans (hb6.mono g.h.size)⟩, rfl⟩) | (go_at_call 13; refine (CCR.out _).mono ?_; rintro e w6 ⟨rfl, hb6⟩; exact ⟨rfl, ⟨w6, by rename_i g; exact g.h.trans (hb6.mono g.h.size)⟩, rfl⟩) | (go_at_call 14; refine (XA.out _).mono ?_; rintro e w6 ⟨rfl, hb6⟩; exact ⟨rfl, ⟨w6, by rename_i g; exact g.h.trans (hb6.mono g.h.size)⟩, rfl⟩) | (go_at_call 15; refine (XB.out _).mono ?_; rintro e w6 ⟨rfl, hb6⟩; exact ⟨rfl, ⟨w6, by rename_i g; exact g.h.trans (hb6.mono g.h.size)⟩, rfl⟩) | (go_at_call 16; refine (make_yes HC.out _).mono ?_; rintro e w6 ⟨rfl, hb6⟩; exact ⟨rfl, ⟨w6, by rename_i g; exact g.h.trans (hb6.mono g.h.size)⟩, rfl⟩) | (go_at_call_of 9 (Value.string ps); refine (good_yes HPC.out _).mono ?_; rintro e w6 ⟨rfl, hb6⟩; exact ⟨rfl, ⟨w6, by rename_i g; exact g.h.trans (hb6.mono g.h.size)⟩, rfl⟩) | (go_at_call_of 9 (Value.string C); refine (good_yes HCC.out _).mono ?_; rintro e w6 ⟨rfl, hb6⟩; exact ⟨rfl, ⟨w6, by rename_i g; exact g.h.trans (hb6.mono g.h.size)⟩, rfl⟩)))
        refine wpQuiet_nil ?_
        rintro _ ⟨⟨z9, hz9⟩, rfl⟩
        have HZ9 := Hid.mk (HBL.out.trans (hz9.mono HBL.out.size))
        clear hz9
        go_wp2
        go_ret
        exact ⟨rfl, HZ9.out⟩
    · have eg : g = false := by
        cases g with
        | false => rfl
        | true =>
          rcases HG.out.1 rfl with ⟨h, _⟩ | ⟨_, h⟩
          · cases h
          · exact absurd h he
      have e2 : s.toList.isEmpty = false := isEmpty_no he
      rw [eg] at CG
      clear HG eg he
      go_wp2_with fail
      rw [← hA]
      have HA := Hid.mk hA
      clear hA
      have hne := Wider.some (A + 1) w1
      have k0 : ∀ g : Wider (A + 1) w1, g.z.cell? ⟨A, 0, none⟩ = some (.bool false) := fun g => (LAY.out _ g.h).1
      have k1 : ∀ g : Wider (A + 1) w1, g.z.cell? ⟨A, 1, none⟩ = some (.string s) := fun g => (LAY.out _ g.h).2
      refine wp_region_wider (B := A + 1) (w0 := w1) (by kernel_rfl) (by kernel_rfl) (Below.refl _ w1) ?_
      repeat (go_big_quiet_step ((go_at_call 9; refine (CG.out _).mono ?_; rintro e w6 ⟨rfl, hb6⟩; exact ⟨rfl, ⟨w6, by rename_i g; exact farther HZB.out g.h hb6⟩, rfl⟩)))
      refine wpQuiet_nil ?_
      rintro _ ⟨⟨z, hz⟩, rfl⟩
      obtain ⟨y0, y1⟩ := LAY.out _ hz
      have HBZ := Hid.mk hz
      clear hz k0 k1 hne
      go_wp2_with fail
      refine (CG.out _).mono ?_
      rintro e w3 ⟨rfl, hz3⟩
      have hb3 := farther HZB.out HBZ.out hz3
      obtain ⟨x0, x1⟩ := LAY.out _ hb3
      have HB3 := Hid.mk hb3
      have HBE : Hid (Below w.heap.size w w3) := Hid.mk (HB1.out.trans (hb3.mono (by rw [HA.out]; omega)))
      clear hz3 hb3 y0 y1
      go_wp2
      go_ret
      exact ⟨rfl, HBE.out⟩
  | true =>
    have eg : g = true := HG.out.2 (.inl ⟨rfl, HS.out⟩)
    have HC : Hid (CanBe true s) := Hid.mk (.inl ⟨rfl, HS.out⟩)
    rw [eg] at CG
    clear HG eg
    go_wp2_with fail
    rw [← hA]
    have HA := Hid.mk hA
    clear hA
    have hne := Wider.some (A + 1) w1
    have k0 : ∀ g : Wider (A + 1) w1, g.z.cell? ⟨A, 0, none⟩ = some (.bool true) := fun g => (LAY.out _ g.h).1
    have k1 : ∀ g : Wider (A + 1) w1, g.z.cell? ⟨A, 1, none⟩ = some (.string s) := fun g => (LAY.out _ g.h).2
    refine wp_region_wider (B := A + 1) (w0 := w1) (by kernel_rfl) (by kernel_rfl) (Below.refl _ w1) ?_
    repeat (go_big_quiet_step ((go_at_call 9; refine (CG.out _).mono ?_; rintro e w6 ⟨rfl, hb6⟩; exact ⟨rfl, ⟨w6, by rename_i g; exact farther HZB.out g.h hb6⟩, rfl⟩)))
    refine wpQuiet_nil ?_
    rintro _ ⟨⟨z, hz⟩, rfl⟩
    obtain ⟨y0, y1⟩ := LAY.out _ hz
    have HBZ := Hid.mk hz
    clear hz k0 k1 hne
    go_wp2_with fail
    refine (CG.out _).mono ?_
    rintro e w3 ⟨rfl, hz3⟩
    have hb3 := farther HZB.out HBZ.out hz3
    obtain ⟨x0, x1⟩ := LAY.out _ hb3
    have HB3 := Hid.mk hb3
    have HBE : Hid (Below w.heap.size w w3) := Hid.mk (HB1.out.trans (hb3.mono (by rw [HA.out]; omega)))
    clear hz3 hb3 y0 y1
    obtain ⟨pi, ps, hpc, cp, cpr⟩ := put_both HC.out at_ b
    have cc := fun z => cut_any HC.out at_ z
    have ccr := fun z => refCut_any HC.out at_ z
    have hcc := cutS_can HC.out at_
    obtain ⟨C, hC⟩ : ∃ C, C = cutS true s at_ := ⟨_, rfl⟩
    rw [← hC] at cc ccr hcc
    have CP := Hid.mk cp
    have CPR := Hid.mk cpr
    have CC := Hid.mk cc
    have CCR := Hid.mk ccr
    have HPC := Hid.mk hpc
    have HCC := Hid.mk hcc
    clear hC cp cpr cc ccr hpc hcc
    have hb4 := HB3.out.alloc (Nat.le_trans HZB.out HB3.out.size) (.cells #[.bool true, .string s] 26)
    have n4 := heap_new w3 (.cells #[.bool true, .string s] 26)
    have hlt : A + 1 ≤ w3.heap.size := Nat.le_trans HZB.out HB3.out.size
    obtain ⟨w4, hw4⟩ : ∃ w4, w4 = w3.alloc (.cells #[.bool true, .string s] 26) := ⟨_, rfl⟩
    have z4 : w4.heap.size = w3.heap.size + 1 := by rw [hw4]; simp
    rw [← hw4] at hb4 n4
    obtain ⟨u0, u1⟩ := LAY.out _ hb4
    have HW4 := Hid.mk hw4
    have HB4 := Hid.mk hb4
    have HN4 := Hid.mk n4
    have HZ4 := Hid.mk z4
    have HLT := Hid.mk hlt
    clear hw4 z4 n4 hb4 hlt
    go_wp2_with fail
    rw [← HW4.out]
    obtain ⟨B, hB⟩ : ∃ B, B = w3.heap.size := ⟨_, rfl⟩
    rw [← hB] at HN4 HZ4 HLT ⊢
    have HBB := Hid.mk hB
    have HZB4 : Hid (B + 1 ≤ w4.heap.size) := Hid.mk (by rw [HZ4.out]; exact Nat.le_refl _)
    have HLT2 : Hid (A + 1 ≤ B + 1) := Hid.mk (Nat.le_succ_of_le HLT.out)
    clear hB x0 x1
    have lay2 : ∀ z, Below (B + 1) w4 z → (z.cell? ⟨A, 0, none⟩ = some (.bool true) ∧ z.cell? ⟨A, 1, none⟩ = some (.string s)) ∧ z.cell? ⟨B, 0, none⟩ = some (.bool true) ∧ z.cell? ⟨B, 1, none⟩ = some (.string s) := by
      intro z hz
      have e1 := (hz.block B (by omega)).trans HN4.out
      exact ⟨LAY.out _ (HB4.out.trans (hz.mono HLT2.out)), cell_at e1 rfl, cell_at e1 rfl⟩
    have LAY2 := Hid.mk lay2
    clear lay2
    apply mono_via (fun M N wx => Fin2 M N pi ps true C (B + 1) w4 wx)
    case reg =>
      go_region_held3 (fun wx => wx.cell? ⟨A, 0, none⟩ = some (.bool true) ∧ wx.cell? ⟨A, 1, none⟩ = some (.string s))
        (first
          | exact (LAY2.out _ (by with_reducible repeat (first | exact hb6 | exact hb5 | exact Below.refl _ w4 | refine with_set HZB4.out hb6 ?_ _ _ | refine with_set HZB4.out hb5 ?_ _ _ | refine with_set HZB4.out (Below.refl _ w4) ?_ _ _ | refine with_set1 HZB4.out hb6 ?_ _ _ | refine with_set1 HZB4.out hb5 ?_ _ _ | refine with_set1 HZB4.out (Below.refl _ w4) ?_ _ _ | refine with_new HZB4.out ?_ _ | refine Below.drew ?_))).1
          | fail)
        (first
          | (go_at_call 10; refine (CP.out _).mono ?_; rintro e z5 ⟨rfl, hz5⟩; have hb5 : Below (B + 1) w4 z5 := farther HZB4.out (by with_reducible repeat (first | exact hb6 | exact hb5 | exact Below.refl _ w4 | refine Below.drew ?_ | refine with_new HZB4.out ?_ _)) hz5; first | ((with_reducible have fab := drew2 hz5); obtain ⟨fa, fb⟩ := fab; obtain ⟨pa0, pa1, pa2, pa3, pa4, pa5, pa6⟩ := fa.facts; obtain ⟨pb0, pb1, pb2, pb3, pb4, pb5, pb6⟩ := fb.facts) | ((with_reducible have fa := drew1 hz5); obtain ⟨pa0, pa1, pa2, pa3, pa4, pa5, pa6⟩ := fa.facts) | skip)
          | (go_at_call 11; refine (CC.out _).mono ?_; rintro e z6 ⟨rfl, hz6⟩; have hb6 : Below (B + 1) w4 z6 := farther HZB4.out (by with_reducible repeat (first | exact hb6 | exact hb5 | exact Below.refl _ w4 | refine Below.drew ?_ | refine with_new HZB4.out ?_ _)) hz6; first | ((with_reducible have fcd := behind2 hz6); obtain ⟨fc, fd⟩ := fcd; obtain ⟨qc0, qc1, qc2, qc3, qc4, qc5, qc6⟩ := fc.facts; obtain ⟨qd0, qd1, qd2, qd3, qd4, qd5, qd6⟩ := fd.facts) | ((with_reducible have fc := behind1 hz6); obtain ⟨qc0, qc1, qc2, qc3, qc4, qc5, qc6⟩ := fc.facts; first | ((with_reducible have ga := old1 fa hz6); obtain ⟨qa0, qa1, qa2, qa3, qa4, qa5, qa6⟩ := ga.facts) | skip) | ((with_reducible have ga := old0 fa hz6); obtain ⟨qa0, qa1, qa2, qa3, qa4, qa5, qa6⟩ := ga.facts; first | ((with_reducible have gb := old0 fb hz6); obtain ⟨qb0, qb1, qb2, qb3, qb4, qb5, qb6⟩ := gb.facts) | skip) | skip))
      · have hF : Fin2 z6.heap.size (z6.heap.size + 1) pi ps true C (B + 1) w4 ((z6.alloc (.cells #[.bool pi, .string ps] 23)).alloc (.cells #[.bool true, .string C] 23)) := by
          refine ⟨?_, ?_, ?_, ?_, (by with_reducible repeat (first | exact hb6 | exact hb5 | exact Below.refl _ w4 | refine with_set HZB4.out hb6 ?_ _ _ | refine with_set HZB4.out hb5 ?_ _ _ | refine with_set HZB4.out (Below.refl _ w4) ?_ _ _ | refine with_set1 HZB4.out hb6 ?_ _ _ | refine with_set1 HZB4.out hb5 ?_ _ _ | refine with_set1 HZB4.out (Below.refl _ w4) ?_ _ _ | refine with_new HZB4.out ?_ _ | refine Below.drew ?_))⟩ <;> simp [go_sem]
        generalize z6.heap.size + 1 = N0 at hF ⊢
        generalize z6.heap.size = M0 at hF ⊢
        exact ⟨rfl, M0, N0, hF, rfl⟩
      all_goals
        refine ⟨rfl, _, _, ⟨?_, ?_, ?_, ?_, (by with_reducible repeat (first | exact hb6 | exact hb5 | exact Below.refl _ w4 | refine with_set HZB4.out hb6 ?_ _ _ | refine with_set HZB4.out hb5 ?_ _ _ | refine with_set HZB4.out (Below.refl _ w4) ?_ _ _ | refine with_set1 HZB4.out hb6 ?_ _ _ | refine with_set1 HZB4.out hb5 ?_ _ _ | refine with_set1 HZB4.out (Below.refl _ w4) ?_ _ _ | refine with_new HZB4.out ?_ _ | refine Below.drew ?_))⟩, rfl⟩ <;> simp [go_sem, *]
    case imp =>
      intro M N w8 hF
      obtain ⟨⟨e0, e1⟩, e2, e3⟩ := LAY2.out _ hF.bel
      have hne := Wider.some w8.heap.size w8
      have k0 : ∀ g : Wider w8.heap.size w8, g.z.cell? ⟨A, 0, none⟩ = some (.bool true) := fun g => still e0 g.h
      have k1 : ∀ g : Wider w8.heap.size w8, g.z.cell? ⟨A, 1, none⟩ = some (.string s) := fun g => still e1 g.h
      have k2 : ∀ g : Wider w8.heap.size w8, g.z.cell? ⟨B, 0, none⟩ = some (.bool true) := fun g => still e2 g.h
      have k3 : ∀ g : Wider w8.heap.size w8, g.z.cell? ⟨B, 1, none⟩ = some (.string s) := fun g => still e3 g.h
      have k4 : ∀ g : Wider w8.heap.size w8, g.z.cell? ⟨M, 0, none⟩ = some (.bool pi) := fun g => still hF.m0 g.h
      have k5 : ∀ g : Wider w8.heap.size w8, g.z.cell? ⟨M, 1, none⟩ = some (.string ps) := fun g => still hF.m1 g.h
      have k6 : ∀ g : Wider w8.heap.size w8, g.z.cell? ⟨N, 0, none⟩ = some (.bool true) := fun g => still hF.n0 g.h
      have k7 : ∀ g : Wider w8.heap.size w8, g.z.cell? ⟨N, 1, none⟩ = some (.string C) := fun g => still hF.n1 g.h
      have HBL : Hid (Below w.heap.size w w8) := Hid.mk (HBE.out.trans ((with_new (Nat.le_refl _) (Below.refl w3.heap.size w3) (.cells #[.bool true, .string s] 26)).trans ((show Below w3.heap.size (w3.alloc _) w8 from by
        rw [← HW4.out]
        exact hF.bel.mono (by rw [HBB.out]; exact Nat.le_succ _))) |>.mono HBE.out.size))
      obtain ⟨X, hX⟩ : ∃ X, X = atI s at_ := ⟨_, rfl⟩
      have XA : Hid (∀ z, Calls Try.prog 14 #[.agg #[.bool true, .string s], .int .i64 at_] z fun e z' => e = .returned (.int .i64 X) ∧ Below z.heap.size z z') := Hid.mk (by
        rw [hX]
        exact at_any HC.out at_)
      have XB : Hid (∀ z, Calls Try.prog 15 #[.agg #[.bool true, .string s], .int .i64 at_] z fun e z' => e = .returned (.int .i64 X) ∧ Below z.heap.size z z') := Hid.mk (by
        rw [hX]
        exact refAt_any true s HS.out at_)
      clear hX hF e0 e1 e2 e3
      go_wp2_with fail
      refine wp_region_wider (B := w8.heap.size) (w0 := w8) (by kernel_rfl) (by kernel_rfl) (Below.refl _ w8) ?_
      repeat (go_big_quiet_step (first | (go_at_call 12; refine (CPR.out _).mono ?_; rintro e w6 ⟨rfl, hb6⟩; exact ⟨rfl, ⟨w6, by rename_i g; exact g.h.trans (hb6.mono g.h.size)⟩, rfl⟩) | (go_at_call 13; refine (CCR.out _).mono ?_; rintro e w6 ⟨rfl, hb6⟩; exact ⟨rfl, ⟨w6, by rename_i g; exact g.h.trans (hb6.mono g.h.size)⟩, rfl⟩) | (go_at_call 14; refine (XA.out _).mono ?_; rintro e w6 ⟨rfl, hb6⟩; exact ⟨rfl, ⟨w6, by rename_i g; exact g.h.trans (hb6.mono g.h.size)⟩, rfl⟩) | (go_at_call 15; refine (XB.out _).mono ?_; rintro e w6 ⟨rfl, hb6⟩; exact ⟨rfl, ⟨w6, by rename_i g; exact g.h.trans (hb6.mono g.h.size)⟩, rfl⟩) | (go_at_call 16; refine (make_yes HC.out _).mono ?_; rintro e w6 ⟨rfl, hb6⟩; exact ⟨rfl, ⟨w6, by rename_i g; exact g.h.trans (hb6.mono g.h.size)⟩, rfl⟩) | (go_at_call_of 9 (Value.string ps); refine (good_yes HPC.out _).mono ?_; rintro e w6 ⟨rfl, hb6⟩; exact ⟨rfl, ⟨w6, by rename_i g; exact g.h.trans (hb6.mono g.h.size)⟩, rfl⟩) | (go_at_call_of 9 (Value.string C); refine (good_yes HCC.out _).mono ?_; rintro e w6 ⟨rfl, hb6⟩; exact ⟨rfl, ⟨w6, by rename_i g; exact g.h.trans (hb6.mono g.h.size)⟩, rfl⟩)))
      refine wpQuiet_nil ?_
      rintro _ ⟨⟨z9, hz9⟩, rfl⟩
      have HZ9 := Hid.mk (HBL.out.trans (hz9.mono HBL.out.size))
      clear hz9
      go_wp2
      go_ret
      exact ⟨rfl, HZ9.out⟩

set_option maxRecDepth 100000 in
theorem lifted (os : Os) (started : os.Started) (H : Type) (enc : TypeId × Value → H) :
    ReturnsInHanded {} Try.checked os 3 .any (Rows.fileDoesSpec.pre6 enc Try.prog Try.f3 Rows.fileDoesRow.domain false) (Rows.fileDoesSpec.post enc Try.prog Try.f3 false true false false) := by
  refine returnsInHanded_of_change (C := Try.checked) own started (by kernel_rfl) Try.func3
    (ChangeSpec.witness6 (enc := enc) (C := Try.checked) false ⟨#[], #[.agg #[.bool false, .string .empty], .int .i64 0, .int .u8 0], []⟩ 8 (by kernel_rfl) (by kernel_rfl) (by kernel_rfl) (by kernel_rfl)) ?_
  intro W base args ds gs before hval0 hW hcnd _
  have hval : ∀ (j : Nat) t v, Try.f3.params[j]? = some t → args[j]? = some v → Value.okWide Try.prog W .any base t v := hval0
  have hW' := hW
  obtain ⟨p, q, hA0, hV, rfl, hfz, hnd⟩ := hW
  have hA : DataW.TrodAll enc Try.prog W 0 (fun _ => true) true Try.f3.params.toList args.toList ds p := hA0
  rw [Try.params3] at hA hval
  obtain ⟨v0, vs0, d0, ds0, p0, q0, hargs, rfl, rfl, h0, r0⟩ := trodAll_cons hA
  obtain ⟨v1, vs1, d1, ds1, p1, q1, rfl, rfl, rfl, h1, r1⟩ := trodAll_cons r0
  obtain ⟨v2, vs2, d2, ds2, p2, q2, rfl, rfl, rfl, h2, r2⟩ := trodAll_cons r1
  obtain ⟨rfl, rfl, rfl⟩ := trodAll_nil r2
  obtain rfl : args = #[v0, v1, v2] := by cases args; simp_all
  obtain ⟨rfl, rfl⟩ := trodVars_none hV
  obtain ⟨ca0, rfl, hz0⟩ := okWide_struct Try.underlying23 (hval 0 23 v0 rfl rfl)
  have lt0 : ∀ x ∈ p0, x.block < W.heap.size := by obtain ⟨m, hm⟩ := h0; exact DataW.trod_lt m _ _ _ hm
  obtain ⟨is0, s0, e0⟩ : ∃ (is : Bool) (s : ByteArray), ca0 = #[.bool is, .string s] := by
    obtain ⟨fuel, hf⟩ := h0
    obtain ⟨is, s, hc, _⟩ := open_fl hf
    exact ⟨is, s, by simpa [Value.cells] using congrArg List.toArray hc⟩
  subst e0
  have k0 := h0
  obtain ⟨a1, rfl, rfl, rfl, w1⟩ := open_int Try.underlying3 (hval 1 3 v1 rfl rfl) h1
  obtain ⟨a2, rfl, rfl, rfl, w2⟩ := open_int Try.underlying5 (hval 2 5 v2 rfl rfl) h2
  obtain ⟨b2, rfl⟩ := u8_of w2
  clear hA0 hval0
  refine (walk is0 s0 a1 b2 W w1).mono fun e W' ⟨he, bel⟩ => ?_
  subst he
  exact ⟨_, rfl, _, _, _, [], _, [], hW', trodAll_mk1 (shut_bool Try.underlying4 _), (trodAll_cons_mk (Below.trod laidOut (by kernel_rfl) (of_decide_eq_true (by kernel_rfl)) k0 bel lt0) (trodAll_cons_mk (shut_int Try.underlying3 w1) (trodAll_cons_mk (shut_int Try.underlying5 w2) trodAll_mk0))), rfl, bel.frame _, fun h => by cases h⟩

set_option maxRecDepth 100000 in
theorem over : Rows.fileDoesRow.holds Try.pinned (OpenSpec.ofChange Rows.fileDoesSpec) :=
  OpenClaim.holds_of_wide 3 Try.f3 rfl rfl rfl rfl rfl rfl rfl ⟨rfl, rfl, rfl, rfl, rfl⟩ rfl rfl rfl rfl rfl (by kernel_rfl) Try.func3 (by kernel_rfl)
    (of_decide_eq_true (by kernel_rfl)) (by unfold Func.isWrapper; first | (rw [if_pos (by decide +kernel)]; kernel_rfl) | (rw [if_neg (by decide +kernel)]; exact ⟨rfl, rfl⟩))
    (fun os started H enc _ => lifted os started H enc)

end Go.Proofs.Ytajongclalcigaa.fileDoes

namespace Go.Proofs.Ytajongclalcigaa
/-- The statement. -/
theorem fileDoes_holds : Rows.FileDoesSaid := fileDoes.over
#print axioms fileDoes_holds
end Go.Proofs.Ytajongclalcigaa
