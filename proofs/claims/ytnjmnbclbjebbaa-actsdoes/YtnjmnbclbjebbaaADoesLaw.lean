/-
  ActsDoes: for every row of steps the law returns true: acts answer, and do, what the document's row of all does; marks, flushes, nil ones. No condition.
-/
import Derived.Test.YtnjmnbclbjebbaaAcState
namespace Go.Proofs.Ytnjmnbclbjebbaa.actsDoes
open Go.ChangeShapes Go.WideShapes Go.ChangeAt Go.RowKit Go.Deep Go.Proofs.Ytnjmnbclbjebbaa.Cel Go.Proofs.Ytnjmnbclbjebbaa.Dft Go.Proofs.Ytnjmnbclbjebbaa.Ac

set_option maxHeartbeats 16000000 in
set_option maxRecDepth 100000 in
theorem walk (a : Option Addr) (len cap : Nat) (zs : List Sp) (w : World) (ha : View w eS 7 a len cap zs) :
    Calls Try.prog 3 #[.slice a len cap] w fun e w' => e = .returned (.bool true) ∧ Below w.heap.size w w' := by
  obtain ⟨i0, hi, hz0, hz1, hz2⟩ := info_parts Try.infoA
  go_enter Try.func3, Try.ntmps3
  go_wp2_with fail
  refine (aliveA w).mono ?_
  rintro e w1 ⟨rfl, hb⟩
  by_cases h80 : 80 < len
  · have h2 : (80 : Int) < (len : Int) := by omega
    go_wp2
    go_ret
    exact ⟨rfl, hb⟩
  have h2 : ¬ (80 : Int) < (len : Int) := by omega
  have hlen : len ≤ 80 := by omega
  have HLEN := Hid.mk hlen
  have HA := Hid.mk ha
  obtain ⟨b, hbb⟩ : ∃ b, b = w1.heap.size := ⟨_, rfl⟩
  have HS0 : Hid (LS w b nilVs (.slice none 0 0) [] (w1.alloc (.cells #[.slice none 0 0, .slice none 0 0, .slice none 0 0, .slice none 0 0] 29))) := by
    refine Hid.mk ⟨?_, Held.nil _ _ _ _, fun k hk => ?_, hb.alloc hb.size _, fun _ h => by cases h⟩
    · rw [hbb]; exact AcAt.made w1
    · rw [AcAt.nil_ft _ _ hk, hbb]; exact hb.size
  clear ha h80 hb
  go_wp2_with fail
  rw [← hbb]
  clear hbb
  go_loopw [4, 6, 8, 9, 10, 11, 12, 13, 24] (fun v _ _ _ _ _ _ _ i wr => ∃ (j : Nat) (vs : Vs) (all : List A3), j ≤ len ∧ i = .int .i64 j ∧ Hid (all.length ≤ j) ∧ Hid (LS w b vs v all wr)) (fun _ _ _ _ _ _ _ _ i _ => len - (intOf i).toNat)
  case atStart => exact ⟨0, nilVs, [], Nat.zero_le _, rfl, Hid.mk (Nat.le_refl _), HS0⟩
  case round =>
    clear HS0
    obtain ⟨j, vs, all, hj, rfl, HAL, HS⟩ := hrel
    by_cases hlt : j < len
    · obtain ⟨g, off, rfl, hat⟩ := (HA.out.grown HS.out.bel).at_ (by omega)
      have hz : j < zs.length := by rw [HA.out.1]; exact hlt
      obtain ⟨x, hx⟩ : ∃ x, x = zs[j] := ⟨_, rfl⟩
      have q := hat.c j hz
      rw [← hx] at q
      obtain ⟨⟨k, y, d⟩, m0, m1, m2, m3⟩ := x
      have c0 := q 0 _ rfl
      have c1 := q 1 _ rfl
      have c2 := q 2 _ rfl
      have c3 := q 3 _ rfl
      have c4 := q 4 _ rfl
      have c5 := q 5 _ rfl
      have c6 := q 6 _ rfl
      dsimp only at c0 c1 c2 c3 c4 c5 c6
      rw [Nat.add_zero] at c0
      clear q hat hx
      have HK := Hid.mk hlt
      obtain ⟨C, hC⟩ : ∃ C, C = wr.heap.size := ⟨_, rfl⟩
      obtain ⟨W, hW⟩ : ∃ W, W = wr.alloc (.cells #[.int .i64 k, .int .i64 y, .int .i64 d, .int .i64 m0, .int .i64 m1, .int .i64 m2, .int .i64 m3] 35) := ⟨_, rfl⟩
      have hst := HS.out.past (.cells #[.int .i64 k, .int .i64 y, .int .i64 d, .int .i64 m0, .int .i64 m1, .int .i64 m2, .int .i64 m3] 35)
      have hbx := heap_new wr (.cells #[.int .i64 k, .int .i64 y, .int .i64 d, .int .i64 m0, .int .i64 m1, .int .i64 m2, .int .i64 m3] 35)
      rw [← hC, ← hW] at hbx
      rw [← hW] at hst
      have HX := Hid.mk hbx
      have HL := Hid.mk hst
      have HC := Hid.mk hC
      have HW := Hid.mk hW
      clear hC hW hbx hst
      go_upto_block 2 with fail
      rw [← HC.out, ← HW.out]
      clear c0 c1 c2 c3 c4 c5 c6
      have k0 : W.cell? ⟨C, 0, none⟩ = some (.int .i64 k) := cell_at HX.out rfl
      have k1 : W.cell? ⟨C, 1, none⟩ = some (.int .i64 y) := cell_at HX.out rfl
      have k2 : W.cell? ⟨C, 2, none⟩ = some (.int .i64 d) := cell_at HX.out rfl
      have k3 : W.cell? ⟨C, 3, none⟩ = some (.int .i64 m0) := cell_at HX.out rfl
      have k4 : W.cell? ⟨C, 4, none⟩ = some (.int .i64 m1) := cell_at HX.out rfl
      have k5 : W.cell? ⟨C, 5, none⟩ = some (.int .i64 m2) := cell_at HX.out rfl
      have k6 : W.cell? ⟨C, 6, none⟩ = some (.int .i64 m3) := cell_at HX.out rfl
      have hal : all.length ≤ 80 := by have := HAL.out; have := HLEN.out; omega
      have HAE := Hid.mk hal
      clear HS HW HC hal
      go_cut [4] from 25 to 143 (fun u wx => ∃ (vs2 : Vs) (all2 : List A3), all2.length ≤ j + 1 ∧ LS w b vs2 u all2 wx)
      case first =>
        by_cases hk : 0 ≤ k ∧ k ≤ 3
        · obtain ⟨A, hA⟩ : ∃ A, A = ans (k, y, d) := ⟨_, rfl⟩
          have hd := doesA HL.out.drew.at_ ((toAS_Le all HAE.out).up (by decide)) (k, y, d)
          have hgd : ∀ z, Calls Try.prog 8 #[.agg #[.int .i64 k, .int .i64 y, .int .i64 d]] z fun e w' => e = .returned (.bool A) ∧ Below z.heap.size z w' := fun z => by
            have := goodA z (k, y, d)
            rwa [good_ans hk.1 hk.2, ← hA] at this
          rw [← hA] at hd
          obtain ⟨va, vc, rfl, _⟩ := HL.out.row.shape
          have HDO := Hid.mk hd
          have HGD := Hid.mk hgd
          have HAN := Hid.mk hA
          have HKK := Hid.mk hk
          have hk4 : k = 0 ∨ k = 1 ∨ k = 2 ∨ k = 3 := by omega
          clear hd hgd hA hk
          cases A with
          | true =>
            rcases hk4 with rfl | rfl | rfl | rfl
            · go_wp2_with fail
              go_region_held3 (fun wx => wx.cell? ⟨C, 0, none⟩ = some (.int .i64 0) ∧ wx.cell? ⟨C, 1, none⟩ = some (.int .i64 y) ∧ wx.cell? ⟨C, 2, none⟩ = some (.int .i64 d))
                (first
                  | exact ⟨k0, k1, k2⟩
                  | exact hS2
                  | exact hS1)
                (first
                  | (go_at_call 8; have m2 := m1; refine (HGD.out _).mono ?_; rintro e w5 ⟨rfl, hb5⟩; have HL5 := Hid.mk (HL4.out.grown hb5); have hS2 := And.intro (on_cell hb5 hS1.1) (And.intro (on_cell hb5 hS1.2.1) (on_cell hb5 hS1.2.2)); clear hb5)
                  | (go_at_call 7; have m1 := HL; refine HDO.out.mono ?_; rintro e w4 ⟨rfl, vs4, h4, ho4⟩; have HL4 := Hid.mk (HL.out.drew.mid h4 ho4); have hb4 := box_kept HL.out.drew.at_ HX.out ho4; have hS1 := And.intro (show w4.cell? ⟨C, 0, none⟩ = some (.int .i64 0) from cell_at hb4 rfl) (And.intro (show w4.cell? ⟨C, 1, none⟩ = some (.int .i64 y) from cell_at hb4 rfl) (show w4.cell? ⟨C, 2, none⟩ = some (.int .i64 d) from cell_at hb4 rfl)); clear h4 ho4 hb4))
              all_goals
                clear hS1
                go_wp2_with fail
                refine (HGD.out _).mono ?_
                rintro e w6 ⟨rfl, hb6⟩
                have HL6 := Hid.mk (HL5.out.grown hb6)
                have HL7 := Hid.mk (HL6.out.past (.cells #[.int .i64 0, .int .i64 y, .int .i64 d] 32))
                have HNW := Hid.mk (act_news w6 (0, y, d))
                have HSZ := Hid.mk HL7.out.bel.size
                have q0 := on_cell hb6 hS2.1
                have q1 := on_cell hb6 hS2.2.1
                have q2 := on_cell hb6 hS2.2.2
                clear hb6 hS2
                go_wp2_with (at_builtin; go_loud (refine wpList_append_held _ rfl (.tmp 47) (.tmp 50) 30 rfl w.heap.size 32 i0 _ 3 24 Try.underlying30 hi hz0 hz1 hz2 rfl (by decide) _ _ _ rfl HL7.out.row ⟨w6.heap.size, 0, none⟩ 1 1 (eA (0, y, d)) rfl rfl HNW.out (eA_one _) (by have := HAE.out; unfold maxLen; omega) (by have := HAE.out; omega) HSZ.out ?_; intro v' w7 ho hg hn; obtain ⟨ya, yc, ey, _⟩ := ho.out.shape; subst ey; have HL8 := Hid.mk (HL7.out.yes HKK.out.1 HKK.out.2 HAN.out.symm ho.out hg.out)))
                go_meet
                case rel => exact ⟨vs4, all ++ [(0, y, d)], by have := HAL.out; simp; omega, HL8.out⟩
            · go_wp2_with fail
              go_region_held3 (fun wx => wx.cell? ⟨C, 0, none⟩ = some (.int .i64 1) ∧ wx.cell? ⟨C, 1, none⟩ = some (.int .i64 y) ∧ wx.cell? ⟨C, 2, none⟩ = some (.int .i64 d))
                (first
                  | exact ⟨k0, k1, k2⟩
                  | exact hS2
                  | exact hS1)
                (first
                  | (go_at_call 8; have m2 := m1; refine (HGD.out _).mono ?_; rintro e w5 ⟨rfl, hb5⟩; have HL5 := Hid.mk (HL4.out.grown hb5); have hS2 := And.intro (on_cell hb5 hS1.1) (And.intro (on_cell hb5 hS1.2.1) (on_cell hb5 hS1.2.2)); clear hb5)
                  | (go_at_call 7; have m1 := HL; refine HDO.out.mono ?_; rintro e w4 ⟨rfl, vs4, h4, ho4⟩; have HL4 := Hid.mk (HL.out.drew.mid h4 ho4); have hb4 := box_kept HL.out.drew.at_ HX.out ho4; have hS1 := And.intro (show w4.cell? ⟨C, 0, none⟩ = some (.int .i64 1) from cell_at hb4 rfl) (And.intro (show w4.cell? ⟨C, 1, none⟩ = some (.int .i64 y) from cell_at hb4 rfl) (show w4.cell? ⟨C, 2, none⟩ = some (.int .i64 d) from cell_at hb4 rfl)); clear h4 ho4 hb4))
              all_goals
                clear hS1
                go_wp2_with fail
                refine (HGD.out _).mono ?_
                rintro e w6 ⟨rfl, hb6⟩
                have HL6 := Hid.mk (HL5.out.grown hb6)
                have HL7 := Hid.mk (HL6.out.past (.cells #[.int .i64 1, .int .i64 y, .int .i64 d] 32))
                have HNW := Hid.mk (act_news w6 (1, y, d))
                have HSZ := Hid.mk HL7.out.bel.size
                have q0 := on_cell hb6 hS2.1
                have q1 := on_cell hb6 hS2.2.1
                have q2 := on_cell hb6 hS2.2.2
                clear hb6 hS2
                go_wp2_with (at_builtin; go_loud (refine wpList_append_held _ rfl (.tmp 47) (.tmp 50) 30 rfl w.heap.size 32 i0 _ 3 24 Try.underlying30 hi hz0 hz1 hz2 rfl (by decide) _ _ _ rfl HL7.out.row ⟨w6.heap.size, 0, none⟩ 1 1 (eA (1, y, d)) rfl rfl HNW.out (eA_one _) (by have := HAE.out; unfold maxLen; omega) (by have := HAE.out; omega) HSZ.out ?_; intro v' w7 ho hg hn; obtain ⟨ya, yc, ey, _⟩ := ho.out.shape; subst ey; have HL8 := Hid.mk (HL7.out.yes HKK.out.1 HKK.out.2 HAN.out.symm ho.out hg.out)))
                go_meet
                case rel => exact ⟨vs4, all ++ [(1, y, d)], by have := HAL.out; simp; omega, HL8.out⟩
            · go_wp2_with fail
              go_region_held3 (fun wx => wx.cell? ⟨C, 0, none⟩ = some (.int .i64 2) ∧ wx.cell? ⟨C, 1, none⟩ = some (.int .i64 y) ∧ wx.cell? ⟨C, 2, none⟩ = some (.int .i64 d))
                (first
                  | exact ⟨k0, k1, k2⟩
                  | exact hS2
                  | exact hS1)
                (first
                  | (go_at_call 8; have m2 := m1; refine (HGD.out _).mono ?_; rintro e w5 ⟨rfl, hb5⟩; have HL5 := Hid.mk (HL4.out.grown hb5); have hS2 := And.intro (on_cell hb5 hS1.1) (And.intro (on_cell hb5 hS1.2.1) (on_cell hb5 hS1.2.2)); clear hb5)
                  | (go_at_call 7; have m1 := HL; refine HDO.out.mono ?_; rintro e w4 ⟨rfl, vs4, h4, ho4⟩; have HL4 := Hid.mk (HL.out.drew.mid h4 ho4); have hb4 := box_kept HL.out.drew.at_ HX.out ho4; have hS1 := And.intro (show w4.cell? ⟨C, 0, none⟩ = some (.int .i64 2) from cell_at hb4 rfl) (And.intro (show w4.cell? ⟨C, 1, none⟩ = some (.int .i64 y) from cell_at hb4 rfl) (show w4.cell? ⟨C, 2, none⟩ = some (.int .i64 d) from cell_at hb4 rfl)); clear h4 ho4 hb4))
              all_goals
                clear hS1
                go_wp2_with fail
                refine (HGD.out _).mono ?_
                rintro e w6 ⟨rfl, hb6⟩
                have HL6 := Hid.mk (HL5.out.grown hb6)
                have HL7 := Hid.mk (HL6.out.past (.cells #[.int .i64 2, .int .i64 y, .int .i64 d] 32))
                have HNW := Hid.mk (act_news w6 (2, y, d))
                have HSZ := Hid.mk HL7.out.bel.size
                have q0 := on_cell hb6 hS2.1
                have q1 := on_cell hb6 hS2.2.1
                have q2 := on_cell hb6 hS2.2.2
                clear hb6 hS2
                go_wp2_with (at_builtin; go_loud (refine wpList_append_held _ rfl (.tmp 47) (.tmp 50) 30 rfl w.heap.size 32 i0 _ 3 24 Try.underlying30 hi hz0 hz1 hz2 rfl (by decide) _ _ _ rfl HL7.out.row ⟨w6.heap.size, 0, none⟩ 1 1 (eA (2, y, d)) rfl rfl HNW.out (eA_one _) (by have := HAE.out; unfold maxLen; omega) (by have := HAE.out; omega) HSZ.out ?_; intro v' w7 ho hg hn; obtain ⟨ya, yc, ey, _⟩ := ho.out.shape; subst ey; have HL8 := Hid.mk (HL7.out.yes HKK.out.1 HKK.out.2 HAN.out.symm ho.out hg.out)))
                go_meet
                case rel => exact ⟨vs4, all ++ [(2, y, d)], by have := HAL.out; simp; omega, HL8.out⟩
            · go_wp2_with fail
              go_region_held3 (fun wx => wx.cell? ⟨C, 0, none⟩ = some (.int .i64 3) ∧ wx.cell? ⟨C, 1, none⟩ = some (.int .i64 y) ∧ wx.cell? ⟨C, 2, none⟩ = some (.int .i64 d))
                (first
                  | exact ⟨k0, k1, k2⟩
                  | exact hS2
                  | exact hS1)
                (first
                  | (go_at_call 8; have m2 := m1; refine (HGD.out _).mono ?_; rintro e w5 ⟨rfl, hb5⟩; have HL5 := Hid.mk (HL4.out.grown hb5); have hS2 := And.intro (on_cell hb5 hS1.1) (And.intro (on_cell hb5 hS1.2.1) (on_cell hb5 hS1.2.2)); clear hb5)
                  | (go_at_call 7; have m1 := HL; refine HDO.out.mono ?_; rintro e w4 ⟨rfl, vs4, h4, ho4⟩; have HL4 := Hid.mk (HL.out.drew.mid h4 ho4); have hb4 := box_kept HL.out.drew.at_ HX.out ho4; have hS1 := And.intro (show w4.cell? ⟨C, 0, none⟩ = some (.int .i64 3) from cell_at hb4 rfl) (And.intro (show w4.cell? ⟨C, 1, none⟩ = some (.int .i64 y) from cell_at hb4 rfl) (show w4.cell? ⟨C, 2, none⟩ = some (.int .i64 d) from cell_at hb4 rfl)); clear h4 ho4 hb4))
              all_goals
                clear hS1
                go_wp2_with fail
                refine (HGD.out _).mono ?_
                rintro e w6 ⟨rfl, hb6⟩
                have HL6 := Hid.mk (HL5.out.grown hb6)
                have HL7 := Hid.mk (HL6.out.past (.cells #[.int .i64 3, .int .i64 y, .int .i64 d] 32))
                have HNW := Hid.mk (act_news w6 (3, y, d))
                have HSZ := Hid.mk HL7.out.bel.size
                have q0 := on_cell hb6 hS2.1
                have q1 := on_cell hb6 hS2.2.1
                have q2 := on_cell hb6 hS2.2.2
                clear hb6 hS2
                go_wp2_with (at_builtin; go_loud (refine wpList_append_held _ rfl (.tmp 47) (.tmp 50) 30 rfl w.heap.size 32 i0 _ 3 24 Try.underlying30 hi hz0 hz1 hz2 rfl (by decide) _ _ _ rfl HL7.out.row ⟨w6.heap.size, 0, none⟩ 1 1 (eA (3, y, d)) rfl rfl HNW.out (eA_one _) (by have := HAE.out; unfold maxLen; omega) (by have := HAE.out; omega) HSZ.out ?_; intro v' w7 ho hg hn; obtain ⟨ya, yc, ey, _⟩ := ho.out.shape; subst ey; have HL8 := Hid.mk (HL7.out.yes HKK.out.1 HKK.out.2 HAN.out.symm ho.out hg.out)))
                go_meet
                case rel => exact ⟨vs4, all ++ [(3, y, d)], by have := HAL.out; simp; omega, HL8.out⟩
          | false =>
            rcases hk4 with rfl | rfl | rfl | rfl
            · go_wp2_with fail
              go_region_held3 (fun wx => wx.cell? ⟨C, 0, none⟩ = some (.int .i64 0) ∧ wx.cell? ⟨C, 1, none⟩ = some (.int .i64 y) ∧ wx.cell? ⟨C, 2, none⟩ = some (.int .i64 d))
                (first
                  | exact ⟨k0, k1, k2⟩
                  | exact hS2
                  | exact hS1)
                (first
                  | (go_at_call 8; have m2 := m1; refine (HGD.out _).mono ?_; rintro e w5 ⟨rfl, hb5⟩; have HL5 := Hid.mk (HL4.out.grown hb5); have hS2 := And.intro (on_cell hb5 hS1.1) (And.intro (on_cell hb5 hS1.2.1) (on_cell hb5 hS1.2.2)); clear hb5)
                  | (go_at_call 7; have m1 := HL; refine HDO.out.mono ?_; rintro e w4 ⟨rfl, vs4, h4, ho4⟩; have HL4 := Hid.mk (HL.out.drew.no HAN.out.symm h4 ho4); have hb4 := box_kept HL.out.drew.at_ HX.out ho4; have hS1 := And.intro (show w4.cell? ⟨C, 0, none⟩ = some (.int .i64 0) from cell_at hb4 rfl) (And.intro (show w4.cell? ⟨C, 1, none⟩ = some (.int .i64 y) from cell_at hb4 rfl) (show w4.cell? ⟨C, 2, none⟩ = some (.int .i64 d) from cell_at hb4 rfl)); clear h4 ho4 hb4))
              all_goals
                clear hS1 hS2
                go_wp2_with fail
                refine (HGD.out _).mono ?_
                rintro e w6 ⟨rfl, hb6⟩
                have HL6 := Hid.mk (HL5.out.grown hb6)
                clear hb6
                go_wp2
                go_meet
                case rel => exact ⟨vs4, all, by have := HAL.out; omega, HL6.out⟩
            · go_wp2_with fail
              go_region_held3 (fun wx => wx.cell? ⟨C, 0, none⟩ = some (.int .i64 1) ∧ wx.cell? ⟨C, 1, none⟩ = some (.int .i64 y) ∧ wx.cell? ⟨C, 2, none⟩ = some (.int .i64 d))
                (first
                  | exact ⟨k0, k1, k2⟩
                  | exact hS2
                  | exact hS1)
                (first
                  | (go_at_call 8; have m2 := m1; refine (HGD.out _).mono ?_; rintro e w5 ⟨rfl, hb5⟩; have HL5 := Hid.mk (HL4.out.grown hb5); have hS2 := And.intro (on_cell hb5 hS1.1) (And.intro (on_cell hb5 hS1.2.1) (on_cell hb5 hS1.2.2)); clear hb5)
                  | (go_at_call 7; have m1 := HL; refine HDO.out.mono ?_; rintro e w4 ⟨rfl, vs4, h4, ho4⟩; have HL4 := Hid.mk (HL.out.drew.no HAN.out.symm h4 ho4); have hb4 := box_kept HL.out.drew.at_ HX.out ho4; have hS1 := And.intro (show w4.cell? ⟨C, 0, none⟩ = some (.int .i64 1) from cell_at hb4 rfl) (And.intro (show w4.cell? ⟨C, 1, none⟩ = some (.int .i64 y) from cell_at hb4 rfl) (show w4.cell? ⟨C, 2, none⟩ = some (.int .i64 d) from cell_at hb4 rfl)); clear h4 ho4 hb4))
              all_goals
                clear hS1 hS2
                go_wp2_with fail
                refine (HGD.out _).mono ?_
                rintro e w6 ⟨rfl, hb6⟩
                have HL6 := Hid.mk (HL5.out.grown hb6)
                clear hb6
                go_wp2
                go_meet
                case rel => exact ⟨vs4, all, by have := HAL.out; omega, HL6.out⟩
            · go_wp2_with fail
              go_region_held3 (fun wx => wx.cell? ⟨C, 0, none⟩ = some (.int .i64 2) ∧ wx.cell? ⟨C, 1, none⟩ = some (.int .i64 y) ∧ wx.cell? ⟨C, 2, none⟩ = some (.int .i64 d))
                (first
                  | exact ⟨k0, k1, k2⟩
                  | exact hS2
                  | exact hS1)
                (first
                  | (go_at_call 8; have m2 := m1; refine (HGD.out _).mono ?_; rintro e w5 ⟨rfl, hb5⟩; have HL5 := Hid.mk (HL4.out.grown hb5); have hS2 := And.intro (on_cell hb5 hS1.1) (And.intro (on_cell hb5 hS1.2.1) (on_cell hb5 hS1.2.2)); clear hb5)
                  | (go_at_call 7; have m1 := HL; refine HDO.out.mono ?_; rintro e w4 ⟨rfl, vs4, h4, ho4⟩; have HL4 := Hid.mk (HL.out.drew.no HAN.out.symm h4 ho4); have hb4 := box_kept HL.out.drew.at_ HX.out ho4; have hS1 := And.intro (show w4.cell? ⟨C, 0, none⟩ = some (.int .i64 2) from cell_at hb4 rfl) (And.intro (show w4.cell? ⟨C, 1, none⟩ = some (.int .i64 y) from cell_at hb4 rfl) (show w4.cell? ⟨C, 2, none⟩ = some (.int .i64 d) from cell_at hb4 rfl)); clear h4 ho4 hb4))
              all_goals
                clear hS1 hS2
                go_wp2_with fail
                refine (HGD.out _).mono ?_
                rintro e w6 ⟨rfl, hb6⟩
                have HL6 := Hid.mk (HL5.out.grown hb6)
                clear hb6
                go_wp2
                go_meet
                case rel => exact ⟨vs4, all, by have := HAL.out; omega, HL6.out⟩
            · go_wp2_with fail
              go_region_held3 (fun wx => wx.cell? ⟨C, 0, none⟩ = some (.int .i64 3) ∧ wx.cell? ⟨C, 1, none⟩ = some (.int .i64 y) ∧ wx.cell? ⟨C, 2, none⟩ = some (.int .i64 d))
                (first
                  | exact ⟨k0, k1, k2⟩
                  | exact hS2
                  | exact hS1)
                (first
                  | (go_at_call 8; have m2 := m1; refine (HGD.out _).mono ?_; rintro e w5 ⟨rfl, hb5⟩; have HL5 := Hid.mk (HL4.out.grown hb5); have hS2 := And.intro (on_cell hb5 hS1.1) (And.intro (on_cell hb5 hS1.2.1) (on_cell hb5 hS1.2.2)); clear hb5)
                  | (go_at_call 7; have m1 := HL; refine HDO.out.mono ?_; rintro e w4 ⟨rfl, vs4, h4, ho4⟩; have HL4 := Hid.mk (HL.out.drew.no HAN.out.symm h4 ho4); have hb4 := box_kept HL.out.drew.at_ HX.out ho4; have hS1 := And.intro (show w4.cell? ⟨C, 0, none⟩ = some (.int .i64 3) from cell_at hb4 rfl) (And.intro (show w4.cell? ⟨C, 1, none⟩ = some (.int .i64 y) from cell_at hb4 rfl) (show w4.cell? ⟨C, 2, none⟩ = some (.int .i64 d) from cell_at hb4 rfl)); clear h4 ho4 hb4))
              all_goals
                clear hS1 hS2
                go_wp2_with fail
                refine (HGD.out _).mono ?_
                rintro e w6 ⟨rfl, hb6⟩
                have HL6 := Hid.mk (HL5.out.grown hb6)
                clear hb6
                go_wp2
                go_meet
                case rel => exact ⟨vs4, all, by have := HAL.out; omega, HL6.out⟩
        · by_cases e4 : k = 4
          · subst e4
            have hfi := fun (l c : Nat) (ad : Option Addr) (hv : View W eA 3 ad l c all) (hl : l ≤ 80) => refFirst_any hv (by omega) HL.out.kinds (mF m0 m1 m2 m3)
            obtain ⟨m, hm⟩ : ∃ m, m = mF m0 m1 m2 m3 := ⟨_, rfl⟩
            obtain ⟨va, vc, rfl, hva⟩ := HL.out.len
            have hfi := hfi _ _ _ hva HAE.out
            have hbk := fun (z : World) (h : LS w b vs (.slice va all.length vc) all z) => back_any h.at_ ((toAS_Le all HAE.out).up (by decide)) (mF m0 m1 m2 m3)
            rw [← hm] at hfi hbk
            have HFI := Hid.mk hfi
            have HBK := Hid.mk hbk
            have HM := Hid.mk hm
            clear hk hfi hbk hva hm
            go_wp2_with fail
            go_loopw [8, 56] (fun _ i wx => ∃ q : Nat, q ≤ 4 ∧ i = .int .i64 q ∧ wx = W) (fun _ i _ => 4 - (intOf i).toNat)
            case atStart => exact ⟨0, by decide, rfl, rfl⟩
            case round =>
              obtain ⟨q, hq, rfl, rfl⟩ := hrel
              by_cases hq4 : q = 4
              · subst hq4
                clear hq
                go_wp2_with fail
                rw [HM.out] at HFI HBK
                refine HFI.out.mono ?_
                rintro e w2 ⟨u1, u2, rfl, hu1, hu2, hb2⟩
                have hu1 := hu1.down HL.out.bel.size
                have hu2 := hu2.down HL.out.bel.size
                have hl2 := HL.out.grown hb2
                have hbk := HBK.out _ hl2
                rw [← HM.out] at hu1 hu2
                obtain ⟨st, hst⟩ : ∃ l, l = (firstL m all).1 := ⟨_, rfl⟩
                obtain ⟨gn, hgn⟩ : ∃ l, l = (firstL m all).2.1 := ⟨_, rfl⟩
                have hgl : gn.length ≤ 80 := by rw [hgn]; exact Nat.le_trans (gone_len m all) HAE.out
                have hsl : st.length ≤ j + 1 := by rw [hst]; exact Nat.le_trans (stay_len m all) (by have := HAL.out; omega)
                rw [← hst] at hu1
                rw [← hgn] at hu2
                obtain ⟨x1, y1, e1, _⟩ := hu1.acts
                obtain ⟨x2, y2, e2, hw2⟩ := hu2.acts
                subst e1 e2
                have HL2 := Hid.mk hl2
                have HU1 := Hid.mk hu1
                have HU2 := Hid.mk hu2
                have HB2 := Hid.mk hbk
                have n3 := on_cell hb2 k3
                have n4 := on_cell hb2 k4
                have n5 := on_cell hb2 k5
                have n6 := on_cell hb2 k6
                have HGL := Hid.mk hgl
                have HSL := Hid.mk hsl
                have HST := Hid.mk hst
                have HGN := Hid.mk hgn
                clear hl2 hu1 hu2 hb2 hbk hw2 hgl hsl hst hgn
                go_wp2_with fail
                refine HB2.out.mono ?_
                rintro e w3 ⟨⟨vb, nb, rfl, hvb, hnb⟩, vs3, h3, hw3⟩
                rw [← HM.out] at hvb hnb h3
                have hl3 := HL2.out.mid h3 hw3
                have hu1 := acts_kept HL2.out.at_ HU1.out hw3
                have hu2 := acts_kept HL2.out.at_ HU2.out hw3
                have hnb2 : nb = ((undoL gn).map prOf).length := by rw [HGN.out, ← back_opens, hnb, amendsL_length]
                rw [back_opens, ← HGN.out] at hvb
                obtain ⟨ab, cb, rfl, hvw⟩ := own_opens hvb hnb2
                have hun := refUndo_any (Held.view eA_len hu2) (by have := HGL.out; omega)
                obtain ⟨ul, hul⟩ : ∃ l, l = undoL gn := ⟨_, rfl⟩
                have hull : ul.length ≤ 80 := by rw [hul]; have := undoL_len gn; have := HGL.out; omega
                rw [← hul] at hun hvw
                have HL3 := Hid.mk hl3
                have HV1 := Hid.mk hu1
                have HVW := Hid.mk hvw
                have HUN := Hid.mk hun
                have HUL := Hid.mk hull
                clear hl3 hu1 hu2 hvw hun hvb hnb hnb2 h3 hw3 HB2 hul hull
                go_wp2_with fail
                refine HUN.out.mono ?_
                rintro e w4 ⟨vu, rfl, hvu, hb4⟩
                obtain ⟨au, cu, rfl, hvu2⟩ := own_actsN hvu rfl
                have hop := opensA (HVW.out.grown hb4) hvu2 (by have := HUL.out; omega)
                have HOP := Hid.mk hop
                have HL4 := Hid.mk (HL3.out.grown hb4)
                have HV4 := Hid.mk (HV1.out.grown hb4)
                clear hvu hvu2 hop hb4
                go_wp2_with fail
                refine HOP.out.mono ?_
                rintro e w5 ⟨rfl, hb5⟩
                have HL5 := Hid.mk (HL4.out.grown hb5)
                have HV5 := Hid.mk (HV4.out.grown hb5)
                clear hb5
                go_wp2
                go_meet
                case rel => exact ⟨vs3, st, HSL.out, by have h := HV5.out; have h2 := HL5.out; rw [HST.out] at h ⊢; exact h2.back h⟩
              · rcases (show q = 0 ∨ q = 1 ∨ q = 2 ∨ q = 3 by omega) with rfl | rfl | rfl | rfl
                · have hix := fun w => ix0 w m0 m1 m2 m3
                  by_cases hm : m0 < 0
                  · go_wp2
                    go_ret
                    exact ⟨rfl, HL.out.bel⟩
                  · go_wp2
                    go_roundw
                    case rel => exact ⟨0 + 1, by decide, by go_num, trivial⟩
                    case measure => simp [intOf]
                · have hix := fun w => ix1 w m0 m1 m2 m3
                  by_cases hm : m1 < 0
                  · go_wp2
                    go_ret
                    exact ⟨rfl, HL.out.bel⟩
                  · go_wp2
                    go_roundw
                    case rel => exact ⟨1 + 1, by decide, by go_num, trivial⟩
                    case measure => simp [intOf]
                · have hix := fun w => ix2 w m0 m1 m2 m3
                  by_cases hm : m2 < 0
                  · go_wp2
                    go_ret
                    exact ⟨rfl, HL.out.bel⟩
                  · go_wp2
                    go_roundw
                    case rel => exact ⟨2 + 1, by decide, by go_num, trivial⟩
                    case measure => simp [intOf]
                · have hix := fun w => ix3 w m0 m1 m2 m3
                  by_cases hm : m3 < 0
                  · go_wp2
                    go_ret
                    exact ⟨rfl, HL.out.bel⟩
                  · go_wp2
                    go_roundw
                    case rel => exact ⟨3 + 1, by decide, by go_num, trivial⟩
                    case measure => simp [intOf]
          · by_cases e5 : k = 5
            · subst e5
              obtain ⟨l0, hl0⟩ : ∃ l, l = ofK all 0 := ⟨_, rfl⟩
              have hfl := flush_any HL.out.at_
              rw [show (toAS all).out = l0.map outOf by rw [hl0]; rfl] at hfl
              obtain ⟨no, hno⟩ : ∃ n, n = (l0.map outOf).length := ⟨_, rfl⟩
              rw [← hno] at hfl
              have hll : l0.length ≤ 80 := by rw [hl0]; exact Nat.le_trans (ofK_len all 0) HAE.out
              obtain ⟨va, vc, rfl, _⟩ := HL.out.len
              have HFL := Hid.mk hfl
              have HLL := Hid.mk hll
              have HL0 := Hid.mk hl0
              clear hk e4 hfl hno hll hl0
              go_wp2_with fail
              refine HFL.out.mono ?_
              rintro e w2 ⟨⟨ao, co, rfl, hvo⟩, h2, hw2⟩
              have hl2 := HL.out.mid h2 hw2
              have hof := refOf_any (Held.view eA_len hl2.row) (by have := HAE.out; omega) 0
              rw [← HL0.out] at hof
              have HL2 := Hid.mk hl2
              have HOF := Hid.mk hof
              have HVO := Hid.mk hvo
              clear h2 hw2 hl2 hof hvo HFL
              go_wp2_with fail
              refine HOF.out.mono ?_
              rintro e w3 ⟨u3, rfl, hu3, hb3⟩
              obtain ⟨a3, y3, rfl, hv3⟩ := own_actsN hu3 rfl
              have hou := outsA (HVO.out.grown hb3) hv3 (by have := HLL.out; omega)
              have HOU := Hid.mk hou
              have HL3 := Hid.mk (HL2.out.grown hb3)
              clear hu3 hv3 hou hb3
              go_wp2_with fail
              refine HOU.out.mono ?_
              rintro e w4 ⟨rfl, hb4⟩
              have hl4 := HL3.out.grown hb4
              have hfi := refFirst_any (Held.view eA_len hl4.row) (by have := HAE.out; omega) hl4.kinds (mF (all.length : Int) 0 0 0)
              have HL4 := Hid.mk hl4
              have HFI := Hid.mk hfi
              clear hb4 hl4 hfi HOU HOF
              go_wp2_with fail
              refine HFI.out.mono ?_
              rintro e w5 ⟨u1, u2, rfl, hu1, hu2, hb5⟩
              have hl5 := HL4.out.grown hb5
              have hu2 := hu2.down HL4.out.bel.size
              have hls := LM.flush (m := mF (all.length : Int) 0 0 0) hl5 rfl rfl rfl rfl hu2
              obtain ⟨gn, hgn⟩ : ∃ l, l = (firstL (mF (all.length : Int) 0 0 0) all).2.1 := ⟨_, rfl⟩
              have hgl : gn.length ≤ j + 1 := by rw [hgn]; exact Nat.le_trans (gone_len _ all) (by have := HAL.out; omega)
              rw [← hgn] at hls hu2
              obtain ⟨x1, y1, e1, _⟩ := hu1.shape
              obtain ⟨x2, y2, e2, _⟩ := hu2.shape
              subst e1 e2
              have HLS := Hid.mk hls
              have HGL := Hid.mk hgl
              clear hl5 hu1 hu2 hls hgn hgl hb5 HFI
              go_wp2
              go_meet
              case rel => exact ⟨_, gn, HGL.out, HLS.out⟩
            · have n0 : ¬ k = 0 := by omega
              have n1 : ¬ k = 1 := by omega
              have n2 : ¬ k = 2 := by omega
              have n3 : ¬ k = 3 := by omega
              clear hk
              go_wp2
              go_ret
              exact ⟨rfl, HL.out.bel⟩
      case rest =>
        obtain ⟨vs2, all2, hl2, hls⟩ := hcut
        clear HX HL k0 k1 k2 k3 k4 k5 k6
        obtain ⟨va, vc, ev, hva⟩ := hls.len
        subst ev
        have hal2 : all2.length ≤ 80 := by have := HLEN.out; have := HK.out; omega
        obtain ⟨l2, e2⟩ : ∃ l, l = ofK all2 2 := ⟨_, rfl⟩
        have hll2 : l2.length ≤ 80 := by rw [e2]; exact Nat.le_trans (ofK_len all2 2) hal2
        have hof := refOf_any hva (by omega) 2
        rw [← e2] at hof
        obtain ⟨n2, hn2⟩ : ∃ n, n = l2.length := ⟨_, rfl⟩
        rw [← hn2] at hof
        have HN2 := Hid.mk hn2
        have HOF := Hid.mk hof
        have HLS := Hid.mk hls
        have HE2 := Hid.mk e2
        have HA2 := Hid.mk hal2
        have HJ2 := Hid.mk hl2
        have HT2 := Hid.mk ((toAS_Le all2 hal2).up (show 80 ≤ 1000000 by decide))
        have HLL2 := Hid.mk hll2
        clear hl2 hls hva hal2 e2 hll2 hof hn2
        go_wp2_with fail
        refine HOF.out.mono ?_
        rintro e w2 ⟨u2, rfl, hu2, hb2⟩
        obtain ⟨a2, y2, rfl, hv2⟩ := own_actsN hu2 HN2.out
        have hls2 := HLS.out.grown hb2
        have hno := notes_any hls2.at_ HT2.out
        have en : (toAS all2).notes = l2.map (·.2.1) := by rw [HE2.out]; rfl
        rw [en] at hno
        rw [show (l2.map (·.2.1)).length = n2 by rw [HN2.out]; simp] at hno
        have HLS2 := Hid.mk hls2
        have HV2 := Hid.mk hv2
        have HNO := Hid.mk hno
        clear hu2 hv2 hls2 hno hb2 en HOF
        go_wp2_with fail
        refine HNO.out.mono ?_
        rintro e w3 ⟨u3, rfl, hu3, hb3⟩
        obtain ⟨a3, y3, rfl, hv3⟩ := own_nums hu3 (by rw [HN2.out]; simp)
        have hls3 := HLS2.out.grown hb3
        have hmk := mark_any hls3.at_
        obtain ⟨M, hM⟩ : ∃ M, M = mA (toAS all2).mark := ⟨_, rfl⟩
        have heq : ∀ w, (Op.equalIn 10000 42 (.agg M) (.agg M)).run Try.prog w = .ok true w := fun w => by rw [hM]; exact mark_same _ w
        rw [← hM] at hmk
        have HLS3 := Hid.mk hls3
        have HV3 := Hid.mk hv3
        have HW3 := Hid.mk (HV2.out.grown hb3)
        have HMK := Hid.mk hmk
        have HM := Hid.mk hM
        clear hu3 hv3 hls3 hmk hM hb3 HNO
        go_wp2_with fail
        refine HMK.out.mono ?_
        rintro e w4 ⟨rfl, hb4⟩
        have hls4 := HLS3.out.grown hb4
        have hct := refCount_any (Held.view eA_len hls4.row) (by have := HA2.out; omega) hls4.kinds
        rw [count_mark, ← HM.out] at hct
        have HLS4 := Hid.mk hls4
        have HV4 := Hid.mk (HV3.out.grown hb4)
        have HW4 := Hid.mk (HW3.out.grown hb4)
        have HCT := Hid.mk hct
        clear hls4 hct hb4 HMK
        go_wp2_with fail
        refine HCT.out.mono ?_
        rintro e w5 ⟨rfl, hb5⟩
        have HLS5 := Hid.mk (HLS4.out.grown hb5)
        have HV5 := Hid.mk (HV4.out.grown hb5)
        have HW5 := Hid.mk (HW4.out.grown hb5)
        clear hb5 HCT
        go_upto_block 5 with fail
        go_cut [13] from 112 to 125 (fun _ wx => Hid (Below w5.heap.size w5 wx))
        case first =>
          have hn80 : n2 ≤ 80 := by rw [HN2.out]; exact HLL2.out
          go_wp2_with fail
          go_loopw [13, 112] (fun _ i wx => ∃ q : Nat, q ≤ n2 ∧ i = .int .i64 q ∧ Hid (Below w5.heap.size w5 wx)) (fun _ i _ => n2 - (intOf i).toNat)
          case atStart => exact ⟨0, Nat.zero_le _, rfl, Hid.mk (Below.refl _ _)⟩
          case round =>
            obtain ⟨q, hq, rfl, HB⟩ := hrel
            by_cases hqn : q < n2
            · obtain ⟨_, g3, o3, rfl, p0⟩ := (HV5.out.grown HB.out).num q hqn
              obtain ⟨hz2, g2, o2, rfl, d0, d1, d2⟩ := (HW5.out.grown HB.out).act q hqn
              obtain ⟨x, hx⟩ : ∃ x, x = l2[q] := ⟨_, rfl⟩
              rw [List.getElem_map] at p0
              rw [← hx] at p0 d0 d1 d2
              have HQ := Hid.mk hqn
              clear hx
              go_wp2_with fail
              go_big_region
              all_goals
                go_wp2
                go_roundw
                case rel => exact ⟨q + 1, HQ.out, by go_num, Hid.mk HB.out.drew⟩
                case measure => have := HQ.out; simp [intOf]; omega
            · have hnk : ¬ (q : Int) < (n2 : Int) := by omega
              clear hqn
              go_wp2
              go_meet
              case rel => exact HB
        case rest =>
          have hls6 := HLS5.out.grown hcut.out
          clear hcut HLS5 HV5 HW5 HLS4 HV4 HW4 HLS3 HV3 HW3 HLS2 HV2 HLS
          have hou := output_any hls6.at_ HT2.out
          obtain ⟨l0, e0⟩ : ∃ l, l = ofK all2 0 := ⟨_, rfl⟩
          obtain ⟨l1, e1⟩ : ∃ l, l = ofK all2 1 := ⟨_, rfl⟩
          have hll0 : l0.length ≤ 80 := by rw [e0]; exact Nat.le_trans (ofK_len all2 0) HA2.out
          have hll1 : l1.length ≤ 80 := by rw [e1]; exact Nat.le_trans (ofK_len all2 1) HA2.out
          rw [show (toAS all2).out ++ (toAS all2).beh = (l0 ++ l1).map outOf by rw [e0, e1, List.map_append]; rfl] at hou
          obtain ⟨no, hno⟩ : ∃ n, n = ((l0 ++ l1).map outOf).length := ⟨_, rfl⟩
          rw [← hno] at hou
          have HLS6 := Hid.mk hls6
          have HOU := Hid.mk hou
          have HNO := Hid.mk hno
          have HE0 := Hid.mk e0
          have HE1 := Hid.mk e1
          have HL0 := Hid.mk hll0
          have HL1 := Hid.mk hll1
          clear hls6 hou hno e0 e1 hll0 hll1
          go_wp2_with fail
          refine HOU.out.mono ?_
          rintro e w7 ⟨u7, rfl, hu7, hb7⟩
          obtain ⟨a7, y7, rfl, hv7⟩ := own_outs hu7 HNO.out
          have hls7 := HLS6.out.grown hb7
          obtain ⟨va2, vc2, ev2, hva2⟩ := hls7.len
          have hof := refOf_any (Held.view eA_len hls7.row) (by have := HA2.out; omega) 0
          rw [← HE0.out] at hof
          obtain ⟨n0, hn0⟩ : ∃ n, n = l0.length := ⟨_, rfl⟩
          rw [← hn0] at hof
          have HLS7 := Hid.mk hls7
          have HV7 := Hid.mk hv7
          have HOF := Hid.mk hof
          have HN0 := Hid.mk hn0
          clear hu7 hv7 hls7 hof hn0 hb7 HOU HLS6 ev2 hva2 va2 vc2
          go_wp2_with fail
          refine HOF.out.mono ?_
          rintro e w8 ⟨u8, rfl, hu8, hb8⟩
          obtain ⟨a8, y8, rfl⟩ := row_shape hu8
          have hls8 := HLS7.out.grown hb8
          have hof := refOf_any (Held.view eA_len hls8.row) (by have := HA2.out; omega) 1
          rw [← HE1.out] at hof
          obtain ⟨n1, hn1⟩ : ∃ n, n = l1.length := ⟨_, rfl⟩
          rw [← hn1] at hof
          have HB8 := Hid.mk hb8
          have HU8 := Hid.mk hu8
          have HOF1 := Hid.mk hof
          have HN1 := Hid.mk hn1
          have HSZ8 := Hid.mk hb8.size
          clear hu8 hls8 hof hn1 hb8 HOF
          go_wp2_with fail
          refine HOF1.out.mono ?_
          rintro e w9 ⟨u9, rfl, hu9, hb9⟩
          obtain ⟨a9, y9, rfl, hv9⟩ := own_actsN hu9 HN1.out
          have hop := hv9.opt eA_len (by decide)
          have HP1 := Hid.mk hop.1
          have HP2 := Hid.mk hop.2.1
          have HP3 := Hid.mk hop.2.2
          have HB9 := Hid.mk (HB8.out.trans (hb9.mono HSZ8.out))
          have HU9 := Hid.mk (ownsRow_carry HU8.out fun k hk => hb9.block k (HU8.out.lt k hk).2)
          have HSZ9 := Hid.mk (Nat.le_trans HSZ8.out hb9.size)
          clear hu9 hv9 hop hb9 HOF1 HU8
          go_wp2_with (at_builtin; go_loud (refine wpList_append_opt _ rfl (.tmp 129) (.tmp 131) 30 rfl w7.heap.size 32 i0 _ 3 24 Try.underlying30 hi hz0 hz1 hz2 rfl (by decide) _ _ _ rfl HU9.out a9 n1 y9 (flat eA l1) rfl HP1.out HP2.out HP3.out (flat_one_cell eA_one _) (by have := HN0.out; have := HN1.out; have := HL0.out; have := HL1.out; unfold maxLen; omega) (by have := HN0.out; have := HN1.out; have := HL0.out; have := HL1.out; omega) HSZ9.out ?_; intro v' wa ho hg; obtain ⟨ya, yc, rfl⟩ := row_shape ho.out))
          have hb10 := HB9.out.grown hg.out HSZ9.out (fun r e => (HU9.out.lt r e).1)
          have hv10 : View wa eA 3 ya (n0 + n1) yc (l0 ++ l1) := own_view eA_len (by rw [flat_append]; exact ho.out) (by rw [HN0.out, HN1.out]; simp)
          have hls10 := HLS7.out.grown hb10
          have hos := outsA (HV7.out.grown hb10) hv10 (by have := HN0.out; have := HN1.out; have := HL0.out; have := HL1.out; omega)
          have HLS10 := Hid.mk hls10
          have HOS := Hid.mk hos
          clear hb10 hv10 hls10 hos HLS7 HV7 HU9 HB8 HB9 hg ho HP1 HP2 HP3 HSZ8 HSZ9
          refine HOS.out.mono ?_
          rintro e wb ⟨rfl, hbb⟩
          have hls11 := HLS10.out.grown hbb
          have hun := undo_any hls11.at_ HT2.out
          obtain ⟨ul, hul⟩ : ∃ l, l = undoL all2 := ⟨_, rfl⟩
          have hull : ul.length ≤ 80 := by rw [hul]; have := undoL_len all2; have := HA2.out; omega
          rw [undo_opens, ← hul] at hun
          obtain ⟨nu, hnu⟩ : ∃ n, n = (toAS all2).ops.length := ⟨_, rfl⟩
          have hnu2 : nu = (ul.map prOf).length := by rw [hul, ← undo_opens, hnu, amendsL_length]
          rw [← hnu] at hun
          have HLS11 := Hid.mk hls11
          have HUN := Hid.mk hun
          have HUL := Hid.mk hul
          have HULL := Hid.mk hull
          have HNU := Hid.mk hnu2
          clear hls11 hun hul hull hnu hnu2 hbb HOS HLS10
          go_wp2_with fail
          refine HUN.out.mono ?_
          rintro e wd ⟨ud, rfl, hud, hbd⟩
          obtain ⟨ad, yd, rfl, hvd⟩ := own_opens hud HNU.out
          have hls12 := HLS11.out.grown hbd
          have hru := refUndo_any (Held.view eA_len hls12.row) (by have := HA2.out; omega)
          rw [← HUL.out] at hru
          have HLS12 := Hid.mk hls12
          have HVD := Hid.mk hvd
          have HRU := Hid.mk hru
          clear hud hvd hls12 hru hbd HUN HLS11
          go_wp2_with fail
          refine HRU.out.mono ?_
          rintro e we ⟨ue, rfl, hue, hbe⟩
          obtain ⟨ae, ye, rfl, hve⟩ := own_actsN hue rfl
          have hop := opensA (HVD.out.grown hbe) hve (by have := HULL.out; omega)
          have HLS13 := Hid.mk (HLS12.out.grown hbe)
          have HOP := Hid.mk hop
          clear hue hve hop hbe HRU HLS12 HVD
          go_wp2_with fail
          refine HOP.out.mono ?_
          rintro e wf ⟨rfl, hbf⟩
          have HLS14 := Hid.mk (HLS13.out.grown hbf)
          clear hbf
          go_wp2
          go_roundw
          case rel => exact ⟨j + 1, vs2, all2, HK.out, by go_num, HJ2, HLS14⟩
          case measure => have := HK.out; simp [intOf]; omega
    · have hnk : ¬ (j : Int) < (len : Int) := by omega
      have hbl := HS.out.bel
      have HBL := Hid.mk hbl
      have heq : ∀ w, (Op.equalIn 10000 42 (.agg #[.int .i64 0, .int .i64 0, .int .i64 0, .int .i64 0]) (.agg #[.int .i64 0, .int .i64 0, .int .i64 0, .int .i64 0])).run Try.prog w = .ok true w := fun w => mark_same (fun _ => 0) w
      obtain ⟨va, vc, ev, _⟩ := HS.out.len
      subst ev
      clear hbl hlt HS HAL
      go_wp2_with fail
      refine (send_nil 0 0 _).mono ?_
      rintro e w2 ⟨rfl, hw2⟩
      rw [hw2]
      clear hw2 w2
      go_wp2_with fail
      refine (later_nil 0 0 _).mono ?_
      rintro e w2 ⟨rfl, hw2⟩
      rw [hw2]
      clear hw2 w2
      go_wp2_with fail
      refine (note_nil 0 _).mono ?_
      rintro e w2 ⟨rfl, hw2⟩
      rw [hw2]
      clear hw2 w2
      go_wp2_with fail
      refine (opened_nil 0 0 _).mono ?_
      rintro e w2 ⟨rfl, hw2⟩
      rw [hw2]
      clear hw2 w2
      go_wp2_with fail
      refine (output_nil _).mono ?_
      rintro e w2 ⟨rfl, hw2⟩
      rw [hw2]
      clear hw2 w2
      go_wp2_with fail
      refine (notes_nil _).mono ?_
      rintro e w2 ⟨rfl, hw2⟩
      rw [hw2]
      clear hw2 w2
      go_wp2_with fail
      refine (undo_nil _).mono ?_
      rintro e w2 ⟨rfl, hw2⟩
      rw [hw2]
      clear hw2 w2
      go_wp2_with fail
      refine (flush_nil _).mono ?_
      rintro e w2 ⟨rfl, hw2⟩
      rw [hw2]
      clear hw2 w2
      go_wp2_with fail
      refine (back_nil (fun _ => 0) _).mono ?_
      rintro e w3 ⟨rfl, hb3⟩
      have HB3 := Hid.mk (HBL.out.trans (hb3.mono HBL.out.size))
      clear hb3
      go_wp2_with fail
      refine (mark_nil _).mono ?_
      rintro e w2 ⟨rfl, hb2⟩
      have HB2 := Hid.mk (HB3.out.trans (hb2.mono HB3.out.size))
      clear hb2
      unfold mA
      go_wp2
      go_ret
      exact ⟨rfl, HB2.out⟩
set_option maxRecDepth 100000 in
theorem lifted (os : Os) (started : os.Started) (H : Type) (enc : TypeId × Value → H) :
    ReturnsInHanded {} Try.checked os 3 .any (Rows.actsDoesSpec.pre6 enc Try.prog Try.f3 Rows.actsDoesRow.domain false) (Rows.actsDoesSpec.post enc Try.prog Try.f3 false true false false) := by
  refine returnsInHanded_of_change (C := Try.checked) own started (by kernel_rfl) Try.func3
    (ChangeSpec.witness6 (enc := enc) (C := Try.checked) false ⟨#[], #[.slice none 0 0], []⟩ 8 (by kernel_rfl) (by kernel_rfl) (by kernel_rfl) (by kernel_rfl)) ?_
  intro W base args ds gs before hval0 hW hcnd _
  have hval : ∀ (j : Nat) t v, Try.f3.params[j]? = some t → args[j]? = some v → Value.okWide Try.prog W .any base t v := hval0
  have hW' := hW
  obtain ⟨p, q, hA0, hV, rfl, hfz, hnd⟩ := hW
  have hA : DataW.TrodAll enc Try.prog W 0 (fun _ => true) true Try.f3.params.toList args.toList ds p := hA0
  rw [Try.params3] at hA hval
  obtain ⟨v0, vs0, d0, ds0, p0, q0, hargs, rfl, rfl, h0, r0⟩ := trodAll_cons hA
  obtain ⟨rfl, rfl, rfl⟩ := trodAll_nil r0
  obtain rfl : args = #[v0] := by cases args; simp_all
  obtain ⟨rfl, rfl⟩ := trodVars_none hV
  obtain ⟨a0, len0, cap0, rfl⟩ := okWide_slice Try.underlying22 (hval 0 22 v0 rfl rfl)
  have k0 := h0
  have lt0 : ∀ x ∈ p0, x.block < W.heap.size := by obtain ⟨m, hm⟩ := k0; exact DataW.trod_lt m _ _ _ hm
  obtain ⟨ts0, w0⟩ : ∃ ts, View W eS 7 a0 len0 cap0 ts := by
    obtain ⟨fuel, hf⟩ := h0
    exact open_view (by decide) eS_len Try.underlying22 Try.cells35 open_step hf
  clear hA0 hval0
  refine (walk a0 len0 cap0 ts0 W w0).mono fun e W' ⟨he, bel⟩ => ?_
  subst he
  exact ⟨_, rfl, _, _, _, [], _, [], hW', trodAll_mk1 (shut_bool Try.underlying4 _), (trodAll_cons_mk (Below.trod laidOut (by kernel_rfl) (of_decide_eq_true (by kernel_rfl)) k0 bel lt0) trodAll_mk0), rfl, bel.frame _, fun h => by cases h⟩

set_option maxRecDepth 100000 in
theorem over : Rows.actsDoesRow.holds Try.pinned (OpenSpec.ofChange Rows.actsDoesSpec) :=
  OpenClaim.holds_of_wide 3 Try.f3 rfl rfl rfl rfl rfl rfl rfl ⟨rfl, rfl, rfl, rfl, rfl⟩ rfl rfl rfl rfl rfl (by kernel_rfl) Try.func3 (by kernel_rfl)
    (of_decide_eq_true (by kernel_rfl)) (by unfold Func.isWrapper; first | (rw [if_pos (by decide +kernel)]; kernel_rfl) | (rw [if_neg (by decide +kernel)]; exact ⟨rfl, rfl⟩))
    (fun os started H enc _ => lifted os started H enc)

end Go.Proofs.Ytnjmnbclbjebbaa.actsDoes

namespace Go.Proofs.Ytnjmnbclbjebbaa
/-- The statement. -/
theorem actsDoes_holds : Rows.ActsDoesSaid := actsDoes.over
#print axioms actsDoes_holds
end Go.Proofs.Ytnjmnbclbjebbaa
