/-
  ActsMarks: for every two rows of acts the law returns true: back at a mark all is as it was when that was told. No condition.
-/
import Derived.Test.YtnjmnbclbjebbaaAcTwo
namespace Go.Proofs.Ytnjmnbclbjebbaa.actsMarks
open Go.ChangeShapes Go.WideShapes Go.ChangeAt Go.RowKit Go.Deep Go.Proofs.Ytnjmnbclbjebbaa.Cel Go.Proofs.Ytnjmnbclbjebbaa.Dft Go.Proofs.Ytnjmnbclbjebbaa.Ac

set_option maxHeartbeats 16000000 in
set_option maxRecDepth 100000 in
theorem walk (a1 : Option Addr) (len1 cap1 : Nat) (xs : List A3) (a2 : Option Addr) (len2 cap2 : Nat) (ys : List A3) (w : World) (hx : View w eA 3 a1 len1 cap1 xs) (hy : View w eA 3 a2 len2 cap2 ys) :
    Calls Try.prog 5 #[.slice a1 len1 cap1, .slice a2 len2 cap2] w fun e w' => e = .returned (.bool true) ∧ Below w.heap.size w w' := by
  go_enter Try.func5, Try.ntmps5
  go_wp2_with fail
  refine (aliveA w).mono ?_
  rintro e w1 ⟨rfl, hb⟩
  by_cases h1 : 40 < len1
  · have h1' : (40 : Int) < (len1 : Int) := by omega
    go_wp2
    go_ret
    exact ⟨rfl, hb⟩
  have h1' : ¬ (40 : Int) < (len1 : Int) := by omega
  by_cases h2 : 40 < len2
  · have h2' : (40 : Int) < (len2 : Int) := by omega
    go_wp2
    go_ret
    exact ⟨rfl, hb⟩
  have h2' : ¬ (40 : Int) < (len2 : Int) := by omega
  have HX := Hid.mk hx
  have HY := Hid.mk hy
  have hn1 : len1 ≤ 40 := by omega
  have hn2 : len2 ≤ 40 := by omega
  have HN1 := Hid.mk hn1
  have HN2 := Hid.mk hn2
  have hm := L2.made w1 hb
  obtain ⟨A, hA⟩ : ∃ A, A = w1.heap.size := ⟨_, rfl⟩
  obtain ⟨B, hB⟩ : ∃ B, B = A + 1 := ⟨_, rfl⟩
  rw [← hA, ← hB] at hm
  have HM := Hid.mk hm
  clear hx hy h1 h2 hm hb
  go_wp2_with fail
  rw [← hA, ← hB]
  clear hA hB
  go_loopw [8, 36] (fun _ i wr => ∃ (j : Nat) (va vb : Vs) (T : AS), j ≤ len1 ∧ i = .int .i64 j ∧ Hid (T.Le j) ∧ Hid (L2 w A B va vb T T wr)) (fun _ i _ => len1 - (intOf i).toNat)
  case atStart => exact ⟨0, nilVs, nilVs, AS.zero, Nat.zero_le _, rfl, Hid.mk (AS.zero_le _), HM⟩
  case round =>
    clear HM
    obtain ⟨j, va, vb, T, hj, rfl, HT, HL⟩ := hrel
    by_cases hlt : j < len1
    · obtain ⟨hz, g, off, rfl, c0, c1, c2⟩ := (HX.out.grown HL.out.bel).act j hlt
      obtain ⟨x, hx⟩ : ∃ x, x = xs[j] := ⟨_, rfl⟩
      rw [← hx] at c0 c1 c2
      obtain ⟨k, y, d⟩ := x
      dsimp only at c0 c1 c2
      have hl := HL.out.past (.cells #[.int .i64 k, .int .i64 y, .int .i64 d] 32)
      have hbx := heap_new wr (.cells #[.int .i64 k, .int .i64 y, .int .i64 d] 32)
      have HK := Hid.mk hlt
      have HL1 := Hid.mk hl
      have HBX := Hid.mk hbx
      clear hx hl hbx
      by_cases hk : 0 ≤ k ∧ k < 4
      · obtain ⟨g0, g1⟩ := hk
        have hd := doesA HL1.out.a (HT.out.up (by have := HK.out; have := HN1.out; omega)) (k, y, d)
        have HD := Hid.mk hd
        clear hd
        go_wp2_with fail
        refine HD.out.mono ?_
        rintro e w2 ⟨rfl, va2, ha2, hw2⟩
        have hl2 := HL1.out.wroteA ha2 hw2
        have hb2 := other_kept HL1.out.a HBX.out (by decide) (by decide) (by decide) (by decide) hw2
        have p0 : w2.cell? ⟨wr.heap.size, 0, none⟩ = some (.int .i64 k) := cell_at hb2 rfl
        have p1 : w2.cell? ⟨wr.heap.size, 1, none⟩ = some (.int .i64 y) := cell_at hb2 rfl
        have p2 : w2.cell? ⟨wr.heap.size, 2, none⟩ = some (.int .i64 d) := cell_at hb2 rfl
        have hd := doesA hl2.b (HT.out.up (by have := HK.out; have := HN1.out; omega)) (k, y, d)
        have HL2 := Hid.mk hl2
        have HD2 := Hid.mk hd
        clear hl2 hb2 ha2 hw2 hd HD
        go_wp2_with fail
        refine HD2.out.mono ?_
        rintro e w3 ⟨rfl, vb2, hb3, hw3⟩
        have hl3 := HL2.out.wroteB hb3 hw3
        have HL3 := Hid.mk hl3
        clear hl3 hb3 hw3 HD2
        go_wp2
        go_roundw
        case rel => exact ⟨j + 1, va2, vb2, T.add (k, y, d), HK.out, by go_num, Hid.mk (HT.out.add _), HL3⟩
        case measure => have := HK.out; simp [intOf]; omega
      · by_cases g0 : 0 ≤ k
        · have g1 : ¬ k < 4 := by omega
          clear hk
          go_wp2
          go_roundw
          case rel => exact ⟨j + 1, va, vb, T, HK.out, by go_num, Hid.mk (HT.out.up (Nat.le_succ _)), HL1⟩
          case measure => have := HK.out; simp [intOf]; omega
        · clear hk
          go_wp2
          go_roundw
          case rel => exact ⟨j + 1, va, vb, T, HK.out, by go_num, Hid.mk (HT.out.up (Nat.le_succ _)), HL1⟩
          case measure => have := HK.out; simp [intOf]; omega
    · have hnk : ¬ (j : Int) < (len1 : Int) := by omega
      have hT : T.Le 40 := HT.out.up (by have := HN1.out; omega)
      have HT4 := Hid.mk hT
      have hmk := mark_any HL.out.a
      have HMK := Hid.mk hmk
      clear hlt hj hT hmk HT
      go_wp2_with fail
      refine HMK.out.mono ?_
      rintro e w2 ⟨rfl, hb2⟩
      obtain ⟨M, hM⟩ : ∃ M, M = w2.heap.size := ⟨_, rfl⟩
      have hl2 := (HL.out.grown hb2).past (.cells (mA T.mark) 42)
      have hbm := heap_new w2 (.cells (mA T.mark) 42)
      rw [← hM] at hbm
      have HL2 := Hid.mk hl2
      have HBM := Hid.mk hbm
      clear hl2 hbm hb2 HMK
      unfold mA at HL2 HBM ⊢
      go_wp2_with fail
      rw [← hM]
      clear hM
      go_loopw [10, 12, 59] (fun nv _ i wx => ∃ (q : Nat) (va2 : Vs) (T2 : AS) (n : Nat), q ≤ len2 ∧ i = .int .i64 q ∧ nv = .int .i64 n ∧ n ≤ q ∧ Hid (T2.Le (40 + q)) ∧ Hid (Ext T T2 n) ∧ Hid (L2 w A B va2 vb T2 T wx) ∧ Hid (wx.heap[M]? = some (.cells (mA T.mark) 42 (0, 0)))) (fun _ _ i _ => len2 - (intOf i).toNat)
      case atStart => exact ⟨0, va, T, 0, Nat.zero_le _, rfl, rfl, Nat.le_refl _, HT4, Hid.mk (Ext.refl T), HL2, HBM⟩
      case round =>
        clear HL2 HBM HL
        obtain ⟨q, va2, T2, n, hq, rfl, rfl, hnq, HT2, HE, HL2, HBM⟩ := hrel
        by_cases hqt : q < len2
        · obtain ⟨hz, g, off, rfl, c0, c1, c2⟩ := (HY.out.grown HL2.out.bel).act q hqt
          obtain ⟨x, hx⟩ : ∃ x, x = ys[q] := ⟨_, rfl⟩
          rw [← hx] at c0 c1 c2
          obtain ⟨k, y, d⟩ := x
          dsimp only at c0 c1 c2
          have hl := HL2.out.past (.cells #[.int .i64 k, .int .i64 y, .int .i64 d] 32)
          have hbx := heap_new wr (.cells #[.int .i64 k, .int .i64 y, .int .i64 d] 32)
          have hbm := heap_on ((Below.refl _ wr).alloc (Nat.le_refl _) (.cells #[.int .i64 k, .int .i64 y, .int .i64 d] 32)) HBM.out
          have hn40 : n ≤ 40 := by have := HN2.out; omega
          have HK := Hid.mk hqt
          have HNQ := Hid.mk hnq
          have HL3 := Hid.mk hl
          have HBX := Hid.mk hbx
          have HBM3 := Hid.mk hbm
          clear hx hl hbx hbm hnq
          by_cases hk : 0 ≤ k ∧ k < 4
          · obtain ⟨g0, g1⟩ := hk
            obtain ⟨R, hR⟩ : ∃ R, R = ans (k, y, d) := ⟨_, rfl⟩
            have hd := doesA HL3.out.a (HT2.out.up (by have := HK.out; have := HN2.out; omega)) (k, y, d)
            have hex := HE.out.add (k, y, d) g0 (by omega)
            rw [← hR] at hd hex
            have HD := Hid.mk hd
            have HEX := Hid.mk hex
            clear hd hex hR
            go_wp2_with fail
            refine HD.out.mono ?_
            rintro e w3 ⟨rfl, va3, ha3, hw3⟩
            have hl4 := HL3.out.wroteA ha3 hw3
            have hb4 := other_kept HL3.out.a HBX.out (by decide) (by decide) (by decide) (by decide) hw3
            have hm4 := other_kept HL3.out.a HBM3.out (by decide) (by decide) (by decide) (by decide) hw3
            have p0 : w3.cell? ⟨wr.heap.size, 0, none⟩ = some (.int .i64 k) := cell_at hb4 rfl
            have HL4 := Hid.mk hl4
            have HBM4 := Hid.mk hm4
            clear hl4 hb4 hm4 ha3 hw3 HD
            cases R with
            | false =>
              rw [if_neg (by simp)] at HEX
              go_wp2
              go_roundw
              case rel => exact ⟨q + 1, va3, T2.add (k, y, d), n, HK.out, by go_num, rfl, by have := HNQ.out; omega, Hid.mk (HT2.out.add _), HEX, HL4, HBM4⟩
              case measure => have := HK.out; simp [intOf]; omega
            | true =>
              by_cases e3 : k = 3
              · subst e3
                rw [if_pos (by simp)] at HEX
                go_wp2
                go_roundw
                case rel => exact ⟨q + 1, va3, T2.add (3, y, d), n + 1, HK.out, by go_num, by go_num, by have := HNQ.out; omega, Hid.mk (HT2.out.add _), HEX, HL4, HBM4⟩
                case measure => have := HK.out; simp [intOf]; omega
              · rw [if_neg (fun h => e3 h.2)] at HEX
                go_wp2
                go_roundw
                case rel => exact ⟨q + 1, va3, T2.add (k, y, d), n, HK.out, by go_num, rfl, by have := HNQ.out; omega, Hid.mk (HT2.out.add _), HEX, HL4, HBM4⟩
                case measure => have := HK.out; simp [intOf]; omega
          · by_cases g0 : 0 ≤ k
            · have g1 : ¬ k < 4 := by omega
              clear hk
              go_wp2
              go_roundw
              case rel => exact ⟨q + 1, va2, T2, n, HK.out, by go_num, rfl, by have := HNQ.out; omega, Hid.mk (HT2.out.up (Nat.le_succ _)), HE, HL3, HBM3⟩
              case measure => have := HK.out; simp [intOf]; omega
            · clear hk
              go_wp2
              go_roundw
              case rel => exact ⟨q + 1, va2, T2, n, HK.out, by go_num, rfl, by have := HNQ.out; omega, Hid.mk (HT2.out.up (Nat.le_succ _)), HE, HL3, HBM3⟩
              case measure => have := HK.out; simp [intOf]; omega
        · have hqk : ¬ (q : Int) < (len2 : Int) := by omega
          have p0 : wr.cell? ⟨M, 0, none⟩ = some (.int .i64 (T.mark 0)) := cell_at HBM.out (mA_at _ 0 (by decide))
          have p1 : wr.cell? ⟨M, 1, none⟩ = some (.int .i64 (T.mark 1)) := cell_at HBM.out (mA_at _ 1 (by decide))
          have p2 : wr.cell? ⟨M, 2, none⟩ = some (.int .i64 (T.mark 2)) := cell_at HBM.out (mA_at _ 2 (by decide))
          have p3 : wr.cell? ⟨M, 3, none⟩ = some (.int .i64 (T.mark 3)) := cell_at HBM.out (mA_at _ 3 (by decide))
          have hbk := back_any HL2.out.a (HT2.out.up (by have := HN2.out; omega)) T.mark
          have HBK := Hid.mk hbk
          have HHE := Hid.mk (HE.out.back)
          have hn40 : n ≤ 40 := by have := HN2.out; omega
          clear hbk hqt
          go_wp2_with fail
          refine HBK.out.mono ?_
          rintro e w3 ⟨⟨vu, nu, rfl, hvu, hnu⟩, va3, ha3, hw3⟩
          rw [HHE.out.2] at hnu
          rw [HHE.out.1] at ha3
          subst hnu
          obtain ⟨au, cu, rfl⟩ := row_shape hvu
          have hl3 := HL2.out.wroteA ha3 hw3
          have hm3 := other_kept HL2.out.a HBM.out (by decide) (by decide) (by decide) (by decide) hw3
          have TL : T.Le 1000000 := HT4.out.up (by decide)
          have TLH := Hid.mk TL
          have hou := output_any hl3.a TL
          obtain ⟨lo, hlo⟩ : ∃ l, l = T.out ++ T.beh := ⟨_, rfl⟩
          obtain ⟨no, hno⟩ : ∃ n, n = lo.length := ⟨_, rfl⟩
          have hno80 : no ≤ 80 := by rw [hno, hlo, List.length_append]; have := HT4.out.out; have := HT4.out.beh; omega
          rw [← hlo, ← hno] at hou
          have HL3 := Hid.mk hl3
          have HM3 := Hid.mk hm3
          have HOU := Hid.mk hou
          have HLO := Hid.mk hlo
          have HNO := Hid.mk hno
          have HNO8 := Hid.mk hno80
          clear hl3 hm3 TL hou hlo hno hno80 ha3 hw3 hvu HBK p0 p1 p2 p3
          go_wp2_with fail
          refine HOU.out.mono ?_
          rintro e w4 ⟨v4, rfl, ho4, hb4⟩
          obtain ⟨a4, c4, rfl, hv4⟩ := own_outs ho4 HNO.out
          have hl4 := HL3.out.grown hb4
          have hou := output_any hl4.b TLH.out
          rw [← HLO.out, ← HNO.out] at hou
          have HL4 := Hid.mk hl4
          have HM4 := Hid.mk (heap_on hb4 HM3.out)
          have HV4 := Hid.mk hv4
          have HOU := Hid.mk hou
          clear hl4 hou hv4 ho4 hb4
          go_wp2_with fail
          refine HOU.out.mono ?_
          rintro e w5 ⟨v5, rfl, ho5, hb5⟩
          obtain ⟨a5, c5, rfl, hv5⟩ := own_outs ho5 HNO.out
          have hl5 := HL4.out.grown hb5
          have hun := undo_any hl5.a TLH.out
          obtain ⟨lu, hlu⟩ : ∃ l, l = amendsL T.ops := ⟨_, rfl⟩
          obtain ⟨nl, hnl⟩ : ∃ n, n = T.ops.length := ⟨_, rfl⟩
          have hnl2 : nl = lu.length := by rw [hlu, amendsL_length, hnl]
          have hnl80 : nl ≤ 80 := by rw [hnl]; have := HT4.out.ops; omega
          rw [← hlu, ← hnl] at hun
          have HL5 := Hid.mk hl5
          have HM5 := Hid.mk (heap_on hb5 HM4.out)
          have HV5 := Hid.mk (HV4.out.grown hb5)
          have HW5 := Hid.mk hv5
          have HUN := Hid.mk hun
          have HLU := Hid.mk hlu
          have HNL := Hid.mk hnl
          have HNL2 := Hid.mk hnl2
          have HNL8 := Hid.mk hnl80
          clear hl5 hun hv5 ho5 hb5 hlu hnl hnl2 hnl80
          go_wp2_with fail
          refine HUN.out.mono ?_
          rintro e w6 ⟨v6, rfl, ho6, hb6⟩
          obtain ⟨a6, c6, rfl, hv6⟩ := own_opens ho6 HNL2.out
          have hl6 := HL5.out.grown hb6
          have hun := undo_any hl6.b TLH.out
          rw [← HLU.out, ← HNL.out] at hun
          have HL6 := Hid.mk hl6
          have HM6 := Hid.mk (heap_on hb6 HM5.out)
          have HV6 := Hid.mk (HV5.out.grown hb6)
          have HW6 := Hid.mk (HW5.out.grown hb6)
          have HP6 := Hid.mk hv6
          have HUN := Hid.mk hun
          clear hl6 hun hv6 ho6 hb6
          go_wp2_with fail
          refine HUN.out.mono ?_
          rintro e w7 ⟨v7, rfl, ho7, hb7⟩
          obtain ⟨a7, c7, rfl, hv7⟩ := own_opens ho7 HNL2.out
          have hl7 := HL6.out.grown hb7
          have hm7 := heap_on hb7 HM6.out
          have HV7 := Hid.mk (HV6.out.grown hb7)
          have HW7 := Hid.mk (HW6.out.grown hb7)
          have HP7 := Hid.mk (HP6.out.grown hb7)
          have HQ7 := Hid.mk hv7
          have hmk := mark_any hl7.drew.a
          have heq := fun w => mark_same T.mark w
          unfold mA at hmk heq
          have HMK := Hid.mk hmk
          have HBL := Hid.mk hl7.bel
          have p0 : w7.cell? ⟨M, 0, none⟩ = some (.int .i64 (T.mark 0)) := cell_at hm7 (mA_at _ 0 (by decide))
          have p1 : w7.cell? ⟨M, 1, none⟩ = some (.int .i64 (T.mark 1)) := cell_at hm7 (mA_at _ 1 (by decide))
          have p2 : w7.cell? ⟨M, 2, none⟩ = some (.int .i64 (T.mark 2)) := cell_at hm7 (mA_at _ 2 (by decide))
          have p3 : w7.cell? ⟨M, 3, none⟩ = some (.int .i64 (T.mark 3)) := cell_at hm7 (mA_at _ 3 (by decide))
          clear hl7 hm7 hmk hv7 ho7 hb7
          go_wp2_with fail
          go_region_held3 (fun wx => wx.cell? ⟨M, 0, none⟩ = some (.int .i64 (T.mark 0)) ∧ wx.cell? ⟨M, 1, none⟩ = some (.int .i64 (T.mark 1)) ∧ wx.cell? ⟨M, 2, none⟩ = some (.int .i64 (T.mark 2)) ∧ wx.cell? ⟨M, 3, none⟩ = some (.int .i64 (T.mark 3)))
            (first
              | exact ⟨p0, p1, p2, p3⟩
              | exact hS1)
            (first
              | (go_at_call 17; refine HMK.out.mono ?_; rintro e w8 ⟨rfl, hb8⟩; have HB8 := Hid.mk hb8; have hS1 := And.intro (on_cell hb8 p0) (And.intro (on_cell hb8 p1) (And.intro (on_cell hb8 p2) (on_cell hb8 p3))); clear hb8))
          all_goals
            have hb9 : Below w7.heap.size w7 w8 := (Below.refl _ w7).drew.trans HB8.out
            have HB9 := Hid.mk hb9
            have hno80 := HNO8.out
            have hnl80 := HNL8.out
            clear hb9 hS1 heq p0 p1 p2 p3
            go_wp2_with fail
            go_loopw [18, 121] (fun _ i wx => ∃ q : Nat, q ≤ no ∧ i = .int .i64 q ∧ Hid (Below w7.heap.size w7 wx)) (fun _ i _ => no - (intOf i).toNat)
            case atStart => exact ⟨0, Nat.zero_le _, rfl, HB9⟩
            case round =>
              clear HB9
              obtain ⟨q, hq, rfl, HB⟩ := hrel
              by_cases hqn : q < no
              · obtain ⟨_, g4, o4, rfl, c0, c1⟩ := (HV7.out.grown HB.out).prO q hqn
                obtain ⟨hz5, g5, o5, rfl, d0, d1⟩ := (HW7.out.grown HB.out).prO q hqn
                obtain ⟨x, hx⟩ : ∃ x, x = lo[q] := ⟨_, rfl⟩
                rw [← hx] at c0 c1 d0 d1
                have heq := same_out x
                have HK := Hid.mk hqn
                clear hx
                go_wp2_with fail
                go_big_region
                all_goals
                  go_wp2
                  go_roundw
                  case rel => exact ⟨q + 1, HK.out, by go_num, Hid.mk HB.out.drew⟩
                  case measure => have := HK.out; simp [intOf]; omega
              · have hnk : ¬ (q : Int) < (no : Int) := by omega
                clear hqn hq
                go_wp2_with fail
                go_loopw [19, 136] (fun _ i wx => ∃ q : Nat, q ≤ nl ∧ i = .int .i64 q ∧ Hid (Below w7.heap.size w7 wx)) (fun _ i _ => nl - (intOf i).toNat)
                case atStart => exact ⟨0, Nat.zero_le _, rfl, HB⟩
                case round =>
                  clear HB
                  obtain ⟨q, hq, rfl, HB⟩ := hrel
                  by_cases hqn : q < nl
                  · obtain ⟨_, g4, o4, rfl, c0, c1⟩ := (HP7.out.grown HB.out).prP q hqn
                    obtain ⟨hz5, g5, o5, rfl, d0, d1⟩ := (HQ7.out.grown HB.out).prP q hqn
                    obtain ⟨x, hx⟩ : ∃ x, x = lu[q] := ⟨_, rfl⟩
                    rw [← hx] at c0 c1 d0 d1
                    have heq := same_open x
                    have HK := Hid.mk hqn
                    clear hx
                    go_wp2_with fail
                    go_big_region
                    all_goals
                      go_wp2
                      go_roundw
                      case rel => exact ⟨q + 1, HK.out, by go_num, Hid.mk HB.out.drew⟩
                      case measure => have := HK.out; simp [intOf]; omega
                  · have hnk : ¬ (q : Int) < (nl : Int) := by omega
                    clear hqn hq
                    go_wp2
                    go_ret
                    exact ⟨rfl, HBL.out.trans (HB.out.mono HBL.out.size)⟩
set_option maxRecDepth 100000 in
theorem lifted (os : Os) (started : os.Started) (H : Type) (enc : TypeId × Value → H) :
    ReturnsInHanded {} Try.checked os 5 .any (Rows.actsMarksSpec.pre6 enc Try.prog Try.f5 Rows.actsMarksRow.domain false) (Rows.actsMarksSpec.post enc Try.prog Try.f5 false true false false) := by
  refine returnsInHanded_of_change (C := Try.checked) own started (by kernel_rfl) Try.func5
    (ChangeSpec.witness6 (enc := enc) (C := Try.checked) false ⟨#[], #[.slice none 0 0, .slice none 0 0], []⟩ 8 (by kernel_rfl) (by kernel_rfl) (by kernel_rfl) (by kernel_rfl)) ?_
  intro W base args ds gs before hval0 hW hcnd _
  have hval : ∀ (j : Nat) t v, Try.f5.params[j]? = some t → args[j]? = some v → Value.okWide Try.prog W .any base t v := hval0
  have hW' := hW
  obtain ⟨p, q, hA0, hV, rfl, hfz, hnd⟩ := hW
  have hA : DataW.TrodAll enc Try.prog W 0 (fun _ => true) true Try.f5.params.toList args.toList ds p := hA0
  rw [Try.params5] at hA hval
  obtain ⟨v0, vs0, d0, ds0, p0, q0, hargs, rfl, rfl, h0, r0⟩ := trodAll_cons hA
  obtain ⟨v1, vs1, d1, ds1, p1, q1, rfl, rfl, rfl, h1, r1⟩ := trodAll_cons r0
  obtain ⟨rfl, rfl, rfl⟩ := trodAll_nil r1
  obtain rfl : args = #[v0, v1] := by cases args; simp_all
  obtain ⟨rfl, rfl⟩ := trodVars_none hV
  obtain ⟨a0, len0, cap0, rfl⟩ := okWide_slice Try.underlying30 (hval 0 30 v0 rfl rfl)
  have k0 := h0
  have lt0 : ∀ x ∈ p0, x.block < W.heap.size := by obtain ⟨m, hm⟩ := k0; exact DataW.trod_lt m _ _ _ hm
  obtain ⟨ts0, w0⟩ : ∃ ts, View W eA 3 a0 len0 cap0 ts := by
    obtain ⟨fuel, hf⟩ := h0
    exact open_view (by decide) eA_len Try.underlying30 Try.cells32 open_act hf
  obtain ⟨a1, len1, cap1, rfl⟩ := okWide_slice Try.underlying30 (hval 1 30 v1 rfl rfl)
  have k1 := h1
  have lt1 : ∀ x ∈ p1, x.block < W.heap.size := by obtain ⟨m, hm⟩ := k1; exact DataW.trod_lt m _ _ _ hm
  obtain ⟨ts1, w1⟩ : ∃ ts, View W eA 3 a1 len1 cap1 ts := by
    obtain ⟨fuel, hf⟩ := h1
    exact open_view (by decide) eA_len Try.underlying30 Try.cells32 open_act hf
  clear hA0 hval0
  refine (walk a0 len0 cap0 ts0 a1 len1 cap1 ts1 W w0 w1).mono fun e W' ⟨he, bel⟩ => ?_
  subst he
  exact ⟨_, rfl, _, _, _, [], _, [], hW', trodAll_mk1 (shut_bool Try.underlying4 _), (trodAll_cons_mk (Below.trod laidOut (by kernel_rfl) (of_decide_eq_true (by kernel_rfl)) k0 bel lt0) (trodAll_cons_mk (Below.trod laidOut (by kernel_rfl) (of_decide_eq_true (by kernel_rfl)) k1 bel lt1) trodAll_mk0)), rfl, bel.frame _, fun h => by cases h⟩

set_option maxRecDepth 100000 in
theorem over : Rows.actsMarksRow.holds Try.pinned (OpenSpec.ofChange Rows.actsMarksSpec) :=
  OpenClaim.holds_of_wide 5 Try.f5 rfl rfl rfl rfl rfl rfl rfl ⟨rfl, rfl, rfl, rfl, rfl⟩ rfl rfl rfl rfl rfl (by kernel_rfl) Try.func5 (by kernel_rfl)
    (of_decide_eq_true (by kernel_rfl)) (by unfold Func.isWrapper; first | (rw [if_pos (by decide +kernel)]; kernel_rfl) | (rw [if_neg (by decide +kernel)]; exact ⟨rfl, rfl⟩))
    (fun os started H enc _ => lifted os started H enc)

end Go.Proofs.Ytnjmnbclbjebbaa.actsMarks

namespace Go.Proofs.Ytnjmnbclbjebbaa
/-- The statement. -/
theorem actsMarks_holds : Rows.ActsMarksSaid := actsMarks.over
#print axioms actsMarks_holds
end Go.Proofs.Ytnjmnbclbjebbaa
