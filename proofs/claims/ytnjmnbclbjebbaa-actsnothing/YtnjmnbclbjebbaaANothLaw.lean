/-
  ActsNothing: for every row of opens and every marks the law returns true: opens, and what makes up for them, come to nothing. No condition.
-/
import Derived.Test.YtnjmnbclbjebbaaAcSum
namespace Go.Proofs.Ytnjmnbclbjebbaa.actsNothing
open Go.ChangeShapes Go.WideShapes Go.ChangeAt Go.RowKit Go.Deep Go.Proofs.Ytnjmnbclbjebbaa.Cel Go.Proofs.Ytnjmnbclbjebbaa.Dft Go.Proofs.Ytnjmnbclbjebbaa.Ac

set_option maxHeartbeats 16000000 in
set_option maxRecDepth 100000 in
theorem walk (a1 : Option Addr) (len1 cap1 : Nat) (xs : List Pr) (a2 : Option Addr) (len2 cap2 : Nat) (ms : List Int) (w : World) (hx : View w eP 2 a1 len1 cap1 xs) (hy : View w eI 1 a2 len2 cap2 ms) :
    Calls Try.prog 4 #[.slice a1 len1 cap1, .slice a2 len2 cap2] w fun e w' => e = .returned (.bool true) ∧ Below w.heap.size w w' := by
  go_enter Try.func4, Try.ntmps4
  go_wp2_with fail
  refine (aliveA w).mono ?_
  rintro e w1 ⟨rfl, hb⟩
  by_cases h1 : 80 < len1
  · have h1' : (80 : Int) < (len1 : Int) := by omega
    go_wp2
    go_ret
    exact ⟨rfl, hb⟩
  have h1' : ¬ (80 : Int) < (len1 : Int) := by omega
  by_cases h2 : 80 < len2
  · have h2' : (80 : Int) < (len2 : Int) := by omega
    go_wp2
    go_ret
    exact ⟨rfl, hb⟩
  have h2' : ¬ (80 : Int) < (len2 : Int) := by omega
  have HX := Hid.mk hx
  have HY := Hid.mk hy
  have hn1 : len1 ≤ 80 := by omega
  have HN1 := Hid.mk hn1
  obtain ⟨b, hbb⟩ : ∃ b, b = w1.heap.size := ⟨_, rfl⟩
  obtain ⟨S, hS⟩ : ∃ S, S = b + 1 := ⟨_, rfl⟩
  have HS0 : Hid (LN w b nilVs [] S (sumT []) ((w1.alloc (.cells #[.slice none 0 0, .slice none 0 0, .slice none 0 0, .slice none 0 0] 29)).alloc (.cells #[.int .i64 0, .int .i64 0, .int .i64 0, .int .i64 0] 33))) := by
    have h2 := heap_new (w1.alloc (.cells #[.slice none 0 0, .slice none 0 0, .slice none 0 0, .slice none 0 0] 29)) (.cells #[.int .i64 0, .int .i64 0, .int .i64 0, .int .i64 0] 33)
    rw [World.size_alloc, ← hbb, ← hS] at h2
    refine Hid.mk ⟨?_, h2, fun k hk => ?_, by have := hb.size; omega, (hb.alloc hb.size _).alloc (by have := hb.size; simp; omega) _⟩
    · have := (AcAt.made w1).grown ((Below.refl _ _).alloc (Nat.le_refl _) (.cells #[.int .i64 0, .int .i64 0, .int .i64 0, .int .i64 0] 33))
      rw [← hbb] at this
      exact this
    · rw [AcAt.nil_ft _ _ hk, hbb]; exact hb.size
  clear hx hy h1 h2 hb
  go_wp2_with fail
  rw [← hbb, ← hS]
  clear hbb hS
  go_loopw [7, 8, 9, 11, 28] (fun _ _ _ _ i wr => ∃ (j : Nat) (vs : Vs) (l : List Pr), j ≤ len1 ∧ i = .int .i64 j ∧ Hid (l.length ≤ j) ∧ Hid (OkO l) ∧ Hid (LN w b vs l S (sumT l) wr)) (fun _ _ _ _ i _ => len1 - (intOf i).toNat)
  case atStart => exact ⟨0, nilVs, [], Nat.zero_le _, rfl, Hid.mk (Nat.le_refl _), Hid.mk OkO.nil, HS0⟩
  case round =>
    clear HS0
    obtain ⟨j, vs, l, hj, rfl, HLE, HOK, HL⟩ := hrel
    by_cases hlt : j < len1
    · obtain ⟨hz, g, off, rfl, c0, c1⟩ := (HX.out.grown HL.out.bel).prP j hlt
      obtain ⟨x, hx⟩ : ∃ x, x = xs[j] := ⟨_, rfl⟩
      rw [← hx] at c0 c1
      obtain ⟨t, d⟩ := x
      dsimp only at c0 c1
      have HK := Hid.mk hlt
      clear hx
      by_cases hd1 : d < -1099511627776
      · go_wp2
        go_ret
        exact ⟨rfl, HL.out.bel.alloc HL.out.bel.size _⟩
      by_cases hd2 : 1099511627776 < d
      · go_wp2
        go_ret
        exact ⟨rfl, HL.out.bel.alloc HL.out.bel.size _⟩
      have hl1 := HL.out.past (.cells #[.int .i64 t, .int .i64 d] 56)
      have hc := opened_any hl1.at_ (opsAS_le (by have := HLE.out; have := HN1.out; show l.length ≤ 1000000; omega)) t d
      have hbx := heap_new wr (.cells #[.int .i64 t, .int .i64 d] 56)
      have hnf : ¬ Ft b vs wr.heap.size := fun hf => by have := HL.out.at_.ft_lt hf; omega
      obtain ⟨R, hR⟩ : ∃ R, R = okT t := ⟨_, rfl⟩
      rw [← hR] at hc
      have HC := Hid.mk hc
      have HL1 := Hid.mk hl1
      have HBX := Hid.mk hbx
      have HNF := Hid.mk hnf
      have HR := Hid.mk hR
      clear hc hl1 hbx hnf hR
      go_wp2_with fail
      refine HC.out.mono ?_
      rintro e w2 ⟨rfl, vs2, h2, hw2⟩
      have hb2 : w2.heap[wr.heap.size]? = some (.cells #[.int .i64 t, .int .i64 d] 56 (0, 0)) := (hw2.block _ (Array.getElem?_eq_some_iff.1 HBX.out).1 HNF.out).trans HBX.out
      have p0 : w2.cell? ⟨wr.heap.size, 0, none⟩ = some (.int .i64 t) := cell_at hb2 rfl
      have p1 : w2.cell? ⟨wr.heap.size, 1, none⟩ = some (.int .i64 d) := cell_at hb2 rfl
      have HA2 := Hid.mk h2
      have HW2 := Hid.mk hw2
      clear h2 hw2 hb2 HC
      go_upto_if 46 with fail
      go_cut [] from 29 to 109 (fun wx => ∃ l2 : List Pr, l2.length ≤ j + 1 ∧ OkO l2 ∧ LN w b vs2 l2 S (sumT l2) wx)
      case first =>
        cases R with
        | false =>
          have hl2 : LN w b vs2 l S (sumT l) w2 := HL1.out.wrote (by have h := HA2.out; rw [ops_no l t d HR.out.symm] at h; exact h) HW2.out
          have HL2 := Hid.mk hl2
          clear hl2 p0 p1
          go_wp2
          go_meet
          case rel => exact ⟨l, by have := HLE.out; omega, HOK.out, HL2.out⟩
        | true =>
          have hl2 : LN w b vs2 (l ++ [(t, d)]) S (sumT l) w2 := HL1.out.wrote (by have h := HA2.out; rw [ops_yes l t d HR.out.symm] at h; exact h) HW2.out
          have ht : 0 ≤ t ∧ t ≤ 3 := by have h := HR.out.symm; unfold okT at h; simpa using h
          have hok2 := HOK.out.snoc (o := (t, d)) ⟨ht, by simp only; omega⟩
          have HL2 := Hid.mk hl2
          have HOK2 := Hid.mk hok2
          have ht4 : t = 0 ∨ t = 1 ∨ t = 2 ∨ t = 3 := by omega
          have hsum := fun k => sumT_le l HOK.out k
          have hl80 : l.length ≤ 80 := by have := HLE.out; have := HN1.out; omega
          clear hl2 ht hok2
          rcases ht4 with rfl | rfl | rfl | rfl
          · have q0 := HL2.out.cell 0 (by decide)
            have z0 := HL2.out.fz 0
            have hs0 : -100000000000000 ≤ sumT l 0 ∧ sumT l 0 ≤ 100000000000000 := by have := hsum 0; omega
            have hp := HL2.out.drew.put (g := sumT (l ++ [(0, d)])) 0 (by decide) (sumT l 0 + d) (fun q hq => by rw [sumT_snoc]; by_cases e : q = 0 <;> simp [e] <;> omega)
            have HP := Hid.mk hp
            clear hp hsum
            go_wp2_with fail
            go_big_region
            all_goals
              go_wp2
              go_meet
              case rel => exact ⟨l ++ [(0, d)], by have := HLE.out; simp; omega, HOK2.out, HP.out⟩
          · have q0 := HL2.out.cell 1 (by decide)
            have z0 := HL2.out.fz 1
            have hs0 : -100000000000000 ≤ sumT l 1 ∧ sumT l 1 ≤ 100000000000000 := by have := hsum 1; omega
            have hp := HL2.out.drew.put (g := sumT (l ++ [(1, d)])) 1 (by decide) (sumT l 1 + d) (fun q hq => by rw [sumT_snoc]; by_cases e : q = 1 <;> simp [e] <;> omega)
            have HP := Hid.mk hp
            clear hp hsum
            go_wp2_with fail
            go_big_region
            all_goals
              go_wp2
              go_meet
              case rel => exact ⟨l ++ [(1, d)], by have := HLE.out; simp; omega, HOK2.out, HP.out⟩
          · have q0 := HL2.out.cell 2 (by decide)
            have z0 := HL2.out.fz 2
            have hs0 : -100000000000000 ≤ sumT l 2 ∧ sumT l 2 ≤ 100000000000000 := by have := hsum 2; omega
            have hp := HL2.out.drew.put (g := sumT (l ++ [(2, d)])) 2 (by decide) (sumT l 2 + d) (fun q hq => by rw [sumT_snoc]; by_cases e : q = 2 <;> simp [e] <;> omega)
            have HP := Hid.mk hp
            clear hp hsum
            go_wp2_with fail
            go_big_region
            all_goals
              go_wp2
              go_meet
              case rel => exact ⟨l ++ [(2, d)], by have := HLE.out; simp; omega, HOK2.out, HP.out⟩
          · have q0 := HL2.out.cell 3 (by decide)
            have z0 := HL2.out.fz 3
            have hs0 : -100000000000000 ≤ sumT l 3 ∧ sumT l 3 ≤ 100000000000000 := by have := hsum 3; omega
            have hp := HL2.out.drew.put (g := sumT (l ++ [(3, d)])) 3 (by decide) (sumT l 3 + d) (fun q hq => by rw [sumT_snoc]; by_cases e : q = 3 <;> simp [e] <;> omega)
            have HP := Hid.mk hp
            clear hp hsum
            go_wp2_with fail
            go_big_region
            all_goals
              go_wp2
              go_meet
              case rel => exact ⟨l ++ [(3, d)], by have := HLE.out; simp; omega, HOK2.out, HP.out⟩
      case rest =>
        obtain ⟨l2, hl2, hok2, hL2⟩ := hcut
        have HLE2 := Hid.mk hl2
        have HOK2 := Hid.mk hok2
        have HL2 := Hid.mk hL2
        clear HL HL1 HBX HLE HOK HNF HA2 HW2 p0 p1 HR hl2 hok2 hL2
        by_cases hm : j < len2
        · obtain ⟨hz2, g2, off2, rfl, c2⟩ := (HY.out.grown HL2.out.bel).num j hm
          obtain ⟨x, hx⟩ : ∃ x, x = ms[j] := ⟨_, rfl⟩
          rw [← hx] at c2
          clear hx
          by_cases hx0 : 0 ≤ x
          · have hmk := mark_any HL2.out.at_
            rw [ops_mark] at hmk
            obtain ⟨n, hn⟩ : ∃ n, n = l2.length := ⟨_, rfl⟩
            rw [← hn] at hmk
            have HMK := Hid.mk hmk
            have HN := Hid.mk hn
            clear hmk hn
            go_wp2_with fail
            refine HMK.out.mono ?_
            rintro e w3 ⟨rfl, hb3⟩
            obtain ⟨z, hz⟩ : ∃ z : Int, z = if x ≤ (n : Int) then x else n := ⟨_, rfl⟩
            have hl3 := (HL2.out.grown hb3).past (.cells #[.int .i64 0, .int .i64 0, .int .i64 0, .int .i64 z] 42)
            have c3 := on_cell hb3 c2
            have c4 := past (o := .cells #[.int .i64 0, .int .i64 0, .int .i64 0, .int .i64 (n : Int)] 42) c3
            have hbk := back_any hl3.drew.at_ (opsAS_le (by have := HLE2.out; have := HN1.out; have := HK.out; omega)) (mF 0 0 0 z)
            have hzn : 0 ≤ z ∧ z ≤ n := by rw [hz]; split <;> omega
            have HL3 := Hid.mk hl3
            have HBK := Hid.mk hbk
            have HZN := Hid.mk hzn
            clear hl3 hbk hb3 HMK HL2 c2 hzn
            by_cases hxn : x ≤ (n : Int)
            · rw [if_pos hxn] at hz
              subst hz
              clear c3
              go_wp2_with fail
              go_big_region
              all_goals
                go_wp2_with fail
                refine HBK.out.mono ?_
                rintro e w4 ⟨⟨vu, nu, rfl, hvu, hnu⟩, vs4, h4, hw4⟩
                rw [ops_back] at h4
                obtain ⟨k, hk⟩ : ∃ k, k = z.toNat := ⟨_, rfl⟩
                obtain ⟨ul, hul⟩ : ∃ u, u = amendsL (l2.drop k) := ⟨_, rfl⟩
                rw [show amendsL ((opsAS l2).ops.drop (mF 0 0 0 z 3).toNat) = ul by rw [hul, hk]; rfl] at hvu
                rw [show (mF 0 0 0 z 3).toNat = k from hk.symm] at h4
                have hnu2 : nu = ul.length := by rw [hul, amendsL_length, hk]; exact hnu
                have hnu80 : nu ≤ 80 := by rw [hnu2, hul, amendsL_length, List.length_drop]; have := HLE2.out; have := HN1.out; have := HK.out; omega
                have hou : OkO ul := by rw [hul]; exact (HOK2.out.drop k).amends
                have hsu : ∀ q, -100000000000000 ≤ sumT l2 q ∧ sumT l2 q ≤ 100000000000000 := fun q => by have := sumT_le l2 HOK2.out q; have := HLE2.out; have := HN1.out; have := HK.out; omega
                have hend : (fun i => sumT l2 i + sumT ul i) = sumT (l2.take k) := by
                  funext i
                  rw [hul, sumT_amends _ (HOK2.out.drop k)]
                  have := sumT_cut l2 k i
                  omega
                have hl4 := HL3.out.drew.wrote h4 hw4
                have hlo : S < w3.heap.size + 1 := by have := (Array.getElem?_eq_some_iff.1 HL3.out.sums).1; simpa using this
                have hvu2 : w4.ownsRow (w3.heap.size + 1) 56 2 vu nu (flat eP ul) := by
                  have e : (w3.alloc (.cells #[.int .i64 0, .int .i64 0, .int .i64 0, .int .i64 z] 42)).drew.heap.size = w3.heap.size + 1 := World.size_alloc _ _
                  rw [e] at hvu
                  exact hvu
                obtain ⟨au, cu, rfl⟩ := row_shape hvu2
                have HL4 := Hid.mk hl4
                have HVU := Hid.mk hvu2
                have HNU := Hid.mk hnu2
                have HOU := Hid.mk hou
                have HSU := Hid.mk hsu
                have HEN := Hid.mk hend
                have HLO := Hid.mk hlo
                clear hl4 hvu hvu2 hnu hnu2 hou hsu hend hlo h4 hw4 hul hk HBK HL3
                go_wp2_with fail
                go_loopw [11, 88] (fun _ i wx => ∃ q : Nat, q ≤ nu ∧ i = .int .i64 q ∧ Hid (LN w b vs4 (l2.take k) S (fun i => sumT l2 i + sumT (ul.take q) i) wx) ∧ Hid (wx.ownsRow (w3.heap.size + 1) 56 2 (.slice au nu cu) nu (flat eP ul))) (fun _ i _ => nu - (intOf i).toNat)
                case atStart => exact ⟨0, Nat.zero_le _, rfl, by have h := HL4.out; rw [show sumT l2 = (fun i => sumT l2 i + sumT (ul.take 0) i) by funext i; simp [sumT]] at h; exact Hid.mk h, HVU⟩
                case round =>
                  clear HL4 HVU
                  obtain ⟨q, hq, rfl, HL5, HV5⟩ := hrel
                  by_cases hqn : q < nu
                  · obtain ⟨hzq, g5, o5, e5, d0, d1⟩ := (own_view eP_len HV5.out HNU.out).prP q hqn
                    subst e5
                    obtain ⟨x5, hx5⟩ : ∃ x, x = ul[q] := ⟨_, rfl⟩
                    rw [← hx5] at d0 d1
                    obtain ⟨t2, e2⟩ := x5
                    dsimp only at d0 d1
                    have hto : (0 ≤ t2 ∧ t2 ≤ 3) ∧ -1099511627776 ≤ e2 ∧ e2 ≤ 1099511627776 := HOU.out (t2, e2) (by rw [hx5]; exact List.getElem_mem hzq)
                    have htk : ul.take (q + 1) = ul.take q ++ [(t2, e2)] := by rw [List.take_succ_eq_append_getElem hzq, hx5]
                    have hsq : ∀ i, -100000000000000 ≤ sumT (ul.take q) i ∧ sumT (ul.take q) i ≤ 100000000000000 := fun i => by
                      have h := sumT_le (ul.take q) (HOU.out.take q) i
                      have h2 : (ul.take q).length ≤ 80 := by rw [List.length_take]; omega
                      omega
                    obtain ⟨⟨ht0, ht3⟩, he⟩ := hto
                    have ht4 : t2 = 0 ∨ t2 = 1 ∨ t2 = 2 ∨ t2 = 3 := by omega
                    have HTK := Hid.mk htk
                    have HQ := Hid.mk hqn
                    have how : ∀ (r : Nat), (Value.slice (some ⟨g5, o5, none⟩) nu cu).ownBlock = some r → r ≠ S ∧ r < wr.heap.size := fun r hr => by
                      have := HV5.out.lt r hr
                      have := HLO.out
                      exact ⟨by omega, by omega⟩
                    have HOW := Hid.mk how
                    have hsu := HSU.out
                    clear hx5 htk hzq how
                    rcases ht4 with rfl | rfl | rfl | rfl
                    · have hp5 := HL5.out.past (.cells #[.int .i64 0, .int .i64 e2] 56)
                      have q0 : (wr.alloc (.cells #[.int .i64 0, .int .i64 e2] 56)).cell? ⟨S, 0, none⟩ = some (.int .i64 (sumT l2 0 + sumT (ul.take q) 0)) := hp5.cell 0 (by decide)
                      have z0 := hp5.fz 0
                      have hs0 : -200000000000000 ≤ sumT l2 0 + sumT (ul.take q) 0 ∧ sumT l2 0 + sumT (ul.take q) 0 ≤ 200000000000000 := by have := hsu 0; have := hsq 0; omega
                      have HP := Hid.mk ((hp5.put (g := fun i => sumT l2 i + sumT (ul.take (q + 1)) i) 0 (by decide) (sumT l2 0 + sumT (ul.take q) 0 + e2) (fun i _ => by rw [HTK.out]; simp only [sumT_snoc]; by_cases e : i = 0 <;> simp [e] <;> omega)).drew)
                      have HVP : Hid (((wr.alloc (.cells #[.int .i64 0, .int .i64 e2] 56)).setCell ⟨S, 0, none⟩ (.int .i64 (sumT l2 0 + sumT (ul.take q) 0 + e2))).drew.ownsRow (w3.heap.size + 1) 56 2 (.slice (some ⟨g5, o5, none⟩) nu cu) nu (flat eP ul)) :=
                        Hid.mk (ownsRow_carry HV5.out fun r hr => (Below.heap_setCell _ _ _ _ (HOW.out r hr).1).trans (Below.heap_alloc _ _ _ (HOW.out r hr).2))
                      clear hp5 hsq hsu
                      go_wp2_with fail
                      go_big_region
                      all_goals
                        go_wp2
                        go_roundw
                        case rel => exact ⟨q + 1, HQ.out, by go_num, HP, HVP⟩
                        case measure => have := HQ.out; simp [intOf]; omega
                    · have hp5 := HL5.out.past (.cells #[.int .i64 1, .int .i64 e2] 56)
                      have q0 : (wr.alloc (.cells #[.int .i64 1, .int .i64 e2] 56)).cell? ⟨S, 1, none⟩ = some (.int .i64 (sumT l2 1 + sumT (ul.take q) 1)) := hp5.cell 1 (by decide)
                      have z0 := hp5.fz 1
                      have hs0 : -200000000000000 ≤ sumT l2 1 + sumT (ul.take q) 1 ∧ sumT l2 1 + sumT (ul.take q) 1 ≤ 200000000000000 := by have := hsu 1; have := hsq 1; omega
                      have HP := Hid.mk ((hp5.put (g := fun i => sumT l2 i + sumT (ul.take (q + 1)) i) 1 (by decide) (sumT l2 1 + sumT (ul.take q) 1 + e2) (fun i _ => by rw [HTK.out]; simp only [sumT_snoc]; by_cases e : i = 1 <;> simp [e] <;> omega)).drew)
                      have HVP : Hid (((wr.alloc (.cells #[.int .i64 1, .int .i64 e2] 56)).setCell ⟨S, 1, none⟩ (.int .i64 (sumT l2 1 + sumT (ul.take q) 1 + e2))).drew.ownsRow (w3.heap.size + 1) 56 2 (.slice (some ⟨g5, o5, none⟩) nu cu) nu (flat eP ul)) :=
                        Hid.mk (ownsRow_carry HV5.out fun r hr => (Below.heap_setCell _ _ _ _ (HOW.out r hr).1).trans (Below.heap_alloc _ _ _ (HOW.out r hr).2))
                      clear hp5 hsq hsu
                      go_wp2_with fail
                      go_big_region
                      all_goals
                        go_wp2
                        go_roundw
                        case rel => exact ⟨q + 1, HQ.out, by go_num, HP, HVP⟩
                        case measure => have := HQ.out; simp [intOf]; omega
                    · have hp5 := HL5.out.past (.cells #[.int .i64 2, .int .i64 e2] 56)
                      have q0 : (wr.alloc (.cells #[.int .i64 2, .int .i64 e2] 56)).cell? ⟨S, 2, none⟩ = some (.int .i64 (sumT l2 2 + sumT (ul.take q) 2)) := hp5.cell 2 (by decide)
                      have z0 := hp5.fz 2
                      have hs0 : -200000000000000 ≤ sumT l2 2 + sumT (ul.take q) 2 ∧ sumT l2 2 + sumT (ul.take q) 2 ≤ 200000000000000 := by have := hsu 2; have := hsq 2; omega
                      have HP := Hid.mk ((hp5.put (g := fun i => sumT l2 i + sumT (ul.take (q + 1)) i) 2 (by decide) (sumT l2 2 + sumT (ul.take q) 2 + e2) (fun i _ => by rw [HTK.out]; simp only [sumT_snoc]; by_cases e : i = 2 <;> simp [e] <;> omega)).drew)
                      have HVP : Hid (((wr.alloc (.cells #[.int .i64 2, .int .i64 e2] 56)).setCell ⟨S, 2, none⟩ (.int .i64 (sumT l2 2 + sumT (ul.take q) 2 + e2))).drew.ownsRow (w3.heap.size + 1) 56 2 (.slice (some ⟨g5, o5, none⟩) nu cu) nu (flat eP ul)) :=
                        Hid.mk (ownsRow_carry HV5.out fun r hr => (Below.heap_setCell _ _ _ _ (HOW.out r hr).1).trans (Below.heap_alloc _ _ _ (HOW.out r hr).2))
                      clear hp5 hsq hsu
                      go_wp2_with fail
                      go_big_region
                      all_goals
                        go_wp2
                        go_roundw
                        case rel => exact ⟨q + 1, HQ.out, by go_num, HP, HVP⟩
                        case measure => have := HQ.out; simp [intOf]; omega
                    · have hp5 := HL5.out.past (.cells #[.int .i64 3, .int .i64 e2] 56)
                      have q0 : (wr.alloc (.cells #[.int .i64 3, .int .i64 e2] 56)).cell? ⟨S, 3, none⟩ = some (.int .i64 (sumT l2 3 + sumT (ul.take q) 3)) := hp5.cell 3 (by decide)
                      have z0 := hp5.fz 3
                      have hs0 : -200000000000000 ≤ sumT l2 3 + sumT (ul.take q) 3 ∧ sumT l2 3 + sumT (ul.take q) 3 ≤ 200000000000000 := by have := hsu 3; have := hsq 3; omega
                      have HP := Hid.mk ((hp5.put (g := fun i => sumT l2 i + sumT (ul.take (q + 1)) i) 3 (by decide) (sumT l2 3 + sumT (ul.take q) 3 + e2) (fun i _ => by rw [HTK.out]; simp only [sumT_snoc]; by_cases e : i = 3 <;> simp [e] <;> omega)).drew)
                      have HVP : Hid (((wr.alloc (.cells #[.int .i64 3, .int .i64 e2] 56)).setCell ⟨S, 3, none⟩ (.int .i64 (sumT l2 3 + sumT (ul.take q) 3 + e2))).drew.ownsRow (w3.heap.size + 1) 56 2 (.slice (some ⟨g5, o5, none⟩) nu cu) nu (flat eP ul)) :=
                        Hid.mk (ownsRow_carry HV5.out fun r hr => (Below.heap_setCell _ _ _ _ (HOW.out r hr).1).trans (Below.heap_alloc _ _ _ (HOW.out r hr).2))
                      clear hp5 hsq hsu
                      go_wp2_with fail
                      go_big_region
                      all_goals
                        go_wp2
                        go_roundw
                        case rel => exact ⟨q + 1, HQ.out, by go_num, HP, HVP⟩
                        case measure => have := HQ.out; simp [intOf]; omega
                  · have hqe : q = nu := by omega
                    have htl : ul.take q = ul := List.take_of_length_le (by rw [hqe, HNU.out]; exact Nat.le_refl _)
                    have h5 := HL5.out
                    rw [htl, HEN.out] at h5
                    have H5 := Hid.mk h5
                    have hnk : ¬ (q : Int) < (nu : Int) := by omega
                    clear h5 htl hqe hqn HL5
                    go_wp2
                    go_roundw
                    case rel => exact ⟨j + 1, vs4, l2.take k, HK.out, by go_num, Hid.mk (by rw [List.length_take]; have := HLE2.out; omega), Hid.mk (HOK2.out.take k), H5⟩
                    case measure => have := HK.out; simp [intOf]; omega
            · rw [if_neg hxn] at hz
              subst hz
              clear c3
              go_wp2_with fail
              go_big_region
              all_goals
                go_wp2_with fail
                refine HBK.out.mono ?_
                rintro e w4 ⟨⟨vu, nu, rfl, hvu, hnu⟩, vs4, h4, hw4⟩
                rw [ops_back] at h4
                obtain ⟨k, hk⟩ : ∃ k, k = (n : Int).toNat := ⟨_, rfl⟩
                obtain ⟨ul, hul⟩ : ∃ u, u = amendsL (l2.drop k) := ⟨_, rfl⟩
                rw [show amendsL ((opsAS l2).ops.drop (mF 0 0 0 (n : Int) 3).toNat) = ul by rw [hul, hk]; rfl] at hvu
                rw [show (mF 0 0 0 (n : Int) 3).toNat = k from hk.symm] at h4
                have hnu2 : nu = ul.length := by rw [hul, amendsL_length, hk]; exact hnu
                have hnu80 : nu ≤ 80 := by rw [hnu2, hul, amendsL_length, List.length_drop]; have := HLE2.out; have := HN1.out; have := HK.out; omega
                have hou : OkO ul := by rw [hul]; exact (HOK2.out.drop k).amends
                have hsu : ∀ q, -100000000000000 ≤ sumT l2 q ∧ sumT l2 q ≤ 100000000000000 := fun q => by have := sumT_le l2 HOK2.out q; have := HLE2.out; have := HN1.out; have := HK.out; omega
                have hend : (fun i => sumT l2 i + sumT ul i) = sumT (l2.take k) := by
                  funext i
                  rw [hul, sumT_amends _ (HOK2.out.drop k)]
                  have := sumT_cut l2 k i
                  omega
                have hl4 := HL3.out.drew.wrote h4 hw4
                have hlo : S < w3.heap.size + 1 := by have := (Array.getElem?_eq_some_iff.1 HL3.out.sums).1; simpa using this
                have hvu2 : w4.ownsRow (w3.heap.size + 1) 56 2 vu nu (flat eP ul) := by
                  have e : (w3.alloc (.cells #[.int .i64 0, .int .i64 0, .int .i64 0, .int .i64 (n : Int)] 42)).drew.heap.size = w3.heap.size + 1 := World.size_alloc _ _
                  rw [e] at hvu
                  exact hvu
                obtain ⟨au, cu, rfl⟩ := row_shape hvu2
                have HL4 := Hid.mk hl4
                have HVU := Hid.mk hvu2
                have HNU := Hid.mk hnu2
                have HOU := Hid.mk hou
                have HSU := Hid.mk hsu
                have HEN := Hid.mk hend
                have HLO := Hid.mk hlo
                clear hl4 hvu hvu2 hnu hnu2 hou hsu hend hlo h4 hw4 hul hk HBK HL3
                go_wp2_with fail
                go_loopw [11, 88] (fun _ i wx => ∃ q : Nat, q ≤ nu ∧ i = .int .i64 q ∧ Hid (LN w b vs4 (l2.take k) S (fun i => sumT l2 i + sumT (ul.take q) i) wx) ∧ Hid (wx.ownsRow (w3.heap.size + 1) 56 2 (.slice au nu cu) nu (flat eP ul))) (fun _ i _ => nu - (intOf i).toNat)
                case atStart => exact ⟨0, Nat.zero_le _, rfl, by have h := HL4.out; rw [show sumT l2 = (fun i => sumT l2 i + sumT (ul.take 0) i) by funext i; simp [sumT]] at h; exact Hid.mk h, HVU⟩
                case round =>
                  clear HL4 HVU
                  obtain ⟨q, hq, rfl, HL5, HV5⟩ := hrel
                  by_cases hqn : q < nu
                  · obtain ⟨hzq, g5, o5, e5, d0, d1⟩ := (own_view eP_len HV5.out HNU.out).prP q hqn
                    subst e5
                    obtain ⟨x5, hx5⟩ : ∃ x, x = ul[q] := ⟨_, rfl⟩
                    rw [← hx5] at d0 d1
                    obtain ⟨t2, e2⟩ := x5
                    dsimp only at d0 d1
                    have hto : (0 ≤ t2 ∧ t2 ≤ 3) ∧ -1099511627776 ≤ e2 ∧ e2 ≤ 1099511627776 := HOU.out (t2, e2) (by rw [hx5]; exact List.getElem_mem hzq)
                    have htk : ul.take (q + 1) = ul.take q ++ [(t2, e2)] := by rw [List.take_succ_eq_append_getElem hzq, hx5]
                    have hsq : ∀ i, -100000000000000 ≤ sumT (ul.take q) i ∧ sumT (ul.take q) i ≤ 100000000000000 := fun i => by
                      have h := sumT_le (ul.take q) (HOU.out.take q) i
                      have h2 : (ul.take q).length ≤ 80 := by rw [List.length_take]; omega
                      omega
                    obtain ⟨⟨ht0, ht3⟩, he⟩ := hto
                    have ht4 : t2 = 0 ∨ t2 = 1 ∨ t2 = 2 ∨ t2 = 3 := by omega
                    have HTK := Hid.mk htk
                    have HQ := Hid.mk hqn
                    have how : ∀ (r : Nat), (Value.slice (some ⟨g5, o5, none⟩) nu cu).ownBlock = some r → r ≠ S ∧ r < wr.heap.size := fun r hr => by
                      have := HV5.out.lt r hr
                      have := HLO.out
                      exact ⟨by omega, by omega⟩
                    have HOW := Hid.mk how
                    have hsu := HSU.out
                    clear hx5 htk hzq how
                    rcases ht4 with rfl | rfl | rfl | rfl
                    · have hp5 := HL5.out.past (.cells #[.int .i64 0, .int .i64 e2] 56)
                      have q0 : (wr.alloc (.cells #[.int .i64 0, .int .i64 e2] 56)).cell? ⟨S, 0, none⟩ = some (.int .i64 (sumT l2 0 + sumT (ul.take q) 0)) := hp5.cell 0 (by decide)
                      have z0 := hp5.fz 0
                      have hs0 : -200000000000000 ≤ sumT l2 0 + sumT (ul.take q) 0 ∧ sumT l2 0 + sumT (ul.take q) 0 ≤ 200000000000000 := by have := hsu 0; have := hsq 0; omega
                      have HP := Hid.mk ((hp5.put (g := fun i => sumT l2 i + sumT (ul.take (q + 1)) i) 0 (by decide) (sumT l2 0 + sumT (ul.take q) 0 + e2) (fun i _ => by rw [HTK.out]; simp only [sumT_snoc]; by_cases e : i = 0 <;> simp [e] <;> omega)).drew)
                      have HVP : Hid (((wr.alloc (.cells #[.int .i64 0, .int .i64 e2] 56)).setCell ⟨S, 0, none⟩ (.int .i64 (sumT l2 0 + sumT (ul.take q) 0 + e2))).drew.ownsRow (w3.heap.size + 1) 56 2 (.slice (some ⟨g5, o5, none⟩) nu cu) nu (flat eP ul)) :=
                        Hid.mk (ownsRow_carry HV5.out fun r hr => (Below.heap_setCell _ _ _ _ (HOW.out r hr).1).trans (Below.heap_alloc _ _ _ (HOW.out r hr).2))
                      clear hp5 hsq hsu
                      go_wp2_with fail
                      go_big_region
                      all_goals
                        go_wp2
                        go_roundw
                        case rel => exact ⟨q + 1, HQ.out, by go_num, HP, HVP⟩
                        case measure => have := HQ.out; simp [intOf]; omega
                    · have hp5 := HL5.out.past (.cells #[.int .i64 1, .int .i64 e2] 56)
                      have q0 : (wr.alloc (.cells #[.int .i64 1, .int .i64 e2] 56)).cell? ⟨S, 1, none⟩ = some (.int .i64 (sumT l2 1 + sumT (ul.take q) 1)) := hp5.cell 1 (by decide)
                      have z0 := hp5.fz 1
                      have hs0 : -200000000000000 ≤ sumT l2 1 + sumT (ul.take q) 1 ∧ sumT l2 1 + sumT (ul.take q) 1 ≤ 200000000000000 := by have := hsu 1; have := hsq 1; omega
                      have HP := Hid.mk ((hp5.put (g := fun i => sumT l2 i + sumT (ul.take (q + 1)) i) 1 (by decide) (sumT l2 1 + sumT (ul.take q) 1 + e2) (fun i _ => by rw [HTK.out]; simp only [sumT_snoc]; by_cases e : i = 1 <;> simp [e] <;> omega)).drew)
                      have HVP : Hid (((wr.alloc (.cells #[.int .i64 1, .int .i64 e2] 56)).setCell ⟨S, 1, none⟩ (.int .i64 (sumT l2 1 + sumT (ul.take q) 1 + e2))).drew.ownsRow (w3.heap.size + 1) 56 2 (.slice (some ⟨g5, o5, none⟩) nu cu) nu (flat eP ul)) :=
                        Hid.mk (ownsRow_carry HV5.out fun r hr => (Below.heap_setCell _ _ _ _ (HOW.out r hr).1).trans (Below.heap_alloc _ _ _ (HOW.out r hr).2))
                      clear hp5 hsq hsu
                      go_wp2_with fail
                      go_big_region
                      all_goals
                        go_wp2
                        go_roundw
                        case rel => exact ⟨q + 1, HQ.out, by go_num, HP, HVP⟩
                        case measure => have := HQ.out; simp [intOf]; omega
                    · have hp5 := HL5.out.past (.cells #[.int .i64 2, .int .i64 e2] 56)
                      have q0 : (wr.alloc (.cells #[.int .i64 2, .int .i64 e2] 56)).cell? ⟨S, 2, none⟩ = some (.int .i64 (sumT l2 2 + sumT (ul.take q) 2)) := hp5.cell 2 (by decide)
                      have z0 := hp5.fz 2
                      have hs0 : -200000000000000 ≤ sumT l2 2 + sumT (ul.take q) 2 ∧ sumT l2 2 + sumT (ul.take q) 2 ≤ 200000000000000 := by have := hsu 2; have := hsq 2; omega
                      have HP := Hid.mk ((hp5.put (g := fun i => sumT l2 i + sumT (ul.take (q + 1)) i) 2 (by decide) (sumT l2 2 + sumT (ul.take q) 2 + e2) (fun i _ => by rw [HTK.out]; simp only [sumT_snoc]; by_cases e : i = 2 <;> simp [e] <;> omega)).drew)
                      have HVP : Hid (((wr.alloc (.cells #[.int .i64 2, .int .i64 e2] 56)).setCell ⟨S, 2, none⟩ (.int .i64 (sumT l2 2 + sumT (ul.take q) 2 + e2))).drew.ownsRow (w3.heap.size + 1) 56 2 (.slice (some ⟨g5, o5, none⟩) nu cu) nu (flat eP ul)) :=
                        Hid.mk (ownsRow_carry HV5.out fun r hr => (Below.heap_setCell _ _ _ _ (HOW.out r hr).1).trans (Below.heap_alloc _ _ _ (HOW.out r hr).2))
                      clear hp5 hsq hsu
                      go_wp2_with fail
                      go_big_region
                      all_goals
                        go_wp2
                        go_roundw
                        case rel => exact ⟨q + 1, HQ.out, by go_num, HP, HVP⟩
                        case measure => have := HQ.out; simp [intOf]; omega
                    · have hp5 := HL5.out.past (.cells #[.int .i64 3, .int .i64 e2] 56)
                      have q0 : (wr.alloc (.cells #[.int .i64 3, .int .i64 e2] 56)).cell? ⟨S, 3, none⟩ = some (.int .i64 (sumT l2 3 + sumT (ul.take q) 3)) := hp5.cell 3 (by decide)
                      have z0 := hp5.fz 3
                      have hs0 : -200000000000000 ≤ sumT l2 3 + sumT (ul.take q) 3 ∧ sumT l2 3 + sumT (ul.take q) 3 ≤ 200000000000000 := by have := hsu 3; have := hsq 3; omega
                      have HP := Hid.mk ((hp5.put (g := fun i => sumT l2 i + sumT (ul.take (q + 1)) i) 3 (by decide) (sumT l2 3 + sumT (ul.take q) 3 + e2) (fun i _ => by rw [HTK.out]; simp only [sumT_snoc]; by_cases e : i = 3 <;> simp [e] <;> omega)).drew)
                      have HVP : Hid (((wr.alloc (.cells #[.int .i64 3, .int .i64 e2] 56)).setCell ⟨S, 3, none⟩ (.int .i64 (sumT l2 3 + sumT (ul.take q) 3 + e2))).drew.ownsRow (w3.heap.size + 1) 56 2 (.slice (some ⟨g5, o5, none⟩) nu cu) nu (flat eP ul)) :=
                        Hid.mk (ownsRow_carry HV5.out fun r hr => (Below.heap_setCell _ _ _ _ (HOW.out r hr).1).trans (Below.heap_alloc _ _ _ (HOW.out r hr).2))
                      clear hp5 hsq hsu
                      go_wp2_with fail
                      go_big_region
                      all_goals
                        go_wp2
                        go_roundw
                        case rel => exact ⟨q + 1, HQ.out, by go_num, HP, HVP⟩
                        case measure => have := HQ.out; simp [intOf]; omega
                  · have hqe : q = nu := by omega
                    have htl : ul.take q = ul := List.take_of_length_le (by rw [hqe, HNU.out]; exact Nat.le_refl _)
                    have h5 := HL5.out
                    rw [htl, HEN.out] at h5
                    have H5 := Hid.mk h5
                    have hnk : ¬ (q : Int) < (nu : Int) := by omega
                    clear h5 htl hqe hqn HL5
                    go_wp2
                    go_roundw
                    case rel => exact ⟨j + 1, vs4, l2.take k, HK.out, by go_num, Hid.mk (by rw [List.length_take]; have := HLE2.out; omega), Hid.mk (HOK2.out.take k), H5⟩
                    case measure => have := HK.out; simp [intOf]; omega
          · go_wp2
            go_roundw
            case rel => exact ⟨j + 1, vs2, l2, HK.out, by go_num, HLE2, HOK2, HL2⟩
            case measure => have := HK.out; simp [intOf]; omega
        · have hm2 : ¬ (j : Int) < (len2 : Int) := by omega
          go_wp2
          go_roundw
          case rel => exact ⟨j + 1, vs2, l2, HK.out, by go_num, HLE2, HOK2, HL2⟩
          case measure => have := HK.out; simp [intOf]; omega
    · have hl80 : l.length ≤ 80 := by have := HLE.out; have := HN1.out; omega
      have hnk : ¬ (j : Int) < (len1 : Int) := by omega
      have hun := undo_any HL.out.at_ (opsAS_le (show l.length ≤ 1000000 by omega))
      obtain ⟨B0, hB0⟩ : ∃ B, B = wr.heap.size := ⟨_, rfl⟩
      obtain ⟨ul, hul⟩ : ∃ u, u = amendsL l := ⟨_, rfl⟩
      obtain ⟨nu, hnu⟩ : ∃ n, n = l.length := ⟨_, rfl⟩
      rw [show (opsAS l).ops.length = nu from hnu.symm, show amendsL (opsAS l).ops = ul from hul.symm] at hun
      have hlo : S < B0 := by rw [hB0]; exact (Array.getElem?_eq_some_iff.1 HL.out.sums).1
      have hnu2 : nu = ul.length := by rw [hul, amendsL_length, hnu]
      have hnu80 : nu ≤ 80 := by omega
      have hou : OkO ul := by rw [hul]; exact HOK.out.amends
      have hsu : ∀ q, -100000000000000 ≤ sumT l q ∧ sumT l q ≤ 100000000000000 := fun q => by have := sumT_le l HOK.out q; omega
      have hend : (fun i => sumT l i + sumT ul i) = fun _ => 0 := by
        funext i
        rw [hul, sumT_amends _ HOK.out]
        omega
      have HUN := Hid.mk hun
      have HB0 := Hid.mk hB0
      have HNU := Hid.mk hnu2
      have HOU := Hid.mk hou
      have HSU := Hid.mk hsu
      have HEN := Hid.mk hend
      have HLO := Hid.mk hlo
      clear hlt hun hB0 hul hnu hlo hnu2 hou hsu hend hl80 HLE HOK
      go_wp2_with fail
      refine HUN.out.mono ?_
      rintro e w4 ⟨vu, rfl, hvu, hb4⟩
      have hvu2 : w4.ownsRow B0 56 2 vu nu (flat eP ul) := by rw [HB0.out]; exact hvu
      obtain ⟨au, cu, rfl⟩ := row_shape hvu2
      have HL4 := Hid.mk (HL.out.grown hb4)
      have HVU := Hid.mk hvu2
      clear hvu hvu2 hb4 HUN HL HB0
      go_wp2_with fail
      go_loopw [13, 113] (fun _ i wx => ∃ q : Nat, q ≤ nu ∧ i = .int .i64 q ∧ Hid (LN w b vs l S (fun i => sumT l i + sumT (ul.take q) i) wx) ∧ Hid (wx.ownsRow B0 56 2 (.slice au nu cu) nu (flat eP ul))) (fun _ i _ => nu - (intOf i).toNat)
      case atStart => exact ⟨0, Nat.zero_le _, rfl, by have h := HL4.out; rw [show sumT l = (fun i => sumT l i + sumT (ul.take 0) i) by funext i; simp [sumT]] at h; exact Hid.mk h, HVU⟩
      case round =>
        clear HL4 HVU
        obtain ⟨q, hq, rfl, HL5, HV5⟩ := hrel
        by_cases hqn : q < nu
        · obtain ⟨hzq, g5, o5, e5, d0, d1⟩ := (own_view eP_len HV5.out HNU.out).prP q hqn
          subst e5
          obtain ⟨x5, hx5⟩ : ∃ x, x = ul[q] := ⟨_, rfl⟩
          rw [← hx5] at d0 d1
          obtain ⟨t2, e2⟩ := x5
          dsimp only at d0 d1
          have hto : (0 ≤ t2 ∧ t2 ≤ 3) ∧ -1099511627776 ≤ e2 ∧ e2 ≤ 1099511627776 := HOU.out (t2, e2) (by rw [hx5]; exact List.getElem_mem hzq)
          have htk : ul.take (q + 1) = ul.take q ++ [(t2, e2)] := by rw [List.take_succ_eq_append_getElem hzq, hx5]
          have hsq : ∀ i, -100000000000000 ≤ sumT (ul.take q) i ∧ sumT (ul.take q) i ≤ 100000000000000 := fun i => by
            have h := sumT_le (ul.take q) (HOU.out.take q) i
            have h2 : (ul.take q).length ≤ 80 := by rw [List.length_take]; omega
            omega
          obtain ⟨⟨ht0, ht3⟩, he⟩ := hto
          have ht4 : t2 = 0 ∨ t2 = 1 ∨ t2 = 2 ∨ t2 = 3 := by omega
          have HTK := Hid.mk htk
          have HQ := Hid.mk hqn
          have how : ∀ (r : Nat), (Value.slice (some ⟨g5, o5, none⟩) nu cu).ownBlock = some r → r ≠ S ∧ r < wr.heap.size := fun r hr => by
            have := HV5.out.lt r hr
            have := HLO.out
            exact ⟨by omega, by omega⟩
          have HOW := Hid.mk how
          have hsu := HSU.out
          clear hx5 htk hzq how
          rcases ht4 with rfl | rfl | rfl | rfl
          · have hp5 := HL5.out.past (.cells #[.int .i64 0, .int .i64 e2] 56)
            have q0 : (wr.alloc (.cells #[.int .i64 0, .int .i64 e2] 56)).cell? ⟨S, 0, none⟩ = some (.int .i64 (sumT l 0 + sumT (ul.take q) 0)) := hp5.cell 0 (by decide)
            have z0 := hp5.fz 0
            have hs0 : -200000000000000 ≤ sumT l 0 + sumT (ul.take q) 0 ∧ sumT l 0 + sumT (ul.take q) 0 ≤ 200000000000000 := by have := hsu 0; have := hsq 0; omega
            have HP := Hid.mk ((hp5.put (g := fun i => sumT l i + sumT (ul.take (q + 1)) i) 0 (by decide) (sumT l 0 + sumT (ul.take q) 0 + e2) (fun i _ => by rw [HTK.out]; simp only [sumT_snoc]; by_cases e : i = 0 <;> simp [e] <;> omega)).drew)
            have HVP : Hid (((wr.alloc (.cells #[.int .i64 0, .int .i64 e2] 56)).setCell ⟨S, 0, none⟩ (.int .i64 (sumT l 0 + sumT (ul.take q) 0 + e2))).drew.ownsRow (B0) 56 2 (.slice (some ⟨g5, o5, none⟩) nu cu) nu (flat eP ul)) :=
              Hid.mk (ownsRow_carry HV5.out fun r hr => (Below.heap_setCell _ _ _ _ (HOW.out r hr).1).trans (Below.heap_alloc _ _ _ (HOW.out r hr).2))
            clear hp5 hsq hsu
            go_wp2_with fail
            go_big_region
            all_goals
              go_wp2
              go_roundw
              case rel => exact ⟨q + 1, HQ.out, by go_num, HP, HVP⟩
              case measure => have := HQ.out; simp [intOf]; omega
          · have hp5 := HL5.out.past (.cells #[.int .i64 1, .int .i64 e2] 56)
            have q0 : (wr.alloc (.cells #[.int .i64 1, .int .i64 e2] 56)).cell? ⟨S, 1, none⟩ = some (.int .i64 (sumT l 1 + sumT (ul.take q) 1)) := hp5.cell 1 (by decide)
            have z0 := hp5.fz 1
            have hs0 : -200000000000000 ≤ sumT l 1 + sumT (ul.take q) 1 ∧ sumT l 1 + sumT (ul.take q) 1 ≤ 200000000000000 := by have := hsu 1; have := hsq 1; omega
            have HP := Hid.mk ((hp5.put (g := fun i => sumT l i + sumT (ul.take (q + 1)) i) 1 (by decide) (sumT l 1 + sumT (ul.take q) 1 + e2) (fun i _ => by rw [HTK.out]; simp only [sumT_snoc]; by_cases e : i = 1 <;> simp [e] <;> omega)).drew)
            have HVP : Hid (((wr.alloc (.cells #[.int .i64 1, .int .i64 e2] 56)).setCell ⟨S, 1, none⟩ (.int .i64 (sumT l 1 + sumT (ul.take q) 1 + e2))).drew.ownsRow (B0) 56 2 (.slice (some ⟨g5, o5, none⟩) nu cu) nu (flat eP ul)) :=
              Hid.mk (ownsRow_carry HV5.out fun r hr => (Below.heap_setCell _ _ _ _ (HOW.out r hr).1).trans (Below.heap_alloc _ _ _ (HOW.out r hr).2))
            clear hp5 hsq hsu
            go_wp2_with fail
            go_big_region
            all_goals
              go_wp2
              go_roundw
              case rel => exact ⟨q + 1, HQ.out, by go_num, HP, HVP⟩
              case measure => have := HQ.out; simp [intOf]; omega
          · have hp5 := HL5.out.past (.cells #[.int .i64 2, .int .i64 e2] 56)
            have q0 : (wr.alloc (.cells #[.int .i64 2, .int .i64 e2] 56)).cell? ⟨S, 2, none⟩ = some (.int .i64 (sumT l 2 + sumT (ul.take q) 2)) := hp5.cell 2 (by decide)
            have z0 := hp5.fz 2
            have hs0 : -200000000000000 ≤ sumT l 2 + sumT (ul.take q) 2 ∧ sumT l 2 + sumT (ul.take q) 2 ≤ 200000000000000 := by have := hsu 2; have := hsq 2; omega
            have HP := Hid.mk ((hp5.put (g := fun i => sumT l i + sumT (ul.take (q + 1)) i) 2 (by decide) (sumT l 2 + sumT (ul.take q) 2 + e2) (fun i _ => by rw [HTK.out]; simp only [sumT_snoc]; by_cases e : i = 2 <;> simp [e] <;> omega)).drew)
            have HVP : Hid (((wr.alloc (.cells #[.int .i64 2, .int .i64 e2] 56)).setCell ⟨S, 2, none⟩ (.int .i64 (sumT l 2 + sumT (ul.take q) 2 + e2))).drew.ownsRow (B0) 56 2 (.slice (some ⟨g5, o5, none⟩) nu cu) nu (flat eP ul)) :=
              Hid.mk (ownsRow_carry HV5.out fun r hr => (Below.heap_setCell _ _ _ _ (HOW.out r hr).1).trans (Below.heap_alloc _ _ _ (HOW.out r hr).2))
            clear hp5 hsq hsu
            go_wp2_with fail
            go_big_region
            all_goals
              go_wp2
              go_roundw
              case rel => exact ⟨q + 1, HQ.out, by go_num, HP, HVP⟩
              case measure => have := HQ.out; simp [intOf]; omega
          · have hp5 := HL5.out.past (.cells #[.int .i64 3, .int .i64 e2] 56)
            have q0 : (wr.alloc (.cells #[.int .i64 3, .int .i64 e2] 56)).cell? ⟨S, 3, none⟩ = some (.int .i64 (sumT l 3 + sumT (ul.take q) 3)) := hp5.cell 3 (by decide)
            have z0 := hp5.fz 3
            have hs0 : -200000000000000 ≤ sumT l 3 + sumT (ul.take q) 3 ∧ sumT l 3 + sumT (ul.take q) 3 ≤ 200000000000000 := by have := hsu 3; have := hsq 3; omega
            have HP := Hid.mk ((hp5.put (g := fun i => sumT l i + sumT (ul.take (q + 1)) i) 3 (by decide) (sumT l 3 + sumT (ul.take q) 3 + e2) (fun i _ => by rw [HTK.out]; simp only [sumT_snoc]; by_cases e : i = 3 <;> simp [e] <;> omega)).drew)
            have HVP : Hid (((wr.alloc (.cells #[.int .i64 3, .int .i64 e2] 56)).setCell ⟨S, 3, none⟩ (.int .i64 (sumT l 3 + sumT (ul.take q) 3 + e2))).drew.ownsRow (B0) 56 2 (.slice (some ⟨g5, o5, none⟩) nu cu) nu (flat eP ul)) :=
              Hid.mk (ownsRow_carry HV5.out fun r hr => (Below.heap_setCell _ _ _ _ (HOW.out r hr).1).trans (Below.heap_alloc _ _ _ (HOW.out r hr).2))
            clear hp5 hsq hsu
            go_wp2_with fail
            go_big_region
            all_goals
              go_wp2
              go_roundw
              case rel => exact ⟨q + 1, HQ.out, by go_num, HP, HVP⟩
              case measure => have := HQ.out; simp [intOf]; omega
        · have hqe : q = nu := by omega
          have htl : ul.take q = ul := List.take_of_length_le (by rw [hqe, HNU.out]; exact Nat.le_refl _)
          have h5 := HL5.out
          rw [htl, HEN.out] at h5
          have q0 : wr.cell? ⟨S, 0, none⟩ = some (.int .i64 0) := h5.cell 0 (by decide)
          have q1 : wr.cell? ⟨S, 1, none⟩ = some (.int .i64 0) := h5.cell 1 (by decide)
          have q2 : wr.cell? ⟨S, 2, none⟩ = some (.int .i64 0) := h5.cell 2 (by decide)
          have q3 : wr.cell? ⟨S, 3, none⟩ = some (.int .i64 0) := h5.cell 3 (by decide)
          have H5 := Hid.mk h5.bel
          have hnk : ¬ (q : Int) < (nu : Int) := by omega
          have heq : ∀ w, (Op.equalIn 10000 33 (.agg #[.int .i64 0, .int .i64 0, .int .i64 0, .int .i64 0]) (.agg #[.int .i64 0, .int .i64 0, .int .i64 0, .int .i64 0])).run Try.prog w = .ok true w := fun w => four_same (fun _ => 0) w
          clear h5 htl hqe hqn HL5
          go_wp2
          go_ret
          exact ⟨rfl, H5.out⟩
set_option maxRecDepth 100000 in
theorem lifted (os : Os) (started : os.Started) (H : Type) (enc : TypeId × Value → H) :
    ReturnsInHanded {} Try.checked os 4 .any (Rows.actsNothingSpec.pre6 enc Try.prog Try.f4 Rows.actsNothingRow.domain false) (Rows.actsNothingSpec.post enc Try.prog Try.f4 false true false false) := by
  refine returnsInHanded_of_change (C := Try.checked) own started (by kernel_rfl) Try.func4
    (ChangeSpec.witness6 (enc := enc) (C := Try.checked) false ⟨#[], #[.slice none 0 0, .slice none 0 0], []⟩ 8 (by kernel_rfl) (by kernel_rfl) (by kernel_rfl) (by kernel_rfl)) ?_
  intro W base args ds gs before hval0 hW hcnd _
  have hval : ∀ (j : Nat) t v, Try.f4.params[j]? = some t → args[j]? = some v → Value.okWide Try.prog W .any base t v := hval0
  have hW' := hW
  obtain ⟨p, q, hA0, hV, rfl, hfz, hnd⟩ := hW
  have hA : DataW.TrodAll enc Try.prog W 0 (fun _ => true) true Try.f4.params.toList args.toList ds p := hA0
  rw [Try.params4] at hA hval
  obtain ⟨v0, vs0, d0, ds0, p0, q0, hargs, rfl, rfl, h0, r0⟩ := trodAll_cons hA
  obtain ⟨v1, vs1, d1, ds1, p1, q1, rfl, rfl, rfl, h1, r1⟩ := trodAll_cons r0
  obtain ⟨rfl, rfl, rfl⟩ := trodAll_nil r1
  obtain rfl : args = #[v0, v1] := by cases args; simp_all
  obtain ⟨rfl, rfl⟩ := trodVars_none hV
  obtain ⟨a0, len0, cap0, rfl⟩ := okWide_slice Try.underlying27 (hval 0 27 v0 rfl rfl)
  have k0 := h0
  have lt0 : ∀ x ∈ p0, x.block < W.heap.size := by obtain ⟨m, hm⟩ := k0; exact DataW.trod_lt m _ _ _ hm
  obtain ⟨ts0, w0⟩ : ∃ ts, View W eP 2 a0 len0 cap0 ts := by
    obtain ⟨fuel, hf⟩ := h0
    exact open_view (by decide) eP_len Try.underlying27 Try.cells56 open_open hf
  obtain ⟨a1, len1, cap1, rfl⟩ := okWide_slice Try.underlying26 (hval 1 26 v1 rfl rfl)
  have k1 := h1
  have lt1 : ∀ x ∈ p1, x.block < W.heap.size := by obtain ⟨m, hm⟩ := k1; exact DataW.trod_lt m _ _ _ hm
  obtain ⟨ts1, w1⟩ : ∃ ts, View W eI 1 a1 len1 cap1 ts := by
    obtain ⟨fuel, hf⟩ := h1
    exact open_view (by decide) eI_len Try.underlying26 Try.cells3 open_num hf
  clear hA0 hval0
  refine (walk a0 len0 cap0 ts0 a1 len1 cap1 ts1 W w0 w1).mono fun e W' ⟨he, bel⟩ => ?_
  subst he
  exact ⟨_, rfl, _, _, _, [], _, [], hW', trodAll_mk1 (shut_bool Try.underlying4 _), (trodAll_cons_mk (Below.trod laidOut (by kernel_rfl) (of_decide_eq_true (by kernel_rfl)) k0 bel lt0) (trodAll_cons_mk (Below.trod laidOut (by kernel_rfl) (of_decide_eq_true (by kernel_rfl)) k1 bel lt1) trodAll_mk0)), rfl, bel.frame _, fun h => by cases h⟩

set_option maxRecDepth 100000 in
theorem over : Rows.actsNothingRow.holds Try.pinned (OpenSpec.ofChange Rows.actsNothingSpec) :=
  OpenClaim.holds_of_wide 4 Try.f4 rfl rfl rfl rfl rfl rfl rfl ⟨rfl, rfl, rfl, rfl, rfl⟩ rfl rfl rfl rfl rfl (by kernel_rfl) Try.func4 (by kernel_rfl)
    (of_decide_eq_true (by kernel_rfl)) (by unfold Func.isWrapper; first | (rw [if_pos (by decide +kernel)]; kernel_rfl) | (rw [if_neg (by decide +kernel)]; exact ⟨rfl, rfl⟩))
    (fun os started H enc _ => lifted os started H enc)

end Go.Proofs.Ytnjmnbclbjebbaa.actsNothing

namespace Go.Proofs.Ytnjmnbclbjebbaa
/-- The statement. -/
theorem actsNothing_holds : Rows.ActsNothingSaid := actsNothing.over
#print axioms actsNothing_holds
end Go.Proofs.Ytnjmnbclbjebbaa
