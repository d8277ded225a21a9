/-
  outs, opens: walks where what was got is what must be.
-/
import Derived.Test.YtnjmnbclbjebbaaAcGood
namespace Go.Proofs.Ytnjmnbclbjebbaa.Ac
open Go.RowKit Go.Deep Go.Proofs.Ytnjmnbclbjebbaa.Cel Go.Proofs.Ytnjmnbclbjebbaa.Dft

def prOf (x : A3) : Pr := (x.2.1, x.2.2)

section
variable {w : World}

theorem View.outs {a : Option Addr} {len cap : Nat} {l : List A3} (h : View w eO 2 a len cap (l.map outOf)) (j : Nat) (hj : j < len) : ∃ (hz : j < l.length) (g off : Nat), a = some ⟨g, off, none⟩ ∧ w.cell? ⟨g, off + j * 2, none⟩ = some (.int .i64 l[j].2.1) ∧ w.cell? ⟨g, off + j * 2 + 1, none⟩ = some (.int .u8 (l[j].2.2 % 256)) := by
  obtain ⟨g, off, e, hat⟩ := h.at_ (by omega)
  have hl : j < (l.map outOf).length := by rw [h.1]; exact hj
  have hz : j < l.length := by simpa using hl
  have e2 : (l.map outOf)[j] = outOf l[j] := by simp
  refine ⟨hz, g, off, e, hat.c j hl 0 _ ?_, hat.c j hl 1 _ ?_⟩
  · rw [e2]; rfl
  · rw [e2]; rfl
theorem View.opns {a : Option Addr} {len cap : Nat} {l : List A3} (h : View w eP 2 a len cap (l.map prOf)) (j : Nat) (hj : j < len) : ∃ (hz : j < l.length) (g off : Nat), a = some ⟨g, off, none⟩ ∧ w.cell? ⟨g, off + j * 2, none⟩ = some (.int .i64 l[j].2.1) ∧ w.cell? ⟨g, off + j * 2 + 1, none⟩ = some (.int .i64 l[j].2.2) := by
  obtain ⟨g, off, e, hat⟩ := h.at_ (by omega)
  have hl : j < (l.map prOf).length := by rw [h.1]; exact hj
  have hz : j < l.length := by simpa using hl
  have e2 : (l.map prOf)[j] = prOf l[j] := by simp
  refine ⟨hz, g, off, e, hat.c j hl 0 _ ?_, hat.c j hl 1 _ ?_⟩
  · rw [e2]; rfl
  · rw [e2]; rfl

set_option maxHeartbeats 8000000 in
set_option maxRecDepth 100000 in
theorem outsA {a0 a1 : Option Addr} {n0 c0 n1 c1 : Nat} {l : List A3} (hv : View w eO 2 a0 n0 c0 (l.map outOf)) (hw : View w eA 3 a1 n1 c1 l) (hs : n1 ≤ 1000000) :
    Calls Try.prog 13 #[.slice a0 n0 c0, .slice a1 n1 c1] w fun e w' => e = .returned (.bool true) ∧ Below w.heap.size w w' := by
  have hn : n0 = n1 := by rw [← hv.1, ← hw.1]; simp
  subst hn
  have HV := Hid.mk hv
  have HW := Hid.mk hw
  clear hv hw
  go_enter Try.func13, Try.ntmps13
  go_wp2
  go_loopw [5, 6, 14] (fun _ _ i wr => ∃ j : Nat, j ≤ n0 ∧ i = .int .i64 j ∧ Hid (Below w.heap.size w wr)) (fun _ _ i _ => n0 - (intOf i).toNat)
  case atStart => exact ⟨0, Nat.zero_le _, rfl, Hid.mk (Below.refl _ _)⟩
  case round =>
    obtain ⟨j, hj, rfl, HB⟩ := hrel
    by_cases hlt : j < n0
    · obtain ⟨hz, g, off, rfl, q0, q1⟩ := (HV.out.grown HB.out).outs j hlt
      obtain ⟨_, g2, off2, rfl, p0, p1, p2⟩ := (HW.out.grown HB.out).act j hlt
      obtain ⟨x, hx⟩ : ∃ x, x = l[j] := ⟨_, rfl⟩
      rw [← hx] at q0 q1 p0 p1 p2
      have m1 := past (o := .cells #[.int .i64 x.2.1, .int .u8 (x.2.2 % 256)] 59) p1
      have m2 := past (o := .cells #[.int .i64 x.2.1, .int .u8 (x.2.2 % 256)] 59) p2
      have HK := Hid.mk hlt
      have HB1 := Hid.mk ((HB.out.alloc HB.out.size (.cells #[.int .i64 x.2.1, .int .u8 (x.2.2 % 256)] 59)))
      clear hx p0 p1 p2
      go_wp2_with fail
      go_big_region
      all_goals
        go_wp2
        go_roundw
        case rel => exact ⟨j + 1, HK.out, by go_num, Hid.mk HB1.out.drew⟩
        case measure => have := HK.out; simp [intOf]; omega
    · have hnk : ¬ (j : Int) < (n0 : Int) := by omega
      clear hlt
      go_wp2
      go_ret
      exact ⟨rfl, HB.out⟩

set_option maxHeartbeats 8000000 in
set_option maxRecDepth 100000 in
theorem opensA {a0 a1 : Option Addr} {n0 c0 n1 c1 : Nat} {l : List A3} (hv : View w eP 2 a0 n0 c0 (l.map prOf)) (hw : View w eA 3 a1 n1 c1 l) (hs : n1 ≤ 1000000) :
    Calls Try.prog 10 #[.slice a0 n0 c0, .slice a1 n1 c1] w fun e w' => e = .returned (.bool true) ∧ Below w.heap.size w w' := by
  have hn : n0 = n1 := by rw [← hv.1, ← hw.1]; simp
  subst hn
  have HV := Hid.mk hv
  have HW := Hid.mk hw
  clear hv hw
  go_enter Try.func10, Try.ntmps10
  go_wp2
  go_loopw [5, 6, 14] (fun _ _ i wr => ∃ j : Nat, j ≤ n0 ∧ i = .int .i64 j ∧ Hid (Below w.heap.size w wr)) (fun _ _ i _ => n0 - (intOf i).toNat)
  case atStart => exact ⟨0, Nat.zero_le _, rfl, Hid.mk (Below.refl _ _)⟩
  case round =>
    obtain ⟨j, hj, rfl, HB⟩ := hrel
    by_cases hlt : j < n0
    · obtain ⟨hz, g, off, rfl, q0, q1⟩ := (HV.out.grown HB.out).opns j hlt
      obtain ⟨_, g2, off2, rfl, p0, p1, p2⟩ := (HW.out.grown HB.out).act j hlt
      obtain ⟨x, hx⟩ : ∃ x, x = l[j] := ⟨_, rfl⟩
      rw [← hx] at q0 q1 p0 p1 p2
      have m1 := past (o := .cells #[.int .i64 x.2.1, .int .i64 x.2.2] 56) p1
      have m2 := past (o := .cells #[.int .i64 x.2.1, .int .i64 x.2.2] 56) p2
      have HK := Hid.mk hlt
      have HB1 := Hid.mk ((HB.out.alloc HB.out.size (.cells #[.int .i64 x.2.1, .int .i64 x.2.2] 56)))
      clear hx p0 p1 p2
      go_wp2_with fail
      go_big_region
      all_goals
        go_wp2
        go_roundw
        case rel => exact ⟨j + 1, HK.out, by go_num, Hid.mk HB1.out.drew⟩
        case measure => have := HK.out; simp [intOf]; omega
    · have hnk : ¬ (j : Int) < (n0 : Int) := by omega
      clear hlt
      go_wp2
      go_ret
      exact ⟨rfl, HB.out⟩

end

theorem amends_two : amendsL [((1 : Int), (5 : Int)), (2, 3)] = [(2, -3), (1, -5)] := by simp [amendsL, negI, RowKit.wrap64]

set_option maxHeartbeats 4000000 in
set_option maxRecDepth 100000 in
theorem aliveA (w : World) :
    Calls Try.prog 6 #[] w fun e w' => e = .returned (.bool true) ∧ Below w.heap.size w w' := by
  have HEQ : ∀ w : World, (Op.equalIn 10000 56 (.agg #[.int .i64 2, .int .i64 (-3)]) (.agg #[.int .i64 2, .int .i64 (-3)])).run Try.prog w = .ok true w := fun w => by
    have := eq_openD (2, -3) (2, -3) w
    rw [decide_eq_true rfl] at this
    exact this
  have h0 := AcAt.made w
  have HB0 := Hid.mk ((Below.refl w.heap.size w).alloc (Nat.le_refl _) (.cells #[.slice none 0 0, .slice none 0 0, .slice none 0 0, .slice none 0 0] 29))
  have HC := Hid.mk (opened_any h0 (AS.zero_le _) 1 5)
  have HF0 : Hid (∀ k, Ft w.heap.size nilVs k → w.heap.size ≤ k) := Hid.mk fun k hk => by rw [AcAt.nil_ft _ _ hk]; exact Nat.le_refl _
  have ok1 : okT 1 = true := by decide
  have ok2 : okT 2 = true := by decide
  have HK1 := Hid.mk ok1
  have HK2 := Hid.mk ok2
  clear h0 ok1 ok2
  go_enter Try.func6, Try.ntmps6
  go_wp2_with fail
  refine HC.out.mono ?_
  rintro e w1 ⟨rfl, vs1, h1, ho1⟩
  have HF1 : Hid (∀ k, Ft w.heap.size vs1 k → w.heap.size ≤ k) := Hid.mk (ho1.lo (by simp) HF0.out)
  have HB1 := Hid.mk (HB0.out.trans (ho1.below (by simp) HF0.out))
  rw [HK1.out]
  have HC2 := Hid.mk (opened_any h1 ((AS.zero_le 1).opened 1 5 |>.up (by decide)) 2 3)
  clear h1 ho1
  go_wp2_with fail
  refine HC2.out.mono ?_
  rintro e w2 ⟨rfl, vs2, h2, ho2⟩
  have HB2 := Hid.mk (HB1.out.trans (ho2.below HB1.out.size HF1.out))
  rw [HK2.out]
  have HC3 := Hid.mk (undo_any h2 (((AS.zero_le 1).opened 1 5).opened 2 3 |>.up (by decide)))
  clear h2 ho2
  go_wp2_with fail
  refine HC3.out.mono ?_
  rintro e w3 ⟨v, rfl, hown, hb⟩
  have e3 : ((AS.zero.opened 1 5).opened 2 3).ops = [(1, 5), (2, 3)] := rfl
  rw [e3, amends_two] at hown
  obtain ⟨a, c, rfl⟩ := row_shape hown
  obtain ⟨g, off, rfl, hat⟩ := (own_view eP_len hown rfl).at_ (by decide)
  have q0 : w3.cell? ⟨g, off, none⟩ = some (.int .i64 2) := hat.c 0 (by decide) 0 _ rfl
  have q1 : w3.cell? ⟨g, off + 1, none⟩ = some (.int .i64 (-3)) := by
    have := hat.c 0 (by decide) 1 _ rfl
    rwa [Nat.zero_mul] at this
  have HB3 := Hid.mk (HB2.out.trans (hb.mono HB2.out.size))
  clear hown hat hb e3
  dsimp only [List.length]
  go_wp2
  go_ret
  exact ⟨rfl, HB3.out⟩

end Go.Proofs.Ytnjmnbclbjebbaa.Ac
