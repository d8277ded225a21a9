/-
  StylusReturns: for every list of items the law returns true: what was written is read again, item by item, and nothing is left. No condition.
-/
import Derived.Test.YtjenalblcdmpaaaLists
import Derived.Test.YtjenalblcdmpaaaAgain
import Derived.Deep.RegionWith
import Derived.BigRegion
import Derived.BigQuiet
import Derived.Deep.QuietTactic
namespace Go.Proofs.Ytjenalblcdmpaaa.stylusReturns
open Go.ChangeShapes Go.WideShapes Go.ChangeAt Go.RowKit

theorem itemsB_drop (l : List It) (k : Nat) (h : k < l.length) : itemsB (l.drop k) = itemB l[k] ++ itemsB (l.drop (k + 1)) := by
  rw [List.drop_eq_getElem_cons h]
  rfl

theorem sumS_get (l : List It) (k : Nat) (h : k < l.length) : l[k].s.size ≤ sumS l := by
  have h1 := sumS_take_succ l k h
  have h2 := sumS_take_le l (k + 1)
  omega

set_option maxHeartbeats 1000000 in
set_option maxRecDepth 100000 in
theorem walk_some (g off len cap : Nat) (its : List It) (w : World) (hlen : its.length = len) (hat : ItemsAt w g off its) (hg : greatB its = false) :
    Calls Try.prog 4 #[.slice (some ⟨g, off, none⟩) len cap] w fun e w' => e = .returned (.bool true) ∧ Below w.heap.size w w' := by
  have hit : IsItems w (some ⟨g, off, none⟩) len cap its := ⟨hlen, .inr ⟨g, off, rfl, hat⟩⟩
  have h50 : len ≤ 50 := by have := not_great hg; omega
  have HL := Hid.mk hlen
  have HG := Hid.mk hg
  clear hlen
  go_enter Try.func4, Try.ntmps4
  go_wp2_with fail
  refine (alive_any _).mono ?_
  rintro e w1 ⟨rfl, hb1⟩
  have h1 := hit.carry hb1
  go_wp2_with fail
  refine (great_is _ _ len cap its h1).mono ?_
  rintro e w2 ⟨rfl, hb2⟩
  have hb := hb1.trans (hb2.mono hb1.size)
  have h2 := h1.carry hb2
  rw [hg]
  clear h1 hb1 hb2 hg
  go_wp2_with fail
  refine (put_is _ _ len cap its h2 HG.out).mono ?_
  rintro e w3 ⟨rfl, hb3⟩
  have hb4 := hb.trans (hb3.mono hb.size)
  clear hb hb3 h2
  go_wp2_with fail
  refine (of_any _ _).mono ?_
  rintro e w4 ⟨rfl, h4⟩
  have hrd : Rd w4 w3.heap.size ⟨(itemsB its).toArray⟩ false := by rw [h4]; exact Rd.new _ _
  have hb5 : Below w.heap.size w w4 := by rw [h4]; exact hb4.alloc hb4.size _
  have hr : w.heap.size ≤ w3.heap.size := hb4.size
  clear h4 hb4
  go_wp2_with fail
  go_loopw [7, 8, 22] (fun _x _ok i wr => ∃ (k : Nat) (s : ByteArray), k ≤ len ∧ i = .int .i64 k ∧ Rd wr w3.heap.size s false ∧ s.data.toList = itemsB (its.drop k) ∧ Below w.heap.size w wr) (fun _ _ i _ => len - (intOf i).toNat)
  case atStart => exact ⟨0, _, Nat.zero_le _, rfl, hrd, by simp, hb5⟩
  case round =>
    obtain ⟨k, s, hk, rfl, hrr, hs, hb⟩ := hrel
    clear hrd hb5
    by_cases hlt : k < len
    · have hkt : k < its.length := by rw [HL.out]; exact hlt
      have hatr : ItemsAt wr g off its := hat.carry (hb.block g hat.lt) hb.size
      have hstep := itemsB_drop its k hkt
      obtain ⟨it, hit⟩ : ∃ it, it = its[k] := ⟨_, rfl⟩
      have c0 := hatr.kind k hkt
      have c1 := hatr.n k hkt
      have c2 := hatr.s k hkt
      have b0 := hatr.lo k hkt
      have b1 := hatr.hi k hkt
      have ht := sumS_get its k hkt
      have htt := (not_great HG.out).2
      rw [← hit] at hstep c0 c1 c2 b0 b1 ht
      rw [hstep] at hs
      obtain ⟨q, n, t⟩ := it
      dsimp only at c0 c1 c2 b0 b1 ht
      have hts : t.size ≤ 2048 := by omega
      clear ht htt
      have HS := Hid.mk hs
      have hrl := hrr.lt
      clear hstep hit hatr hs
      by_cases q0 : q = 0
      · subst q0
        have hq : itemB ⟨0, n, t⟩ = natB n := by simp [itemB]
        rw [hq] at HS
        clear hq
        by_cases hn : n < 0
        · have hd : decide (n < 0) = true := by simpa using hn
          have e : natB n = [] := by unfold natB; rw [if_pos hn]
          rw [e, List.nil_append] at HS
          clear e
          go_wp2_with fail
          go_quiet (fail)
          go_wp2
          go_roundw
          case rel => exact ⟨k + 1, s, by omega, by go_num, ⟨(hrr.alloc _).at_, hrr.none_⟩, HS.out, below_drewN (hb.alloc hb.size _) _⟩
          case measure => simp [intOf]; omega
        have hd : decide (n < 0) = false := by simpa using hn
        have e : natB n = wide n.toNat := by unfold natB; rw [if_neg hn]
        rw [e] at HS
        clear e
        go_wp2_with fail
        go_region_with (go_at_call 13; refine (rnat_yes _ w3.heap.size s n n _ (by omega) (Int.le_refl _) b1 ?_ HS.out).mono ?_; exact (hrr.alloc _).drew; rintro e w5 ⟨rfl, s5, hr5, hs5, ho5⟩; have hx5 : w5.cell? ⟨wr.heap.size, 1, none⟩ = some (.int .i64 n) := by (rw [World.cell?_of_block (ho5.block _ (by show wr.heap.size ≠ _; omega))]; simp))
        all_goals
          have hb5 : Below w.heap.size w w5 := (hb.alloc hb.size _).drew.trans (ho5.below hr)
          clear ho5
          go_wp2
          go_roundw
          case rel => exact ⟨k + 1, s5, by omega, by go_num, hr5, hs5, hb5⟩
          case measure => simp [intOf]; omega
      by_cases q1 : q = 1
      · subst q1
        have hq : itemB ⟨1, n, t⟩ = intB n := by simp [itemB]
        rw [hq] at HS
        clear hq
        go_wp2_with fail
        go_region_with (go_at_call 14; refine (rint_yes _ w3.heap.size s n _ b0 b1 ?_ HS.out).mono ?_; exact (hrr.alloc _).drew; rintro e w5 ⟨rfl, s5, hr5, hs5, ho5⟩; have hx5 : w5.cell? ⟨wr.heap.size, 1, none⟩ = some (.int .i64 n) := by (rw [World.cell?_of_block (ho5.block _ (by show wr.heap.size ≠ _; omega))]; simp))
        all_goals
          have hb5 : Below w.heap.size w w5 := (hb.alloc hb.size _).drew.trans (ho5.below hr)
          clear ho5
          go_wp2
          go_roundw
          case rel => exact ⟨k + 1, s5, by omega, by go_num, hr5, hs5, hb5⟩
          case measure => simp [intOf]; omega
      by_cases q2 : q = 2
      · subst q2
        have hq : itemB ⟨2, n, t⟩ = t.data.toList := by simp [itemB]
        rw [hq] at HS
        clear hq
        go_wp2_with fail
        go_region_with (go_at_call 15; refine (rraw_yes _ w3.heap.size s t _ ?_ HS.out).mono ?_; exact (hrr.alloc _).drew; rintro e w5 ⟨rfl, s5, hr5, hs5, ho5⟩; have hx5 : w5.cell? ⟨wr.heap.size, 2, none⟩ = some (.string t) := by (rw [World.cell?_of_block (ho5.block _ (by show wr.heap.size ≠ _; omega))]; simp))
        all_goals
          have hb5 : Below w.heap.size w w5 := (hb.alloc hb.size _).drew.trans (ho5.below hr)
          clear ho5
          go_wp2
          go_roundw
          case rel => exact ⟨k + 1, s5, by omega, by go_num, hr5, hs5, hb5⟩
          case measure => simp [intOf]; omega
      by_cases q3 : q = 3
      · subst q3
        have hq : itemB ⟨3, n, t⟩ = textB t := by simp [itemB]
        rw [hq] at HS
        clear hq
        go_wp2_with fail
        go_region_with (go_at_call 16; refine (rtext_yes _ w3.heap.size s t (t.size : Nat) _ (by omega) (Int.le_refl _) ?_ HS.out).mono ?_; exact (hrr.alloc _).drew; rintro e w5 ⟨rfl, s5, hr5, hs5, ho5⟩; have hx5 : w5.cell? ⟨wr.heap.size, 2, none⟩ = some (.string t) := by (rw [World.cell?_of_block (ho5.block _ (by show wr.heap.size ≠ _; omega))]; simp))
        all_goals
          have hb5 : Below w.heap.size w w5 := (hb.alloc hb.size _).drew.trans (ho5.below hr)
          clear ho5
          go_wp2
          go_roundw
          case rel => exact ⟨k + 1, s5, by omega, by go_num, hr5, hs5, hb5⟩
          case measure => simp [intOf]; omega
      have hq : itemB ⟨q, n, t⟩ = [] := by simp [itemB, q0, q1, q2, q3]
      rw [hq, List.nil_append] at HS
      clear hq
      have z0 : (q == 0) = false := by simp [q0]
      have z1 : (q == 1) = false := by simp [q1]
      have z2 : (q == 2) = false := by simp [q2]
      have z3 : (q == 3) = false := by simp [q3]
      go_wp2
      go_roundw
      case rel => exact ⟨k + 1, s, by omega, by go_num, hrr.alloc _, HS.out, hb.alloc hb.size _⟩
      case measure => simp [intOf]; omega
    · have hkl : k = len := by omega
      have hs0 : s.size = 0 := by
        rw [← size_list, hs, hkl, List.drop_of_length_le (by rw [HL.out]; exact Nat.le_refl _)]
        rfl
      clear hs
      go_wp2_with fail
      refine (rover_any _ _ _ _ hrr).mono ?_
      rintro e w5 ⟨rfl, rfl⟩
      rw [hs0]
      go_wp2_with fail
      refine (bad_any _ _ _ hrr.c1).mono ?_
      rintro e w6 ⟨rfl, rfl⟩
      go_wp2_with fail
      refine (left_any _ _ _ _ hrr).mono ?_
      rintro e w7 ⟨rfl, rfl⟩
      rw [hs0]
      go_wp2
      go_ret
      exact ⟨rfl, hb⟩

end Go.Proofs.Ytjenalblcdmpaaa.stylusReturns
