/-
  The law's own 'great', and the document's 'Same'.
-/
import Derived.Test.YtcofiidibhmhgaaVSettle
namespace Go.Proofs.Ytcofiidibhmhgaa
open Go.RowKit

set_option maxHeartbeats 400000 in
set_option maxRecDepth 100000 in
theorem great_none (a : Option Addr) (cap : Nat) (w : World) :
    Calls Try.prog 10 #[.slice a 0 cap] w fun e w' => e = .returned (.bool false) ∧ w' = w := by
  go_enter Try.func10, Try.ntmps10
  go_wp2
  go_loop [11] (fun i => i = .int .i64 0) (fun _ => 0)
  case atStart => rfl
  case round =>
    subst hrel
    go_wp2
    go_ret
    exact ⟨rfl, rfl⟩

set_option maxHeartbeats 400000 in
set_option maxRecDepth 100000 in
theorem great_some (g off len cap : Nat) (ts : List ByteArray) (w : World) (hlen : ts.length = len) (hat : TextsAt w g off ts) :
    Calls Try.prog 10 #[.slice (some ⟨g, off, none⟩) len cap] w fun e w' => w' = w ∧ (e = .returned (.bool true) ∨ (e = .returned (.bool false) ∧ len ≤ 40 ∧ sumT ts ≤ 4096)) := by
  by_cases h40 : 40 < len
  · go_enter Try.func10, Try.ntmps10
    go_wp2
    go_ret
    exact ⟨rfl, .inl rfl⟩
  have HL := Hid.mk hlen
  clear hlen
  go_enter Try.func10, Try.ntmps10
  go_wp2
  go_loop [3, 5, 11] (fun n _x i => ∃ k : Nat, k ≤ len ∧ i = .int .i64 k ∧ n = .int .i64 (sumT (ts.take k) : Nat) ∧ sumT (ts.take k) ≤ 4096) (fun _ _ i => len - (intOf i).toNat)
  case atStart => exact ⟨0, Nat.zero_le _, rfl, rfl, by simp [sumT]⟩
  case round =>
    obtain ⟨k, hk, rfl, rfl, hsum⟩ := hrel
    by_cases hlt : k < len
    · have hkt : k < ts.length := by rw [HL.out]; exact hlt
      have hstep := sumT_take_succ ts k hkt
      obtain ⟨t, ht⟩ : ∃ t, t = ts[k] := ⟨_, rfl⟩
      have c := hat.cell k hkt
      rw [← ht] at hstep c
      have HS := Hid.mk hstep
      clear ht hstep
      go_wp2_with fail
      · go_ret
        exact ⟨rfl, .inl rfl⟩
      · go_ret
        exact ⟨rfl, .inl rfl⟩
      · go_round
        case rel => exact ⟨k + 1, by omega, by go_num, by rw [HS.out]; go_num, by rw [HS.out]; omega⟩
        case measure => simp [intOf]; omega
    · have hkl : k = len := by omega
      rw [hkl, List.take_of_length_le (by rw [HL.out]; exact Nat.le_refl _)] at hsum
      have HF := Hid.mk hsum
      clear hsum
      go_wp2
      go_ret
      exact ⟨rfl, .inr ⟨rfl, by omega, HF.out⟩⟩

set_option maxRecDepth 100000 in
theorem great_any (a : Option Addr) (len cap : Nat) (ts : List ByteArray) (w : World) (h : IsTexts w a len cap ts) :
    Calls Try.prog 10 #[.slice a len cap] w fun e w' => w' = w ∧ (e = .returned (.bool true) ∨ (e = .returned (.bool false) ∧ len ≤ 40 ∧ sumT ts ≤ 4096)) := by
  by_cases h0 : len = 0
  · have ht : ts = [] := List.length_eq_zero_iff.1 (by rw [h.1, h0])
    subst h0 ht
    exact (great_none a cap w).mono fun e w' ⟨he, hw⟩ => ⟨hw, .inr ⟨he, by omega, by simp [sumT]⟩⟩
  · obtain ⟨hl, ⟨rfl, _⟩ | ⟨g, off, rfl, hat⟩⟩ := h
    · exact absurd hl.symm h0
    · exact great_some g off len cap ts w hl hat


set_option maxHeartbeats 800000 in
set_option maxRecDepth 100000 in
theorem same_none (a b : Option Addr) (ca cb : Nat) (w : World) :
    Calls Try.prog 16 #[.slice a 0 ca, .slice b 0 cb] w fun e w' => e = .returned (.bool true) ∧ Below w.heap.size w w' := by
  go_enter Try.func16, Try.ntmps16
  go_wp2
  go_loop [13] (fun i => i = .int .i64 0) (fun _ => 0)
  case atStart => rfl
  case round =>
    subst hrel
    go_wp2
    go_ret
    exact ⟨rfl, Below.refl _ _⟩

set_option maxHeartbeats 1600000 in
set_option maxRecDepth 100000 in
theorem same_some (g off g2 off2 n ca cb : Nat) (ts : List ByteArray) (w : World) (hn : n ≤ 1000000) (hlen : ts.length = n) (hat : TextsAt w g off ts) (hat2 : TextsAt w g2 off2 ts) :
    Calls Try.prog 16 #[.slice (some ⟨g, off, none⟩) n ca, .slice (some ⟨g2, off2, none⟩) n cb] w fun e w' => e = .returned (.bool true) ∧ Below w.heap.size w w' := by
  have HL := Hid.mk hlen
  clear hlen
  go_enter Try.func16, Try.ntmps16
  go_wp2
  go_loopw [5, 13] (fun _ i wr => ∃ k : Nat, k ≤ n ∧ i = .int .i64 k ∧ Below w.heap.size w wr) (fun _ i _ => n - (intOf i).toNat)
  case atStart => exact ⟨0, Nat.zero_le _, rfl, Below.refl _ _⟩
  case round =>
    obtain ⟨k, hk, rfl, hb⟩ := hrel
    by_cases hlt : k < n
    · have hkt : k < ts.length := by rw [HL.out]; exact hlt
      have c1 := (hb.cell (p := ⟨g, off + k, none⟩) hat.lt).trans (hat.cell k hkt)
      have c2 := (hb.cell (p := ⟨g2, off2 + k, none⟩) hat2.lt).trans (hat2.cell k hkt)
      obtain ⟨t, ht⟩ : ∃ t, t = ts[k] := ⟨_, rfl⟩
      rw [← ht] at c1 c2
      have i0 : (0 : Int) ≤ (k : Int) := Int.natCast_nonneg _
      have i1 : (k : Int) < (n : Int) := by omega
      have HK := Hid.mk hlt
      clear ht hkt
      go_wp2_with fail
      go_region
      all_goals
        go_wp2
        go_roundw
        case rel =>
          have := HK.out
          exact ⟨k + 1, HK.out, by go_num, below_drewN hb _⟩
        case measure =>
          have := HK.out
          simp [intOf]
          omega
    · go_wp2
      go_ret
      exact ⟨rfl, hb⟩

set_option maxRecDepth 100000 in
theorem same_yes {a b : Option Addr} {n ca cb : Nat} {ts : List ByteArray} {w : World} (hn : n ≤ 1000000) (h : IsTexts w a n ca ts) (h2 : IsTexts w b n cb ts) :
    Calls Try.prog 16 #[.slice a n ca, .slice b n cb] w fun e w' => e = .returned (.bool true) ∧ Below w.heap.size w w' := by
  by_cases h0 : n = 0
  · subst h0
    exact same_none a b ca cb w
  · obtain ⟨hl, ⟨rfl, _⟩ | ⟨g, off, rfl, hat⟩⟩ := h
    · exact absurd hl.symm h0
    obtain ⟨hl2, ⟨rfl, _⟩ | ⟨g2, off2, rfl, hat2⟩⟩ := h2
    · exact absurd hl2.symm h0
    exact same_some g off g2 off2 n ca cb ts w hn hl hat hat2

end Go.Proofs.Ytcofiidibhmhgaa
