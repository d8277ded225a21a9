/-
  The walks of the document's own answers: Signed and Taken of countermandref01.
-/
import Derived.Test.YtabjjjbopbjbeaaYAgain
import Derived.Deep.RegionWith
import Derived.BigRegion
namespace Go.Proofs.Ytabjjjbopbjbeaa.Sty
open Go.RowKit

/-- The number that the bytes from p to c stand for, of 64 bits. -/
def valM (l : List UInt8) (c p : Nat) : Nat := dec ((l.take (c + 1)).drop p) % 18446744073709551616

theorem valM_lt (l : List UInt8) (c p : Nat) : valM l c p < 18446744073709551616 := Nat.mod_lt _ (by omega)
theorem valM_start (l : List UInt8) (c : Nat) (h : c < l.length) : valM l c (c + 1) = 0 := by
  unfold valM
  rw [List.drop_of_length_le (by rw [List.length_take]; omega)]
  rfl
theorem valM_step (l : List UInt8) (c p : Nat) (hp : p ≤ c) (h : c < l.length) : valM l c p = (valM l c (p + 1) * 128 + (l.getD p 0).toNat % 128) % 18446744073709551616 := by
  unfold valM
  have hlen : p < (l.take (c + 1)).length := by rw [List.length_take]; omega
  rw [List.drop_eq_getElem_cons hlen]
  simp only [dec]
  have e : (l.take (c + 1))[p] = l.getD p 0 := by
    simp [List.getD, List.getElem?_eq_getElem (show p < l.length by omega)]
  rw [e]
  omega

theorem high_next {s : ByteArray} {c : Nat} (h : c < s.size) (hb : (127 : Int) < (s[c].toNat : Int)) (hh : ∀ j, j < c → 128 ≤ (s.data.toList.getD j 0).toNat) : ∀ j, j < c + 1 → 128 ≤ (s.data.toList.getD j 0).toNat := fun j hj => by
  have hbs := byte_at s c h
  rcases Nat.lt_or_ge j c with h | h
  · exact hh j h
  · have : j = c := by omega
    subst this
    omega

theorem val_step {s : ByteArray} {c p : Nat} (hc : c < s.size) (hp : p ≤ c) (hps : p < s.size) :
    IntKind.u64.wrap (IntKind.u64.wrap (((valM s.data.toList c (p + 1) : Nat) : Int) * 128) + (IntKind.u64.wrap (s[p].toNat : Int)).tmod 128) = ((valM s.data.toList c p : Nat) : Int) := by
  have hb := byte_at s p hps
  have hb8 := s[p].toNat_lt
  have hs := valM_step s.data.toList c p hp (by rw [size_list]; exact hc)
  rw [← hb] at hs
  have e1 : IntKind.u64.wrap (s[p].toNat : Int) = (s[p].toNat : Int) := by rw [IntKind.wrap_u64]; omega
  have e2 : (s[p].toNat : Int).tmod 128 = ((s[p].toNat % 128 : Nat) : Int) := rfl
  rw [e1, e2, hs, IntKind.wrap_u64, IntKind.wrap_u64]
  omega

theorem taken_yes {s : ByteArray} {c V : Nat} (hc : c < s.size) (hV : V < 18446744073709551616) (h : (!wide V == (s.extract 0 (c + 1)).toList) = false) : Lead s.data.toList V (c + 1) := by
  have e : wide V = s.data.toList.take (c + 1) := by
    simp at h
    rw [h, ByteArray.toList_eq, extract_head]
  refine .inr ⟨hV, ?_, ?_⟩
  · rw [e, List.length_take, size_list]; omega
  · rw [e]; exact List.take_prefix _ _

theorem taken_no {s : ByteArray} {c V : Nat} (hc : c < s.size) (hlow : s[c].toNat < 128) (hh : ∀ j, j < c → 128 ≤ (s.data.toList.getD j 0).toNat) (hV : V = valM s.data.toList c 0)
    (h : (!wide V == (s.extract 0 (c + 1)).toList) = true) : Lead s.data.toList 0 0 := by
  refine .inl ⟨rfl, rfl, fun m hm hp => ?_⟩
  have hbs := byte_at s c hc
  have e := canon_at (canon_wide m) hp (by rw [size_list]; exact hc) (by omega) hh
  have hd := dec_wide m
  have hVm : V = m := by
    rw [hV, valM, List.drop_zero, ← e, hd]
    omega
  rw [hVm, e, ByteArray.toList_eq, extract_head] at h
  simp at h

set_option maxHeartbeats 1000000 in
set_option maxRecDepth 100000 in
theorem taken_any (w : World) (s : ByteArray) (hs : s.size ≤ 1099511627776) :
    Calls Try.prog 36 #[.string s] w fun e w' => ∃ n sz : Nat, e = .returned (.tuple #[.int .u64 n, .int .i64 sz]) ∧ Lead s.data.toList n sz ∧ Below w.heap.size w w' := by
  go_enter Try.func36, Try.ntmps36
  go_wp2
  go_loopw [4, 5, 6] (fun k _n _i wr => ∃ c : Nat, c ≤ 10 ∧ c ≤ s.size ∧ k = .int .i64 ((c : Int) + 1) ∧ (∀ j, j < c → 128 ≤ (s.data.toList.getD j 0).toNat) ∧ Below w.heap.size w wr) (fun k _ _ _ => 11 - (intOf k).toNat)
  case atStart => exact ⟨0, by omega, by omega, rfl, fun j hj => by omega, Below.refl _ _⟩
  case round =>
    obtain ⟨c, hc1, hc2, rfl, hh, hb⟩ := hrel
    have HH := Hid.mk hh
    clear hh
    by_cases hlt : c < 10 ∧ c < s.size
    · obtain ⟨hl1, hl2⟩ := hlt
      go_wp2_with fail
      · go_roundw
        case rel => exact ⟨c + 1, by omega, by omega, by go_num, high_next hl2 ‹_› HH.out, hb⟩
        case measure => simp [intOf]; omega
      · have hlow : (s[c].toNat : Int) ≤ 127 := ‹_›
        have HW := Hid.mk hlow
        clear hlow
        go_loop [5, 6] (fun n i => ∃ p : Nat, p ≤ c + 1 ∧ i = .int .i64 ((p : Int) - 1) ∧ n = .int .u64 (valM s.data.toList c p : Nat)) (fun _ i => (intOf i + 1).toNat)
        case atStart => exact ⟨c + 1, Nat.le_refl _, by go_num, by rw [valM_start _ _ (by rw [size_list]; exact hl2)]; rfl⟩
        case round =>
          obtain ⟨p, hp, rfl, rfl⟩ := hrel
          have hv := valM_lt s.data.toList c p
          cases p with
          | zero =>
            obtain ⟨V, hV⟩ : ∃ V, V = valM s.data.toList c 0 := ⟨_, rfl⟩
            rw [← hV] at hv
            rw [← hV]
            have HVV := Hid.mk hV
            clear hV
            have hk0 : (0 : Int) ≤ (c : Int) + 1 := by omega
            have hk1 : (c : Int) + 1 ≤ (s.size : Int) := by omega
            go_wp2_with fail
            go_region_with (go_at_call 42; refine (refWide_any _ V hv).mono ?_; rintro e w5 ⟨rfl, hb5⟩)
            have hbb : Below w.heap.size w w5 := hb.drew.trans (hb5.mono hb.size)
            clear hb5
            go_wp2
            · go_ret2
              exact ⟨0, 0, rfl, taken_no hl2 (show s[c].toNat < 128 by have := HW.out; omega) HH.out HVV.out ‹_›, hbb⟩
            · go_ret2
              have R := taken_yes hl2 (hV := hv) ‹_›
              exact ⟨V, c + 1, by rw [Int.natCast_add]; rfl, R, hbb⟩
          | succ p =>
            have e : (((p + 1 : Nat) : Int) - 1) = (p : Int) := by omega
            rw [e]
            clear e
            have hps : p < s.size := by omega
            have hvs := val_step hl2 (show p ≤ c by omega) hps
            have HV := Hid.mk hvs
            clear hvs
            go_wp2
            go_round
            case rel => exact ⟨p, by omega, rfl, congrArg (Value.int .u64) HV.out⟩
            case measure => simp [intOf]
    · by_cases h10 : c < 10
      · have hcs : c = s.size := by omega
        have hcs1 : (s.size : Int) < (c : Int) + 1 := by omega
        have hcs2 : (c : Int) + 1 ≤ 10 := by omega
        have HC := Hid.mk hcs
        clear hcs hlt
        go_wp2
        go_ret2
        exact ⟨0, 0, rfl, lead_none (k := c) (by rw [size_list]; exact .inl HC.out) HH.out, hb⟩
      · have hcs2 : (10 : Int) < (c : Int) + 1 := by omega
        go_wp2
        go_ret2
        exact ⟨0, 0, rfl, lead_none (k := c) (.inr (by omega)) HH.out, hb⟩

end Go.Proofs.Ytabjjjbopbjbeaa.Sty
