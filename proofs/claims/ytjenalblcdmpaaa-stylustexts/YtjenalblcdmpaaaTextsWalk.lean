/-
  The walk of StylusTexts over a list that is not empty.
-/
import Derived.Test.YtjenalblcdmpaaaCuts
namespace Go.Proofs.Ytjenalblcdmpaaa.stylusTexts
open Go.ChangeShapes Go.WideShapes Go.ChangeAt Go.RowKit

set_option maxHeartbeats 1000000 in
set_option maxRecDepth 100000 in
theorem walk_some (g off len cap : Nat) (ts : List ByteArray) (cut : Int) (w : World) (hlen : ts.length = len) (hpos : 0 < len) (hat : TextsAt w g off ts) :
    Calls Try.prog 8 #[.slice (some ⟨g, off, none⟩) len cap, .int .i64 cut] w fun e w' => e = .returned (.bool true) ∧ Below w.heap.size w w' := by
  by_cases h20 : 20 < len
  · go_enter Try.func8, Try.ntmps8
    go_wp2_with fail
    refine (alive_any _).mono ?_
    rintro e w1 ⟨rfl, hb1⟩
    go_wp2
    go_ret
    exact ⟨rfl, hb1⟩
  have HL := Hid.mk hlen
  clear hlen
  go_enter Try.func8, Try.ntmps8
  go_wp2_with fail
  refine (alive_any _).mono ?_
  rintro e w1 ⟨rfl, hb1⟩
  have hat1 := hat.carry (hb1.block g hat.lt) hb1.size
  go_wp2_with fail
  have hp0 := Pen.new w1
  have hb2 := hb1.alloc hb1.size (.cells #[.slice none 0 0] 45)
  have hat2 := hat1.carry (Below.heap_alloc w1 (.cells #[.slice none 0 0] 45) g hat1.lt) (by simp)
  have hgw := hat1.lt
  have hsz := hb1.size
  clear hat1 hb1
  go_loop [6, 8, 23] (fun n _t i => ∃ k : Nat, k ≤ len ∧ i = .int .i64 k ∧ n = .int .i64 (sumT (ts.take k) : Nat) ∧ sumT (ts.take k) ≤ 2048) (fun _ _ i => len - (intOf i).toNat)
  case atStart => exact ⟨0, Nat.zero_le _, rfl, rfl, by simp [sumT]⟩
  case round =>
    obtain ⟨k, hk, rfl, rfl, hsum⟩ := hrel
    by_cases hlt : k < len
    · have hkt : k < ts.length := by rw [HL.out]; exact hlt
      have hstep := sumT_take_succ ts k hkt
      obtain ⟨t, ht⟩ : ∃ t, t = ts[k] := ⟨_, rfl⟩
      have c := hat2.cell k hkt
      rw [← ht] at hstep c
      have HS := Hid.mk hstep
      clear ht hstep hp0
      go_wp2_with fail
      · go_ret
        exact ⟨rfl, hb2⟩
      · go_ret
        exact ⟨rfl, hb2⟩
      · go_round
        case rel => exact ⟨k + 1, by omega, by go_num, by rw [HS.out]; go_num, by rw [HS.out]; omega⟩
        case measure => simp [intOf]; omega
    · have hkl : k = len := by omega
      rw [hkl, List.take_of_length_le (by rw [HL.out]; exact Nat.le_refl _)] at hsum
      have hle := textsB_le ts (by omega)
      rw [HL.out] at hle
      have hle1 : (textsB ts).length ≤ 3000 := by omega
      clear hle
      go_wp2_with fail
      refine (text_any _ w1.heap.size (.slice none 0 0) [] g off len cap ts HL.out hp0 (by simp; omega) hat2.cell hat2.lt (by omega) (by simp [Value.ownBlock]) (by omega)).mono ?_
      rintro e w3 ⟨rfl, v3, hp3, hw3⟩
      rw [List.nil_append] at hp3
      have hb3 : Below w.heap.size w w3 := hb2.trans (hw3.below (by simp; omega) (by omega) (by simp [Value.ownBlock]))
      have hat3 := hat2.carry (hw3.block g hat2.lt (by omega) (by simp [Value.ownBlock])) hw3.size
      clear hw3 hat2 hp0 hb2
      go_wp2_with fail
      refine (bytes_any _ _ _ _ hp3).mono ?_
      rintro e w4 ⟨rfl, rfl⟩
      clear hp3
      obtain ⟨bb, hbb⟩ : ∃ bb, bb = textsB ts := ⟨_, rfl⟩
      rw [← hbb]
      have HB := Hid.mk hbb
      rw [← hbb] at hle1
      clear hbb
      go_wp2_with fail
      refine (of_any _ _).mono ?_
      rintro e w5 ⟨rfl, h5⟩
      have hrd : Rd w5 w4.heap.size ⟨bb.toArray⟩ false := by rw [h5]; exact Rd.new _ _
      have hb5 : Below w.heap.size w w5 := by rw [h5]; exact hb3.alloc hb3.size _
      have hat5 : TextsAt w5 g off ts := by rw [h5]; exact hat3.carry (Below.heap_alloc _ _ g hat3.lt) (by simp)
      have hr : w.heap.size ≤ w4.heap.size := hb3.size
      have hgr : g < w4.heap.size := hat3.lt
      clear h5 hb3 hat3
      go_wp2_with fail
      go_loopw [12, 46] (fun _t i wr => ∃ (j : Nat) (s : ByteArray), j ≤ len ∧ i = .int .i64 j ∧ Rd wr w4.heap.size s false ∧ s.data.toList = textsB (ts.drop j) ∧ Below w.heap.size w wr ∧ TextsAt wr g off ts) (fun _ i _ => len - (intOf i).toNat)
      case atStart => exact ⟨0, _, Nat.zero_le _, rfl, hrd, by simp [HB.out], hb5, hat5⟩
      case round =>
        obtain ⟨j, s, hj, rfl, hrr, hs, hb, hatr⟩ := hrel
        clear hrd hb5 hat5
        by_cases hlt2 : j < len
        · have hjt : j < ts.length := by rw [HL.out]; exact hlt2
          have hstep := textsB_drop ts j hjt
          obtain ⟨t, ht⟩ : ∃ t, t = ts[j] := ⟨_, rfl⟩
          have c := hatr.cell j hjt
          have hts := sumT_get ts j hjt
          rw [← ht] at hstep c hts
          rw [hstep] at hs
          have HS := Hid.mk hs
          clear ht hstep hs
          go_wp2_with fail
          refine (rtext_yes _ w4.heap.size s t 2048 _ (by omega) (by omega) hrr HS.out).mono ?_
          rintro e w6 ⟨rfl, s6, hr6, hs6, ho6⟩
          have hb6 := hb.trans (ho6.below hr)
          have hat6 := hatr.carry (ho6.block g (by omega)) (by rw [ho6.size]; exact Nat.le_refl _)
          have HS6 := Hid.mk hs6
          clear hs6 ho6 hb hrr hatr
          go_wp2
          go_roundw
          case rel => exact ⟨j + 1, s6, by omega, by go_num, hr6, HS6.out, hb6, hat6⟩
          case measure => simp [intOf]; omega
        · have hjl : j = len := by omega
          have hs0 : s.size = 0 := by
            rw [← size_list, hs, hjl, List.drop_of_length_le (by rw [HL.out]; exact Nat.le_refl _)]
            rfl
          have hb1 : 1 ≤ bb.length := by
            have h1 := textsB_drop ts 0 (by rw [HL.out]; exact hpos)
            have h2 := textB_pos (ts[0]'(by rw [HL.out]; exact hpos))
            rw [List.drop_zero] at h1
            rw [HB.out, h1, List.length_append]
            omega
          have hbz : ((bb.length : Int) == 0) = false := by simp; intro e; rw [e] at hb1; simp at hb1
          clear hs
          obtain ⟨U, hU⟩ : ∃ U : Nat, IntKind.u64.wrap cut = (U : Int) := ⟨(cut % 18446744073709551616).toNat, by rw [IntKind.wrap_u64]; omega⟩
          obtain ⟨m, hmU⟩ : ∃ m : Nat, m = U % bb.length := ⟨_, rfl⟩
          have hml : m < bb.length := by rw [hmU]; exact Nat.mod_lt _ hb1
          have htm : (U : Int).tmod (bb.length : Int) = (m : Int) := by rw [hmU]; rfl
          clear hmU
          go_wp2_with fail
          refine (rover_any _ _ _ _ hrr).mono ?_
          rintro e w6 ⟨rfl, rfl⟩
          rw [hs0]
          clear hrr
          go_wp2_with fail
          refine (of_any _ _).mono ?_
          rintro e w7 ⟨rfl, h7⟩
          obtain ⟨s7, hs7⟩ : ∃ s7, s7 = (⟨bb.toArray⟩ : ByteArray).extract 0 m := ⟨_, rfl⟩
          rw [← hs7] at h7
          have hless : Less s7.data.toList (textsB (ts.drop 0)) := by
            rw [hs7, extract_head, List.drop_zero, ← HB.out]
            refine ⟨?_, ?_⟩
            · exact List.take_prefix _ _
            · simp
              omega
          have hrd7 : Rd w7 w6.heap.size s7 false := by rw [h7]; exact Rd.new _ _
          have hb7 : Below w.heap.size w w7 := by rw [h7]; exact hb.alloc hb.size _
          have hr7 : w.heap.size ≤ w6.heap.size := hb.size
          have HLS := Hid.mk hless
          have HS7 := Hid.mk hs7
          clear h7 hless hb hatr hs7
          rw [← HS7.out]
          go_wp2_with fail
          go_loopw [77] (fun i wr => ∃ (l : Nat) (s : ByteArray) (bad : Bool), l ≤ len ∧ i = .int .i64 l ∧ Rd wr w6.heap.size s bad ∧ (bad = true ∨ Less s.data.toList (textsB (ts.drop l))) ∧ Below w.heap.size w wr) (fun i _ => len - (intOf i).toNat)
          case atStart => exact ⟨0, s7, false, Nat.zero_le _, rfl, hrd7, .inr HLS.out, hb7⟩
          case round =>
            obtain ⟨l, s8, bad, hl, rfl, hr8, hls, hb8⟩ := hrel
            clear hrd7 hb7
            have HX := Hid.mk hls
            clear hls
            by_cases hlt3 : l < len
            · go_wp2_with fail
              refine (rtext_any _ w6.heap.size s8 bad 2048 (by omega) hr8).mono ?_
              rintro e w9 ⟨n9, sz9, t9, s9, hl9, rfl, ht9, hr9, hs9, ho9⟩
              have hb9 := hb8.trans (ho9.below hr7)
              have hfin : (!okT bad s8.data.toList n9 sz9 2048) = true ∨ Less s9.data.toList (textsB (ts.drop (l + 1))) := by
                cases hok : okT bad s8.data.toList n9 sz9 2048 with
                | false => exact .inl rfl
                | true =>
                  right
                  have hbf : bad = false := by
                    cases bad with
                    | false => rfl
                    | true => simp [okT, okN] at hok
                  subst hbf
                  have h1 : Less s8.data.toList (textsB (ts.drop l)) := by
                    rcases HX.out with e | e
                    · cases e
                    · exact e
                  rw [textsB_drop ts l (by rw [HL.out]; exact hlt3)] at h1
                  rw [hs9, hok]
                  exact less_step h1 hl9 hok
              have HF := Hid.mk hfin
              clear hfin hs9 ht9 hl9 ho9 hb8
              go_wp2
              go_roundw
              case rel => exact ⟨l + 1, s9, _, by omega, by go_num, hr9, HF.out, hb9⟩
              case measure => simp [intOf]; omega
            · have hll : l = len := by omega
              have hbad : bad = true := by
                rcases HX.out with e | e
                · exact e
                · have h2 := e.2
                  rw [hll, List.drop_of_length_le (by rw [HL.out]; exact Nat.le_refl _)] at h2
                  simp [textsB] at h2
              subst hbad
              have hs80 : s8.size = 0 := by rw [← size_list, hr8.none_ rfl]; rfl
              go_wp2_with fail
              refine (bad_any _ _ _ hr8.c1).mono ?_
              rintro e w9 ⟨rfl, rfl⟩
              go_wp2_with fail
              refine (left_any _ _ _ _ hr8).mono ?_
              rintro e w10 ⟨rfl, rfl⟩
              rw [hs80]
              go_wp2
              go_ret
              exact ⟨rfl, hb8⟩

end Go.Proofs.Ytjenalblcdmpaaa.stylusTexts
