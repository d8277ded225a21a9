/-
  The walk of StylusReads over a list that is not empty.
-/
import Derived.Test.YtjenalblcdmpaaaAsks
import Derived.Test.YtjenalblcdmpaaaKnown
import Derived.Test.YtjenalblcdmpaaaNil
namespace Go.Proofs.Ytjenalblcdmpaaa.stylusReads
open Go.ChangeShapes Go.WideShapes Go.ChangeAt Go.RowKit

theorem okN_cases {n sz : Nat} {most : Int} (h : okN false n sz most = false) : sz = 0 ∨ most < 0 ∨ most < (n : Int) := by
  by_cases h1 : sz = 0
  · exact .inl h1
  by_cases h2 : most < 0
  · exact .inr (.inl h2)
  by_cases h3 : most < (n : Int)
  · exact .inr (.inr h3)
  rw [okN_true rfl h1 (by omega) (by omega)] at h
  cases h
theorem okN_yes {n sz : Nat} {most : Int} (h : okN false n sz most = true) : sz ≠ 0 ∧ 0 ≤ most ∧ (n : Int) ≤ most := by
  refine ⟨fun e => ?_, ?_, ?_⟩
  · rw [okN_none e] at h; cases h
  · by_cases h2 : most < 0
    · rw [okN_neg h2] at h; cases h
    · omega
  · by_cases h2 : most < (n : Int)
    · rw [okN_more h2] at h; cases h
    · omega

theorem emp_any (s : ByteArray) : s.toList.isEmpty = ((s.size : Int) == 0) := by
  rw [ByteArray.toList_eq, Bool.eq_iff_iff, List.isEmpty_iff, beq_iff_eq, ← List.length_eq_zero_iff, size_list]
  omega

theorem ext_empty (s : ByteArray) (k : Nat) : (s.extract k s.size).toList.isEmpty = (((s.size - k : Nat) : Int) == 0) := by
  rw [ByteArray.toList_eq, extract_list, Bool.eq_iff_iff, List.isEmpty_iff, beq_iff_eq, List.drop_eq_nil_iff, size_list]
  omega

set_option maxHeartbeats 8000000 in
set_option maxRecDepth 100000 in
theorem walk_some (b : ByteArray) (g off len cap : Nat) (qs : List Aq) (w : World) (hlen : qs.length = len) (hat : AsksAt w g off qs) (h50 : len ≤ 50) (hbs : b.size ≤ 2048) :
    Calls Try.prog 5 #[.string b, .slice (some ⟨g, off, none⟩) len cap] w fun e w' => e = .returned (.bool true) ∧ Below w.heap.size w w' := by
  have HL := Hid.mk hlen
  clear hlen
  go_enter Try.func5, Try.ntmps5
  go_wp2_with fail
  refine (alive_any _).mono ?_
  rintro e w1 ⟨rfl, hb1⟩
  go_wp2_with fail
  refine (of_any _ _).mono ?_
  rintro e w4 ⟨rfl, h4⟩
  have hrd : Rd w4 w1.heap.size b false := by rw [h4]; exact Rd.new _ _
  have hb4 : Below w.heap.size w w4 := by rw [h4]; exact hb1.alloc hb1.size _
  have hr : w.heap.size ≤ w1.heap.size := hb1.size
  clear h4 hb1
  go_wp2_with fail
  go_loopw [0, 6, 30] (fun s bad i wr => ∃ (k : Nat) (s' : ByteArray) (bad' : Bool), k ≤ len ∧ i = .int .i64 k ∧ s = .string s' ∧ bad = .bool bad' ∧ s'.size ≤ 2048 ∧ Rd wr w1.heap.size s' bad' ∧ Below w.heap.size w wr) (fun _ _ i _ => len - (intOf i).toNat)
  case atStart => exact ⟨0, b, false, Nat.zero_le _, rfl, rfl, rfl, hbs, hrd, hb4⟩
  case round =>
    obtain ⟨k, s, bad, hk, rfl, rfl, rfl, hss, hrr, hb⟩ := hrel
    clear hrd hb4
    by_cases hlt : k < len
    · have hkt : k < qs.length := by rw [HL.out]; exact hlt
      have hatr : AsksAt wr g off qs := hat.carry (hb.block g hat.lt) hb.size
      obtain ⟨it, hit⟩ : ∃ it, it = qs[k] := ⟨_, rfl⟩
      have c0 := hatr.kind k hkt
      have c1 := hatr.n k hkt
      have b1 := hatr.hi k hkt
      rw [← hit] at c0 c1 b1
      obtain ⟨q, n⟩ := it
      dsimp only at c0 c1 b1
      have hrl := hrr.lt
      clear hit hatr
      by_cases q0 : q = 0
      · subst q0
        cases bad with
        | true =>
          go_wp2_with fail
          refine (taken_any _ s (by omega)).mono ?_
          rintro e w5 ⟨nn, sz, rfl, hl, hb5⟩
          have HT := Hid.mk hl
          have hnl := hl.lt
          have hx0 : w5.cell? ⟨wr.heap.size, 0, none⟩ = some (.int .i64 0) := by rw [hb5.cell (by simp)]; simp
          have hx1 : w5.cell? ⟨wr.heap.size, 1, none⟩ = some (.int .i64 n) := by rw [hb5.cell (by simp)]; simp
          have hr5 : Rd w5 w1.heap.size s true := hrr.carry (by rw [hb5.block _ (by simp; omega)]; exact Below.heap_alloc _ _ _ hrl)
          have hbb5 : Below w.heap.size w w5 := (hb.alloc hb.size _).trans (hb5.mono (by have := hb.size; simp; omega))
          have hsz : sz ≤ s.size := by have := HT.out.size_le; rw [size_list] at this; exact this
          have hsz1 : (sz : Int) ≤ (s.size : Int) := by omega
          clear hl hb5 hrr hb
          have hok : okN true nn sz n = false := by simp [okN]
          go_wp2_with fail
          refine (rnat_no _ _ s true n nn sz b1 hr5 HT.out hok).mono ?_
          rintro e w6 ⟨rfl, h6, ho6⟩
          have hbb6 := hbb5.trans (ho6.below hr)
          clear ho6
          go_wp2_with fail
          refine (bad_any _ _ _ h6.c1).mono ?_
          rintro e w7 ⟨rfl, rfl⟩
          go_wp2_with fail
          refine (left_any _ _ _ _ h6).mono ?_
          rintro e w8 ⟨rfl, rfl⟩
          go_wp2_with fail
          refine (rover_any _ _ _ _ h6).mono ?_
          rintro e w9 ⟨rfl, rfl⟩
          go_wp2
          go_roundw
          case rel => exact ⟨k + 1, _, _, by omega, by go_num, rfl, rfl, Nat.zero_le _, h6, hbb6⟩
          case measure => simp [intOf]; omega
        | false =>
          go_wp2_with fail
          refine (taken_any _ s (by omega)).mono ?_
          rintro e w5 ⟨nn, sz, rfl, hl, hb5⟩
          have HT := Hid.mk hl
          have hnl := hl.lt
          have hx0 : w5.cell? ⟨wr.heap.size, 0, none⟩ = some (.int .i64 0) := by rw [hb5.cell (by simp)]; simp
          have hx1 : w5.cell? ⟨wr.heap.size, 1, none⟩ = some (.int .i64 n) := by rw [hb5.cell (by simp)]; simp
          have hr5 : Rd w5 w1.heap.size s false := hrr.carry (by rw [hb5.block _ (by simp; omega)]; exact Below.heap_alloc _ _ _ hrl)
          have hbb5 : Below w.heap.size w w5 := (hb.alloc hb.size _).trans (hb5.mono (by have := hb.size; simp; omega))
          have hsz : sz ≤ s.size := by have := HT.out.size_le; rw [size_list] at this; exact this
          have hsz1 : (sz : Int) ≤ (s.size : Int) := by omega
          clear hl hb5 hrr hb
          cases hok : okN false nn sz n with
          | false =>
            by_cases hz : sz = 0
            · subst hz
              go_wp2_with fail
              refine (rnat_no _ _ s false n nn 0 b1 hr5 HT.out hok).mono ?_
              rintro e w6 ⟨rfl, h6, ho6⟩
              have hbb6 := hbb5.trans (ho6.below hr)
              clear ho6
              go_wp2_with fail
              refine (bad_any _ _ _ h6.c1).mono ?_
              rintro e w7 ⟨rfl, rfl⟩
              go_wp2_with fail
              refine (left_any _ _ _ _ h6).mono ?_
              rintro e w8 ⟨rfl, rfl⟩
              go_wp2_with fail
              refine (rover_any _ _ _ _ h6).mono ?_
              rintro e w9 ⟨rfl, rfl⟩
              go_wp2
              go_roundw
              case rel => exact ⟨k + 1, _, _, by omega, by go_num, rfl, rfl, Nat.zero_le _, h6, hbb6⟩
              case measure => simp [intOf]; omega
            have hz1 : ((sz : Int) == 0) = false := by simp; omega
            by_cases hneg : n < 0
            · have hd0 : decide (n < 0) = true := by simpa using hneg
              go_wp2_with fail
              refine (rnat_no _ _ s false n nn sz b1 hr5 HT.out hok).mono ?_
              rintro e w6 ⟨rfl, h6, ho6⟩
              have hbb6 := hbb5.trans (ho6.below hr)
              clear ho6
              go_wp2_with fail
              refine (bad_any _ _ _ h6.c1).mono ?_
              rintro e w7 ⟨rfl, rfl⟩
              go_wp2_with fail
              refine (left_any _ _ _ _ h6).mono ?_
              rintro e w8 ⟨rfl, rfl⟩
              go_wp2_with fail
              refine (rover_any _ _ _ _ h6).mono ?_
              rintro e w9 ⟨rfl, rfl⟩
              go_wp2
              go_roundw
              case rel => exact ⟨k + 1, _, _, by omega, by go_num, rfl, rfl, Nat.zero_le _, h6, hbb6⟩
              case measure => simp [intOf]; omega
            have hd0 : decide (n < 0) = false := by simpa using hneg
            have hmore : n < (nn : Int) := by have := okN_cases hok; omega
            have hd1 : decide (n < (nn : Int)) = true := by simpa using hmore
            go_wp2_with fail
            refine (rnat_no _ _ s false n nn sz b1 hr5 HT.out hok).mono ?_
            rintro e w6 ⟨rfl, h6, ho6⟩
            have hbb6 := hbb5.trans (ho6.below hr)
            clear ho6
            go_wp2_with fail
            refine (bad_any _ _ _ h6.c1).mono ?_
            rintro e w7 ⟨rfl, rfl⟩
            go_wp2_with fail
            refine (left_any _ _ _ _ h6).mono ?_
            rintro e w8 ⟨rfl, rfl⟩
            go_wp2_with fail
            refine (rover_any _ _ _ _ h6).mono ?_
            rintro e w9 ⟨rfl, rfl⟩
            go_wp2
            go_roundw
            case rel => exact ⟨k + 1, _, _, by omega, by go_num, rfl, rfl, Nat.zero_le _, h6, hbb6⟩
            case measure => simp [intOf]; omega
          | true =>
            obtain ⟨hz, hn0, hnn⟩ := okN_yes hok
            have hz1 : ((sz : Int) == 0) = false := by simp; omega
            have hd0 : decide (n < 0) = false := by simp; omega
            have hd1 : decide (n < (nn : Int)) = false := by simp; omega
            go_wp2_with fail
            refine (rnat_ok _ _ s false n nn sz b1 hr5 HT.out hok).mono ?_
            rintro e w6 ⟨rfl, h6, ho6⟩
            have hbb6 := hbb5.trans (ho6.below hr)
            clear ho6
            clear hok
            have hE := ext_empty s sz
            go_wp2_with fail
            refine (bad_any _ _ _ h6.c1).mono ?_
            rintro e w7 ⟨rfl, rfl⟩
            go_wp2_with fail
            refine (left_any _ _ _ _ h6).mono ?_
            rintro e w8 ⟨rfl, rfl⟩
            go_wp2_with fail
            refine (rover_any _ _ _ _ h6).mono ?_
            rintro e w9 ⟨rfl, rfl⟩
            go_wp2
            go_roundw
            case rel => exact ⟨k + 1, _, _, by omega, by go_num, rfl, rfl, by simp; omega, h6, hbb6⟩
            case measure => simp [intOf]; omega
      by_cases q1 : q = 1
      · subst q1
        cases bad with
        | true =>
          go_wp2_with fail
          refine (taken_any _ s (by omega)).mono ?_
          rintro e w5 ⟨nn, sz, rfl, hl, hb5⟩
          have HT := Hid.mk hl
          have hnl := hl.lt
          have hx0 : w5.cell? ⟨wr.heap.size, 0, none⟩ = some (.int .i64 1) := by rw [hb5.cell (by simp)]; simp
          have hx1 : w5.cell? ⟨wr.heap.size, 1, none⟩ = some (.int .i64 n) := by rw [hb5.cell (by simp)]; simp
          have hr5 : Rd w5 w1.heap.size s true := hrr.carry (by rw [hb5.block _ (by simp; omega)]; exact Below.heap_alloc _ _ _ hrl)
          have hbb5 : Below w.heap.size w w5 := (hb.alloc hb.size _).trans (hb5.mono (by have := hb.size; simp; omega))
          have hsz : sz ≤ s.size := by have := HT.out.size_le; rw [size_list] at this; exact this
          have hsz1 : (sz : Int) ≤ (s.size : Int) := by omega
          clear hl hb5 hrr hb
          go_wp2_with fail
          refine (rint_no _ _ s true nn sz hr5 HT.out rfl).mono ?_
          rintro e w6 ⟨rfl, h6, ho6⟩
          have hbb6 := hbb5.trans (ho6.below hr)
          clear ho6
          go_wp2_with fail
          refine (signed_any _ 0 (by omega)).mono ?_
          rintro e w7 ⟨rfl, rfl⟩
          go_wp2_with fail
          refine (bad_any _ _ _ h6.c1).mono ?_
          rintro e w7 ⟨rfl, rfl⟩
          go_wp2_with fail
          refine (left_any _ _ _ _ h6).mono ?_
          rintro e w8 ⟨rfl, rfl⟩
          go_wp2_with fail
          refine (rover_any _ _ _ _ h6).mono ?_
          rintro e w9 ⟨rfl, rfl⟩
          go_wp2
          go_roundw
          case rel => exact ⟨k + 1, _, _, by omega, by go_num, rfl, rfl, Nat.zero_le _, h6, hbb6⟩
          case measure => simp [intOf]; omega
        | false =>
          go_wp2_with fail
          refine (taken_any _ s (by omega)).mono ?_
          rintro e w5 ⟨nn, sz, rfl, hl, hb5⟩
          have HT := Hid.mk hl
          have hnl := hl.lt
          have hx0 : w5.cell? ⟨wr.heap.size, 0, none⟩ = some (.int .i64 1) := by rw [hb5.cell (by simp)]; simp
          have hx1 : w5.cell? ⟨wr.heap.size, 1, none⟩ = some (.int .i64 n) := by rw [hb5.cell (by simp)]; simp
          have hr5 : Rd w5 w1.heap.size s false := hrr.carry (by rw [hb5.block _ (by simp; omega)]; exact Below.heap_alloc _ _ _ hrl)
          have hbb5 : Below w.heap.size w w5 := (hb.alloc hb.size _).trans (hb5.mono (by have := hb.size; simp; omega))
          have hsz : sz ≤ s.size := by have := HT.out.size_le; rw [size_list] at this; exact this
          have hsz1 : (sz : Int) ≤ (s.size : Int) := by omega
          clear hl hb5 hrr hb
          by_cases hz : sz = 0
          · subst hz
            go_wp2_with fail
            refine (rint_no _ _ s false nn 0 hr5 HT.out rfl).mono ?_
            rintro e w6 ⟨rfl, h6, ho6⟩
            have hbb6 := hbb5.trans (ho6.below hr)
            clear ho6
            go_wp2_with fail
            refine (signed_any _ 0 (by omega)).mono ?_
            rintro e w7 ⟨rfl, rfl⟩
            go_wp2_with fail
            refine (bad_any _ _ _ h6.c1).mono ?_
            rintro e w7 ⟨rfl, rfl⟩
            go_wp2_with fail
            refine (left_any _ _ _ _ h6).mono ?_
            rintro e w8 ⟨rfl, rfl⟩
            go_wp2_with fail
            refine (rover_any _ _ _ _ h6).mono ?_
            rintro e w9 ⟨rfl, rfl⟩
            go_wp2
            go_roundw
            case rel => exact ⟨k + 1, _, _, by omega, by go_num, rfl, rfl, Nat.zero_le _, h6, hbb6⟩
            case measure => simp [intOf]; omega
          have hz1 : ((sz : Int) == 0) = false := by simp; omega
          go_wp2_with fail
          refine (rint_ok _ _ s false nn sz hr5 HT.out (by simp [okI, hz])).mono ?_
          rintro e w6 ⟨rfl, h6, ho6⟩
          have hbb6 := hbb5.trans (ho6.below hr)
          clear ho6
          go_wp2_with fail
          refine (signed_any _ nn (by omega)).mono ?_
          rintro e w7 ⟨rfl, rfl⟩
          have hE := ext_empty s sz
          go_wp2_with fail
          refine (bad_any _ _ _ h6.c1).mono ?_
          rintro e w7 ⟨rfl, rfl⟩
          go_wp2_with fail
          refine (left_any _ _ _ _ h6).mono ?_
          rintro e w8 ⟨rfl, rfl⟩
          go_wp2_with fail
          refine (rover_any _ _ _ _ h6).mono ?_
          rintro e w9 ⟨rfl, rfl⟩
          go_wp2
          go_roundw
          case rel => exact ⟨k + 1, _, _, by omega, by go_num, rfl, rfl, by simp; omega, h6, hbb6⟩
          case measure => simp [intOf]; omega
      by_cases q2 : q = 2
      · subst q2
        cases bad with
        | true =>
          have hx0 : (wr.alloc (.cells #[.int .i64 2, .int .i64 n] 36)).cell? ⟨wr.heap.size, 0, none⟩ = some (.int .i64 2) := by simp
          have hr5 : Rd (wr.alloc (.cells #[.int .i64 2, .int .i64 n] 36)) w1.heap.size s true := hrr.carry (Below.heap_alloc _ _ _ hrl)
          have hbb5 : Below w.heap.size w (wr.alloc (.cells #[.int .i64 2, .int .i64 n] 36)) := hb.alloc hb.size _
          clear hrr hb hx0
          go_wp2_with fail
          refine (rraw_no _ _ s true n hr5 (.inl rfl)).mono ?_
          rintro e w6 ⟨rfl, h6, ho6⟩
          have hbb6 := hbb5.trans (ho6.below hr)
          clear ho6
          go_wp2_with fail
          refine (bad_any _ _ _ h6.c1).mono ?_
          rintro e w7 ⟨rfl, rfl⟩
          go_wp2_with fail
          refine (left_any _ _ _ _ h6).mono ?_
          rintro e w8 ⟨rfl, rfl⟩
          go_wp2_with fail
          refine (rover_any _ _ _ _ h6).mono ?_
          rintro e w9 ⟨rfl, rfl⟩
          go_wp2
          go_roundw
          case rel => exact ⟨k + 1, _, _, by omega, by go_num, rfl, rfl, Nat.zero_le _, h6, hbb6⟩
          case measure => simp [intOf]; omega
        | false =>
          have hx0 : (wr.alloc (.cells #[.int .i64 2, .int .i64 n] 36)).cell? ⟨wr.heap.size, 0, none⟩ = some (.int .i64 2) := by simp
          have hr5 : Rd (wr.alloc (.cells #[.int .i64 2, .int .i64 n] 36)) w1.heap.size s false := hrr.carry (Below.heap_alloc _ _ _ hrl)
          have hbb5 : Below w.heap.size w (wr.alloc (.cells #[.int .i64 2, .int .i64 n] 36)) := hb.alloc hb.size _
          clear hrr hb hx0
          by_cases hneg : n < 0
          · have hd0 : decide (n < 0) = true := by simpa using hneg
            go_wp2_with fail
            refine (rraw_no _ _ s false n hr5 (.inr (.inl hneg))).mono ?_
            rintro e w6 ⟨rfl, h6, ho6⟩
            have hbb6 := hbb5.trans (ho6.below hr)
            clear ho6
            go_wp2_with fail
            refine (bad_any _ _ _ h6.c1).mono ?_
            rintro e w7 ⟨rfl, rfl⟩
            go_wp2_with fail
            refine (left_any _ _ _ _ h6).mono ?_
            rintro e w8 ⟨rfl, rfl⟩
            go_wp2_with fail
            refine (rover_any _ _ _ _ h6).mono ?_
            rintro e w9 ⟨rfl, rfl⟩
            go_wp2
            go_roundw
            case rel => exact ⟨k + 1, _, _, by omega, by go_num, rfl, rfl, Nat.zero_le _, h6, hbb6⟩
            case measure => simp [intOf]; omega
          have hd0 : decide (n < 0) = false := by simpa using hneg
          by_cases hmore : (s.size : Int) < n
          · have hd1 : decide ((s.size : Int) < n) = true := by simpa using hmore
            go_wp2_with fail
            refine (rraw_no _ _ s false n hr5 (.inr (.inr hmore))).mono ?_
            rintro e w6 ⟨rfl, h6, ho6⟩
            have hbb6 := hbb5.trans (ho6.below hr)
            clear ho6
            go_wp2_with fail
            refine (bad_any _ _ _ h6.c1).mono ?_
            rintro e w7 ⟨rfl, rfl⟩
            go_wp2_with fail
            refine (left_any _ _ _ _ h6).mono ?_
            rintro e w8 ⟨rfl, rfl⟩
            go_wp2_with fail
            refine (rover_any _ _ _ _ h6).mono ?_
            rintro e w9 ⟨rfl, rfl⟩
            go_wp2
            go_roundw
            case rel => exact ⟨k + 1, _, _, by omega, by go_num, rfl, rfl, Nat.zero_le _, h6, hbb6⟩
            case measure => simp [intOf]; omega
          have hd1 : decide ((s.size : Int) < n) = false := by simpa using hmore
          obtain ⟨m, rfl⟩ := Int.eq_ofNat_of_zero_le (show 0 ≤ n by omega)
          have hms : m ≤ s.size := by omega
          have hms1 : (m : Int) ≤ (s.size : Int) := by omega
          go_wp2_with fail
          refine (rraw_ok _ _ s m hr5 hms).mono ?_
          rintro e w6 ⟨rfl, h6, ho6⟩
          have hbb6 := hbb5.trans (ho6.below hr)
          clear ho6
          have hE := ext_empty s m
          go_wp2_with fail
          refine (bad_any _ _ _ h6.c1).mono ?_
          rintro e w7 ⟨rfl, rfl⟩
          go_wp2_with fail
          refine (left_any _ _ _ _ h6).mono ?_
          rintro e w8 ⟨rfl, rfl⟩
          go_wp2_with fail
          refine (rover_any _ _ _ _ h6).mono ?_
          rintro e w9 ⟨rfl, rfl⟩
          go_wp2
          go_roundw
          case rel => exact ⟨k + 1, _, _, by omega, by go_num, rfl, rfl, by simp; omega, h6, hbb6⟩
          case measure => simp [intOf]; omega
      by_cases q3 : q = 3
      · subst q3
        cases bad with
        | true =>
          go_wp2_with fail
          refine (taken_any _ s (by omega)).mono ?_
          rintro e w5 ⟨nn, sz, rfl, hl, hb5⟩
          have HT := Hid.mk hl
          have hnl := hl.lt
          have hx0 : w5.cell? ⟨wr.heap.size, 0, none⟩ = some (.int .i64 3) := by rw [hb5.cell (by simp)]; simp
          have hx1 : w5.cell? ⟨wr.heap.size, 1, none⟩ = some (.int .i64 n) := by rw [hb5.cell (by simp)]; simp
          have hr5 : Rd w5 w1.heap.size s true := hrr.carry (by rw [hb5.block _ (by simp; omega)]; exact Below.heap_alloc _ _ _ hrl)
          have hbb5 : Below w.heap.size w w5 := (hb.alloc hb.size _).trans (hb5.mono (by have := hb.size; simp; omega))
          have hsz : sz ≤ s.size := by have := HT.out.size_le; rw [size_list] at this; exact this
          have hsz1 : (sz : Int) ≤ (s.size : Int) := by omega
          clear hl hb5 hrr hb
          have hok : okN true nn sz n = false := by simp [okN]
          go_wp2_with fail
          refine (rtext_no _ _ s true n nn sz b1 hr5 HT.out (.inl hok)).mono ?_
          rintro e w6 ⟨rfl, h6, ho6⟩
          have hbb6 := hbb5.trans (ho6.below hr)
          clear ho6
          go_wp2_with fail
          refine (bad_any _ _ _ h6.c1).mono ?_
          rintro e w7 ⟨rfl, rfl⟩
          go_wp2_with fail
          refine (left_any _ _ _ _ h6).mono ?_
          rintro e w8 ⟨rfl, rfl⟩
          go_wp2_with fail
          refine (rover_any _ _ _ _ h6).mono ?_
          rintro e w9 ⟨rfl, rfl⟩
          go_wp2
          go_roundw
          case rel => exact ⟨k + 1, _, _, by omega, by go_num, rfl, rfl, Nat.zero_le _, h6, hbb6⟩
          case measure => simp [intOf]; omega
        | false =>
          go_wp2_with fail
          refine (taken_any _ s (by omega)).mono ?_
          rintro e w5 ⟨nn, sz, rfl, hl, hb5⟩
          have HT := Hid.mk hl
          have hnl := hl.lt
          have hx0 : w5.cell? ⟨wr.heap.size, 0, none⟩ = some (.int .i64 3) := by rw [hb5.cell (by simp)]; simp
          have hx1 : w5.cell? ⟨wr.heap.size, 1, none⟩ = some (.int .i64 n) := by rw [hb5.cell (by simp)]; simp
          have hr5 : Rd w5 w1.heap.size s false := hrr.carry (by rw [hb5.block _ (by simp; omega)]; exact Below.heap_alloc _ _ _ hrl)
          have hbb5 : Below w.heap.size w w5 := (hb.alloc hb.size _).trans (hb5.mono (by have := hb.size; simp; omega))
          have hsz : sz ≤ s.size := by have := HT.out.size_le; rw [size_list] at this; exact this
          have hsz1 : (sz : Int) ≤ (s.size : Int) := by omega
          clear hl hb5 hrr hb
          cases hok : okN false nn sz n with
          | false =>
            by_cases hz : sz = 0
            · subst hz
              go_wp2_with fail
              refine (rtext_no _ _ s false n nn 0 b1 hr5 HT.out (.inl hok)).mono ?_
              rintro e w6 ⟨rfl, h6, ho6⟩
              have hbb6 := hbb5.trans (ho6.below hr)
              clear ho6
              go_wp2_with fail
              refine (bad_any _ _ _ h6.c1).mono ?_
              rintro e w7 ⟨rfl, rfl⟩
              go_wp2_with fail
              refine (left_any _ _ _ _ h6).mono ?_
              rintro e w8 ⟨rfl, rfl⟩
              go_wp2_with fail
              refine (rover_any _ _ _ _ h6).mono ?_
              rintro e w9 ⟨rfl, rfl⟩
              go_wp2
              go_roundw
              case rel => exact ⟨k + 1, _, _, by omega, by go_num, rfl, rfl, Nat.zero_le _, h6, hbb6⟩
              case measure => simp [intOf]; omega
            have hz1 : ((sz : Int) == 0) = false := by simp; omega
            by_cases hneg : n < 0
            · have hd0 : decide (n < 0) = true := by simpa using hneg
              go_wp2_with fail
              refine (rtext_no _ _ s false n nn sz b1 hr5 HT.out (.inl hok)).mono ?_
              rintro e w6 ⟨rfl, h6, ho6⟩
              have hbb6 := hbb5.trans (ho6.below hr)
              clear ho6
              go_wp2_with fail
              refine (bad_any _ _ _ h6.c1).mono ?_
              rintro e w7 ⟨rfl, rfl⟩
              go_wp2_with fail
              refine (left_any _ _ _ _ h6).mono ?_
              rintro e w8 ⟨rfl, rfl⟩
              go_wp2_with fail
              refine (rover_any _ _ _ _ h6).mono ?_
              rintro e w9 ⟨rfl, rfl⟩
              go_wp2
              go_roundw
              case rel => exact ⟨k + 1, _, _, by omega, by go_num, rfl, rfl, Nat.zero_le _, h6, hbb6⟩
              case measure => simp [intOf]; omega
            have hd0 : decide (n < 0) = false := by simpa using hneg
            have hmore : n < (nn : Int) := by have := okN_cases hok; omega
            have hd1 : decide (n < (nn : Int)) = true := by simpa using hmore
            go_wp2_with fail
            refine (rtext_no _ _ s false n nn sz b1 hr5 HT.out (.inl hok)).mono ?_
            rintro e w6 ⟨rfl, h6, ho6⟩
            have hbb6 := hbb5.trans (ho6.below hr)
            clear ho6
            go_wp2_with fail
            refine (bad_any _ _ _ h6.c1).mono ?_
            rintro e w7 ⟨rfl, rfl⟩
            go_wp2_with fail
            refine (left_any _ _ _ _ h6).mono ?_
            rintro e w8 ⟨rfl, rfl⟩
            go_wp2_with fail
            refine (rover_any _ _ _ _ h6).mono ?_
            rintro e w9 ⟨rfl, rfl⟩
            go_wp2
            go_roundw
            case rel => exact ⟨k + 1, _, _, by omega, by go_num, rfl, rfl, Nat.zero_le _, h6, hbb6⟩
            case measure => simp [intOf]; omega
          | true =>
            obtain ⟨hz, hn0, hnn⟩ := okN_yes hok
            have hz1 : ((sz : Int) == 0) = false := by simp; omega
            have hd0 : decide (n < 0) = false := by simp; omega
            have hd1 : decide (n < (nn : Int)) = false := by simp; omega
            have hd2 : decide ((nn : Int) < 0) = false := by simp
            by_cases hlong : s.size < nn + sz
            · have hd3 : decide (s.size - sz < nn) = true := by simp; omega
              go_wp2_with fail
              refine (rtext_no _ _ s false n nn sz b1 hr5 HT.out (.inr hlong)).mono ?_
              rintro e w6 ⟨rfl, h6, ho6⟩
              have hbb6 := hbb5.trans (ho6.below hr)
              clear ho6
              go_wp2_with fail
              refine (bad_any _ _ _ h6.c1).mono ?_
              rintro e w7 ⟨rfl, rfl⟩
              go_wp2_with fail
              refine (left_any _ _ _ _ h6).mono ?_
              rintro e w8 ⟨rfl, rfl⟩
              go_wp2_with fail
              refine (rover_any _ _ _ _ h6).mono ?_
              rintro e w9 ⟨rfl, rfl⟩
              go_wp2
              go_roundw
              case rel => exact ⟨k + 1, _, _, by omega, by go_num, rfl, rfl, Nat.zero_le _, h6, hbb6⟩
              case measure => simp [intOf]; omega
            have hd3 : decide (s.size - sz < nn) = false := by simp; omega
            have hnn1 : (nn : Int) ≤ ((s.size - sz : Nat) : Int) := by omega
            go_wp2_with fail
            refine (rtext_ok _ _ s false n nn sz b1 hr5 HT.out hok (by omega)).mono ?_
            rintro e w6 ⟨rfl, h6, ho6⟩
            have hbb6 := hbb5.trans (ho6.below hr)
            clear ho6
            clear hok
            have hE := emp_any ((s.extract sz s.size).extract nn (s.size - sz))
            go_wp2_with fail
            refine (bad_any _ _ _ h6.c1).mono ?_
            rintro e w7 ⟨rfl, rfl⟩
            go_wp2_with fail
            refine (left_any _ _ _ _ h6).mono ?_
            rintro e w8 ⟨rfl, rfl⟩
            go_wp2_with fail
            refine (rover_any _ _ _ _ h6).mono ?_
            rintro e w9 ⟨rfl, rfl⟩
            go_wp2
            go_roundw
            case rel => exact ⟨k + 1, _, _, by omega, by go_num, rfl, rfl, by simp; omega, h6, hbb6⟩
            case measure => simp [intOf]; omega
      have z0 : (q == 0) = false := by simp [q0]
      have z1 : (q == 1) = false := by simp [q1]
      have z2 : (q == 2) = false := by simp [q2]
      have z3 : (q == 3) = false := by simp [q3]
      have y1 : (q != 1) = true := by simp [q1]
      have y2 : (q != 2) = true := by simp [q2]
      go_wp2_with fail
      refine (taken_any _ s (by omega)).mono ?_
      rintro e w5 ⟨nn, sz, rfl, hl, hb5⟩
      have HT := Hid.mk hl
      have hnl := hl.lt
      have hx0 : w5.cell? ⟨wr.heap.size, 0, none⟩ = some (.int .i64 q) := by rw [hb5.cell (by simp)]; simp
      have hx1 : w5.cell? ⟨wr.heap.size, 1, none⟩ = some (.int .i64 n) := by rw [hb5.cell (by simp)]; simp
      have hr5 : Rd w5 w1.heap.size s bad := hrr.carry (by rw [hb5.block _ (by simp; omega)]; exact Below.heap_alloc _ _ _ hrl)
      have hbb5 : Below w.heap.size w w5 := (hb.alloc hb.size _).trans (hb5.mono (by have := hb.size; simp; omega))
      have hsz : sz ≤ s.size := by have := HT.out.size_le; rw [size_list] at this; exact this
      have hsz1 : (sz : Int) ≤ (s.size : Int) := by omega
      clear hl hb5 hrr hb
      clear hr5
      cases bad with
      | true =>
        by_cases hq : 1 < q
        all_goals
          go_wp2
          go_ret
          exact ⟨rfl, hbb5⟩
      | false =>
        by_cases hz : sz = 0
        · subst hz
          by_cases hq : 1 < q
          all_goals
            go_wp2
            go_ret
            exact ⟨rfl, hbb5⟩
        have hz1 : ((sz : Int) == 0) = false := by simp; omega
        by_cases hneg : n < 0
        · have hd0 : decide (n < 0) = true := by simpa using hneg
          by_cases hq : 1 < q
          all_goals
            go_wp2
            go_ret
            exact ⟨rfl, hbb5⟩
        have hd0 : decide (n < 0) = false := by simpa using hneg
        by_cases hmore : n < (nn : Int)
        · have hd1 : decide (n < (nn : Int)) = true := by simpa using hmore
          by_cases hq : 1 < q
          all_goals
            go_wp2
            go_ret
            exact ⟨rfl, hbb5⟩
        have hd1 : decide (n < (nn : Int)) = false := by simpa using hmore
        by_cases hq : 1 < q
        · by_cases hlong : ((s.size - sz : Nat) : Int) < n
          · have hd3 : decide (((s.size - sz : Nat) : Int) < n) = true := by simpa using hlong
            go_wp2
            go_ret
            exact ⟨rfl, hbb5⟩
          · have hd3 : decide (((s.size - sz : Nat) : Int) < n) = false := by simpa using hlong
            go_wp2
            go_ret
            exact ⟨rfl, hbb5⟩
        · go_wp2
          go_ret
          exact ⟨rfl, hbb5⟩
    · go_wp2_with fail
      refine (spoil_nil _).mono ?_
      rintro e w5 ⟨rfl, rfl⟩
      go_wp2_with fail
      refine (rraw_nil _ _).mono ?_
      rintro e w6 ⟨rfl, rfl⟩
      go_wp2_with fail
      refine (rnat_nil _).mono ?_
      rintro e w7 ⟨rfl, rfl⟩
      go_wp2_with fail
      refine (rint_nil _).mono ?_
      rintro e w8 ⟨rfl, rfl⟩
      go_wp2_with fail
      refine (rtext_nil _).mono ?_
      rintro e w9 ⟨rfl, rfl⟩
      go_wp2_with fail
      refine (bad_nil _).mono ?_
      rintro e w10 ⟨rfl, rfl⟩
      go_wp2_with fail
      refine (over_nil _).mono ?_
      rintro e w11 ⟨rfl, rfl⟩
      go_wp2_with fail
      refine (left_nil _).mono ?_
      rintro e w12 ⟨rfl, rfl⟩
      go_wp2
      go_ret
      exact ⟨rfl, hb⟩

end Go.Proofs.Ytjenalblcdmpaaa.stylusReads
