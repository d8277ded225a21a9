/-
  The walk of the document's One: can an instruction be, and stand there?
-/
import Derived.Test.YtkpbampffndjoaaCShape
import Derived.Test.YtkpbampffndjoaaCLim
import Derived.Test.YtkpbampffndjoaaCOneM
namespace Go.Proofs.Ytkpbampffndjoaa
open Go.RowKit

set_option maxHeartbeats 3200000 in
set_option maxRecDepth 100000 in
theorem one_14 {w : World} {a : Option Addr} {len cap : Nat} {ps : List Ins} (hp : IsIns w a len cap ps) (hwf : Wf ps) (hl48 : len ≤ 48) (S : Sh ps) {i : Nat} (hi : i < len) (hft : fitsB ps[i]! = true) (hop : ps[i]!.op = 14) :
    Calls Try.prog 14 #[.slice a len cap, .int .i64 i] w fun e w' => e = .returned (.bool (oneB ps i)) ∧ Below w.heap.size w w' := by
  have HS := Hid.mk S
  have HL := Hid.mk hp.1
  have HWF := Hid.mk hwf
  have hb := Below.refl w.heap.size w
  obtain ⟨g, off, hae, hat⟩ := hp.at_ (by omega)
  subst hae
  have HP := Hid.mk hp
  have HAT := Hid.mk hat
  have hit : i < ps.length := by rw [HL.out]; exact hi
  have c0 := hat.op i hit
  have c1 := hat.a i hit
  have c2 := hat.b i hit
  have c3 := hat.c i hit
  have hfa := (hwf i hit).1
  have hfb := (hwf i hit).2
  obtain ⟨x, hx⟩ : ∃ x, x = ps[i]! := ⟨_, rfl⟩
  rw [← hx] at c0 c1 c2 c3 hfa hfb hft hop
  obtain ⟨op, xa, xb, xc⟩ := x
  dsimp only at c0 c1 c2 c3 hfa hfb hop
  have HFT := Hid.mk hft
  have HOP := Hid.mk hop
  clear hft hop
  have HX := Hid.mk hx
  have HFA := Hid.mk hfa
  have HFB := Hid.mk hfb
  clear hx hat hp S hwf hit hfa hfb
  go_enter Try.func14, Try.ntmps14
  go_wp2_with fail
  refine (limits_any op _).mono ?_
  rintro e w1 ⟨a0, a1, b0, b1, d0, d1, ok, rfl, hlim, hb1⟩
  have HLIM := Hid.mk hlim
  have hb1' : Below w.heap.size w w1 := ((Below.refl _ _).alloc (Nat.le_refl _) _).trans (hb1.mono (by simp))
  have HB1 := Hid.mk hb1'
  have HSZ := Hid.mk (show w.heap.size < w1.heap.size by have := hb1.size; simp at this; omega)
  have e0 : w1.cell? ⟨w.heap.size, 0, none⟩ = some (.int .i64 op) := (hb1.cell (by simp)).trans (cell_in (heap_alloc_at _ _) rfl)
  have e1 : w1.cell? ⟨w.heap.size, 1, none⟩ = some (.int .i64 xa) := (hb1.cell (by simp)).trans (cell_in (heap_alloc_at _ _) rfl)
  have e2 : w1.cell? ⟨w.heap.size, 2, none⟩ = some (.int .i64 xb) := (hb1.cell (by simp)).trans (cell_in (heap_alloc_at _ _) rfl)
  have e3 : w1.cell? ⟨w.heap.size, 3, none⟩ = some (.int .i64 xc) := (hb1.cell (by simp)).trans (cell_in (heap_alloc_at _ _) rfl)
  have E0 : (w1.alloc (.cells #[.int .i64 a0, .int .i64 a1, .int .i64 b0, .int .i64 b1, .int .i64 d0, .int .i64 d1] 46)).cell? ⟨w.heap.size, 0, none⟩ = some (.int .i64 op) := cell_past e0
  have E1 : (w1.alloc (.cells #[.int .i64 a0, .int .i64 a1, .int .i64 b0, .int .i64 b1, .int .i64 d0, .int .i64 d1] 46)).cell? ⟨w.heap.size, 1, none⟩ = some (.int .i64 xa) := cell_past e1
  have E2 : (w1.alloc (.cells #[.int .i64 a0, .int .i64 a1, .int .i64 b0, .int .i64 b1, .int .i64 d0, .int .i64 d1] 46)).cell? ⟨w.heap.size, 2, none⟩ = some (.int .i64 xb) := cell_past e2
  have E3 : (w1.alloc (.cells #[.int .i64 a0, .int .i64 a1, .int .i64 b0, .int .i64 b1, .int .i64 d0, .int .i64 d1] 46)).cell? ⟨w.heap.size, 3, none⟩ = some (.int .i64 xc) := cell_past e3
  have L0 : (w1.alloc (.cells #[.int .i64 a0, .int .i64 a1, .int .i64 b0, .int .i64 b1, .int .i64 d0, .int .i64 d1] 46)).cell? ⟨w1.heap.size, 0, none⟩ = some (.int .i64 a0) := cell_in (heap_alloc_at _ _) rfl
  have L1 : (w1.alloc (.cells #[.int .i64 a0, .int .i64 a1, .int .i64 b0, .int .i64 b1, .int .i64 d0, .int .i64 d1] 46)).cell? ⟨w1.heap.size, 1, none⟩ = some (.int .i64 a1) := cell_in (heap_alloc_at _ _) rfl
  have L2 : (w1.alloc (.cells #[.int .i64 a0, .int .i64 a1, .int .i64 b0, .int .i64 b1, .int .i64 d0, .int .i64 d1] 46)).cell? ⟨w1.heap.size, 2, none⟩ = some (.int .i64 b0) := cell_in (heap_alloc_at _ _) rfl
  have L3 : (w1.alloc (.cells #[.int .i64 a0, .int .i64 a1, .int .i64 b0, .int .i64 b1, .int .i64 d0, .int .i64 d1] 46)).cell? ⟨w1.heap.size, 3, none⟩ = some (.int .i64 b1) := cell_in (heap_alloc_at _ _) rfl
  have L4 : (w1.alloc (.cells #[.int .i64 a0, .int .i64 a1, .int .i64 b0, .int .i64 b1, .int .i64 d0, .int .i64 d1] 46)).cell? ⟨w1.heap.size, 4, none⟩ = some (.int .i64 d0) := cell_in (heap_alloc_at _ _) rfl
  have L5 : (w1.alloc (.cells #[.int .i64 a0, .int .i64 a1, .int .i64 b0, .int .i64 b1, .int .i64 d0, .int .i64 d1] 46)).cell? ⟨w1.heap.size, 5, none⟩ = some (.int .i64 d1) := cell_in (heap_alloc_at _ _) rfl
  clear hlim hb1 hb1' c0 c1 c2 c3 e0 e1 e2 e3
  unfold limV
  obtain ⟨rfl, f1, f2, f3, f4, f5, f6, f7⟩ := (HLIM.out xa xb xc HFA.out HFB.out).1 HFT.out
  have y1 : decide (xa < a0) = false := by simpa using f1
  have y2 : decide (xa > a1) = false := by simpa using f2
  have y3 : decide (xb < b0) = false := by simpa using f3
  have y4 : decide (xb > b1) = false := by simpa using f4
  have y5 : decide (xc < d0) = false := by simpa using f5
  have y6 : decide (xc > d1) = false := by simpa using f6
  have HF := Hid.mk ((HLIM.out xa xb xc HFA.out HFB.out).2 ⟨rfl, f1, f2, f3, f4, f5, f6, f7⟩)
  have hb2 : Below w.heap.size w (w1.alloc (.cells #[.int .i64 a0, .int .i64 a1, .int .i64 b0, .int .i64 b1, .int .i64 d0, .int .i64 d1] 46)) := HB1.out.alloc HB1.out.size _
  have HB2 := Hid.mk hb2
  have HIP := Hid.mk (HP.out.carry hb2)
  have F7 := Hid.mk f7
  clear f1 f2 f3 f4 f5 f6 f7 hb2 HLIM HFA HFB
  have hop := HOP.out
  clear HOP
  subst hop
  go_wp2_with fail
  clear L0 L1 L2 L3 L4 L5 y1 y2 y3 y4 y5 y6
  refine (block_any HIP.out hl48 hi).mono ?_
  rintro e w3 ⟨rfl, hb3⟩
  rw [blk_last HS.out (by rw [HL.out]; exact hi)]
  have G0 := (hb3.cell (p := ⟨w.heap.size, 0, none⟩) (by have := HSZ.out; simp; omega)).trans E0
  have G1 := (hb3.cell (p := ⟨w.heap.size, 1, none⟩) (by have := HSZ.out; simp; omega)).trans E1
  have HB3 := Hid.mk (HB2.out.trans (hb3.mono HB2.out.size))
  have HSZ3 := Hid.mk (show w1.heap.size ≤ w3.heap.size by have := hb3.size; simp at this; omega)
  clear E0 E1 E2 E3 hb3
  obtain ⟨L, hL⟩ : ∃ L, L = lastB ps i := ⟨_, rfl⟩
  rw [← hL]
  have HLL := Hid.mk hL
  have HIT := Hid.mk (show i < ps.length by rw [HL.out]; exact hi)
  obtain ⟨s, hs1, hs2⟩ := start_at HS.out HIT.out hL
  have hlb : -1 ≤ L := by omega
  have hub : L ≤ 48 := by omega
  have HS1 := Hid.mk hs1
  clear hL hs1
  by_cases hL0 : L < 0
  · have q1 : decide (L < 0) = true := by simpa using hL0
    go_wp2
    go_ret
    exact ⟨by rw [no_stand HS.out HIT.out HX.out HLL.out (.inr ⟨(by dsimp only; decide), hL0⟩)]; rfl, HB3.out⟩
  have q1 : decide (L < 0) = false := by simpa using hL0
  obtain ⟨t, ht0, ht1, ht2, ht3, ht4⟩ := in_block HS.out HIT.out HLL.out (by omega)
  have hts : t + 1 = s := by have := HS1.out; omega
  have HT2 := Hid.mk ht2
  have HT3 := Hid.mk ht3
  have HT4 := Hid.mk ht4
  have HTS := Hid.mk hts
  have HT1 := Hid.mk ht1
  clear ht0 ht2 ht3 ht4 hts ht1
  go_wp2
  go_loopw [9, 10] (fun wy kv wr => ∃ k : Nat, t < k ∧ k ≤ i ∧ kv = .int .i64 k ∧ wy = .int .i64 (elB ps k : Nat) ∧ suB ps k = false ∧ Below w.heap.size w wr ∧ wr.cell? ⟨w.heap.size, 0, none⟩ = some (.int .i64 14)) (fun _ kv _ => i - (intOf kv).toNat)
  case atStart => exact ⟨s, by have := HTS.out; omega, hs2, by rw [← HS1.out], by rw [← HTS.out, HT2.out]; rfl, by rw [← HTS.out]; exact HT3.out, HB3.out, G0⟩
  case round =>
    obtain ⟨k, hk0, hk, rfl, rfl, hsu, hbr, g0⟩ := hrel
    have SU := Hid.mk hsu
    have he48 := elB_le ps k
    clear hsu
    by_cases hlt : k < i
    · have d0 := (HAT.out.grown hbr).op k (by rw [HL.out]; omega)
      have n1 : elB ps (k + 1) = nextE (elB ps k) ps[k]!.op := rfl
      have n2 : suB ps (k + 1) = nextS (suB ps k) ps[k]!.op := rfl
      have n4 : ps[k]!.op ≠ 4 := HT4.out k hk0 hlt
      have n5 : opA ps k = ps[k]!.op := rfl
      obtain ⟨y, hy⟩ : ∃ y, y = ps[k]!.op := ⟨_, rfl⟩
      obtain ⟨E, hE⟩ : ∃ E, E = elB ps k := ⟨_, rfl⟩
      rw [← hy] at d0 n1 n2 n4 n5
      rw [← hE] at n1 he48
      rw [← hE]
      rw [SU.out] at n2
      have N1 := Hid.mk n1
      have N2 := Hid.mk n2
      have N5 := Hid.mk n5
      clear hy hE n1 n2 n5
      by_cases y21 : y = 21
      · subst y21
        go_wp2
        go_ret
        exact ⟨by rw [no_sure HX.out (.inl rfl) HT4.out hk0 hlt N5.out]; rfl, hbr⟩
      have zy21 : (y == 21) = false := by simpa using y21
      by_cases y20 : y = 20
      · subst y20
        go_wp2
        go_roundw
        case rel => exact ⟨k + 1, by omega, hlt, by go_num, by rw [N1.out]; go_num, by rw [N2.out]; rfl, hbr, g0⟩
        case measure => simp [intOf]; omega
      have zy20 : (y == 20) = false := by simpa using y20
      have m1 : nextE E y = E := by unfold nextE; rw [if_neg n4, if_neg y20]
      have m2 : nextS false y = false := by unfold nextS; rw [if_neg n4, if_neg y21]
      rw [m1] at N1
      rw [m2] at N2
      clear m1 m2 n4
      go_wp2
      go_roundw
      case rel => exact ⟨k + 1, by omega, hlt, by go_num, by rw [N1.out], N2.out, hbr, g0⟩
      case measure => simp [intOf]; omega
    · obtain rfl : k = i := by omega
      go_wp2
      go_ret
      exact ⟨by rw [yes_one HS.out HIT.out HX.out HLL.out HF.out (by have := hL0; have := fits_range HF.out; dsimp only at *; omega) (by rw [SU.out]; rfl) (lead_none (by dsimp only; decide) (by dsimp only; decide))]; rfl, hbr⟩

set_option maxHeartbeats 3200000 in
set_option maxRecDepth 100000 in
theorem one_19 {w : World} {a : Option Addr} {len cap : Nat} {ps : List Ins} (hp : IsIns w a len cap ps) (hwf : Wf ps) (hl48 : len ≤ 48) (S : Sh ps) {i : Nat} (hi : i < len) (hft : fitsB ps[i]! = true) (hop : ps[i]!.op = 19) :
    Calls Try.prog 14 #[.slice a len cap, .int .i64 i] w fun e w' => e = .returned (.bool (oneB ps i)) ∧ Below w.heap.size w w' := by
  have HS := Hid.mk S
  have HL := Hid.mk hp.1
  have HWF := Hid.mk hwf
  have hb := Below.refl w.heap.size w
  obtain ⟨g, off, hae, hat⟩ := hp.at_ (by omega)
  subst hae
  have HP := Hid.mk hp
  have HAT := Hid.mk hat
  have hit : i < ps.length := by rw [HL.out]; exact hi
  have c0 := hat.op i hit
  have c1 := hat.a i hit
  have c2 := hat.b i hit
  have c3 := hat.c i hit
  have hfa := (hwf i hit).1
  have hfb := (hwf i hit).2
  obtain ⟨x, hx⟩ : ∃ x, x = ps[i]! := ⟨_, rfl⟩
  rw [← hx] at c0 c1 c2 c3 hfa hfb hft hop
  obtain ⟨op, xa, xb, xc⟩ := x
  dsimp only at c0 c1 c2 c3 hfa hfb hop
  have HFT := Hid.mk hft
  have HOP := Hid.mk hop
  clear hft hop
  have HX := Hid.mk hx
  have HFA := Hid.mk hfa
  have HFB := Hid.mk hfb
  clear hx hat hp S hwf hit hfa hfb
  go_enter Try.func14, Try.ntmps14
  go_wp2_with fail
  refine (limits_any op _).mono ?_
  rintro e w1 ⟨a0, a1, b0, b1, d0, d1, ok, rfl, hlim, hb1⟩
  have HLIM := Hid.mk hlim
  have hb1' : Below w.heap.size w w1 := ((Below.refl _ _).alloc (Nat.le_refl _) _).trans (hb1.mono (by simp))
  have HB1 := Hid.mk hb1'
  have HSZ := Hid.mk (show w.heap.size < w1.heap.size by have := hb1.size; simp at this; omega)
  have e0 : w1.cell? ⟨w.heap.size, 0, none⟩ = some (.int .i64 op) := (hb1.cell (by simp)).trans (cell_in (heap_alloc_at _ _) rfl)
  have e1 : w1.cell? ⟨w.heap.size, 1, none⟩ = some (.int .i64 xa) := (hb1.cell (by simp)).trans (cell_in (heap_alloc_at _ _) rfl)
  have e2 : w1.cell? ⟨w.heap.size, 2, none⟩ = some (.int .i64 xb) := (hb1.cell (by simp)).trans (cell_in (heap_alloc_at _ _) rfl)
  have e3 : w1.cell? ⟨w.heap.size, 3, none⟩ = some (.int .i64 xc) := (hb1.cell (by simp)).trans (cell_in (heap_alloc_at _ _) rfl)
  have E0 : (w1.alloc (.cells #[.int .i64 a0, .int .i64 a1, .int .i64 b0, .int .i64 b1, .int .i64 d0, .int .i64 d1] 46)).cell? ⟨w.heap.size, 0, none⟩ = some (.int .i64 op) := cell_past e0
  have E1 : (w1.alloc (.cells #[.int .i64 a0, .int .i64 a1, .int .i64 b0, .int .i64 b1, .int .i64 d0, .int .i64 d1] 46)).cell? ⟨w.heap.size, 1, none⟩ = some (.int .i64 xa) := cell_past e1
  have E2 : (w1.alloc (.cells #[.int .i64 a0, .int .i64 a1, .int .i64 b0, .int .i64 b1, .int .i64 d0, .int .i64 d1] 46)).cell? ⟨w.heap.size, 2, none⟩ = some (.int .i64 xb) := cell_past e2
  have E3 : (w1.alloc (.cells #[.int .i64 a0, .int .i64 a1, .int .i64 b0, .int .i64 b1, .int .i64 d0, .int .i64 d1] 46)).cell? ⟨w.heap.size, 3, none⟩ = some (.int .i64 xc) := cell_past e3
  have L0 : (w1.alloc (.cells #[.int .i64 a0, .int .i64 a1, .int .i64 b0, .int .i64 b1, .int .i64 d0, .int .i64 d1] 46)).cell? ⟨w1.heap.size, 0, none⟩ = some (.int .i64 a0) := cell_in (heap_alloc_at _ _) rfl
  have L1 : (w1.alloc (.cells #[.int .i64 a0, .int .i64 a1, .int .i64 b0, .int .i64 b1, .int .i64 d0, .int .i64 d1] 46)).cell? ⟨w1.heap.size, 1, none⟩ = some (.int .i64 a1) := cell_in (heap_alloc_at _ _) rfl
  have L2 : (w1.alloc (.cells #[.int .i64 a0, .int .i64 a1, .int .i64 b0, .int .i64 b1, .int .i64 d0, .int .i64 d1] 46)).cell? ⟨w1.heap.size, 2, none⟩ = some (.int .i64 b0) := cell_in (heap_alloc_at _ _) rfl
  have L3 : (w1.alloc (.cells #[.int .i64 a0, .int .i64 a1, .int .i64 b0, .int .i64 b1, .int .i64 d0, .int .i64 d1] 46)).cell? ⟨w1.heap.size, 3, none⟩ = some (.int .i64 b1) := cell_in (heap_alloc_at _ _) rfl
  have L4 : (w1.alloc (.cells #[.int .i64 a0, .int .i64 a1, .int .i64 b0, .int .i64 b1, .int .i64 d0, .int .i64 d1] 46)).cell? ⟨w1.heap.size, 4, none⟩ = some (.int .i64 d0) := cell_in (heap_alloc_at _ _) rfl
  have L5 : (w1.alloc (.cells #[.int .i64 a0, .int .i64 a1, .int .i64 b0, .int .i64 b1, .int .i64 d0, .int .i64 d1] 46)).cell? ⟨w1.heap.size, 5, none⟩ = some (.int .i64 d1) := cell_in (heap_alloc_at _ _) rfl
  clear hlim hb1 hb1' c0 c1 c2 c3 e0 e1 e2 e3
  unfold limV
  obtain ⟨rfl, f1, f2, f3, f4, f5, f6, f7⟩ := (HLIM.out xa xb xc HFA.out HFB.out).1 HFT.out
  have y1 : decide (xa < a0) = false := by simpa using f1
  have y2 : decide (xa > a1) = false := by simpa using f2
  have y3 : decide (xb < b0) = false := by simpa using f3
  have y4 : decide (xb > b1) = false := by simpa using f4
  have y5 : decide (xc < d0) = false := by simpa using f5
  have y6 : decide (xc > d1) = false := by simpa using f6
  have HF := Hid.mk ((HLIM.out xa xb xc HFA.out HFB.out).2 ⟨rfl, f1, f2, f3, f4, f5, f6, f7⟩)
  have hb2 : Below w.heap.size w (w1.alloc (.cells #[.int .i64 a0, .int .i64 a1, .int .i64 b0, .int .i64 b1, .int .i64 d0, .int .i64 d1] 46)) := HB1.out.alloc HB1.out.size _
  have HB2 := Hid.mk hb2
  have HIP := Hid.mk (HP.out.carry hb2)
  have F7 := Hid.mk f7
  clear f1 f2 f3 f4 f5 f6 f7 hb2 HLIM HFA HFB
  have hop := HOP.out
  clear HOP
  subst hop
  go_wp2_with fail
  clear L0 L1 L2 L3 L4 L5 y1 y2 y3 y4 y5 y6
  refine (block_any HIP.out hl48 hi).mono ?_
  rintro e w3 ⟨rfl, hb3⟩
  rw [blk_last HS.out (by rw [HL.out]; exact hi)]
  have G0 := (hb3.cell (p := ⟨w.heap.size, 0, none⟩) (by have := HSZ.out; simp; omega)).trans E0
  have G1 := (hb3.cell (p := ⟨w.heap.size, 1, none⟩) (by have := HSZ.out; simp; omega)).trans E1
  have HB3 := Hid.mk (HB2.out.trans (hb3.mono HB2.out.size))
  have HSZ3 := Hid.mk (show w1.heap.size ≤ w3.heap.size by have := hb3.size; simp at this; omega)
  clear E0 E1 E2 E3 hb3
  obtain ⟨L, hL⟩ : ∃ L, L = lastB ps i := ⟨_, rfl⟩
  rw [← hL]
  have HLL := Hid.mk hL
  have HIT := Hid.mk (show i < ps.length by rw [HL.out]; exact hi)
  obtain ⟨s, hs1, hs2⟩ := start_at HS.out HIT.out hL
  have hlb : -1 ≤ L := by omega
  have hub : L ≤ 48 := by omega
  have HS1 := Hid.mk hs1
  clear hL hs1
  by_cases hL0 : L < 0
  · have q1 : decide (L < 0) = true := by simpa using hL0
    go_wp2
    go_ret
    exact ⟨by rw [no_stand HS.out HIT.out HX.out HLL.out (.inr ⟨(by dsimp only; decide), hL0⟩)]; rfl, HB3.out⟩
  have q1 : decide (L < 0) = false := by simpa using hL0
  obtain ⟨t, ht0, ht1, ht2, ht3, ht4⟩ := in_block HS.out HIT.out HLL.out (by omega)
  have hts : t + 1 = s := by have := HS1.out; omega
  have HT2 := Hid.mk ht2
  have HT3 := Hid.mk ht3
  have HT4 := Hid.mk ht4
  have HTS := Hid.mk hts
  have HT1 := Hid.mk ht1
  clear ht0 ht2 ht3 ht4 hts ht1
  go_wp2
  go_loopw [9, 10] (fun wy kv wr => ∃ k : Nat, t < k ∧ k ≤ i ∧ kv = .int .i64 k ∧ wy = .int .i64 (elB ps k : Nat) ∧ suB ps k = false ∧ Below w.heap.size w wr ∧ wr.cell? ⟨w.heap.size, 0, none⟩ = some (.int .i64 19)) (fun _ kv _ => i - (intOf kv).toNat)
  case atStart => exact ⟨s, by have := HTS.out; omega, hs2, by rw [← HS1.out], by rw [← HTS.out, HT2.out]; rfl, by rw [← HTS.out]; exact HT3.out, HB3.out, G0⟩
  case round =>
    obtain ⟨k, hk0, hk, rfl, rfl, hsu, hbr, g0⟩ := hrel
    have SU := Hid.mk hsu
    have he48 := elB_le ps k
    clear hsu
    by_cases hlt : k < i
    · have d0 := (HAT.out.grown hbr).op k (by rw [HL.out]; omega)
      have n1 : elB ps (k + 1) = nextE (elB ps k) ps[k]!.op := rfl
      have n2 : suB ps (k + 1) = nextS (suB ps k) ps[k]!.op := rfl
      have n4 : ps[k]!.op ≠ 4 := HT4.out k hk0 hlt
      have n5 : opA ps k = ps[k]!.op := rfl
      obtain ⟨y, hy⟩ : ∃ y, y = ps[k]!.op := ⟨_, rfl⟩
      obtain ⟨E, hE⟩ : ∃ E, E = elB ps k := ⟨_, rfl⟩
      rw [← hy] at d0 n1 n2 n4 n5
      rw [← hE] at n1 he48
      rw [← hE]
      rw [SU.out] at n2
      have N1 := Hid.mk n1
      have N2 := Hid.mk n2
      have N5 := Hid.mk n5
      clear hy hE n1 n2 n5
      by_cases y21 : y = 21
      · subst y21
        go_wp2
        go_ret
        exact ⟨by rw [no_sure HX.out (.inr (.inl rfl)) HT4.out hk0 hlt N5.out]; rfl, hbr⟩
      have zy21 : (y == 21) = false := by simpa using y21
      by_cases y20 : y = 20
      · subst y20
        go_wp2
        go_roundw
        case rel => exact ⟨k + 1, by omega, hlt, by go_num, by rw [N1.out]; go_num, by rw [N2.out]; rfl, hbr, g0⟩
        case measure => simp [intOf]; omega
      have zy20 : (y == 20) = false := by simpa using y20
      have m1 : nextE E y = E := by unfold nextE; rw [if_neg n4, if_neg y20]
      have m2 : nextS false y = false := by unfold nextS; rw [if_neg n4, if_neg y21]
      rw [m1] at N1
      rw [m2] at N2
      clear m1 m2 n4
      go_wp2
      go_roundw
      case rel => exact ⟨k + 1, by omega, hlt, by go_num, by rw [N1.out], N2.out, hbr, g0⟩
      case measure => simp [intOf]; omega
    · obtain rfl : k = i := by omega
      go_wp2
      go_ret
      exact ⟨by rw [yes_one HS.out HIT.out HX.out HLL.out HF.out (by have := hL0; have := fits_range HF.out; dsimp only at *; omega) (by rw [SU.out]; rfl) (lead_none (by dsimp only; decide) (by dsimp only; decide))]; rfl, hbr⟩

set_option maxHeartbeats 3200000 in
set_option maxRecDepth 100000 in
theorem one_21 {w : World} {a : Option Addr} {len cap : Nat} {ps : List Ins} (hp : IsIns w a len cap ps) (hwf : Wf ps) (hl48 : len ≤ 48) (S : Sh ps) {i : Nat} (hi : i < len) (hft : fitsB ps[i]! = true) (hop : ps[i]!.op = 21) :
    Calls Try.prog 14 #[.slice a len cap, .int .i64 i] w fun e w' => e = .returned (.bool (oneB ps i)) ∧ Below w.heap.size w w' := by
  have HS := Hid.mk S
  have HL := Hid.mk hp.1
  have HWF := Hid.mk hwf
  have hb := Below.refl w.heap.size w
  obtain ⟨g, off, hae, hat⟩ := hp.at_ (by omega)
  subst hae
  have HP := Hid.mk hp
  have HAT := Hid.mk hat
  have hit : i < ps.length := by rw [HL.out]; exact hi
  have c0 := hat.op i hit
  have c1 := hat.a i hit
  have c2 := hat.b i hit
  have c3 := hat.c i hit
  have hfa := (hwf i hit).1
  have hfb := (hwf i hit).2
  obtain ⟨x, hx⟩ : ∃ x, x = ps[i]! := ⟨_, rfl⟩
  rw [← hx] at c0 c1 c2 c3 hfa hfb hft hop
  obtain ⟨op, xa, xb, xc⟩ := x
  dsimp only at c0 c1 c2 c3 hfa hfb hop
  have HFT := Hid.mk hft
  have HOP := Hid.mk hop
  clear hft hop
  have HX := Hid.mk hx
  have HFA := Hid.mk hfa
  have HFB := Hid.mk hfb
  clear hx hat hp S hwf hit hfa hfb
  go_enter Try.func14, Try.ntmps14
  go_wp2_with fail
  refine (limits_any op _).mono ?_
  rintro e w1 ⟨a0, a1, b0, b1, d0, d1, ok, rfl, hlim, hb1⟩
  have HLIM := Hid.mk hlim
  have hb1' : Below w.heap.size w w1 := ((Below.refl _ _).alloc (Nat.le_refl _) _).trans (hb1.mono (by simp))
  have HB1 := Hid.mk hb1'
  have HSZ := Hid.mk (show w.heap.size < w1.heap.size by have := hb1.size; simp at this; omega)
  have e0 : w1.cell? ⟨w.heap.size, 0, none⟩ = some (.int .i64 op) := (hb1.cell (by simp)).trans (cell_in (heap_alloc_at _ _) rfl)
  have e1 : w1.cell? ⟨w.heap.size, 1, none⟩ = some (.int .i64 xa) := (hb1.cell (by simp)).trans (cell_in (heap_alloc_at _ _) rfl)
  have e2 : w1.cell? ⟨w.heap.size, 2, none⟩ = some (.int .i64 xb) := (hb1.cell (by simp)).trans (cell_in (heap_alloc_at _ _) rfl)
  have e3 : w1.cell? ⟨w.heap.size, 3, none⟩ = some (.int .i64 xc) := (hb1.cell (by simp)).trans (cell_in (heap_alloc_at _ _) rfl)
  have E0 : (w1.alloc (.cells #[.int .i64 a0, .int .i64 a1, .int .i64 b0, .int .i64 b1, .int .i64 d0, .int .i64 d1] 46)).cell? ⟨w.heap.size, 0, none⟩ = some (.int .i64 op) := cell_past e0
  have E1 : (w1.alloc (.cells #[.int .i64 a0, .int .i64 a1, .int .i64 b0, .int .i64 b1, .int .i64 d0, .int .i64 d1] 46)).cell? ⟨w.heap.size, 1, none⟩ = some (.int .i64 xa) := cell_past e1
  have E2 : (w1.alloc (.cells #[.int .i64 a0, .int .i64 a1, .int .i64 b0, .int .i64 b1, .int .i64 d0, .int .i64 d1] 46)).cell? ⟨w.heap.size, 2, none⟩ = some (.int .i64 xb) := cell_past e2
  have E3 : (w1.alloc (.cells #[.int .i64 a0, .int .i64 a1, .int .i64 b0, .int .i64 b1, .int .i64 d0, .int .i64 d1] 46)).cell? ⟨w.heap.size, 3, none⟩ = some (.int .i64 xc) := cell_past e3
  have L0 : (w1.alloc (.cells #[.int .i64 a0, .int .i64 a1, .int .i64 b0, .int .i64 b1, .int .i64 d0, .int .i64 d1] 46)).cell? ⟨w1.heap.size, 0, none⟩ = some (.int .i64 a0) := cell_in (heap_alloc_at _ _) rfl
  have L1 : (w1.alloc (.cells #[.int .i64 a0, .int .i64 a1, .int .i64 b0, .int .i64 b1, .int .i64 d0, .int .i64 d1] 46)).cell? ⟨w1.heap.size, 1, none⟩ = some (.int .i64 a1) := cell_in (heap_alloc_at _ _) rfl
  have L2 : (w1.alloc (.cells #[.int .i64 a0, .int .i64 a1, .int .i64 b0, .int .i64 b1, .int .i64 d0, .int .i64 d1] 46)).cell? ⟨w1.heap.size, 2, none⟩ = some (.int .i64 b0) := cell_in (heap_alloc_at _ _) rfl
  have L3 : (w1.alloc (.cells #[.int .i64 a0, .int .i64 a1, .int .i64 b0, .int .i64 b1, .int .i64 d0, .int .i64 d1] 46)).cell? ⟨w1.heap.size, 3, none⟩ = some (.int .i64 b1) := cell_in (heap_alloc_at _ _) rfl
  have L4 : (w1.alloc (.cells #[.int .i64 a0, .int .i64 a1, .int .i64 b0, .int .i64 b1, .int .i64 d0, .int .i64 d1] 46)).cell? ⟨w1.heap.size, 4, none⟩ = some (.int .i64 d0) := cell_in (heap_alloc_at _ _) rfl
  have L5 : (w1.alloc (.cells #[.int .i64 a0, .int .i64 a1, .int .i64 b0, .int .i64 b1, .int .i64 d0, .int .i64 d1] 46)).cell? ⟨w1.heap.size, 5, none⟩ = some (.int .i64 d1) := cell_in (heap_alloc_at _ _) rfl
  clear hlim hb1 hb1' c0 c1 c2 c3 e0 e1 e2 e3
  unfold limV
  obtain ⟨rfl, f1, f2, f3, f4, f5, f6, f7⟩ := (HLIM.out xa xb xc HFA.out HFB.out).1 HFT.out
  have y1 : decide (xa < a0) = false := by simpa using f1
  have y2 : decide (xa > a1) = false := by simpa using f2
  have y3 : decide (xb < b0) = false := by simpa using f3
  have y4 : decide (xb > b1) = false := by simpa using f4
  have y5 : decide (xc < d0) = false := by simpa using f5
  have y6 : decide (xc > d1) = false := by simpa using f6
  have HF := Hid.mk ((HLIM.out xa xb xc HFA.out HFB.out).2 ⟨rfl, f1, f2, f3, f4, f5, f6, f7⟩)
  have hb2 : Below w.heap.size w (w1.alloc (.cells #[.int .i64 a0, .int .i64 a1, .int .i64 b0, .int .i64 b1, .int .i64 d0, .int .i64 d1] 46)) := HB1.out.alloc HB1.out.size _
  have HB2 := Hid.mk hb2
  have HIP := Hid.mk (HP.out.carry hb2)
  have F7 := Hid.mk f7
  clear f1 f2 f3 f4 f5 f6 f7 hb2 HLIM HFA HFB
  have hop := HOP.out
  clear HOP
  subst hop
  go_wp2_with fail
  clear L0 L1 L2 L3 L4 L5 y1 y2 y3 y4 y5 y6
  refine (block_any HIP.out hl48 hi).mono ?_
  rintro e w3 ⟨rfl, hb3⟩
  rw [blk_last HS.out (by rw [HL.out]; exact hi)]
  have G0 := (hb3.cell (p := ⟨w.heap.size, 0, none⟩) (by have := HSZ.out; simp; omega)).trans E0
  have G1 := (hb3.cell (p := ⟨w.heap.size, 1, none⟩) (by have := HSZ.out; simp; omega)).trans E1
  have HB3 := Hid.mk (HB2.out.trans (hb3.mono HB2.out.size))
  have HSZ3 := Hid.mk (show w1.heap.size ≤ w3.heap.size by have := hb3.size; simp at this; omega)
  clear E0 E1 E2 E3 hb3
  obtain ⟨L, hL⟩ : ∃ L, L = lastB ps i := ⟨_, rfl⟩
  rw [← hL]
  have HLL := Hid.mk hL
  have HIT := Hid.mk (show i < ps.length by rw [HL.out]; exact hi)
  obtain ⟨s, hs1, hs2⟩ := start_at HS.out HIT.out hL
  have hlb : -1 ≤ L := by omega
  have hub : L ≤ 48 := by omega
  have HS1 := Hid.mk hs1
  clear hL hs1
  by_cases hL0 : L < 0
  · have q1 : decide (L < 0) = true := by simpa using hL0
    go_wp2
    go_ret
    exact ⟨by rw [no_stand HS.out HIT.out HX.out HLL.out (.inr ⟨(by dsimp only; decide), hL0⟩)]; rfl, HB3.out⟩
  have q1 : decide (L < 0) = false := by simpa using hL0
  obtain ⟨t, ht0, ht1, ht2, ht3, ht4⟩ := in_block HS.out HIT.out HLL.out (by omega)
  have hts : t + 1 = s := by have := HS1.out; omega
  have HT2 := Hid.mk ht2
  have HT3 := Hid.mk ht3
  have HT4 := Hid.mk ht4
  have HTS := Hid.mk hts
  have HT1 := Hid.mk ht1
  clear ht0 ht2 ht3 ht4 hts ht1
  go_wp2
  go_loopw [9, 10] (fun wy kv wr => ∃ k : Nat, t < k ∧ k ≤ i ∧ kv = .int .i64 k ∧ wy = .int .i64 (elB ps k : Nat) ∧ suB ps k = false ∧ Below w.heap.size w wr ∧ wr.cell? ⟨w.heap.size, 0, none⟩ = some (.int .i64 21)) (fun _ kv _ => i - (intOf kv).toNat)
  case atStart => exact ⟨s, by have := HTS.out; omega, hs2, by rw [← HS1.out], by rw [← HTS.out, HT2.out]; rfl, by rw [← HTS.out]; exact HT3.out, HB3.out, G0⟩
  case round =>
    obtain ⟨k, hk0, hk, rfl, rfl, hsu, hbr, g0⟩ := hrel
    have SU := Hid.mk hsu
    have he48 := elB_le ps k
    clear hsu
    by_cases hlt : k < i
    · have d0 := (HAT.out.grown hbr).op k (by rw [HL.out]; omega)
      have n1 : elB ps (k + 1) = nextE (elB ps k) ps[k]!.op := rfl
      have n2 : suB ps (k + 1) = nextS (suB ps k) ps[k]!.op := rfl
      have n4 : ps[k]!.op ≠ 4 := HT4.out k hk0 hlt
      have n5 : opA ps k = ps[k]!.op := rfl
      obtain ⟨y, hy⟩ : ∃ y, y = ps[k]!.op := ⟨_, rfl⟩
      obtain ⟨E, hE⟩ : ∃ E, E = elB ps k := ⟨_, rfl⟩
      rw [← hy] at d0 n1 n2 n4 n5
      rw [← hE] at n1 he48
      rw [← hE]
      rw [SU.out] at n2
      have N1 := Hid.mk n1
      have N2 := Hid.mk n2
      have N5 := Hid.mk n5
      clear hy hE n1 n2 n5
      by_cases y21 : y = 21
      · subst y21
        go_wp2
        go_ret
        exact ⟨by rw [no_sure HX.out (.inr (.inr (.inr rfl))) HT4.out hk0 hlt N5.out]; rfl, hbr⟩
      have zy21 : (y == 21) = false := by simpa using y21
      by_cases y20 : y = 20
      · subst y20
        go_wp2
        go_roundw
        case rel => exact ⟨k + 1, by omega, hlt, by go_num, by rw [N1.out]; go_num, by rw [N2.out]; rfl, hbr, g0⟩
        case measure => simp [intOf]; omega
      have zy20 : (y == 20) = false := by simpa using y20
      have m1 : nextE E y = E := by unfold nextE; rw [if_neg n4, if_neg y20]
      have m2 : nextS false y = false := by unfold nextS; rw [if_neg n4, if_neg y21]
      rw [m1] at N1
      rw [m2] at N2
      clear m1 m2 n4
      go_wp2
      go_roundw
      case rel => exact ⟨k + 1, by omega, hlt, by go_num, by rw [N1.out], N2.out, hbr, g0⟩
      case measure => simp [intOf]; omega
    · obtain rfl : k = i := by omega
      go_wp2
      go_ret
      exact ⟨by rw [yes_one HS.out HIT.out HX.out HLL.out HF.out (by have := hL0; have := fits_range HF.out; dsimp only at *; omega) (by rw [SU.out]; rfl) (lead_none (by dsimp only; decide) (by dsimp only; decide))]; rfl, hbr⟩

set_option maxHeartbeats 3200000 in
set_option maxRecDepth 100000 in
theorem one_nofit {w : World} {a : Option Addr} {len cap : Nat} {ps : List Ins} (hp : IsIns w a len cap ps) (hwf : Wf ps) (hl48 : len ≤ 48) (S : Sh ps) {i : Nat} (hi : i < len) (hft : ¬ fitsB ps[i]! = true) :
    Calls Try.prog 14 #[.slice a len cap, .int .i64 i] w fun e w' => e = .returned (.bool (oneB ps i)) ∧ Below w.heap.size w w' := by
  have HS := Hid.mk S
  have HL := Hid.mk hp.1
  have HWF := Hid.mk hwf
  have hb := Below.refl w.heap.size w
  obtain ⟨g, off, hae, hat⟩ := hp.at_ (by omega)
  subst hae
  have HP := Hid.mk hp
  have HAT := Hid.mk hat
  have hit : i < ps.length := by rw [HL.out]; exact hi
  have c0 := hat.op i hit
  have c1 := hat.a i hit
  have c2 := hat.b i hit
  have c3 := hat.c i hit
  have hfa := (hwf i hit).1
  have hfb := (hwf i hit).2
  obtain ⟨x, hx⟩ : ∃ x, x = ps[i]! := ⟨_, rfl⟩
  rw [← hx] at c0 c1 c2 c3 hfa hfb hft
  obtain ⟨op, xa, xb, xc⟩ := x
  dsimp only at c0 c1 c2 c3 hfa hfb
  have HNF := Hid.mk hft
  clear hft
  have HX := Hid.mk hx
  have HFA := Hid.mk hfa
  have HFB := Hid.mk hfb
  clear hx hat hp S hwf hit hfa hfb
  go_enter Try.func14, Try.ntmps14
  go_wp2_with fail
  refine (limits_any op _).mono ?_
  rintro e w1 ⟨a0, a1, b0, b1, d0, d1, ok, rfl, hlim, hb1⟩
  have HLIM := Hid.mk hlim
  have hb1' : Below w.heap.size w w1 := ((Below.refl _ _).alloc (Nat.le_refl _) _).trans (hb1.mono (by simp))
  have HB1 := Hid.mk hb1'
  have HSZ := Hid.mk (show w.heap.size < w1.heap.size by have := hb1.size; simp at this; omega)
  have e0 : w1.cell? ⟨w.heap.size, 0, none⟩ = some (.int .i64 op) := (hb1.cell (by simp)).trans (cell_in (heap_alloc_at _ _) rfl)
  have e1 : w1.cell? ⟨w.heap.size, 1, none⟩ = some (.int .i64 xa) := (hb1.cell (by simp)).trans (cell_in (heap_alloc_at _ _) rfl)
  have e2 : w1.cell? ⟨w.heap.size, 2, none⟩ = some (.int .i64 xb) := (hb1.cell (by simp)).trans (cell_in (heap_alloc_at _ _) rfl)
  have e3 : w1.cell? ⟨w.heap.size, 3, none⟩ = some (.int .i64 xc) := (hb1.cell (by simp)).trans (cell_in (heap_alloc_at _ _) rfl)
  have E0 : (w1.alloc (.cells #[.int .i64 a0, .int .i64 a1, .int .i64 b0, .int .i64 b1, .int .i64 d0, .int .i64 d1] 46)).cell? ⟨w.heap.size, 0, none⟩ = some (.int .i64 op) := cell_past e0
  have E1 : (w1.alloc (.cells #[.int .i64 a0, .int .i64 a1, .int .i64 b0, .int .i64 b1, .int .i64 d0, .int .i64 d1] 46)).cell? ⟨w.heap.size, 1, none⟩ = some (.int .i64 xa) := cell_past e1
  have E2 : (w1.alloc (.cells #[.int .i64 a0, .int .i64 a1, .int .i64 b0, .int .i64 b1, .int .i64 d0, .int .i64 d1] 46)).cell? ⟨w.heap.size, 2, none⟩ = some (.int .i64 xb) := cell_past e2
  have E3 : (w1.alloc (.cells #[.int .i64 a0, .int .i64 a1, .int .i64 b0, .int .i64 b1, .int .i64 d0, .int .i64 d1] 46)).cell? ⟨w.heap.size, 3, none⟩ = some (.int .i64 xc) := cell_past e3
  have L0 : (w1.alloc (.cells #[.int .i64 a0, .int .i64 a1, .int .i64 b0, .int .i64 b1, .int .i64 d0, .int .i64 d1] 46)).cell? ⟨w1.heap.size, 0, none⟩ = some (.int .i64 a0) := cell_in (heap_alloc_at _ _) rfl
  have L1 : (w1.alloc (.cells #[.int .i64 a0, .int .i64 a1, .int .i64 b0, .int .i64 b1, .int .i64 d0, .int .i64 d1] 46)).cell? ⟨w1.heap.size, 1, none⟩ = some (.int .i64 a1) := cell_in (heap_alloc_at _ _) rfl
  have L2 : (w1.alloc (.cells #[.int .i64 a0, .int .i64 a1, .int .i64 b0, .int .i64 b1, .int .i64 d0, .int .i64 d1] 46)).cell? ⟨w1.heap.size, 2, none⟩ = some (.int .i64 b0) := cell_in (heap_alloc_at _ _) rfl
  have L3 : (w1.alloc (.cells #[.int .i64 a0, .int .i64 a1, .int .i64 b0, .int .i64 b1, .int .i64 d0, .int .i64 d1] 46)).cell? ⟨w1.heap.size, 3, none⟩ = some (.int .i64 b1) := cell_in (heap_alloc_at _ _) rfl
  have L4 : (w1.alloc (.cells #[.int .i64 a0, .int .i64 a1, .int .i64 b0, .int .i64 b1, .int .i64 d0, .int .i64 d1] 46)).cell? ⟨w1.heap.size, 4, none⟩ = some (.int .i64 d0) := cell_in (heap_alloc_at _ _) rfl
  have L5 : (w1.alloc (.cells #[.int .i64 a0, .int .i64 a1, .int .i64 b0, .int .i64 b1, .int .i64 d0, .int .i64 d1] 46)).cell? ⟨w1.heap.size, 5, none⟩ = some (.int .i64 d1) := cell_in (heap_alloc_at _ _) rfl
  clear hlim hb1 hb1' c0 c1 c2 c3 e0 e1 e2 e3
  unfold limV
  have hf := fun e => HNF.out ((HLIM.out xa xb xc HFA.out HFB.out).2 e)
  have hb2 : Below w.heap.size w (w1.alloc (.cells #[.int .i64 a0, .int .i64 a1, .int .i64 b0, .int .i64 b1, .int .i64 d0, .int .i64 d1] 46)) := HB1.out.alloc HB1.out.size _
  have HB2 := Hid.mk hb2
  clear hb2 HLIM HFA HFB
  by_cases g0 : ok = true
  case neg =>
    obtain rfl : ok = false := by simpa using g0
    go_wp2
    go_ret
    exact ⟨by rw [no_fit HX.out HNF.out]; rfl, HB2.out⟩
  subst g0
  by_cases g1 : xa < a0
  · have y1 : decide (xa < a0) = true := by simpa using g1
    go_wp2
    go_ret
    exact ⟨by rw [no_fit HX.out HNF.out]; rfl, HB2.out⟩
  have y1 : decide (xa < a0) = false := by simpa using g1
  by_cases g2 : xa > a1
  · have y2 : decide (xa > a1) = true := by simpa using g2
    go_wp2
    go_ret
    exact ⟨by rw [no_fit HX.out HNF.out]; rfl, HB2.out⟩
  have y2 : decide (xa > a1) = false := by simpa using g2
  by_cases g3 : xb < b0
  · have y3 : decide (xb < b0) = true := by simpa using g3
    go_wp2
    go_ret
    exact ⟨by rw [no_fit HX.out HNF.out]; rfl, HB2.out⟩
  have y3 : decide (xb < b0) = false := by simpa using g3
  by_cases g4 : xb > b1
  · have y4 : decide (xb > b1) = true := by simpa using g4
    go_wp2
    go_ret
    exact ⟨by rw [no_fit HX.out HNF.out]; rfl, HB2.out⟩
  have y4 : decide (xb > b1) = false := by simpa using g4
  by_cases g5 : xc < d0
  · have y5 : decide (xc < d0) = true := by simpa using g5
    go_wp2
    go_ret
    exact ⟨by rw [no_fit HX.out HNF.out]; rfl, HB2.out⟩
  have y5 : decide (xc < d0) = false := by simpa using g5
  by_cases g6 : xc > d1
  · have y6 : decide (xc > d1) = true := by simpa using g6
    go_wp2
    go_ret
    exact ⟨by rw [no_fit HX.out HNF.out]; rfl, HB2.out⟩
  have y6 : decide (xc > d1) = false := by simpa using g6
  have g7 : op = 12 ∧ xa = xb := by
    by_cases c : op = 12 ∧ xa = xb
    · exact c
    · exact absurd ⟨rfl, by omega, by omega, by omega, by omega, by omega, by omega, c⟩ hf
  obtain ⟨rfl, rfl⟩ := g7
  go_wp2
  go_ret
  exact ⟨by rw [no_fit HX.out HNF.out]; rfl, HB2.out⟩

end Go.Proofs.Ytkpbampffndjoaa
