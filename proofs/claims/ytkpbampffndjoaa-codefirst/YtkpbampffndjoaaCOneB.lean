/-
  The walk of the document's One: can an instruction be, and stand there?
-/
import Derived.Test.YtkpbampffndjoaaCShape
import Derived.Test.YtkpbampffndjoaaCLim
import Derived.Test.YtkpbampffndjoaaCOneM
namespace Go.Proofs.Ytkpbampffndjoaa
open Go.RowKit

set_option maxHeartbeats 3200000 in
set_option maxRecDepth 100000 in
theorem one_20 {w : World} {a : Option Addr} {len cap : Nat} {ps : List Ins} (hp : IsIns w a len cap ps) (hwf : Wf ps) (hl48 : len ≤ 48) (S : Sh ps) {i : Nat} (hi : i < len) (hft : fitsB ps[i]! = true) (hop : ps[i]!.op = 20) :
    Calls Try.prog 14 #[.slice a len cap, .int .i64 i] w fun e w' => e = .returned (.bool (oneB ps i)) ∧ Below w.heap.size w w' := by
  have HS := Hid.mk S
  have HL := Hid.mk hp.1
  have HWF := Hid.mk hwf
  have hb := Below.refl w.heap.size w
  obtain ⟨g, off, hae, hat⟩ := hp.at_ (by omega)
  subst hae
  have HP := Hid.mk hp
  have HAT := Hid.mk hat
  have hit : i < ps.length := by rw [HL.out]; exact hi
  have c0 := hat.op i hit
  have c1 := hat.a i hit
  have c2 := hat.b i hit
  have c3 := hat.c i hit
  have hfa := (hwf i hit).1
  have hfb := (hwf i hit).2
  obtain ⟨x, hx⟩ : ∃ x, x = ps[i]! := ⟨_, rfl⟩
  rw [← hx] at c0 c1 c2 c3 hfa hfb hft hop
  obtain ⟨op, xa, xb, xc⟩ := x
  dsimp only at c0 c1 c2 c3 hfa hfb hop
  have HFT := Hid.mk hft
  have HOP := Hid.mk hop
  clear hft hop
  have HX := Hid.mk hx
  have HFA := Hid.mk hfa
  have HFB := Hid.mk hfb
  clear hx hat hp S hwf hit hfa hfb
  go_enter Try.func14, Try.ntmps14
  go_wp2_with fail
  refine (limits_any op _).mono ?_
  rintro e w1 ⟨a0, a1, b0, b1, d0, d1, ok, rfl, hlim, hb1⟩
  have HLIM := Hid.mk hlim
  have hb1' : Below w.heap.size w w1 := ((Below.refl _ _).alloc (Nat.le_refl _) _).trans (hb1.mono (by simp))
  have HB1 := Hid.mk hb1'
  have HSZ := Hid.mk (show w.heap.size < w1.heap.size by have := hb1.size; simp at this; omega)
  have e0 : w1.cell? ⟨w.heap.size, 0, none⟩ = some (.int .i64 op) := (hb1.cell (by simp)).trans (cell_in (heap_alloc_at _ _) rfl)
  have e1 : w1.cell? ⟨w.heap.size, 1, none⟩ = some (.int .i64 xa) := (hb1.cell (by simp)).trans (cell_in (heap_alloc_at _ _) rfl)
  have e2 : w1.cell? ⟨w.heap.size, 2, none⟩ = some (.int .i64 xb) := (hb1.cell (by simp)).trans (cell_in (heap_alloc_at _ _) rfl)
  have e3 : w1.cell? ⟨w.heap.size, 3, none⟩ = some (.int .i64 xc) := (hb1.cell (by simp)).trans (cell_in (heap_alloc_at _ _) rfl)
  have E0 : (w1.alloc (.cells #[.int .i64 a0, .int .i64 a1, .int .i64 b0, .int .i64 b1, .int .i64 d0, .int .i64 d1] 46)).cell? ⟨w.heap.size, 0, none⟩ = some (.int .i64 op) := cell_past e0
  have E1 : (w1.alloc (.cells #[.int .i64 a0, .int .i64 a1, .int .i64 b0, .int .i64 b1, .int .i64 d0, .int .i64 d1] 46)).cell? ⟨w.heap.size, 1, none⟩ = some (.int .i64 xa) := cell_past e1
  have E2 : (w1.alloc (.cells #[.int .i64 a0, .int .i64 a1, .int .i64 b0, .int .i64 b1, .int .i64 d0, .int .i64 d1] 46)).cell? ⟨w.heap.size, 2, none⟩ = some (.int .i64 xb) := cell_past e2
  have E3 : (w1.alloc (.cells #[.int .i64 a0, .int .i64 a1, .int .i64 b0, .int .i64 b1, .int .i64 d0, .int .i64 d1] 46)).cell? ⟨w.heap.size, 3, none⟩ = some (.int .i64 xc) := cell_past e3
  have L0 : (w1.alloc (.cells #[.int .i64 a0, .int .i64 a1, .int .i64 b0, .int .i64 b1, .int .i64 d0, .int .i64 d1] 46)).cell? ⟨w1.heap.size, 0, none⟩ = some (.int .i64 a0) := cell_in (heap_alloc_at _ _) rfl
  have L1 : (w1.alloc (.cells #[.int .i64 a0, .int .i64 a1, .int .i64 b0, .int .i64 b1, .int .i64 d0, .int .i64 d1] 46)).cell? ⟨w1.heap.size, 1, none⟩ = some (.int .i64 a1) := cell_in (heap_alloc_at _ _) rfl
  have L2 : (w1.alloc (.cells #[.int .i64 a0, .int .i64 a1, .int .i64 b0, .int .i64 b1, .int .i64 d0, .int .i64 d1] 46)).cell? ⟨w1.heap.size, 2, none⟩ = some (.int .i64 b0) := cell_in (heap_alloc_at _ _) rfl
  have L3 : (w1.alloc (.cells #[.int .i64 a0, .int .i64 a1, .int .i64 b0, .int .i64 b1, .int .i64 d0, .int .i64 d1] 46)).cell? ⟨w1.heap.size, 3, none⟩ = some (.int .i64 b1) := cell_in (heap_alloc_at _ _) rfl
  have L4 : (w1.alloc (.cells #[.int .i64 a0, .int .i64 a1, .int .i64 b0, .int .i64 b1, .int .i64 d0, .int .i64 d1] 46)).cell? ⟨w1.heap.size, 4, none⟩ = some (.int .i64 d0) := cell_in (heap_alloc_at _ _) rfl
  have L5 : (w1.alloc (.cells #[.int .i64 a0, .int .i64 a1, .int .i64 b0, .int .i64 b1, .int .i64 d0, .int .i64 d1] 46)).cell? ⟨w1.heap.size, 5, none⟩ = some (.int .i64 d1) := cell_in (heap_alloc_at _ _) rfl
  clear hlim hb1 hb1' c0 c1 c2 c3 e0 e1 e2 e3
  unfold limV
  obtain ⟨rfl, f1, f2, f3, f4, f5, f6, f7⟩ := (HLIM.out xa xb xc HFA.out HFB.out).1 HFT.out
  have y1 : decide (xa < a0) = false := by simpa using f1
  have y2 : decide (xa > a1) = false := by simpa using f2
  have y3 : decide (xb < b0) = false := by simpa using f3
  have y4 : decide (xb > b1) = false := by simpa using f4
  have y5 : decide (xc < d0) = false := by simpa using f5
  have y6 : decide (xc > d1) = false := by simpa using f6
  have HF := Hid.mk ((HLIM.out xa xb xc HFA.out HFB.out).2 ⟨rfl, f1, f2, f3, f4, f5, f6, f7⟩)
  have hb2 : Below w.heap.size w (w1.alloc (.cells #[.int .i64 a0, .int .i64 a1, .int .i64 b0, .int .i64 b1, .int .i64 d0, .int .i64 d1] 46)) := HB1.out.alloc HB1.out.size _
  have HB2 := Hid.mk hb2
  have HIP := Hid.mk (HP.out.carry hb2)
  have F7 := Hid.mk f7
  clear f1 f2 f3 f4 f5 f6 f7 hb2 HLIM HFA HFB
  have hop := HOP.out
  clear HOP
  subst hop
  go_wp2_with fail
  clear L0 L1 L2 L3 L4 L5 y1 y2 y3 y4 y5 y6
  refine (block_any HIP.out hl48 hi).mono ?_
  rintro e w3 ⟨rfl, hb3⟩
  rw [blk_last HS.out (by rw [HL.out]; exact hi)]
  have G0 := (hb3.cell (p := ⟨w.heap.size, 0, none⟩) (by have := HSZ.out; simp; omega)).trans E0
  have G1 := (hb3.cell (p := ⟨w.heap.size, 1, none⟩) (by have := HSZ.out; simp; omega)).trans E1
  have HB3 := Hid.mk (HB2.out.trans (hb3.mono HB2.out.size))
  have HSZ3 := Hid.mk (show w1.heap.size ≤ w3.heap.size by have := hb3.size; simp at this; omega)
  clear E0 E1 E2 E3 hb3
  obtain ⟨L, hL⟩ : ∃ L, L = lastB ps i := ⟨_, rfl⟩
  rw [← hL]
  have HLL := Hid.mk hL
  have HIT := Hid.mk (show i < ps.length by rw [HL.out]; exact hi)
  obtain ⟨s, hs1, hs2⟩ := start_at HS.out HIT.out hL
  have hlb : -1 ≤ L := by omega
  have hub : L ≤ 48 := by omega
  have HS1 := Hid.mk hs1
  clear hL hs1
  by_cases hL0 : L < 0
  · have q1 : decide (L < 0) = true := by simpa using hL0
    go_wp2
    go_ret
    exact ⟨by rw [no_stand HS.out HIT.out HX.out HLL.out (.inr ⟨(by dsimp only; decide), hL0⟩)]; rfl, HB3.out⟩
  have q1 : decide (L < 0) = false := by simpa using hL0
  by_cases p1 : xa ≤ (i : Int)
  · have q2 : decide (xa ≤ (i : Int)) = true := by simpa using p1
    go_wp2
    go_ret
    exact ⟨by rw [no_lead HX.out (lead_low (.inr rfl) p1)]; rfl, HB3.out⟩
  have q2 : decide (xa ≤ (i : Int)) = false := by simpa using p1
  by_cases p2 : xa > (len : Int)
  · have q3 : decide (xa > (len : Int)) = true := by simpa using p2
    go_wp2
    go_ret
    exact ⟨by rw [no_lead HX.out (lead_high (.inr rfl) (by rw [HL.out]; exact p2))]; rfl, HB3.out⟩
  have q3 : decide (xa > (len : Int)) = false := by simpa using p2
  obtain ⟨A, hA⟩ : ∃ A : Nat, xa = (A : Int) := ⟨xa.toNat, by omega⟩
  subst hA
  have p1' : i < A := by omega
  have p2' : A ≤ len := by omega
  by_cases p3 : A = len
  · have p3' : len = A := p3.symm
    subst p3'
    clear p3 q2 q3 p1 p2
    have q2 : decide ((len : Int) ≤ (i : Int)) = false := by simp; omega
    have q6 : decide (L ≥ 0) = true := by simp; omega
    go_wp2
    go_ret
    exact ⟨by rw [no_lead HX.out (lead_no HS.out HIT.out (.inr rfl) rfl (by rw [HL.out]; exact p2') (by rw [← HLL.out, show lastB ps len = -1 by rw [← HL.out]; exact last_len HS.out]; omega))]; rfl, HB3.out⟩
  have q4 : ((A : Int) == (len : Int)) = false := by simp; omega
  have q5 : decide ((A : Int) < (len : Int)) = true := by simp; omega
  have hAl : A < len := by omega
  clear p1 p2 p3
  go_wp2_with fail
  refine (block_any (HP.out.carry HB3.out) hl48 hAl).mono ?_
  rintro e w5 ⟨rfl, hb5⟩
  rw [blk_last HS.out (by rw [HL.out]; exact hAl)]
  have K0 := (hb5.cell (p := ⟨w.heap.size, 0, none⟩) (Nat.lt_of_lt_of_le HSZ.out HSZ3.out)).trans G0
  have HB5 := Hid.mk (HB3.out.trans (hb5.mono HB3.out.size))
  clear G0 G1 hb5
  obtain ⟨L2, hL2⟩ : ∃ L2, L2 = lastB ps A := ⟨_, rfl⟩
  rw [← hL2]
  have HL2 := Hid.mk hL2
  clear hL2
  by_cases p4 : L2 = L
  · have HL4 := Hid.mk p4
    have q7 : (L2 != L) = false := by simp [p4]
    clear p4
    obtain ⟨t, ht0, ht1, ht2, ht3, ht4⟩ := in_block HS.out HIT.out HLL.out (by omega)
    have hts : t + 1 = s := by have := HS1.out; omega
    have HT2 := Hid.mk ht2
    have HT3 := Hid.mk ht3
    have HT4 := Hid.mk ht4
    have HTS := Hid.mk hts
    have HT1 := Hid.mk ht1
    clear ht0 ht2 ht3 ht4 hts ht1
    go_wp2
    go_loopw [9, 10] (fun wy kv wr => ∃ k : Nat, t < k ∧ k ≤ i ∧ kv = .int .i64 k ∧ wy = .int .i64 (elB ps k : Nat) ∧ suB ps k = false ∧ Below w.heap.size w wr ∧ wr.cell? ⟨w.heap.size, 0, none⟩ = some (.int .i64 20)) (fun _ kv _ => i - (intOf kv).toNat)
    case atStart => exact ⟨s, by have := HTS.out; omega, hs2, by rw [← HS1.out], by rw [← HTS.out, HT2.out]; rfl, by rw [← HTS.out]; exact HT3.out, HB5.out, K0⟩
    case round =>
      obtain ⟨k, hk0, hk, rfl, rfl, hsu, hbr, g0⟩ := hrel
      have SU := Hid.mk hsu
      have he48 := elB_le ps k
      clear hsu
      by_cases hlt : k < i
      · have d0 := (HAT.out.grown hbr).op k (by rw [HL.out]; omega)
        have n1 : elB ps (k + 1) = nextE (elB ps k) ps[k]!.op := rfl
        have n2 : suB ps (k + 1) = nextS (suB ps k) ps[k]!.op := rfl
        have n4 : ps[k]!.op ≠ 4 := HT4.out k hk0 hlt
        have n5 : opA ps k = ps[k]!.op := rfl
        obtain ⟨y, hy⟩ : ∃ y, y = ps[k]!.op := ⟨_, rfl⟩
        obtain ⟨E, hE⟩ : ∃ E, E = elB ps k := ⟨_, rfl⟩
        rw [← hy] at d0 n1 n2 n4 n5
        rw [← hE] at n1 he48
        rw [← hE]
        rw [SU.out] at n2
        have N1 := Hid.mk n1
        have N2 := Hid.mk n2
        have N5 := Hid.mk n5
        clear hy hE n1 n2 n5
        by_cases y21 : y = 21
        · subst y21
          go_wp2
          go_ret
          exact ⟨by rw [no_sure HX.out (.inr (.inr (.inl rfl))) HT4.out hk0 hlt N5.out]; rfl, hbr⟩
        have zy21 : (y == 21) = false := by simpa using y21
        by_cases y20 : y = 20
        · subst y20
          go_wp2
          go_roundw
          case rel => exact ⟨k + 1, by omega, hlt, by go_num, by rw [N1.out]; go_num, by rw [N2.out]; rfl, hbr, g0⟩
          case measure => simp [intOf]; omega
        have zy20 : (y == 20) = false := by simpa using y20
        have m1 : nextE E y = E := by unfold nextE; rw [if_neg n4, if_neg y20]
        have m2 : nextS false y = false := by unfold nextS; rw [if_neg n4, if_neg y21]
        rw [m1] at N1
        rw [m2] at N2
        clear m1 m2 n4
        go_wp2
        go_roundw
        case rel => exact ⟨k + 1, by omega, hlt, by go_num, by rw [N1.out], N2.out, hbr, g0⟩
        case measure => simp [intOf]; omega
      · obtain rfl : k = i := by omega
        obtain ⟨E, hE⟩ : ∃ E, E = elB ps k := ⟨_, rfl⟩
        rw [← hE]
        rw [← hE] at he48
        have HE := Hid.mk hE
        clear hE
        by_cases hw3 : E < 3
        · have q3 : decide ((E : Int) < 3) = true := by simp; omega
          go_wp2
          go_ret
          exact ⟨by rw [yes_one HS.out HIT.out HX.out HLL.out HF.out (by dsimp only; omega) (by rw [SU.out, ← HE.out]; simp [letsB]; omega) (lead_yes HS.out HIT.out rfl p1' (by rw [HL.out]; exact p2') (by rw [← HL2.out, ← HLL.out]; exact HL4.out))]; rfl, hbr⟩
        · have q3 : decide ((E : Int) < 3) = false := by simp; omega
          go_wp2
          go_ret
          exact ⟨by rw [no_lets HX.out (by rw [SU.out, ← HE.out]; simp [letsB]; omega)]; rfl, hbr⟩
  have q7 : (L2 != L) = true := by simpa using p4
  go_wp2
  go_ret
  exact ⟨by rw [no_lead HX.out (lead_no HS.out HIT.out (.inr rfl) rfl (by rw [HL.out]; exact p2') (by rw [← HL2.out, ← HLL.out]; exact p4))]; rfl, HB5.out⟩

end Go.Proofs.Ytkpbampffndjoaa
