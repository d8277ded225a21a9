/-
  Read: the tome that bytes are; none, if they are no tome's.
-/
import Derived.Test.YtabjjjbopbjbeaaTBytes
import Derived.Test.YtabjjjbopbjbeaaTFold
namespace Go.Proofs.Ytabjjjbopbjbeaa.Tom
open Go.RowKit Cel
open Sty (Rd of_any over_any rnat_any rtext_any bad_any okN okT leftIf Lead)

theorem okN_all {n sz : Nat} (h : okN false n sz 5 = true) : sz ≠ 0 ∧ n ≤ 5 := by
  simp [okN] at h
  omega
theorem okN_not {n sz : Nat} (h : okN false n sz 5 = false) : sz = 0 ∨ 6 ≤ n := by
  simp [okN] at h
  omega
theorem okT_all {bad : Bool} {l : List UInt8} {n sz : Nat} (h : okT bad l n sz 32 = true) : bad = false ∧ sz ≠ 0 ∧ n ≤ 32 ∧ n ≤ (l.drop sz).length := by
  unfold okT at h
  rw [Bool.and_eq_true] at h
  obtain ⟨h1, h2⟩ := h
  unfold okN at h1
  simp at h1
  exact ⟨h1.1.1, h1.1.2, by omega, of_decide_eq_true h2⟩
theorem okT_not {l : List UInt8} {n sz : Nat} (h : okT false l n sz 32 = false) : sz = 0 ∨ 32 < n ∨ (l.drop sz).length < n := by
  by_cases h1 : sz = 0
  · exact .inl h1
  by_cases h2 : n ≤ 32
  · by_cases h3 : n ≤ (l.drop sz).length
    · have e : okT false l n sz 32 = true := by
        unfold okT
        rw [Sty.okN_true rfl h1 (by omega) (by omega), decide_eq_true h3]
        rfl
      rw [e] at h
      cases h
    · exact .inr (.inr (by omega))
  · exact .inr (.inl (by omega))

theorem Told.fails1 {b : List UInt8} {F : List (Bool × ByteArray)} {least : Nat} {rest : List UInt8} (h : Told b F least rest) (hr : rest ≠ []) {i k : Nat} (h1 : Lead rest i k) (hbad : k = 0 ∨ 6 ≤ i ∨ i < least) : ∀ G, Six G → fromB 0 G ≠ b := fun G hG e => by
  obtain ⟨i', t, a1, a2, a3, _, _, a6⟩ := h.parse hr G hG e
  rw [a6] at h1
  obtain ⟨e1, e2⟩ := h1.unique (Sty.lead_wide (small64 (by omega)) _)
  have := Sty.wide_pos i'
  omega

/-- What is read of bytes: a tome of just these files, all of version 0, in new blocks; or none, and then these are no files' bytes. -/
def ReadsTo (b : ByteArray) (w w' : World) (e : Ending) : Prop :=
  (∃ t bb g R, e = .returned (.tuple #[.pointer (some ⟨t, 0, none⟩), .bool true]) ∧ TomeAt w' t bb g R ∧ fromB 0 (filesOf R) = b.data.toList ∧ (∀ j, j < 6 → R[j]!.2 = 0) ∧ w.heap.size ≤ g) ∨
  (e = .returned (.tuple #[.pointer none, .bool false]) ∧ ∀ G, Six G → fromB 0 G ≠ b.data.toList)

theorem apart_rd {w : World} {t b g r : Nat} {R : List ((Bool × ByteArray) × Int)} {s : ByteArray} {bad : Bool} (hT : TomeAt w t b g R) (hR : Rd w r s bad) : t ≠ r ∧ b ≠ r ∧ g ≠ r := by
  refine ⟨fun e => ?_, fun e => ?_, fun e => ?_⟩
  · have h := hT.at_
    rw [e, hR.at_] at h
    injection h with h
    injection h with _ h
    exact absurd h (by decide)
  · have h := hT.row.at_
    rw [e, hR.at_] at h
    injection h with h
    injection h with _ h
    exact absurd h (by decide)
  · have h := hT.row.row
    rw [e, hR.at_] at h
    injection h with h
    injection h with _ h
    exact absurd h (by decide)

set_option maxHeartbeats 4000000 in
set_option maxRecDepth 100000 in
theorem read_any (b : ByteArray) (w : World) : Calls Try.prog 16 #[.string b] w fun e w' => ReadsTo b w w' e ∧ Below w.heap.size w w' := by
  go_enter Try.func16, Try.ntmps16
  go_wp2_with fail
  refine (new_any w).mono ?_
  rintro e w1 ⟨t, bb, g, rfl, hT1, hb1, ht, hbb, hg⟩
  have HG := Hid.mk hg
  have HB1 := Hid.mk hb1
  have HT1 := Hid.mk hT1
  clear ht hbb hg hb1 hT1
  go_wp2_with fail
  refine (of_any w1 b).mono ?_
  rintro e w2 ⟨rfl, hw2⟩
  have hb2 := HB1.out.alloc HB1.out.size (.cells #[.string b, .bool false] 89)
  have hT2 := HT1.out.grown ((Below.refl _ w1).alloc (Nat.le_refl _) (.cells #[.string b, .bool false] 89))
  have hR2 := Rd.new w1 b
  rw [← hw2] at hb2 hT2 hR2
  obtain ⟨r, hr⟩ : ∃ r, r = w1.heap.size := ⟨_, rfl⟩
  rw [← hr] at hR2 ⊢
  have HRL : Hid (w.heap.size ≤ r) := Hid.mk (by rw [hr]; exact HB1.out.size)
  clear hw2 hr HB1 HT1
  go_wp2
  go_loopw [6, 7, 8] (fun least _ _ wr => ∃ (R : List ((Bool × ByteArray) × Int)) (k : Nat) (s : ByteArray), k ≤ 6 ∧ least = .int .i64 k ∧ Rd wr r s false ∧ TomeAt wr t bb g R ∧ Told b.data.toList (filesOf R) k s.data.toList ∧ (∀ j, j < 6 → R[j]!.2 = 0) ∧ Below w.heap.size w wr) (fun least _ _ _ => 7 - (intOf least).toNat)
  case atStart =>
    refine ⟨_, 0, b, by omega, rfl, hR2, hT2, ?_, fun j hj => by rw [F.none6_get j hj], hb2⟩
    rw [files_none6]
    exact Told.start _
  case round =>
    clear hR2 hT2 hb2
    obtain ⟨R, k, s, hk, rfl, hR, hT, hD, hV, hb⟩ := hrel
    have HR := Hid.mk hR
    have HT := Hid.mk hT
    have HD := Hid.mk hD
    have HV := Hid.mk hV
    have HB := Hid.mk hb
    clear hR hT hD hV hb
    by_cases hs : s.size = 0
    · have hov : ((s.size : Int) == 0) = true := by rw [hs]; rfl
      have C1 := over_any wr r s false HR.out.c0 HR.out.c1
      rw [hov] at C1
      have HC := Hid.mk C1
      have HE : Hid (fromB 0 (filesOf R) = b.data.toList) := Hid.mk (by
        have h := HD.out
        rw [size_zero hs] at h
        exact h.done)
      clear C1 hov hs
      go_wp2_with fail
      refine HC.out.mono ?_
      rintro e w3 ⟨rfl, hw3⟩
      rw [hw3]
      clear hw3 w3 HC
      go_wp2
      go_ret2
      exact ⟨.inl ⟨_, _, _, R, rfl, HT.out, HE.out, HV.out, HG.out⟩, HB.out⟩
    · have hov : ((s.size : Int) == 0) = false := beq_false_of_ne (by omega)
      have C1 := over_any wr r s false HR.out.c0 HR.out.c1
      rw [hov] at C1
      have HC := Hid.mk C1
      have HNE : Hid (s.data.toList ≠ []) := Hid.mk (fun h => hs (by rw [← list_len s, h]; rfl))
      clear C1 hov hs
      go_wp2_with fail
      refine HC.out.mono ?_
      rintro e w3 ⟨rfl, hw3⟩
      rw [hw3]
      clear hw3 w3 HC
      go_wp2_with fail
      refine (rnat_any wr r s false 5 (by omega) HR.out).mono ?_
      rintro e w3 ⟨n, sz, s1, hl1, rfl, hR1, hs1, ho1⟩
      obtain ⟨I, hI⟩ : ∃ I : Int, I = (if okN false n sz 5 = true then (n : Int) else 0) := ⟨_, rfl⟩
      rw [← hI]
      have HI := Hid.mk hI
      have HL1 := Hid.mk hl1
      have HR1 := Hid.mk hR1
      have HS1 := Hid.mk hs1
      have HO1 := Hid.mk ho1
      clear hI hl1 hR1 hs1 ho1
      go_wp2_with fail
      refine (rtext_any w3 r s1 _ 32 (by omega) HR1.out).mono ?_
      rintro e w4 ⟨n2, sz2, tx, s2, hl2, rfl, ht2, hR2, hs2, ho2⟩
      obtain ⟨B, hB⟩ : ∃ B, B = !okT (!okN false n sz 5) s1.data.toList n2 sz2 32 := ⟨_, rfl⟩
      rw [← hB] at hR2
      have HBB := Hid.mk hB
      have HL2 := Hid.mk hl2
      have HR2 := Hid.mk hR2
      have HS2 := Hid.mk hs2
      have HX := Hid.mk ht2
      have HO := Hid.mk (HO1.out.trans ho2)
      have C2 := bad_any w4 r B hR2.c1
      have HC2 := Hid.mk C2
      clear hB hl2 hR2 hs2 ht2 ho2 C2 HO1 HR1
      have HB4 := Hid.mk (HB.out.trans (HO.out.below HRL.out))
      go_wp2_with fail
      refine HC2.out.mono ?_
      rintro e w5 ⟨rfl, hw5⟩
      rw [hw5]
      clear hw5 w5 HC2
      cases B with
      | true =>
        have HF : Hid (∀ G, Six G → fromB 0 G ≠ b.data.toList) := Hid.mk (by
          have h1 := HBB.out
          cases e1 : okN false n sz 5 with
          | false =>
            rcases okN_not e1 with h2 | h2
            · exact HD.out.fails1 HNE.out HL1.out (.inl h2)
            · exact HD.out.fails1 HNE.out HL1.out (.inr (.inl h2))
          | true =>
            rw [e1] at h1
            have e2 : okT false s1.data.toList n2 sz2 32 = false := by simpa using h1.symm
            have e3 : s1.data.toList = s.data.toList.drop sz := by
              have := HS1.out
              rw [e1] at this
              exact this
            rw [e3] at e2
            have h3 := okT_not e2
            have h4 := HL2.out
            rw [e3] at h4
            refine HD.out.fails HNE.out HL1.out (fun _ => h4) ?_
            rcases h3 with h3 | h3 | h3
            · exact .inr (.inr (.inr (.inl h3)))
            · exact .inr (.inr (.inr (.inr (.inl h3))))
            · exact .inr (.inr (.inr (.inr (.inr h3)))))
        go_wp2
        go_ret2
        exact ⟨.inr ⟨rfl, HF.out⟩, HB4.out⟩
      | false =>
        have e2 : okT (!okN false n sz 5) s1.data.toList n2 sz2 32 = true := by have := HBB.out; simpa using this.symm
        obtain ⟨e1, f1, f2, f3⟩ := okT_all e2
        have e1 : okN false n sz 5 = true := by simpa using e1
        obtain ⟨f4, f5⟩ := okN_all e1
        have hIn : I = (n : Int) := by rw [HI.out, if_pos e1]
        have g1 : s1.data.toList = s.data.toList.drop sz := by
          have := HS1.out
          rw [e1] at this
          exact this
        have g2 : s2.data.toList = ((s.data.toList.drop sz).drop sz2).drop n2 := by
          have := HS2.out
          rw [e2, g1] at this
          rw [List.drop_drop]
          exact this
        have g3 : tx = ⟨(((s.data.toList.drop sz).drop sz2).take n2).toArray⟩ := by
          have := HX.out
          rw [if_pos e2, g1] at this
          apply bytes_eq
          exact this
        have g4 := HL2.out
        rw [g1] at g4 f3
        subst hIn
        have HT4 : Hid (TomeAt w4 t bb g R) := Hid.mk (by
          obtain ⟨x1, x2, x3⟩ := apart_rd HT.out HR.out
          exact HT.out.keep (HO.out.block t x1) (HO.out.block bb x2) (HO.out.block g x3))
        by_cases hlt : n < k
        · have HF := Hid.mk (HD.out.fails1 HNE.out HL1.out (.inr (.inr hlt)))
          clear e2 e1 f1 f2 f3 f4 f5 g1 g2 g3 g4
          have hlt2 : (n : Int) < (k : Int) := by omega
          go_wp2
          go_ret2
          exact ⟨.inr ⟨rfl, HF.out⟩, HB4.out⟩
        · have hM := HD.out.more HNE.out HL1.out g4 f4 (by omega) (by omega) f1 f2 f3
          rw [← g2, ← g3] at hM
          have hts : CanF (true, tx) := .inl ⟨rfl, by
            rw [g3]
            show (((s.data.toList.drop sz).drop sz2).take n2).toArray.size ≤ 32
            rw [List.size_toArray, List.length_take]
            omega⟩
          have hok : okS (n : Int) (true, tx) = true := by
            unfold okS
            rw [(canB_iff _).2 hts, decide_eq_true (by omega)]
            rfl
          have C3 := set_any HT4.out (n : Int) (true, tx) 0
          have hR2e : setR R (n : Int) (true, tx) 0 = R.set n ((true, tx), 0) := by
            unfold setR
            rw [if_pos hok, Int.toNat_natCast]
          rw [hok, hR2e] at C3
          have HC3 := Hid.mk C3
          have HM : Hid (Told b.data.toList (filesOf (R.set n ((true, tx), 0))) (n + 1) s2.data.toList) := Hid.mk (by rw [files_set]; exact hM)
          have HV2 : Hid (∀ j, j < 6 → (R.set n ((true, tx), 0))[j]!.2 = 0) := Hid.mk (fun j hj => by
            have hl := HT.out.len
            rw [getElem!_pos _ j (by rw [List.length_set]; omega), List.getElem_set]
            split
            · rfl
            · have := HV.out j hj
              rw [getElem!_pos R j (by omega)] at this
              exact this)
          have HN5 := Hid.mk f5
          clear e2 e1 f1 f2 f3 f4 f5 g1 g2 g3 g4 hM hts hok C3 hR2e
          have hnk : ¬ (n : Int) < (k : Int) := by omega
          have hn6 : (n : Int) < 6 := by have := HN5.out; omega
          go_wp2_with fail
          refine HC3.out.mono ?_
          rintro e w5 ⟨rfl, hT5, hb5⟩
          have HT5 := Hid.mk hT5
          have HR5 : Hid (Rd w5 r s2 false) := Hid.mk (HR2.out.carry (hb5.block r HR2.out.lt (by simpa using (Ne.symm (apart_rd HT4.out HR2.out).2.2))))
          have HB5 : Hid (Below w.heap.size w w5) := Hid.mk (HB4.out.trans (hb5.below HB4.out.size (fun k hk => by
            have e : k = g := by simpa using hk
            rw [e]; exact HG.out)))
          clear hT5 hb5 HC3
          go_wp2
          go_roundw
          case rel => exact ⟨_, n + 1, s2, by have := HN5.out; omega, by go_num, HR5.out, HT5.out, HM.out, HV2.out, HB5.out⟩
          case measure => simp [intOf]; omega

end Go.Proofs.Ytabjjjbopbjbeaa.Tom
