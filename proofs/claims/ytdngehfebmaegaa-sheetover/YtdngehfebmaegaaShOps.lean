/-
  The walks of change, Write, Cut, Create, Remove, Rename and Copy of a sheet.
-/
import Derived.Test.YtdngehfebmaegaaShMem
import Derived.Test.YtdngehfebmaegaaDfAllF
namespace Go.Proofs.Ytdngehfebmaegaa.Sht
open Go.RowKit Go.Proofs.Ytdngehfebmaegaa.Cel Go.Proofs.Ytdngehfebmaegaa.Dft Go.Proofs.Ytdngehfebmaegaa.Dft.F
open Tom (CanF TomeAt)

/-- A number of a file. -/
abbrev Is (i : Int) : Prop := 0 ≤ i ∧ i < 6

/-- What a call on a sheet leaves. -/
def Left (w : World) (t b g : Nat) (T : List (Fl × Int)) (s d : Nat) (v : Value) (R' : List (Int × Fl)) (ok : Bool) (e : Ending) (w' : World) : Prop :=
  e = .returned (.bool ok) ∧ ∃ v', SheetAt w' t b g T s d v' R' ∧ Wrote (Foot d [v]) (Foot d [v']) w w'

section
variable {w w' : World} {t b g s d : Nat} {T : List (Fl × Int)} {v : Value} {R : List (Int × Fl)}

theorem SheetAt.box {A : Nat} {q : Bool} {y : ByteArray} {F : Nat → Prop} (h : SheetAt w t b g T s d v R) (hw : Wrote (Foot d [v]) F w w') (hA : w.heap[A]? = some (.cells #[.bool q, .string y] 23 (0, 0))) :
    w'.heap[A]? = some (.cells #[.bool q, .string y] 23 (0, 0)) :=
  (hw.block A (Array.getElem?_eq_some_iff.1 hA).1 (fun e => by
    rcases e with e | ⟨x, hx, e⟩
    · exact block_ne hA h.dr.at_ (by decide) e
    · simp at hx
      subst hx
      obtain ⟨cs', hc⟩ := own_at h.dr.owns e
      exact block_ne hA hc (by decide) rfl)).trans hA

set_option maxHeartbeats 1600000 in
set_option maxRecDepth 100000 in
theorem change_any (h : SheetAt w t b g T s d v R) (i : Int) (f : Fl) (hf : CanF f) :
    Calls Try.prog 39 #[.pointer (some ⟨s, 0, none⟩), .pointer (some ⟨t, 0, none⟩), .int .i64 i, .agg #[.bool f.1, .string f.2]] w (Left w t b g T s d v (chg T R i f) (decide (Is i))) := by
  obtain ⟨hn0, hz0, hb0⟩ := box_new w f.1 f.2
  have HH := Hid.mk h
  have HD := Hid.mk (h.grown hb0)
  have HN := Hid.mk hn0
  have HZ := Hid.mk hz0
  have HB0 := Hid.mk hb0
  have HF := Hid.mk hf
  by_cases hi : Is i
  · have e : decide (Is i) = true := decide_eq_true hi
    have HI := Hid.mk hi
    have HG := Hid.mk (sget (h.grown hb0) i)
    obtain ⟨⟨p, x⟩, hp⟩ : ∃ p, p = ovr T R i := ⟨_, rfl⟩
    rw [← hp] at HG
    have HP := Hid.mk hp
    have heq := eq_fl (p, x) f
    have hH := has_any s i (w.alloc (.cells #[.bool f.1, .string f.2] 23))
    rw [e] at hH ⊢
    have HHH := Hid.mk hH
    obtain ⟨q, y⟩ := f
    dsimp only at *
    clear h hn0 hz0 hb0 hf hi e hp hH
    go_enter Try.func39, Try.ntmps39
    go_wp2_with fail
    refine HHH.out.mono ?_
    rintro e w1 ⟨rfl, hw1⟩
    rw [hw1]
    clear hw1 w1
    go_wp2_with fail
    refine HG.out.mono ?_
    rintro e w1 ⟨rfl, hb1⟩
    have HS1 := Hid.mk (HD.out.grown hb1)
    have hN : w1.heap[w.heap.size]? = some (.cells #[.bool q, .string y] 23 (0, 0)) := (hb1.block w.heap.size (by rw [HZ.out]; omega)).trans HN.out
    have HB := Hid.mk (HB0.out.trans (hb1.mono (by rw [HZ.out]; omega)))
    obtain ⟨e0, e1, g0, g1⟩ := box_past (.cells #[.bool p, .string x] 23) hN
    have HB2 := Hid.mk (HB.out.alloc HB.out.size (.cells #[.bool p, .string x] 23))
    have HS2 := Hid.mk (HS1.out.grown ((Below.refl _ w1).alloc (Nat.le_refl _) (.cells #[.bool p, .string x] 23)))
    have c0 := HS2.out.c0
    clear hb1 hN
    by_cases hpq : (p, x) = (q, y)
    · have HQ := Hid.mk hpq
      rw [decide_eq_true hpq] at heq
      clear hpq
      go_wp2
      go_ret
      refine ⟨rfl, v, ?_, Wrote.of_below HB2.out⟩
      have : chg T R i (q, y) = R := by unfold chg; rw [if_pos HI.out, if_pos (by rw [← HP.out]; exact HQ.out)]
      rw [this]
      exact HS2.out
    · have HQ := Hid.mk hpq
      rw [decide_eq_false hpq] at heq
      clear hpq
      have HPUT := Hid.mk (Dft.F.put_any (HS2.out.grown (Below.refl _ _).drew).dr HS2.out.short i (q, y))
      go_wp2_with fail
      go_region_with ((go_at_call 59; refine HPUT.out.mono ?_; rintro e w3 ⟨rfl, v3, hd3, hw3⟩))
      all_goals
        go_wp2
        go_ret
        have : chg T R i (q, y) = put R i (q, y) := by unfold chg; rw [if_pos HI.out, if_neg (by rw [← HP.out]; exact HQ.out)]
        rw [this]
        exact ⟨rfl, v3, (HS2.out.grown (Below.refl _ _).drew).put hd3 (HS2.out.fit.put HI.out HF.out) hw3, (Wrote.of_below HB2.out.drew).trans hw3⟩
  · have e : decide (Is i) = false := decide_eq_false hi
    have hH := has_any s i (w.alloc (.cells #[.bool f.1, .string f.2] 23))
    rw [e] at hH ⊢
    have HHH := Hid.mk hH
    have HI := Hid.mk hi
    clear h hn0 hz0 hb0 hf hi e hH
    go_enter Try.func39, Try.ntmps39
    go_wp2_with fail
    refine HHH.out.mono ?_
    rintro e w1 ⟨rfl, hw1⟩
    rw [hw1]
    clear hw1 w1
    go_wp2
    go_ret
    have : chg T R i f = R := by unfold chg; rw [if_neg HI.out]
    rw [this]
    exact ⟨rfl, v, HD.out, Wrote.of_below HB0.out⟩

set_option maxHeartbeats 800000 in
set_option maxRecDepth 100000 in
theorem change_nil (t : Option Addr) (i : Int) (f : Fl) (w : World) :
    Calls Try.prog 39 #[.pointer none, .pointer t, .int .i64 i, .agg #[.bool f.1, .string f.2]] w fun e w' => e = .returned (.bool false) ∧ Below w.heap.size w w' := by
  have HB0 := Hid.mk ((Below.refl w.heap.size w).alloc (Nat.le_refl _) (.cells #[.bool f.1, .string f.2] 23))
  go_enter Try.func39, Try.ntmps39
  go_wp2_with fail
  refine (has_nil i _).mono ?_
  rintro e w1 ⟨rfl, hw1⟩
  rw [hw1]
  clear hw1 w1
  go_wp2
  go_ret
  exact ⟨rfl, HB0.out⟩

set_option maxRecDepth 100000 in
theorem put_val {f : Fl} (h : CanF f) (k : Int) (x : UInt8) (z : World) : Calls Try.prog 40 #[.agg #[.bool f.1, .string f.2], .int .i64 k, .int .u8 x.toNat] z fun e z' => e = .returned (.agg #[.bool (putV f k x).1, .string (putV f k x).2]) ∧ Below z.heap.size z z' := by
  unfold putV
  split
  · rename_i hk
    obtain ⟨j, rfl⟩ : ∃ j : Nat, k = (j : Int) := ⟨k.toNat, by omega⟩
    rw [Int.toNat_natCast]
    exact Fil.put_yes ((Tom.canF_iff f).1 h) j (by omega) x z
  · rename_i hk
    exact Fil.put_out ((Tom.canF_iff f).1 h) k (by omega) x z

set_option maxRecDepth 100000 in
theorem cut_val {f : Fl} (h : CanF f) (n : Int) (z : World) : Calls Try.prog 41 #[.agg #[.bool f.1, .string f.2], .int .i64 n] z fun e z' => e = .returned (.agg #[.bool (cutV f n).1, .string (cutV f n).2]) ∧ Below z.heap.size z z' :=
  Fil.cut_any ((Tom.canF_iff f).1 h) n z

set_option maxRecDepth 100000 in
theorem mk_val {f : Fl} (h : CanF f) (z : World) : Calls Try.prog 42 #[.agg #[.bool f.1, .string f.2]] z fun e z' => e = .returned (.agg #[.bool (mkV f).1, .string (mkV f).2]) ∧ Below z.heap.size z z' :=
  Fil.make_yes ((Tom.canF_iff f).1 h) z

set_option maxHeartbeats 1600000 in
set_option maxRecDepth 100000 in
theorem put_any (h : SheetAt w t b g T s d v R) (i : Int) (k : Int) (c : UInt8) :
    Calls Try.prog 16 #[.pointer (some ⟨s, 0, none⟩), .pointer (some ⟨t, 0, none⟩), .int .i64 i, .int .i64 k, .int .u8 c.toNat] w (Left w t b g T s d v (chg T R i (putV (ovr T R i) k c)) (decide (Is i))) := by
  have HG := Hid.mk (sget h i)
  have HC := Hid.mk (ovr_can h.tome.six h.fit i)
  have HH := Hid.mk h
  obtain ⟨⟨p, x⟩, hp⟩ : ∃ p, p = ovr T R i := ⟨_, rfl⟩
  rw [← hp] at HG HC ⊢
  dsimp only at HG
  obtain ⟨⟨q, y⟩, hq⟩ : ∃ q, q = putV (p, x) k c := ⟨_, rfl⟩
  have HV := Hid.mk (fun z => put_val HC.out k c z)
  have HK : Hid (CanF (q, y)) := Hid.mk (by rw [hq]; exact putV_can HC.out k c)
  rw [← hq] at HV ⊢
  obtain ⟨OK, hok⟩ : ∃ o, o = decide (Is i) := ⟨_, rfl⟩
  have HCH := Hid.mk (fun (z : World) (hz : SheetAt z t b g T s d v R) => change_any hz i (q, y) HK.out)
  rw [← hok] at HCH ⊢
  dsimp only at HV HCH
  clear h hp hq hok
  go_enter Try.func16, Try.ntmps16
  go_wp2_with fail
  refine HG.out.mono ?_
  rintro e w1 ⟨rfl, hb1⟩
  have hb2 := hb1.alloc hb1.size (.cells #[.bool p, .string x] 23)
  have HB2 := Hid.mk hb2
  have HS2 := Hid.mk (HH.out.grown hb2)
  clear hb1 hb2
  go_wp2_with fail
  refine (HV.out _).mono ?_
  rintro e w2 ⟨rfl, hb3⟩
  have HB3 := Hid.mk (HB2.out.trans (hb3.mono HB2.out.size))
  have HS3 := Hid.mk (HS2.out.grown hb3)
  clear hb3
  go_wp2_with fail
  refine (HCH.out _ HS3.out).mono ?_
  rintro e w3 ⟨rfl, v3, hs3, hw3⟩
  have HS4 := Hid.mk hs3
  have HW4 := Hid.mk hw3
  clear hs3 hw3
  go_wp2
  go_ret
  exact ⟨rfl, v3, HS4.out, (Wrote.of_below HB3.out).trans HW4.out⟩

set_option maxHeartbeats 1600000 in
set_option maxRecDepth 100000 in
theorem cut_any (h : SheetAt w t b g T s d v R) (i : Int) (n : Int) :
    Calls Try.prog 17 #[.pointer (some ⟨s, 0, none⟩), .pointer (some ⟨t, 0, none⟩), .int .i64 i, .int .i64 n] w (Left w t b g T s d v (chg T R i (cutV (ovr T R i) n)) (decide (Is i))) := by
  have HG := Hid.mk (sget h i)
  have HC := Hid.mk (ovr_can h.tome.six h.fit i)
  have HH := Hid.mk h
  obtain ⟨⟨p, x⟩, hp⟩ : ∃ p, p = ovr T R i := ⟨_, rfl⟩
  rw [← hp] at HG HC ⊢
  dsimp only at HG
  obtain ⟨⟨q, y⟩, hq⟩ : ∃ q, q = cutV (p, x) n := ⟨_, rfl⟩
  have HV := Hid.mk (fun z => cut_val HC.out n z)
  have HK : Hid (CanF (q, y)) := Hid.mk (by rw [hq]; exact cutV_can HC.out n)
  rw [← hq] at HV ⊢
  obtain ⟨OK, hok⟩ : ∃ o, o = decide (Is i) := ⟨_, rfl⟩
  have HCH := Hid.mk (fun (z : World) (hz : SheetAt z t b g T s d v R) => change_any hz i (q, y) HK.out)
  rw [← hok] at HCH ⊢
  dsimp only at HV HCH
  clear h hp hq hok
  go_enter Try.func17, Try.ntmps17
  go_wp2_with fail
  refine HG.out.mono ?_
  rintro e w1 ⟨rfl, hb1⟩
  have hb2 := hb1.alloc hb1.size (.cells #[.bool p, .string x] 23)
  have HB2 := Hid.mk hb2
  have HS2 := Hid.mk (HH.out.grown hb2)
  clear hb1 hb2
  go_wp2_with fail
  refine (HV.out _).mono ?_
  rintro e w2 ⟨rfl, hb3⟩
  have HB3 := Hid.mk (HB2.out.trans (hb3.mono HB2.out.size))
  have HS3 := Hid.mk (HS2.out.grown hb3)
  clear hb3
  go_wp2_with fail
  refine (HCH.out _ HS3.out).mono ?_
  rintro e w3 ⟨rfl, v3, hs3, hw3⟩
  have HS4 := Hid.mk hs3
  have HW4 := Hid.mk hw3
  clear hs3 hw3
  go_wp2
  go_ret
  exact ⟨rfl, v3, HS4.out, (Wrote.of_below HB3.out).trans HW4.out⟩

set_option maxHeartbeats 1600000 in
set_option maxRecDepth 100000 in
theorem mk_any (h : SheetAt w t b g T s d v R) (i : Int)  :
    Calls Try.prog 18 #[.pointer (some ⟨s, 0, none⟩), .pointer (some ⟨t, 0, none⟩), .int .i64 i] w (Left w t b g T s d v (chg T R i (mkV (ovr T R i) )) (decide (Is i))) := by
  have HG := Hid.mk (sget h i)
  have HC := Hid.mk (ovr_can h.tome.six h.fit i)
  have HH := Hid.mk h
  obtain ⟨⟨p, x⟩, hp⟩ : ∃ p, p = ovr T R i := ⟨_, rfl⟩
  rw [← hp] at HG HC ⊢
  dsimp only at HG
  obtain ⟨⟨q, y⟩, hq⟩ : ∃ q, q = mkV (p, x)  := ⟨_, rfl⟩
  have HV := Hid.mk (fun z => mk_val HC.out  z)
  have HK : Hid (CanF (q, y)) := Hid.mk (by rw [hq]; exact mkV_can HC.out )
  rw [← hq] at HV ⊢
  obtain ⟨OK, hok⟩ : ∃ o, o = decide (Is i) := ⟨_, rfl⟩
  have HCH := Hid.mk (fun (z : World) (hz : SheetAt z t b g T s d v R) => change_any hz i (q, y) HK.out)
  rw [← hok] at HCH ⊢
  dsimp only at HV HCH
  clear h hp hq hok
  go_enter Try.func18, Try.ntmps18
  go_wp2_with fail
  refine HG.out.mono ?_
  rintro e w1 ⟨rfl, hb1⟩
  have hb2 := hb1.alloc hb1.size (.cells #[.bool p, .string x] 23)
  have HB2 := Hid.mk hb2
  have HS2 := Hid.mk (HH.out.grown hb2)
  clear hb1 hb2
  go_wp2_with fail
  refine (HV.out _).mono ?_
  rintro e w2 ⟨rfl, hb3⟩
  have HB3 := Hid.mk (HB2.out.trans (hb3.mono HB2.out.size))
  have HS3 := Hid.mk (HS2.out.grown hb3)
  clear hb3
  go_wp2_with fail
  refine (HCH.out _ HS3.out).mono ?_
  rintro e w3 ⟨rfl, v3, hs3, hw3⟩
  have HS4 := Hid.mk hs3
  have HW4 := Hid.mk hw3
  clear hs3 hw3
  go_wp2
  go_ret
  exact ⟨rfl, v3, HS4.out, (Wrote.of_below HB3.out).trans HW4.out⟩

set_option maxHeartbeats 800000 in
set_option maxRecDepth 100000 in
theorem put_nil (h : TomeAt w t b g T) (i : Int) (k : Int) (c : UInt8) :
    Calls Try.prog 16 #[.pointer none, .pointer (some ⟨t, 0, none⟩), .int .i64 i, .int .i64 k, .int .u8 c.toNat] w fun e w' => e = .returned (.bool false) ∧ Below w.heap.size w w' := by
  have HG := Hid.mk (sget_nil h i)
  have HC := Hid.mk (base_can h.six i)
  obtain ⟨⟨p, x⟩, hp⟩ : ∃ p, p = base T i := ⟨_, rfl⟩
  rw [← hp] at HG HC
  dsimp only at HG
  have HV := Hid.mk (fun z => put_val HC.out k c z)
  obtain ⟨⟨q, y⟩, hq⟩ : ∃ q, q = putV (p, x) k c := ⟨_, rfl⟩
  rw [← hq] at HV
  dsimp only at HV
  clear h hp hq
  go_enter Try.func16, Try.ntmps16
  go_wp2_with fail
  refine HG.out.mono ?_
  rintro e w1 ⟨rfl, hb1⟩
  have HB2 := Hid.mk (hb1.alloc hb1.size (.cells #[.bool p, .string x] 23))
  clear hb1
  go_wp2_with fail
  refine (HV.out _).mono ?_
  rintro e w2 ⟨rfl, hb3⟩
  have HB3 := Hid.mk (HB2.out.trans (hb3.mono HB2.out.size))
  clear hb3
  go_wp2_with fail
  refine (change_nil _ i (q, y) _).mono ?_
  rintro e w3 ⟨rfl, hb4⟩
  have HB4 := Hid.mk (HB3.out.trans (hb4.mono HB3.out.size))
  clear hb4
  go_wp2
  go_ret
  exact ⟨rfl, HB4.out⟩

set_option maxHeartbeats 800000 in
set_option maxRecDepth 100000 in
theorem cut_nil (h : TomeAt w t b g T) (i : Int) (n : Int) :
    Calls Try.prog 17 #[.pointer none, .pointer (some ⟨t, 0, none⟩), .int .i64 i, .int .i64 n] w fun e w' => e = .returned (.bool false) ∧ Below w.heap.size w w' := by
  have HG := Hid.mk (sget_nil h i)
  have HC := Hid.mk (base_can h.six i)
  obtain ⟨⟨p, x⟩, hp⟩ : ∃ p, p = base T i := ⟨_, rfl⟩
  rw [← hp] at HG HC
  dsimp only at HG
  have HV := Hid.mk (fun z => cut_val HC.out n z)
  obtain ⟨⟨q, y⟩, hq⟩ : ∃ q, q = cutV (p, x) n := ⟨_, rfl⟩
  rw [← hq] at HV
  dsimp only at HV
  clear h hp hq
  go_enter Try.func17, Try.ntmps17
  go_wp2_with fail
  refine HG.out.mono ?_
  rintro e w1 ⟨rfl, hb1⟩
  have HB2 := Hid.mk (hb1.alloc hb1.size (.cells #[.bool p, .string x] 23))
  clear hb1
  go_wp2_with fail
  refine (HV.out _).mono ?_
  rintro e w2 ⟨rfl, hb3⟩
  have HB3 := Hid.mk (HB2.out.trans (hb3.mono HB2.out.size))
  clear hb3
  go_wp2_with fail
  refine (change_nil _ i (q, y) _).mono ?_
  rintro e w3 ⟨rfl, hb4⟩
  have HB4 := Hid.mk (HB3.out.trans (hb4.mono HB3.out.size))
  clear hb4
  go_wp2
  go_ret
  exact ⟨rfl, HB4.out⟩

set_option maxHeartbeats 800000 in
set_option maxRecDepth 100000 in
theorem mk_nil (h : TomeAt w t b g T) (i : Int)  :
    Calls Try.prog 18 #[.pointer none, .pointer (some ⟨t, 0, none⟩), .int .i64 i] w fun e w' => e = .returned (.bool false) ∧ Below w.heap.size w w' := by
  have HG := Hid.mk (sget_nil h i)
  have HC := Hid.mk (base_can h.six i)
  obtain ⟨⟨p, x⟩, hp⟩ : ∃ p, p = base T i := ⟨_, rfl⟩
  rw [← hp] at HG HC
  dsimp only at HG
  have HV := Hid.mk (fun z => mk_val HC.out  z)
  obtain ⟨⟨q, y⟩, hq⟩ : ∃ q, q = mkV (p, x)  := ⟨_, rfl⟩
  rw [← hq] at HV
  dsimp only at HV
  clear h hp hq
  go_enter Try.func18, Try.ntmps18
  go_wp2_with fail
  refine HG.out.mono ?_
  rintro e w1 ⟨rfl, hb1⟩
  have HB2 := Hid.mk (hb1.alloc hb1.size (.cells #[.bool p, .string x] 23))
  clear hb1
  go_wp2_with fail
  refine (HV.out _).mono ?_
  rintro e w2 ⟨rfl, hb3⟩
  have HB3 := Hid.mk (HB2.out.trans (hb3.mono HB2.out.size))
  clear hb3
  go_wp2_with fail
  refine (change_nil _ i (q, y) _).mono ?_
  rintro e w3 ⟨rfl, hb4⟩
  have HB4 := Hid.mk (HB3.out.trans (hb4.mono HB3.out.size))
  clear hb4
  go_wp2
  go_ret
  exact ⟨rfl, HB4.out⟩

set_option maxHeartbeats 800000 in
set_option maxRecDepth 100000 in
theorem remove_any (h : SheetAt w t b g T s d v R) (i : Int) :
    Calls Try.prog 19 #[.pointer (some ⟨s, 0, none⟩), .pointer (some ⟨t, 0, none⟩), .int .i64 i] w (Left w t b g T s d v (chg T R i noFile) (decide (Is i))) := by
  have HC := Hid.mk (change_any h i noFile canF_no)
  obtain ⟨OK, hok⟩ : ∃ o, o = decide (Is i) := ⟨_, rfl⟩
  rw [← hok] at HC ⊢
  clear h hok
  go_enter Try.func19, Try.ntmps19
  go_wp2_with fail
  refine HC.out.mono ?_
  rintro e w3 ⟨rfl, v3, hs3, hw3⟩
  have HS4 := Hid.mk hs3
  have HW4 := Hid.mk hw3
  clear hs3 hw3
  go_wp2
  go_ret
  exact ⟨rfl, v3, HS4.out, HW4.out⟩

set_option maxHeartbeats 800000 in
set_option maxRecDepth 100000 in
theorem remove_nil (t : Option Addr) (i : Int) (w : World) :
    Calls Try.prog 19 #[.pointer none, .pointer t, .int .i64 i] w fun e w' => e = .returned (.bool false) ∧ Below w.heap.size w w' := by
  go_enter Try.func19, Try.ntmps19
  go_wp2_with fail
  refine (change_nil t i noFile w).mono ?_
  rintro e w3 ⟨rfl, hb⟩
  have HB := Hid.mk hb
  clear hb
  go_wp2
  go_ret
  exact ⟨rfl, HB.out⟩

set_option maxHeartbeats 800000 in
set_option maxRecDepth 100000 in
theorem rename_nil (t : Option Addr) (i j : Int) (w : World) :
    Calls Try.prog 20 #[.pointer none, .pointer t, .int .i64 i, .int .i64 j] w fun e w' => e = .returned (.bool false) ∧ w' = w := by
  go_enter Try.func20, Try.ntmps20
  go_wp2_with fail
  refine (has_nil i _).mono ?_
  rintro e w1 ⟨rfl, hw1⟩
  rw [hw1]
  clear hw1 w1
  go_wp2
  go_ret
  exact ⟨rfl, rfl⟩

set_option maxHeartbeats 800000 in
set_option maxRecDepth 100000 in
theorem copy_nil (w : World) : Calls Try.prog 21 #[.pointer none] w fun e w' => e = .returned (.pointer none) ∧ w' = w := by
  go_enter Try.func21, Try.ntmps21
  go_wp2
  go_ret
  exact ⟨rfl, rfl⟩

set_option maxHeartbeats 800000 in
set_option maxRecDepth 100000 in
/-- Copy: another sheet, in blocks of its own. -/
theorem copy_any (h : SheetAt w t b g T s d v R) :
    Calls Try.prog 21 #[.pointer (some ⟨s, 0, none⟩)] w fun e w' => ∃ s2 d2 v2, e = .returned (.pointer (some ⟨s2, 0, none⟩)) ∧ SheetAt w' t b g T s2 d2 v2 R ∧ (∀ k, Foot d2 [v2] k → w.heap.size ≤ k) ∧ w.heap.size ≤ s2 ∧ Below w.heap.size w w' := by
  have c0 := h.c0
  have HH := Hid.mk h
  have HC := Hid.mk (Dft.F.copy_yes h.dr h.short)
  clear h
  go_enter Try.func21, Try.ntmps21
  go_wp2_with fail
  refine HC.out.mono ?_
  rintro e w1 ⟨d2, v2, rfl, hd, hf, hb⟩
  have HD := Hid.mk hd
  have HF := Hid.mk hf
  have HB := Hid.mk hb
  have HB2 := Hid.mk (hb.alloc hb.size (.cells #[.pointer (some ⟨d2, 0, none⟩)] 72))
  clear hd hf hb
  go_wp2
  go_ret
  have hz := HB.out.size
  exact ⟨w1.heap.size, d2, v2, rfl, ⟨HH.out.tome.grown HB2.out, heap_new _ _, HD.out.grown ((Below.refl _ _).alloc (Nat.le_refl _) _), HH.out.fit⟩, HF.out, hz, HB2.out⟩

end

/-! ### Rename -/

section
variable {w w' : World} {t b g s d : Nat} {T : List (Fl × Int)} {v : Value} {R : List (Int × Fl)}

set_option maxHeartbeats 3200000 in
set_option maxRecDepth 100000 in
theorem rename_any (h : SheetAt w t b g T s d v R) (i j : Int) :
    Calls Try.prog 20 #[.pointer (some ⟨s, 0, none⟩), .pointer (some ⟨t, 0, none⟩), .int .i64 i, .int .i64 j] w (Left w t b g T s d v (ren T R i j) (decide (Is i ∧ Is j))) := by
  have HA := Hid.mk (has_any s i w)
  have HB := Hid.mk (has_any s j w)
  have HH := Hid.mk h
  by_cases hi : Is i
  · by_cases hj : Is j
    · have e : decide (Is i ∧ Is j) = true := decide_eq_true ⟨hi, hj⟩
      rw [e]
      rw [decide_eq_true hi] at HA
      rw [decide_eq_true hj] at HB
      have HIJ : Hid (Is i ∧ Is j) := ⟨hi, hj⟩
      have HG := Hid.mk (sget h i)
      have HC := Hid.mk (ovr_can h.tome.six h.fit i)
      obtain ⟨⟨p, x⟩, hp⟩ : ∃ p, p = ovr T R i := ⟨_, rfl⟩
      rw [← hp] at HG HC
      dsimp only at HG
      have HP := Hid.mk hp
      clear h e hi hj hp
      go_enter Try.func20, Try.ntmps20
      go_wp2_with fail
      refine HA.out.mono ?_
      rintro e w1 ⟨rfl, hw1⟩
      rw [hw1]
      clear hw1 w1
      go_wp2_with fail
      refine HB.out.mono ?_
      rintro e w1 ⟨rfl, hw1⟩
      rw [hw1]
      clear hw1 w1
      go_wp2_with fail
      refine HG.out.mono ?_
      rintro e w1 ⟨rfl, hb1⟩
      have hb2 := hb1.alloc hb1.size (.cells #[.bool p, .string x] 23)
      have HB2 := Hid.mk hb2
      have HS2 := Hid.mk (HH.out.grown hb2)
      have HBX := Hid.mk (heap_new w1 (.cells #[.bool p, .string x] 23))
      clear hb1 hb2 HG
      by_cases hr : p = true ∧ i ≠ j
      · have HR : Hid (ren T R i j = chg T (chg T R j (p, x)) i noFile) := Hid.mk (by
          unfold ren
          rw [if_pos ⟨HIJ.out.1, HIJ.out.2, by rw [← HP.out]; exact hr.1, hr.2⟩, ← HP.out])
        obtain ⟨rfl, hne⟩ := hr
        have hne2 : (i == j) = false := by simpa using hne
        have HC1 := Hid.mk (change_any HS2.out j (true, x) HC.out)
        clear hne
        go_wp2_with fail
        refine HC1.out.mono ?_
        rintro e w3 ⟨rfl, v3, hs3, hw3⟩
        have HS3 := Hid.mk hs3
        have HW3 := Hid.mk ((Wrote.of_below HB2.out).trans hw3)
        have HC2 := Hid.mk (change_any hs3 i noFile canF_no)
        clear hs3 hw3 HC1
        go_wp2_with fail
        refine HC2.out.mono ?_
        rintro e w4 ⟨rfl, v4, hs4, hw4⟩
        have HS4 := Hid.mk hs4
        have HW4 := Hid.mk (HW3.out.trans hw4)
        clear hs4 hw4 HC2
        go_wp2
        go_ret
        exact ⟨rfl, v4, by rw [HR.out]; exact HS4.out, HW4.out⟩
      · have HR : Hid (ren T R i j = R) := Hid.mk (by
          unfold ren
          rw [if_neg (fun k => hr ⟨by rw [← HP.out] at k; exact k.2.2.1, k.2.2.2⟩)])
        cases p with
        | true =>
          have hne2 : (i == j) = true := by
            have : ¬ i ≠ j := fun k => hr ⟨rfl, k⟩
            simpa using this
          clear hr
          go_wp2
          go_ret
          exact ⟨rfl, v, by rw [HR.out]; exact HS2.out, Wrote.of_below HB2.out⟩
        | false =>
          clear hr
          go_wp2
          go_ret
          exact ⟨rfl, v, by rw [HR.out]; exact HS2.out, Wrote.of_below HB2.out⟩
    · have e : decide (Is i ∧ Is j) = false := decide_eq_false (fun k => hj k.2)
      rw [e]
      rw [decide_eq_true hi] at HA
      rw [decide_eq_false hj] at HB
      have HR : Hid (ren T R i j = R) := Hid.mk (by unfold ren; rw [if_neg (fun k => hj k.2.1)])
      clear h e hi hj
      go_enter Try.func20, Try.ntmps20
      go_wp2_with fail
      refine HA.out.mono ?_
      rintro e w1 ⟨rfl, hw1⟩
      rw [hw1]
      clear hw1 w1
      go_wp2_with fail
      refine HB.out.mono ?_
      rintro e w1 ⟨rfl, hw1⟩
      rw [hw1]
      clear hw1 w1
      go_wp2
      go_ret
      exact ⟨rfl, v, by rw [HR.out]; exact HH.out, Wrote.refl _ _⟩
  · have e : decide (Is i ∧ Is j) = false := decide_eq_false (fun k => hi k.1)
    rw [e]
    rw [decide_eq_false hi] at HA
    have HR : Hid (ren T R i j = R) := Hid.mk (by unfold ren; rw [if_neg (fun k => hi k.1)])
    clear h e hi
    go_enter Try.func20, Try.ntmps20
    go_wp2_with fail
    refine HA.out.mono ?_
    rintro e w1 ⟨rfl, hw1⟩
    rw [hw1]
    clear hw1 w1
    go_wp2
    go_ret
    exact ⟨rfl, v, by rw [HR.out]; exact HH.out, Wrote.refl _ _⟩

end

end Go.Proofs.Ytdngehfebmaegaa.Sht
