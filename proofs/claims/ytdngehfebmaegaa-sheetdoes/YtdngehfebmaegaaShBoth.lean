/-
  The document's sheet over what was written: the walks of its calls once more, and of Rename.
-/
import Derived.Test.YtdngehfebmaegaaShRef
namespace Go.Proofs.Ytdngehfebmaegaa.Sht
open Go.RowKit Go.Proofs.Ytdngehfebmaegaa.Cel Go.Proofs.Ytdngehfebmaegaa.Dft Go.Proofs.Ytdngehfebmaegaa.Dft.F
open Tom (CanF TomeAt)

/-- The document's sheet, of what was written over a tome. -/
def MdAt (w : World) (m : Nat) (T : List (Fl × Int)) (R : List (Int × Fl)) : Prop := MD w m (fun j => base T j) (fun j => ovr T R j) (fun j => (Dft.look R j).isSome)

section
variable {w w' : World} {m : Nat} {T : List (Fl × Int)} {R : List (Int × Fl)}

theorem files_chg (i : Int) (x : Fl) : (if Is i ∧ (fun j : Nat => ovr T R j) i.toNat ≠ x then upd (fun j : Nat => ovr T R j) i.toNat x else (fun j : Nat => ovr T R j)) = fun j : Nat => ovr T (chg T R i x) j := by
  funext j
  rw [ovr_chg]
  by_cases hi : Is i
  · have e : ((i.toNat : Nat) : Int) = i := by omega
    by_cases hx : ovr T R i = x
    · rw [if_neg (fun k => k.2 (by show ovr T R (i.toNat : Nat) = x; rw [e]; exact hx))]
      by_cases hj : (j : Int) = i
      · rw [if_pos ⟨hj, hi⟩, hj, hx]
      · rw [if_neg (fun k => hj k.1)]
    · rw [if_pos ⟨hi, by show ovr T R (i.toNat : Nat) ≠ x; rw [e]; exact hx⟩]
      unfold upd
      by_cases hj : (j : Int) = i
      · rw [if_pos (by omega), if_pos ⟨hj, hi⟩]
      · rw [if_neg (by omega), if_neg (fun k => hj k.1)]
  · rw [if_neg (fun k => hi k.1), if_neg (fun k => hi k.2)]

theorem wrote_chg (i : Int) (x : Fl) : (if Is i ∧ (fun j : Nat => ovr T R j) i.toNat ≠ x then upd (fun j : Nat => (Dft.look R j).isSome) i.toNat true else (fun j : Nat => (Dft.look R j).isSome)) = fun j : Nat => (Dft.look (chg T R i x) j).isSome := by
  funext j
  by_cases hi : Is i
  · have e : ((i.toNat : Nat) : Int) = i := by omega
    by_cases hx : ovr T R i = x
    · rw [if_neg (fun k => k.2 (by show ovr T R (i.toNat : Nat) = x; rw [e]; exact hx))]
      unfold chg
      rw [if_pos hi, if_pos hx]
    · rw [if_pos ⟨hi, by show ovr T R (i.toNat : Nat) ≠ x; rw [e]; exact hx⟩]
      unfold chg upd
      rw [if_pos hi, if_neg hx, look_put]
      by_cases hj : (j : Int) = i
      · rw [if_pos (by omega), if_pos hj]; rfl
      · rw [if_neg (by omega), if_neg hj]
  · rw [if_neg (fun k => hi k.1)]
    unfold chg
    rw [if_neg hi]

theorem MdAt.grown (h : MdAt w m T R) (hb : Below w.heap.size w w') : MdAt w' m T R := MD.grown h hb
theorem MdAt.lt (h : MdAt w m T R) : m < w.heap.size := MD.lt h

/-- What a call on the document's sheet leaves. -/
def LeftR (w : World) (m : Nat) (T : List (Fl × Int)) (R' : List (Int × Fl)) (ok : Bool) (e : Ending) (w' : World) : Prop := e = .returned (.bool ok) ∧ MdAt w' m T R' ∧ But [m] w w'

set_option maxRecDepth 100000 in
theorem rWrite (h : MdAt w m T R) (hT : Tom.Six (T.map (·.1))) (hf : Fits R) (i k : Int) (c : UInt8) :
    Calls Try.prog 31 #[.pointer (some ⟨m, 0, none⟩), .int .i64 i, .int .i64 k, .int .u8 c.toNat] w (LeftR w m T (chg T R i (putV (ovr T R i) k c)) (decide (Is i))) := by
  refine (refWrite_any h (fun j => ovr_can hT hf j) i k c).mono ?_
  rintro e z ⟨he, hm, hb⟩
  refine ⟨he, ?_, hb⟩
  by_cases hi : Is i
  · have e : ((i.toNat : Nat) : Int) = i := by omega
    have h1 := files_chg (T := T) (R := R) i (putV (ovr T R i) k c)
    have h2 := wrote_chg (T := T) (R := R) i (putV (ovr T R i) k c)
    rw [e] at hm
    unfold MdAt
    rw [← h1, ← h2]
    show MD z m _ (if Is i ∧ ovr T R (i.toNat : Nat) ≠ _ then _ else _) (if Is i ∧ ovr T R (i.toNat : Nat) ≠ _ then _ else _)
    rw [e]
    exact hm
  · have e : chg T R i (putV (ovr T R i) k c) = R := by unfold chg; rw [if_neg hi]
    rw [if_neg (fun k => hi k.1), if_neg (fun k => hi k.1)] at hm
    rw [e]
    exact hm

set_option maxRecDepth 100000 in
theorem rCut (h : MdAt w m T R) (hT : Tom.Six (T.map (·.1))) (hf : Fits R) (i n : Int) :
    Calls Try.prog 32 #[.pointer (some ⟨m, 0, none⟩), .int .i64 i, .int .i64 n] w (LeftR w m T (chg T R i (cutV (ovr T R i) n)) (decide (Is i))) := by
  refine (refCut_any h (fun j => ovr_can hT hf j) i n).mono ?_
  rintro e z ⟨he, hm, hb⟩
  refine ⟨he, ?_, hb⟩
  by_cases hi : Is i
  · have e : ((i.toNat : Nat) : Int) = i := by omega
    have h1 := files_chg (T := T) (R := R) i (cutV (ovr T R i) n)
    have h2 := wrote_chg (T := T) (R := R) i (cutV (ovr T R i) n)
    rw [e] at hm
    unfold MdAt
    rw [← h1, ← h2]
    show MD z m _ (if Is i ∧ ovr T R (i.toNat : Nat) ≠ _ then _ else _) (if Is i ∧ ovr T R (i.toNat : Nat) ≠ _ then _ else _)
    rw [e]
    exact hm
  · have e : chg T R i (cutV (ovr T R i) n) = R := by unfold chg; rw [if_neg hi]
    rw [if_neg (fun k => hi k.1), if_neg (fun k => hi k.1)] at hm
    rw [e]
    exact hm

set_option maxRecDepth 100000 in
theorem rCreate (h : MdAt w m T R) (i : Int) :
    Calls Try.prog 33 #[.pointer (some ⟨m, 0, none⟩), .int .i64 i] w (LeftR w m T (chg T R i (mkV (ovr T R i))) (decide (Is i))) := by
  refine (refCreate_any h i).mono ?_
  rintro e z ⟨he, hm, hb⟩
  refine ⟨he, ?_, hb⟩
  by_cases hi : Is i
  · have e : ((i.toNat : Nat) : Int) = i := by omega
    have h1 := files_chg (T := T) (R := R) i (mkV (ovr T R i))
    have h2 := wrote_chg (T := T) (R := R) i (mkV (ovr T R i))
    rw [e] at hm
    unfold MdAt
    rw [← h1, ← h2]
    show MD z m _ (if Is i ∧ ovr T R (i.toNat : Nat) ≠ _ then _ else _) (if Is i ∧ ovr T R (i.toNat : Nat) ≠ _ then _ else _)
    rw [e]
    exact hm
  · have e : chg T R i (mkV (ovr T R i)) = R := by unfold chg; rw [if_neg hi]
    rw [if_neg (fun k => hi k.1), if_neg (fun k => hi k.1)] at hm
    rw [e]
    exact hm

set_option maxRecDepth 100000 in
theorem rRemove (h : MdAt w m T R) (i : Int) :
    Calls Try.prog 34 #[.pointer (some ⟨m, 0, none⟩), .int .i64 i] w (LeftR w m T (chg T R i noFile) (decide (Is i))) := by
  refine (refRemove_any h i).mono ?_
  rintro e z ⟨he, hm, hb⟩
  refine ⟨he, ?_, hb⟩
  have h1 := files_chg (T := T) (R := R) i noFile
  have h2 := wrote_chg (T := T) (R := R) i noFile
  unfold MdAt
  rw [← h1, ← h2]
  exact hm

set_option maxRecDepth 100000 in
theorem rPut (h : MdAt w m T R) (j : Nat) (hj : j < 6) (f : Fl) :
    Calls Try.prog 54 #[.pointer (some ⟨m, 0, none⟩), .int .i64 (j : Nat), .agg #[.bool f.1, .string f.2]] w fun e w' => e = .returned (.tuple #[]) ∧ MdAt w' m T (chg T R j f) ∧ But [m] w w' := by
  refine (refPut_any h j hj f).mono ?_
  rintro e z ⟨he, hm, hb⟩
  refine ⟨he, ?_, hb⟩
  have hi : Is (j : Int) := by omega
  have h1 := files_chg (T := T) (R := R) (j : Int) f
  have h2 := wrote_chg (T := T) (R := R) (j : Int) f
  unfold MdAt
  rw [← h1, ← h2]
  simp only [Int.toNat_natCast]
  by_cases e : ovr T R j = f
  · rw [if_pos e, if_pos e] at hm
    rw [if_neg (fun k => k.2 e), if_neg (fun k => k.2 e)]
    exact hm
  · rw [if_neg e, if_neg e] at hm
    rw [if_pos ⟨hi, e⟩, if_pos ⟨hi, e⟩]
    exact hm

set_option maxHeartbeats 3200000 in
set_option maxRecDepth 100000 in
theorem rRename (h : MdAt w m T R) (i j : Int) :
    Calls Try.prog 35 #[.pointer (some ⟨m, 0, none⟩), .int .i64 i, .int .i64 j] w (LeftR w m T (ren T R i j) (decide (Is i ∧ Is j))) := by
  have HA := Hid.mk (isRef_any i w)
  have HB := Hid.mk (isRef_any j w)
  have HH := Hid.mk h
  by_cases hi : Is i
  · by_cases hj : Is j
    · have e : decide (Is i ∧ Is j) = true := decide_eq_true ⟨hi, hj⟩
      rw [e]
      rw [decide_eq_true hi] at HA
      rw [decide_eq_true hj] at HB
      obtain ⟨a, rfl⟩ : ∃ a : Nat, i = (a : Int) := ⟨i.toNat, by omega⟩
      obtain ⟨c, rfl⟩ : ∃ a : Nat, j = (a : Int) := ⟨j.toNat, by omega⟩
      have ha : a < 6 := by omega
      have hc : c < 6 := by omega
      have HIJ : Hid (Is (a : Int) ∧ Is (c : Int)) := ⟨hi, hj⟩
      obtain ⟨c0, c1⟩ := MD.files h a ha
      obtain ⟨⟨p, x⟩, hp⟩ : ∃ p, p = ovr T R a := ⟨_, rfl⟩
      rw [← hp] at c0 c1
      have HP := Hid.mk hp
      have HC := Hid.mk hc
      have HAL := Hid.mk ha
      clear h e hi hj hp
      by_cases hr : p = true ∧ (a : Int) ≠ (c : Int)
      · have HR : Hid (ren T R a c = chg T (chg T R c (p, x)) a noFile) := Hid.mk (by
          unfold ren
          rw [if_pos ⟨HIJ.out.1, HIJ.out.2, by rw [← HP.out]; exact hr.1, hr.2⟩, ← HP.out])
        obtain ⟨rfl, hne⟩ := hr
        have hne2 : ((a : Int) == (c : Int)) = false := by simpa using hne
        have HC1 := Hid.mk (rPut HH.out c HC.out (true, x))
        clear hne
        go_enter Try.func35, Try.ntmps35
        go_wp2_with fail
        refine HA.out.mono ?_
        rintro e w1 ⟨rfl, hw1⟩
        rw [hw1]
        clear hw1 w1
        go_wp2_with fail
        refine HB.out.mono ?_
        rintro e w1 ⟨rfl, hw1⟩
        rw [hw1]
        clear hw1 w1
        go_wp2_with fail
        refine HC1.out.mono ?_
        rintro e w3 ⟨rfl, hs3, hw3⟩
        have HS3 := Hid.mk hs3
        have HW3 := Hid.mk hw3
        have HC2 := Hid.mk (rPut hs3 a HAL.out noFile)
        clear hs3 hw3 HC1 c0 c1
        go_wp2_with fail
        refine HC2.out.mono ?_
        rintro e w4 ⟨rfl, hs4, hw4⟩
        have HS4 := Hid.mk hs4
        have HW4 := Hid.mk (HW3.out.trans hw4)
        clear hs4 hw4 HC2
        go_wp2
        go_ret
        exact ⟨rfl, by rw [HR.out]; exact HS4.out, HW4.out⟩
      · have HR : Hid (ren T R a c = R) := Hid.mk (by
          unfold ren
          rw [if_neg (fun k => hr ⟨by rw [← HP.out] at k; exact k.2.2.1, k.2.2.2⟩)])
        cases p with
        | true =>
          have hne2 : ((a : Int) == (c : Int)) = true := by
            have : ¬ (a : Int) ≠ (c : Int) := fun k => hr ⟨rfl, k⟩
            simpa using this
          clear hr
          go_enter Try.func35, Try.ntmps35
          go_wp2_with fail
          refine HA.out.mono ?_
          rintro e w1 ⟨rfl, hw1⟩
          rw [hw1]
          clear hw1 w1
          go_wp2_with fail
          refine HB.out.mono ?_
          rintro e w1 ⟨rfl, hw1⟩
          rw [hw1]
          clear hw1 w1
          go_wp2
          go_ret
          exact ⟨rfl, by rw [HR.out]; exact HH.out, But.refl _ _⟩
        | false =>
          clear hr
          go_enter Try.func35, Try.ntmps35
          go_wp2_with fail
          refine HA.out.mono ?_
          rintro e w1 ⟨rfl, hw1⟩
          rw [hw1]
          clear hw1 w1
          go_wp2_with fail
          refine HB.out.mono ?_
          rintro e w1 ⟨rfl, hw1⟩
          rw [hw1]
          clear hw1 w1
          go_wp2
          go_ret
          exact ⟨rfl, by rw [HR.out]; exact HH.out, But.refl _ _⟩
    · have e : decide (Is i ∧ Is j) = false := decide_eq_false (fun k => hj k.2)
      rw [e]
      rw [decide_eq_true hi] at HA
      rw [decide_eq_false hj] at HB
      have HR : Hid (ren T R i j = R) := Hid.mk (by unfold ren; rw [if_neg (fun k => hj k.2.1)])
      clear h e hi hj
      go_enter Try.func35, Try.ntmps35
      go_wp2_with fail
      refine HA.out.mono ?_
      rintro e w1 ⟨rfl, hw1⟩
      rw [hw1]
      clear hw1 w1
      go_wp2_with fail
      refine HB.out.mono ?_
      rintro e w1 ⟨rfl, hw1⟩
      rw [hw1]
      clear hw1 w1
      go_wp2
      go_ret
      exact ⟨rfl, by rw [HR.out]; exact HH.out, But.refl _ _⟩
  · have e : decide (Is i ∧ Is j) = false := decide_eq_false (fun k => hi k.1)
    rw [e]
    rw [decide_eq_false hi] at HA
    have HR : Hid (ren T R i j = R) := Hid.mk (by unfold ren; rw [if_neg (fun k => hi k.1)])
    clear h e hi
    go_enter Try.func35, Try.ntmps35
    go_wp2_with fail
    refine HA.out.mono ?_
    rintro e w1 ⟨rfl, hw1⟩
    rw [hw1]
    clear hw1 w1
    go_wp2
    go_ret
    exact ⟨rfl, by rw [HR.out]; exact HH.out, But.refl _ _⟩

end

end Go.Proofs.Ytdngehfebmaegaa.Sht
