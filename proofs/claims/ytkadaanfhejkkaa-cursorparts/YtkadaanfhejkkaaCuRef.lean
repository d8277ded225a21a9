/-
  A row of steps that came in; how many bytes were read behind them; the document's Read; 'alive'.
-/
import Derived.Test.YtkadaanfhejkkaaCuStep
import Derived.ChangeSlices
import Derived.Deep.Cut
namespace Go.Proofs.Ytkadaanfhejkkaa.Cur
open Go.ChangeShapes Go.WideShapes Go.ChangeAt Go.RowKit Go.Deep Go.Proofs.Ytkadaanfhejkkaa.Cel

/-- What is told of a list of numbers that came in. -/
def IsInts (w : World) (a : Option Addr) (len cap : Nat) (zs : List Int) : Prop :=
  zs.length = len ∧ len ≤ cap ∧ (zs = [] ∨ ∃ g off, a = some ⟨g, off, none⟩ ∧ g < w.heap.size ∧ ∀ j (h : j < zs.length), w.cell? ⟨g, off + j, none⟩ = some (.int .i64 zs[j]))

theorem IsInts.grown {w w' : World} {a : Option Addr} {len cap : Nat} {zs : List Int} (h : IsInts w a len cap zs) (hb : Below w.heap.size w w') : IsInts w' a len cap zs := by
  obtain ⟨hl, hc, rfl | ⟨g, off, e, hlt, hx⟩⟩ := h
  · exact ⟨hl, hc, .inl rfl⟩
  · exact ⟨hl, hc, .inr ⟨g, off, e, Nat.lt_of_lt_of_le hlt hb.size, fun j hj => (hb.cell (p := ⟨g, off + j, none⟩) hlt).trans (hx j hj)⟩⟩

theorem IsInts.at_ {w : World} {a : Option Addr} {len cap : Nat} {zs : List Int} (h : IsInts w a len cap zs) (k : Nat) (hk : k < len) : ∃ g off, ∃ hz : k < zs.length, a = some ⟨g, off, none⟩ ∧ w.cell? ⟨g, off + k, none⟩ = some (.int .i64 zs[k]) := by
  obtain ⟨hl, _, rfl | ⟨g, off, e, hlt, hc⟩⟩ := h
  · simp at hl
    omega
  · exact ⟨g, off, by omega, e, hc k (by omega)⟩

/-- Its first ones. -/
theorem IsInts.take {w : World} {a : Option Addr} {len cap : Nat} {zs : List Int} (h : IsInts w a len cap zs) (k : Nat) (hk : k ≤ len) : IsInts w a k cap (zs.take k) := by
  obtain ⟨hl, hcap, rfl | ⟨g, off, e, hlt, hc⟩⟩ := h
  · simp at hl
    exact ⟨by simp; omega, by omega, .inl (by simp)⟩
  · refine ⟨by rw [List.length_take]; omega, by omega, .inr ⟨g, off, e, hlt, fun j hj => ?_⟩⟩
    rw [List.length_take] at hj
    rw [List.getElem_take]
    exact hc j (by omega)

set_option maxRecDepth 100000 in
theorem open_nums {H : Type} {enc : TypeId × Value → H} {w : World} {a : Option Addr} {len cap fuel : Nat} {x : DataW H × List MemPlace}
    (h : DataW.trod enc Try.prog w 0 (fun _ => true) true fuel 22 [.slice a len cap] = some x) : ∃ zs, IsInts w a len cap zs := by
  rcases Go.ChangeShapes.open_ints Try.underlying22 Try.underlying3 Try.cells3 h with ⟨hcs, _⟩ | ⟨a', len', cap', zs, hcs, _, hl, hm, hzl, _, hx, _⟩
  · simp at hcs
    obtain ⟨rfl, rfl, rfl⟩ := hcs
    exact ⟨[], rfl, Nat.le_refl _, .inl rfl⟩
  · simp at hcs
    obtain ⟨rfl, rfl, rfl⟩ := hcs
    have hlm : len ≤ zs.length := by rw [hzl]; simpa using hl
    have hlc : len ≤ cap := by omega
    by_cases h0 : len = 0
    · exact ⟨[], h0.symm, hlc, .inl rfl⟩
    obtain ⟨g', off', e, hg⟩ := plain_of_cell (hx 0 (by omega))
    obtain ⟨g, off, rfl⟩ : ∃ g off, a' = ⟨g, off, none⟩ := by
      obtain ⟨g, off, sp⟩ := a'
      have hs := congrArg Addr.spot e
      unfold Addr.add at hs
      cases sp with
      | none => exact ⟨g, off, rfl⟩
      | some y => simp at hs
    rw [Cel.add_plain] at e
    have hgg : g = g' := congrArg Addr.block e
    subst hgg
    refine ⟨zs.take len, by rw [List.length_take]; omega, hlc, .inr ⟨g, off, rfl, hg, fun j hj => ?_⟩⟩
    have hj' : j < len := by rw [List.length_take] at hj; omega
    have := hx j (by omega)
    rw [Cel.add_plain] at this
    rw [this]
    simp [List.getD, List.getElem?_eq_getElem (show j < zs.length by omega)]

/-- One step's part at a socket. -/
def more (s : Int) (n : Nat) (z : Int) : Nat := if z = s ∧ isS z = true ∧ n < 64 then n + 1 else n
/-- How many bytes were read at a socket. -/
def cnt (zs : List Int) (s : Int) : Nat := zs.foldl (more s) 0

theorem cnt_add (zs : List Int) (z s : Int) : cnt (zs ++ [z]) s = more s (cnt zs s) z := by simp [cnt]
theorem cnt_succ (zs : List Int) (k : Nat) (hk : k < zs.length) (s : Int) : cnt (zs.take (k + 1)) s = more s (cnt (zs.take k) s) zs[k] := by
  rw [List.take_succ_eq_append_getElem hk, cnt_add]
theorem more_le (s : Int) (n : Nat) (z : Int) (h : n ≤ 64) : more s n z ≤ 64 := by
  unfold more
  split
  · rename_i k
    have := k.2.2
    omega
  · exact h
theorem fold_le (zs : List Int) (s : Int) (n : Nat) (h : n ≤ 64) : zs.foldl (more s) n ≤ 64 := by
  induction zs generalizing n with
  | nil => exact h
  | cons z r ih => exact ih _ (more_le s n z h)
theorem cnt_le (zs : List Int) (s : Int) : cnt zs s ≤ 64 := fold_le zs s 0 (by decide)
theorem fold_no (zs : List Int) (s : Int) (hs : isS s = false) (n : Nat) : zs.foldl (more s) n = n := by
  induction zs generalizing n with
  | nil => rfl
  | cons z r ih =>
    have e : more s n z = n := by
      unfold more
      rw [if_neg]
      rintro ⟨rfl, h, _⟩
      rw [hs] at h
      cases h
    rw [List.foldl_cons, e]
    exact ih n
theorem cnt_no (zs : List Int) (s : Int) (hs : isS s = false) : cnt zs s = 0 := fold_no zs s hs 0

/-- What a cursor has behind steps. -/
def ofZ (zs : List Int) : Nat → Nat := fun i => cnt zs (i : Int)

theorem ofZ_nil : ofZ [] = nones := rfl
theorem ofZ_rd (zs : List Int) (s : Int) : rdF (ofZ zs) s = cnt zs s := by
  unfold rdF
  cases hs : isS s with
  | true =>
    obtain ⟨i, hi, rfl⟩ := isS_yes hs
    rfl
  | false => exact (cnt_no zs s hs).symm
theorem ofZ_add (zs : List Int) (z : Int) : stF (ofZ zs) z = ofZ (zs ++ [z]) := by
  funext i
  have hr : ofZ (zs ++ [z]) i = more (i : Int) (cnt zs i) z := cnt_add zs z i
  rw [hr]
  unfold stF okF more
  cases hs : isS z with
  | true =>
    obtain ⟨j, hj, rfl⟩ := isS_yes hs
    rw [Int.toNat_natCast]
    by_cases hlt : ofZ zs j < 64
    · rw [decide_eq_true hlt, Bool.and_self, if_pos rfl]
      unfold upd
      by_cases e : i = j
      · subst e
        rw [if_pos rfl, if_pos ⟨rfl, rfl, hlt⟩]
        rfl
      · rw [if_neg e, if_neg (fun k => e (by have := k.1; omega))]
        rfl
    · rw [decide_eq_false hlt, Bool.and_false, if_neg (by decide), if_neg]
      · rfl
      · rintro ⟨e, _, h⟩
        have : j = i := by omega
        subst this
        exact hlt h
  | false =>
    rw [Bool.false_and, if_neg (by decide), if_neg (fun k => by cases k.2.1)]
    rfl
theorem ofZ_ok (zs : List Int) (z : Int) : okF (ofZ zs) z = (isS z && decide (cnt zs z < 64)) := by
  unfold okF
  cases hs : isS z with
  | true =>
    obtain ⟨i, hi, rfl⟩ := isS_yes hs
    rfl
  | false => rfl

theorem any_st (f : Nat → Nat) (s : Int) : anyF (stF f s) = (anyF f || okF f s) := by
  unfold stF
  cases h : okF f s with
  | false => simp
  | true =>
    have hs : isS s = true := by
      unfold okF at h
      cases h2 : isS s with
      | true => rfl
      | false => rw [h2] at h; cases h
    obtain ⟨i, hi, rfl⟩ := isS_yes hs
    rw [if_pos rfl, Int.toNat_natCast, Bool.or_true]
    unfold anyF upd
    rcases below3 hi with rfl | rfl | rfl <;> simp
theorem rd_other (f : Nat → Nat) (s : Int) (i : Nat) (hi : i < 3) (hn : s ≠ (i : Int)) : rdF (stF f s) (i : Int) = rdF f (i : Int) := by
  unfold rdF
  rw [isS_of hi, if_pos rfl, if_pos rfl, Int.toNat_natCast]
  unfold stF
  split
  · rename_i h
    have hs : isS s = true := by
      unfold okF at h
      cases h2 : isS s with
      | true => rfl
      | false => rw [h2] at h; cases h
    obtain ⟨j, hj, rfl⟩ := isS_yes hs
    unfold upd
    rw [Int.toNat_natCast, if_neg (fun e => hn (by rw [e]))]
  · rfl

set_option maxHeartbeats 800000 in
set_option maxRecDepth 100000 in
theorem refRead_any {w : World} {a : Option Addr} {len cap : Nat} {zs : List Int} (h : IsInts w a len cap zs) (hl : len ≤ 1000000) (s : Int) :
    Calls Try.prog 6 #[.slice a len cap, .int .i64 s] w fun e w' => e = .returned (.int .i64 (cnt zs s)) ∧ w' = w := by
  have HL := h.1
  have H := Hid.mk h
  clear h
  go_enter Try.func6, Try.ntmps6
  go_wp2
  go_loopw [5, 7, 10] (fun n _ i wr => ∃ k : Nat, k ≤ len ∧ i = .int .i64 k ∧ n = .int .i64 (cnt (zs.take k) s) ∧ wr = w) (fun _ _ i _ => len - (intOf i).toNat)
  case atStart => exact ⟨0, Nat.zero_le _, rfl, rfl, rfl⟩
  case round =>
    obtain ⟨k, hk, rfl, rfl, hwr⟩ := hrel
    rw [hwr]
    clear hwr wr
    by_cases hlt : k < len
    · obtain ⟨g, off, hz, rfl, hc⟩ := H.out.at_ k hlt
      have hst := cnt_succ zs k hz s
      have hle := cnt_le (zs.take k) s
      obtain ⟨x, hx⟩ : ∃ x, x = zs[k] := ⟨_, rfl⟩
      obtain ⟨n, hn⟩ : ∃ n, n = cnt (zs.take k) s := ⟨_, rfl⟩
      rw [← hx, ← hn] at hst
      rw [← hx] at hc
      rw [← hn] at hle ⊢
      have HST := Hid.mk hst
      have HK := Hid.mk hlt
      clear hx hst hn
      by_cases hxs : x = s
      · subst hxs
        by_cases h0 : 0 ≤ x
        · by_cases h1 : x ≤ 2
          · by_cases h2 : n < 64
            · have e : more x n x = n + 1 := by
                unfold more isS
                rw [if_pos ⟨rfl, by simp [h0, h1], h2⟩]
              have HE := Hid.mk e
              have h3 : (n : Int) < 64 := by omega
              clear e
              go_wp2
              go_roundw
              case rel => exact ⟨k + 1, HK.out, by go_num, by rw [HST.out, HE.out]; go_num, trivial⟩
              case measure => have := HK.out; simp [intOf]; omega
            · have e : more x n x = n := by
                unfold more
                rw [if_neg (fun k => h2 k.2.2)]
              have HE := Hid.mk e
              have h3 : ¬ (n : Int) < 64 := by omega
              clear e
              go_wp2
              go_roundw
              case rel => exact ⟨k + 1, HK.out, by go_num, by rw [HST.out, HE.out], trivial⟩
              case measure => have := HK.out; simp [intOf]; omega
          · have e : more x n x = n := by
              unfold more isS
              rw [if_neg]
              simp [h0, h1]
            have HE := Hid.mk e
            clear e
            go_wp2
            go_roundw
            case rel => exact ⟨k + 1, HK.out, by go_num, by rw [HST.out, HE.out], trivial⟩
            case measure => have := HK.out; simp [intOf]; omega
        · have e : more x n x = n := by
            unfold more isS
            rw [if_neg]
            simp [h0]
          have HE := Hid.mk e
          clear e
          go_wp2
          go_roundw
          case rel => exact ⟨k + 1, HK.out, by go_num, by rw [HST.out, HE.out], trivial⟩
          case measure => have := HK.out; simp [intOf]; omega
      · have e : more s n x = n := by
          unfold more
          rw [if_neg (fun k => hxs k.1)]
        have HE := Hid.mk e
        clear e
        go_wp2
        go_roundw
        case rel => exact ⟨k + 1, HK.out, by go_num, by rw [HST.out, HE.out], trivial⟩
        case measure => have := HK.out; simp [intOf]; omega
    · have hkl : k = len := by omega
      have hall : cnt (zs.take k) s = cnt zs s := by rw [hkl, List.take_of_length_le (by omega)]
      rw [hall]
      have hnk : ¬ (k : Int) < (len : Int) := by omega
      clear hlt hall
      go_wp2
      go_ret
      exact ⟨rfl, rfl⟩

set_option maxHeartbeats 800000 in
set_option maxRecDepth 100000 in
theorem aliveC (w : World) :
    Calls Try.prog 5 #[] w fun e w' => e = .returned (.bool true) ∧ Below w.heap.size w w' := by
  obtain ⟨b, hb⟩ : ∃ b, b = w.heap.size := ⟨_, rfl⟩
  have h0 := CurAt.made w
  have hb0 := (Below.refl w.heap.size w).alloc (Nat.le_refl _) (.cells #[.int .i64 0, .int .i64 0, .int .i64 0] 27)
  obtain ⟨f1, hf1⟩ : ∃ f1, f1 = stF nones 1 := ⟨_, rfl⟩
  obtain ⟨f2, hf2⟩ : ∃ f2, f2 = stF f1 1 := ⟨_, rfl⟩
  have a1 : okF nones 1 = true := by decide
  have a2 : okF f1 1 = true := by rw [hf1]; decide
  have a3 : rdF f2 1 = 2 := by rw [hf2, hf1]; decide
  have a4 : anyF f2 = true := by rw [hf2, hf1]; decide
  have H0 := Hid.mk h0
  have HB0 := Hid.mk hb0
  have F1 := Hid.mk hf1
  have F2 := Hid.mk hf2
  have A1 := Hid.mk a1
  have A2 := Hid.mk a2
  have A3 := Hid.mk a3
  have A4 := Hid.mk a4
  have HBW := Hid.mk hb
  clear h0 hb0 hf1 hf2 a1 a2 a3 a4
  go_enter Try.func5, Try.ntmps5
  go_wp2_with fail
  rw [← hb] at H0 ⊢
  clear hb
  refine (step_any H0.out 1).mono ?_
  rintro e w1 ⟨rfl, h1, ho1⟩
  rw [← F1.out] at h1
  rw [A1.out]
  have HB1 := Hid.mk (HB0.out.trans (ho1.below (by rw [HBW.out]; exact Nat.le_refl _)))
  clear ho1
  go_wp2_with fail
  refine (step_any h1 1).mono ?_
  rintro e w2 ⟨rfl, h2, ho2⟩
  rw [← F2.out] at h2
  rw [A2.out]
  have HB2 := Hid.mk (HB1.out.trans (ho2.below (by rw [HBW.out]; exact Nat.le_refl _)))
  clear ho2 h1
  go_wp2_with fail
  refine (place_any h2 1 5 (by decide) (by decide)).mono ?_
  rintro e w3 ⟨rfl, hw3⟩
  rw [hw3, A3.out]
  clear hw3 w3
  go_wp2_with fail
  refine (some_any h2).mono ?_
  rintro e w3 ⟨rfl, hw3⟩
  rw [hw3, A4.out]
  clear hw3 w3
  go_wp2
  go_ret
  exact ⟨rfl, HB2.out⟩

end Go.Proofs.Ytkadaanfhejkkaa.Cur
