/-
  The walk of Note.
-/
import Derived.Deep.RegionLaw
import Derived.Deep.Cut
import Derived.Test.YtafpfioonbdgnaaNSmall
namespace Go.Proofs.Ytafpfioonbdgnaa.Rds
open Go.RowKit Go.Shelf Go.Deep Go.Proofs.Ytafpfioonbdgnaa.Cel Go.Proofs.Ytafpfioonbdgnaa.Rng

set_option maxRecDepth 100000 in
theorem size_now (f : Nat → Int) (c : Int) : (Try.prog.info? 43).map (·.size) = some (nowA f c).size := by rw [nowA_size]; kernel_rfl

section
variable {w : World} {b : Nat} {v : Value} {st : Int} {E : List En}

set_option maxHeartbeats 4000000 in
set_option maxRecDepth 100000 in
theorem note_old (f : Nat → Int) (c k i : Int) (e0 : En) (h : SetAt w b v st E) (hE : E.length ≤ 100000) (hf : findE E k i = some e0) :
    Calls Try.prog 10 #[.pointer (some ⟨b, 0, none⟩), .agg (nowA f c), .int .i64 k, .int .i64 i] w fun e w' => e = .returned (.bool (e0.2.2 == ofF f k i)) ∧ Below w.heap.size w w' := by
  have hn0 : (w.alloc (.cells (nowA f c) 43)).heap[w.heap.size]? = some (.cells (nowA f c) 43 (0, 0)) := heap_new _ _
  have hb0 : Below w.heap.size w (w.alloc (.cells (nowA f c) 43)) := (Below.refl _ _).alloc (Nat.le_refl _) _
  have HB := Hid.mk hb0
  have HN := Hid.mk hn0
  have HS := Hid.mk (h.grown hb0)
  have HF := Hid.mk hf
  have HLE : Hid (E.length ≤ 1000000) := Hid.mk (by omega)
  obtain ⟨y0, y1, y2⟩ := e0
  dsimp only
  obtain ⟨V, hV⟩ : ∃ V, V = ofF f k i := ⟨_, rfl⟩
  have ho := of_any f c k i
  rw [← hV] at ho ⊢
  have HO := Hid.mk ho
  clear hb0 hn0 hf h hE hV ho
  go_enter Try.func10, Try.ntmps10
  go_wp2_with (refine wpList_load_row rfl 43 _ rfl w.heap.size rfl 43 (nowA f c) (0, 0) _ HN.out Try.underlying43 rfl (size_now f c) ?_)
  refine (HO.out _).mono ?_
  rintro e w1 ⟨rfl, hb1⟩
  have hf1 := find_any k i w1 (HS.out.grown hb1) HLE.out
  rw [HF.out] at hf1
  unfold fndV at hf1
  dsimp only at hf1
  have HB1 := Hid.mk (HB.out.trans (hb1.mono HB.out.size))
  have HF1 := Hid.mk hf1
  clear hf1 hb1
  go_wp2_with fail
  refine HF1.out.mono ?_
  rintro e w2 ⟨rfl, hb2⟩
  have HB2 := Hid.mk (HB1.out.trans (hb2.mono HB1.out.size))
  clear hb2
  go_wp2
  go_ret
  exact ⟨rfl, HB2.out.alloc HB2.out.size _⟩

set_option maxRecDepth 100000 in
theorem Try.info54 : (Try.prog.info? 54).map (fun i => (i.zero, i.size, i.bytes)) = some (some (.agg #[.int .i64 0, .int .i64 0, .int .i64 0]), 3, 24) := by kernel_rfl

set_option maxHeartbeats 4000000 in
set_option maxRecDepth 100000 in
theorem note_bad (f : Nat → Int) (c k i : Int) (h : SetAt w b v st E) (hE : E.length ≤ 100000) (hf : findE E k i = none) (hlt : st < ofF f k i) (hv : validB (ofF f) E = false) :
    Calls Try.prog 10 #[.pointer (some ⟨b, 0, none⟩), .agg (nowA f c), .int .i64 k, .int .i64 i] w fun e w' => e = .returned (.bool false) ∧ Below w.heap.size w w' := by
  have hn0 : (w.alloc (.cells (nowA f c) 43)).heap[w.heap.size]? = some (.cells (nowA f c) 43 (0, 0)) := heap_new _ _
  have hb0 : Below w.heap.size w (w.alloc (.cells (nowA f c) 43)) := (Below.refl _ _).alloc (Nat.le_refl _) _
  have HB := Hid.mk hb0
  have HN := Hid.mk hn0
  have HS := Hid.mk (h.grown hb0)
  have HSW := Hid.mk h
  have HF := Hid.mk hf
  have HLE : Hid (E.length ≤ 100000) := Hid.mk hE
  have HLT : Hid (w.heap.size < (w.alloc (.cells (nowA f c) 43)).heap.size) := Hid.mk (by simp)
  obtain ⟨V, hV⟩ : ∃ V, V = ofF f k i := ⟨_, rfl⟩
  have ho := of_any f c k i
  rw [← hV] at ho hlt
  have HO := Hid.mk ho
  clear hb0 hn0 hf h hE hV ho
  go_enter Try.func10, Try.ntmps10
  go_wp2_with (refine wpList_load_row rfl 43 _ rfl w.heap.size rfl 43 (nowA f c) (0, 0) _ HN.out Try.underlying43 rfl (size_now f c) ?_)
  refine (HO.out _).mono ?_
  rintro e w1 ⟨rfl, hb1⟩
  have hf1 := find_any k i w1 (HS.out.grown hb1) (by have := HLE.out; omega)
  rw [HF.out] at hf1
  unfold fndV at hf1
  have HB1 := Hid.mk (HB.out.trans (hb1.mono HB.out.size))
  have HN1 := Hid.mk ((hb1.block _ HLT.out).trans HN.out)
  have HS1 := Hid.mk (HS.out.grown hb1)
  have HF1 := Hid.mk hf1
  clear hf1 hb1
  go_wp2_with fail
  refine HF1.out.mono ?_
  rintro e w2 ⟨rfl, hb2⟩
  have hb3 : Below w1.heap.size w1 (w2.alloc (.cells #[.int .i64 0, .int .i64 0, .int .i64 0] 54)) := hb2.alloc hb2.size _
  have HB2 := Hid.mk (HB1.out.trans (hb3.mono HB1.out.size))
  have hn3 := (hb3.block _ (Array.getElem?_eq_some_iff.1 HN1.out).1).trans HN1.out
  have hs3 := HS1.out.grown hb3
  have HN3 := Hid.mk hn3
  have HS3 := Hid.mk hs3
  have c0 := hs3.c0
  have hd : decide (st < V) = true := by simpa using hlt
  clear hb2 hb3 hn3 hs3
  go_wp2_with (refine wpList_load_row rfl 43 _ rfl w.heap.size rfl 43 (nowA f c) (0, 0) _ HN3.out Try.underlying43 rfl (size_now f c) ?_)
  refine (valid_any f c _ HS3.out (by have := HLE.out; omega)).mono ?_
  rw [hv]
  rintro e w4 ⟨rfl, hb4⟩
  have HB4 := Hid.mk (HB2.out.trans (hb4.mono HB2.out.size))
  clear hb4
  go_wp2
  go_ret
  exact ⟨rfl, HB4.out⟩

set_option maxHeartbeats 4000000 in
set_option maxRecDepth 100000 in
theorem note_new (f : Nat → Int) (c k i : Int) (h : SetAt w b v st E) (hE : E.length ≤ 100000) (hf : findE E k i = none) (hlt : ¬ st < ofF f k i) :
    Calls Try.prog 10 #[.pointer (some ⟨b, 0, none⟩), .agg (nowA f c), .int .i64 k, .int .i64 i] w fun e w' => e = .returned (.bool true) ∧ ∃ v', SetAt w' b v' st (E ++ [(k, i, ofF f k i)]) ∧ Wrote (Foot b [v]) (Foot b [v']) w w' := by
  have hn0 : (w.alloc (.cells (nowA f c) 43)).heap[w.heap.size]? = some (.cells (nowA f c) 43 (0, 0)) := heap_new _ _
  have hb0 : Below w.heap.size w (w.alloc (.cells (nowA f c) 43)) := (Below.refl _ _).alloc (Nat.le_refl _) _
  have HB := Hid.mk hb0
  have HN := Hid.mk hn0
  have HS := Hid.mk (h.grown hb0)
  have HSW := Hid.mk h
  have HF := Hid.mk hf
  have HLE : Hid (E.length ≤ 100000) := Hid.mk hE
  have HLT : Hid (w.heap.size < (w.alloc (.cells (nowA f c) 43)).heap.size) := Hid.mk (by simp)
  obtain ⟨V, hV⟩ : ∃ V, V = ofF f k i := ⟨_, rfl⟩
  have ho := of_any f c k i
  rw [← hV] at ho hlt
  rw [← hV]
  have HO := Hid.mk ho
  clear hb0 hn0 hf h hE hV ho
  go_enter Try.func10, Try.ntmps10
  go_wp2_with (refine wpList_load_row rfl 43 _ rfl w.heap.size rfl 43 (nowA f c) (0, 0) _ HN.out Try.underlying43 rfl (size_now f c) ?_)
  refine (HO.out _).mono ?_
  rintro e w1 ⟨rfl, hb1⟩
  have hf1 := find_any k i w1 (HS.out.grown hb1) (by have := HLE.out; omega)
  rw [HF.out] at hf1
  unfold fndV at hf1
  have HB1 := Hid.mk (HB.out.trans (hb1.mono HB.out.size))
  have HN1 := Hid.mk ((hb1.block _ HLT.out).trans HN.out)
  have HS1 := Hid.mk (HS.out.grown hb1)
  have HF1 := Hid.mk hf1
  clear hf1 hb1
  go_wp2_with fail
  refine HF1.out.mono ?_
  rintro e w2 ⟨rfl, hb2⟩
  have hb3 : Below w1.heap.size w1 (w2.alloc (.cells #[.int .i64 0, .int .i64 0, .int .i64 0] 54)) := hb2.alloc hb2.size _
  have HB2 := Hid.mk (HB1.out.trans (hb3.mono HB1.out.size))
  have hn3 := (hb3.block _ (Array.getElem?_eq_some_iff.1 HN1.out).1).trans HN1.out
  have hs3 := HS1.out.grown hb3
  have HN3 := Hid.mk hn3
  have HS3 := Hid.mk hs3
  have c0 := hs3.c0
  have HS4 := HS3
  clear hb2 hb3 hn3 hs3
  have c1 := HS4.out.c1
  have f1 := HS4.out.fz 1
  have hlt4 := HS4.out.lt
  have ag := HS4.out.own_b
  have hown := HS4.out.owns
  have hle := HLE.out
  obtain ⟨i0, hi, hz0, hz1, hz2⟩ := info_parts Try.info54
  have hnew : ((w2.alloc (.cells #[.int .i64 0, .int .i64 0, .int .i64 0] 54)).alloc (.cells #[.int .i64 k, .int .i64 i, .int .i64 V] 54)).heap[w2.heap.size + 1]? = some (.cells #[.int .i64 k, .int .i64 i, .int .i64 V] 54 (0, 0)) := by
    have h := heap_new (w2.alloc (.cells #[.int .i64 0, .int .i64 0, .int .i64 0] 54)) (.cells #[.int .i64 k, .int .i64 i, .int .i64 V] 54)
    rw [World.size_alloc] at h
    exact h
  have hnews := World.news_of_block hnew
  have HNW := Hid.mk hnews
  have hlt5 : b < w2.heap.size + 1 := by simpa using hlt4
  have HNL : Hid (w2.heap.size < w2.heap.size + 1) := Hid.mk (Nat.lt_succ_self _)
  clear hnew hnews hlt4
  go_wp2_with ((refine wpList_append_lies _ rfl _ _ _ rfl 0 54 i0 _ 3 24 Try.underlying63 hi hz0 hz1 hz2 rfl (by decide) v E.length (enC E) rfl (hown.alloc _) ⟨w2.heap.size + 1, 0, none⟩ 1 1 [.int .i64 k, .int .i64 i, .int .i64 V] rfl rfl HNW.out (by simp [Value.oneCell']) (by decide) (by unfold maxLen; omega) (by omega) (Nat.zero_le _) (w2.heap.size + 1 + 1) (by simp) ?_; intro gg cap w5 hown1 hgrow hat hlt2; have c5 : w5.cell? ⟨b, 1, none⟩ = some v := (hgrow.cell_far ⟨b, 1, none⟩ (by simp; omega) (Ne.symm ag)).trans (by simp [World.cell?_alloc_some, c1]); have f5 : w5.frozen? ⟨b, 1, none⟩ = false := (hgrow.frozen_far ⟨b, 1, none⟩ (by simp; omega) (Ne.symm ag)).trans (by simp [World.frozen?_alloc_past, hlt5, f1])))
  have HOWN := Hid.mk hown1
  have HG := Hid.mk hgrow
  have HAT := Hid.mk hat
  clear hown1 hgrow hat hlt2 c5 f5 hown hz0 hz1 hz2 hi c1 f1 ag
  go_ret
  have hz : w.heap.size ≤ w2.heap.size + 1 := by have := HB2.out.size; simpa using this
  obtain ⟨R1, R2⟩ := HSW.out.more (k, i, V) HOWN.out (HB2.out.alloc HB2.out.size _) HG.out (by rcases HAT.out with e | e; exact .inl e; exact .inr (by omega))
  exact ⟨rfl, _, R1, R2⟩

set_option maxHeartbeats 4000000 in
set_option maxRecDepth 100000 in
theorem note_late (f : Nat → Int) (c k i : Int) (h : SetAt w b v st E) (hE : E.length ≤ 100000) (hf : findE E k i = none) (hlt : st < ofF f k i) (hv : validB (ofF f) E = true) :
    Calls Try.prog 10 #[.pointer (some ⟨b, 0, none⟩), .agg (nowA f c), .int .i64 k, .int .i64 i] w fun e w' => e = .returned (.bool true) ∧ ∃ v', SetAt w' b v' c (E ++ [(k, i, ofF f k i)]) ∧ Wrote (Foot b [v]) (Foot b [v']) w w' := by
  have hn0 : (w.alloc (.cells (nowA f c) 43)).heap[w.heap.size]? = some (.cells (nowA f c) 43 (0, 0)) := heap_new _ _
  have hb0 : Below w.heap.size w (w.alloc (.cells (nowA f c) 43)) := (Below.refl _ _).alloc (Nat.le_refl _) _
  have HB := Hid.mk hb0
  have HN := Hid.mk hn0
  have HS := Hid.mk (h.grown hb0)
  have HSW := Hid.mk h
  have HF := Hid.mk hf
  have HLE : Hid (E.length ≤ 100000) := Hid.mk hE
  have HLT : Hid (w.heap.size < (w.alloc (.cells (nowA f c) 43)).heap.size) := Hid.mk (by simp)
  obtain ⟨V, hV⟩ : ∃ V, V = ofF f k i := ⟨_, rfl⟩
  have ho := of_any f c k i
  rw [← hV] at ho hlt
  rw [← hV]
  have HO := Hid.mk ho
  clear hb0 hn0 hf h hE hV ho
  go_enter Try.func10, Try.ntmps10
  go_wp2_with (refine wpList_load_row rfl 43 _ rfl w.heap.size rfl 43 (nowA f c) (0, 0) _ HN.out Try.underlying43 rfl (size_now f c) ?_)
  refine (HO.out _).mono ?_
  rintro e w1 ⟨rfl, hb1⟩
  have hf1 := find_any k i w1 (HS.out.grown hb1) (by have := HLE.out; omega)
  rw [HF.out] at hf1
  unfold fndV at hf1
  have HB1 := Hid.mk (HB.out.trans (hb1.mono HB.out.size))
  have HN1 := Hid.mk ((hb1.block _ HLT.out).trans HN.out)
  have HS1 := Hid.mk (HS.out.grown hb1)
  have HF1 := Hid.mk hf1
  clear hf1 hb1
  go_wp2_with fail
  refine HF1.out.mono ?_
  rintro e w2 ⟨rfl, hb2⟩
  have hb3 : Below w1.heap.size w1 (w2.alloc (.cells #[.int .i64 0, .int .i64 0, .int .i64 0] 54)) := hb2.alloc hb2.size _
  have HB2 := Hid.mk (HB1.out.trans (hb3.mono HB1.out.size))
  have hn3 := (hb3.block _ (Array.getElem?_eq_some_iff.1 HN1.out).1).trans HN1.out
  have hs3 := HS1.out.grown hb3
  have HN3 := Hid.mk hn3
  have HS3 := Hid.mk hs3
  have c0 := hs3.c0
  have hd : decide (st < V) = true := by simpa using hlt
  clear hb2 hb3 hn3 hs3
  go_wp2_with (refine wpList_load_row rfl 43 _ rfl w.heap.size rfl 43 (nowA f c) (0, 0) _ HN3.out Try.underlying43 rfl (size_now f c) ?_)
  refine (valid_any f c _ HS3.out (by have := HLE.out; omega)).mono ?_
  rw [hv]
  rintro e w4 ⟨rfl, hb4⟩
  have HB4 := Hid.mk (HB2.out.trans (hb4.mono HB2.out.size))
  have hS4 := HS3.out.grown hb4
  have c24 : w4.cell? ⟨w.heap.size, 24, none⟩ = some (.int .i64 c) := cell_at ((hb4.block _ (Array.getElem?_eq_some_iff.1 HN3.out).1).trans HN3.out) (nowA_clock f c)
  have d0 := hS4.c0
  have f0 := hS4.fz 0
  have HS4 := Hid.mk hS4
  clear hb4 hS4 c0 hd hlt hv
  go_upto_region 11 with fail
  obtain ⟨X, hX⟩ : ∃ X, X = w4.setCell ⟨b, 0, none⟩ (.int .i64 c) := ⟨_, rfl⟩
  obtain ⟨R1, R2⟩ := HS4.out.stamp c
  rw [← hX] at R1 R2 ⊢
  have HX := Hid.mk hX
  have HSX := Hid.mk R1
  have HWX : Hid (Wrote (Foot b [v]) (Foot b [v]) w X) := Hid.mk ((Wrote.of_below HB4.out).trans R2)
  have c1 := R1.c1
  have f1 := R1.fz 1
  have hlt5 := R1.lt
  have ag := R1.own_b
  have hown := R1.owns
  have hle := HLE.out
  obtain ⟨i0, hi, hz0, hz1, hz2⟩ := info_parts Try.info54
  have HNW := Hid.mk (World.news_of_block (heap_new X (.cells #[.int .i64 k, .int .i64 i, .int .i64 V] 54)))
  clear hX R1 R2 c24 d0 f0
  go_wp2_with ((refine wpList_append_lies _ rfl _ _ _ rfl 0 54 i0 _ 3 24 Try.underlying63 hi hz0 hz1 hz2 rfl (by decide) v E.length (enC E) rfl (hown.alloc _) ⟨X.heap.size, 0, none⟩ 1 1 [.int .i64 k, .int .i64 i, .int .i64 V] rfl rfl HNW.out (by simp [Value.oneCell']) (by decide) (by unfold maxLen; omega) (by omega) (Nat.zero_le _) (X.heap.size + 1) (by simp) ?_; intro gg cap w5 hown1 hgrow hat hlt2; have c5 : w5.cell? ⟨b, 1, none⟩ = some v := (hgrow.cell_far ⟨b, 1, none⟩ (by simp; omega) (Ne.symm ag)).trans (by simp [World.cell?_alloc_some, c1]); have f5 : w5.frozen? ⟨b, 1, none⟩ = false := (hgrow.frozen_far ⟨b, 1, none⟩ (by simp; omega) (Ne.symm ag)).trans (by simp [World.frozen?_alloc_past, hlt5, f1])))
  have HOWN := Hid.mk hown1
  have HG := Hid.mk hgrow
  have HAT := Hid.mk hat
  clear hown1 hgrow hat hlt2 c5 f5 hown hz0 hz1 hz2 hi c1 f1 ag
  go_ret
  obtain ⟨R1, R2⟩ := HSX.out.more (k, i, V) HOWN.out ((Below.refl _ _).alloc (Nat.le_refl _) _) HG.out (by rcases HAT.out with e | e; exact .inl e; exact .inr (by omega))
  exact ⟨rfl, _, R1, HWX.out.trans R2⟩

set_option maxRecDepth 100000 in
/-- Note, whatever was read. -/
theorem note_any (f : Nat → Int) (c k i : Int) (h : SetAt w b v st E) (hE : E.length ≤ 100000) :
    Calls Try.prog 10 #[.pointer (some ⟨b, 0, none⟩), .agg (nowA f c), .int .i64 k, .int .i64 i] w fun e w' => e = .returned (.bool (noteB (ofF f) st E k i)) ∧
      ∃ v', SetAt w' b v' (noteT (ofF f) c st E k i) (noteE (ofF f) st E k i) ∧ Wrote (Foot b [v]) (Foot b [v']) w w' := by
  unfold noteB noteT noteE
  cases hf : findE E k i with
  | some e0 =>
    refine (note_old f c k i e0 h hE hf).mono fun e w' ⟨he, hb⟩ => ⟨?_, v, h.grown hb, .of_below hb⟩
    rw [he]
    rfl
  | none =>
    by_cases hlt : st < ofF f k i
    · rw [if_pos hlt, if_pos hlt, if_pos hlt]
      cases hv : validB (ofF f) E with
      | true => exact note_late f c k i h hE hf hlt hv
      | false =>
        refine (note_bad f c k i h hE hf hlt hv).mono fun e w' ⟨he, hb⟩ => ⟨he, v, ?_, .of_below hb⟩
        exact h.grown hb
    · rw [if_neg hlt, if_neg hlt, if_neg hlt]
      exact note_new f c k i h hE hf hlt

end

end Go.Proofs.Ytafpfioonbdgnaa.Rds
