/-
  A draft in memory (things: file.File), and the walks of Put, Get and Len.
-/
import Derived.Test.YtdngehfebmaegaaDfInsF
namespace Go.Proofs.Ytdngehfebmaegaa.Dft.F
open Go.RowKit Go.Proofs.Ytdngehfebmaegaa.Cel

/-- A draft, in block b: v is its slice, R what was written. -/
structure DraftAt (w : World) (b : Nat) (v : Value) (R : List (Int × (Bool × ByteArray))) : Prop where
  at_ : w.heap[b]? = some (.cells #[v] 79 (0, 0))
  owns : w.ownsRow 0 77 3 v R.length (enC R)
  up : Rises R

section
variable {w w' : World} {b : Nat} {v : Value} {R : List (Int × (Bool × ByteArray))}

theorem DraftAt.lt (h : DraftAt w b v R) : b < w.heap.size := (Array.getElem?_eq_some_iff.1 h.at_).1
theorem DraftAt.own_lt (h : DraftAt w b v R) : ∀ k, v.ownBlock = some k → k < w.heap.size := fun k hk => (h.owns.lt k hk).2
theorem DraftAt.foot_lt (h : DraftAt w b v R) : ∀ k, Foot b [v] k → k < w.heap.size := fun k hk => by
  rcases hk with e | ⟨x, hx, e⟩
  · rw [e]; exact h.lt
  · simp at hx; subst hx; exact h.own_lt k e
theorem DraftAt.c0 (h : DraftAt w b v R) : w.cell? ⟨b, 0, none⟩ = some v := cell_at h.at_ rfl
theorem DraftAt.fz (h : DraftAt w b v R) (i : Nat) : w.frozen? ⟨b, i, none⟩ = false := free_at h.at_
theorem DraftAt.keep (h : DraftAt w b v R) (hk : ∀ k, Foot b [v] k → w'.heap[k]? = w.heap[k]?) : DraftAt w' b v R :=
  ⟨(hk b (.inl rfl)).trans h.at_, ownsRow_carry h.owns fun k e => hk k (.inr ⟨v, by simp, e⟩), h.up⟩
theorem DraftAt.grown (h : DraftAt w b v R) (hb : Below w.heap.size w w') : DraftAt w' b v R := h.keep fun k hk => hb.block k (h.foot_lt k hk)
theorem DraftAt.own_b (h : DraftAt w b v R) : v.ownBlock ≠ some b := fun e => by
  obtain ⟨cs, hc⟩ := own_at h.owns e
  exact block_ne hc h.at_ (by decide) rfl

/-- An empty one. -/
theorem DraftAt.made (w : World) : DraftAt (w.alloc (.cells #[.slice none 0 0] 79)) w.heap.size (.slice none 0 0) [] :=
  ⟨heap_new _ _, World.ownsRow_nil _ _ _ _, rises_nil⟩

/-- Another value. -/
theorem DraftAt.changed {g cap : Nat} (h : DraftAt w b (.slice (some ⟨g, 0, none⟩) R.length cap) R) (p : Nat) (hp : p < R.length) (i : Int) (hi : R[p]!.1 = i) (x : (Bool × ByteArray)) (hup : Rises (R.set p (i, x))) :
    DraftAt ((w.setCell ⟨g, p * 3 + 1, none⟩ (.bool x.1)).setCell ⟨g, p * 3 + 2, none⟩ (.string x.2)) b (.slice (some ⟨g, 0, none⟩) R.length cap) (R.set p (i, x)) ∧
      Wrote (Foot b [.slice (some ⟨g, 0, none⟩) R.length cap]) (Foot b [.slice (some ⟨g, 0, none⟩) R.length cap]) w ((w.setCell ⟨g, p * 3 + 1, none⟩ (.bool x.1)).setCell ⟨g, p * 3 + 2, none⟩ (.string x.2)) := by
  have hgb : g ≠ b := fun e => h.own_b (by rw [e]; rfl)
  refine ⟨⟨?_, ?_, hup⟩, ?_⟩
  · rw [Below.heap_setCell _ _ _ _ (Ne.symm hgb), Below.heap_setCell _ _ _ _ (Ne.symm hgb)]; exact h.at_
  · have hl : (R.set p (i, x)).length = R.length := List.length_set
    rw [hl]
    refine ⟨by rw [enC_length, hl], .inr ?_⟩
    rcases h.owns.2 with ⟨e, _⟩ | ⟨g', cap', cur, e, hb, hg, hnc, hcm, hcs, ht⟩
    · injection e with e _ _; cases e
    · injection e with e1 _ e3
      injection e1 with e1
      injection e1 with e1 _
      subst e1 e3
      refine ⟨g, cap, _, rfl, hb, heap_set _ (heap_set _ hg), hnc, hcm, by simpa using hcs, ?_⟩
      rw [← hi, ← enC_set R x p hp, ← ht, Array.toList_setIfInBounds, Array.toList_setIfInBounds, List.take_set, List.take_set]
  · have hne : ∀ k, ¬ Foot b [.slice (some ⟨g, 0, none⟩) R.length cap] k → k ≠ g := fun k hf e => hf (.inr ⟨_, List.mem_cons_self, congrArg some (Eq.symm e)⟩)
    have one : ∀ (W : World) (a : Nat) (u : Value), Wrote (Foot b [.slice (some ⟨g, 0, none⟩) R.length cap]) (Foot b [.slice (some ⟨g, 0, none⟩) R.length cap]) W (W.setCell ⟨g, a, none⟩ u) := fun W a u =>
      ⟨rfl, rfl, rfl, by simp [World.setCell], fun k _ hf => Below.heap_setCell _ _ _ _ (hne k hf), fun _ h => .inl h⟩
    exact (one w _ _).trans (one _ _ _)

/-- One more. -/
theorem DraftAt.more {w1 w2 : World} {g cap n : Nat} {R' : List (Int × (Bool × ByteArray))} (h : DraftAt w b v R) (hn : n = R'.length) (hown : w2.ownsRow 0 77 3 (.slice (some ⟨g, 0, none⟩) n cap) n (enC R')) (hup : Rises R')
    (hw1 : Below w.heap.size w w1) (hgrow : w1.grownBy w2 v.ownBlock) (hat : v.ownBlock = some g ∨ w.heap.size ≤ g) :
    DraftAt (w2.setCell ⟨b, 0, none⟩ (.slice (some ⟨g, 0, none⟩) n cap)) b (.slice (some ⟨g, 0, none⟩) n cap) R' ∧
      Wrote (Foot b [v]) (Foot b [.slice (some ⟨g, 0, none⟩) n cap]) w (w2.setCell ⟨b, 0, none⟩ (.slice (some ⟨g, 0, none⟩) n cap)) := by
  subst hn
  have hlt := h.lt
  have hsz := hw1.size
  have hb2 : w2.heap[b]? = some (.cells #[v] 79 (0, 0)) := by
    rw [hgrow.block b (by omega) (fun e => h.own_b e.symm), hw1.block b hlt]
    exact h.at_
  have hgb : g ≠ b := by
    rcases hat with e | e
    · exact fun e' => h.own_b (by rw [e, e'])
    · omega
  have hs2 := hgrow.size
  refine ⟨⟨?_, ?_, hup⟩, ?_, ?_, ?_, ?_, fun k hk hf => ?_, fun k hk => ?_⟩
  · rw [heap_set _ hb2]
    simp
  · exact ownsRow_carry hown fun k hk => by
      simp [Value.ownBlock] at hk
      subst hk
      exact Below.heap_setCell _ _ _ _ hgb
  · exact hgrow.os.trans hw1.os
  · exact hgrow.tape.trans hw1.tape
  · exact hgrow.output.trans hw1.output
  · simp [World.setCell]; omega
  · rw [Below.heap_setCell _ _ _ _ (fun e => hf (.inl e)), hgrow.block k (by omega) (fun e => hf (.inr ⟨v, by simp, e.symm⟩))]
    exact hw1.block k hk
  · rcases hk with e | ⟨x, hx, e⟩
    · exact .inl (.inl e)
    · simp at hx
      subst hx
      simp [Value.ownBlock] at e
      subst e
      rcases hat with e | e
      · exact .inl (.inr ⟨v, by simp, e⟩)
      · exact .inr e

/-! ### The walks -/

set_option maxHeartbeats 1000000 in
set_option maxRecDepth 100000 in
theorem find_yes (h : DraftAt w b v R) (hs : R.length ≤ 1000000) (i : Int) :
    Calls Try.prog 57 #[.pointer (some ⟨b, 0, none⟩), .int .i64 i] w fun e w' =>
      (∃ p, Stands (·.1) R i p ∧ e = .returned (.tuple #[.int .i64 (p : Nat), .bool (decide (p < R.length ∧ R[p]!.1 = i))])) ∧ Below w.heap.size w w' := by
  have c0 := h.c0
  have HD := Hid.mk h
  clear h
  go_enter Try.func57, Try.ntmps57
  go_wp2_with fail
  refine (search_any i _ HD.out.owns HD.out.up hs).mono ?_
  rintro e w1 ⟨⟨p, hp, rfl⟩, hb1⟩
  have HP := Hid.mk hp
  have HB := Hid.mk hb1
  clear hp hb1
  obtain ⟨t, ht⟩ : ∃ t, t = decide (p < R.length ∧ R[p]!.1 = i) := ⟨_, rfl⟩
  have HT := Hid.mk ht
  rw [← ht]
  clear ht
  go_wp2
  go_ret2
  exact ⟨⟨p, HP.out, by rw [← HT.out]; rfl⟩, HB.out⟩

set_option maxHeartbeats 400000 in
set_option maxRecDepth 100000 in
theorem find_nil (i : Int) (w : World) : Calls Try.prog 57 #[.pointer none, .int .i64 i] w fun e w' => e = .returned (.tuple #[.int .i64 0, .bool false]) ∧ w' = w := by
  go_enter Try.func57, Try.ntmps57
  go_wp2
  go_ret2
  exact ⟨rfl, rfl⟩

set_option maxHeartbeats 400000 in
set_option maxRecDepth 100000 in
theorem len_yes (h : DraftAt w b v R) :
    Calls Try.prog 15 #[.pointer (some ⟨b, 0, none⟩)] w fun e w' => e = .returned (.int .i64 (R.length : Nat)) ∧ w' = w := by
  have c0 := h.c0
  obtain ⟨va, vc, rfl⟩ := row_shape h.owns
  clear h
  go_enter Try.func15, Try.ntmps15
  go_wp2
  go_ret
  exact ⟨rfl, rfl⟩

set_option maxHeartbeats 400000 in
set_option maxRecDepth 100000 in
theorem len_nil (w : World) : Calls Try.prog 15 #[.pointer none] w fun e w' => e = .returned (.int .i64 0) ∧ w' = w := by
  go_enter Try.func15, Try.ntmps15
  go_wp2
  go_ret
  exact ⟨rfl, rfl⟩

/-- No file. -/
abbrev noFile : Bool × ByteArray := (false, ⟨#[]⟩)

/-- A new file's box. -/
theorem box_new (w : World) (x : Bool) (y : ByteArray) :
    let w0 := w.alloc (.cells #[.bool x, .string y] 23)
    w0.heap[w.heap.size]? = some (.cells #[.bool x, .string y] 23 (0, 0)) ∧ w0.heap.size = w.heap.size + 1 ∧ Below w.heap.size w w0 :=
  ⟨heap_new w _, by simp, (Below.refl _ w).alloc (Nat.le_refl _) _⟩

set_option maxHeartbeats 1000000 in
set_option maxRecDepth 100000 in
theorem get_yes (h : DraftAt w b v R) (hs : R.length ≤ 1000000) (i : Int) :
    Calls Try.prog 36 #[.pointer (some ⟨b, 0, none⟩), .int .i64 i] w fun e w' =>
      e = .returned (.tuple #[.agg #[.bool ((look R i).getD noFile).1, .string ((look R i).getD noFile).2], .bool (look R i).isSome]) ∧ Below w.heap.size w w' := by
  obtain ⟨hn0, hz0, hb0⟩ := box_new w false ⟨#[]⟩
  have HD := Hid.mk (h.grown hb0)
  have HN := Hid.mk hn0
  have HZ := Hid.mk hz0
  have HB0 := Hid.mk hb0
  clear h hn0 hz0 hb0
  go_enter Try.func36, Try.ntmps36
  go_wp2_with fail
  refine (find_yes HD.out hs i).mono ?_
  rintro e w1 ⟨⟨p, hp, rfl⟩, hb1⟩
  have HP := Hid.mk hp
  have hN : w1.heap[w.heap.size]? = some (.cells #[.bool false, .string ⟨#[]⟩] 23 (0, 0)) := (hb1.block w.heap.size (by rw [HZ.out]; omega)).trans HN.out
  have HB := Hid.mk (HB0.out.trans (hb1.mono (by rw [HZ.out]; omega)))
  have d0 : w1.cell? ⟨w.heap.size, 0, none⟩ = some (.bool false) := cell_at hN rfl
  have d1 : w1.cell? ⟨w.heap.size, 1, none⟩ = some (.string ⟨#[]⟩) := cell_at hN rfl
  have f0 : w1.frozen? ⟨w.heap.size, 0, none⟩ = false := free_at hN
  have f1 : w1.frozen? ⟨w.heap.size, 1, none⟩ = false := free_at hN
  by_cases hf : p < R.length ∧ R[p]!.1 = i
  · rw [decide_eq_true hf]
    have hl : look R i = some R[p]!.2 := look_yes hp hf.1 hf.2
    have h1 := HD.out.grown hb1
    obtain ⟨g, cap, rfl⟩ := row_full h1.owns (by omega)
    have c0 := h1.c0
    obtain ⟨x0, x1, x2⟩ := row_en h1.owns p hf.1
    obtain ⟨y, hy⟩ : ∃ y, y = R[p]!.2 := ⟨_, rfl⟩
    rw [← hy] at x1 x2 hl
    obtain ⟨y1, y2⟩ := y
    obtain ⟨N, hN'⟩ : ∃ N, N = R.length := ⟨_, rfl⟩
    rw [← hN'] at c0 hf hs
    have hpN := hf.1
    have HL := Hid.mk hl
    clear hl hf h1 hN' hp hb1 hy x0 hN
    go_wp2
    refine bodyPost_ret (v := .tuple #[.agg #[.bool y1, .string y2], .bool true]) ?_ rfl ⟨by rw [HL.out]; rfl, ?_⟩
    · simp [results, Try.f36, go_sem, d0, d1]
    · exact (HB.out.setCell (by simp) _).setCell (by simp) _
  · rw [decide_eq_false hf]
    have HL : Hid (look R i = none) := look_no hp HD.out.up hf
    have hlt := (Array.getElem?_eq_some_iff.1 hN).1
    have hN2 : (w1.alloc (.cells #[.bool false, .string ⟨#[]⟩] 23)).heap[w.heap.size]? = some (.cells #[.bool false, .string ⟨#[]⟩] 23 (0, 0)) := (Below.heap_alloc _ _ _ hlt).trans hN
    have e0 : (w1.alloc (.cells #[.bool false, .string ⟨#[]⟩] 23)).cell? ⟨w.heap.size, 0, none⟩ = some (.bool false) := cell_at hN2 rfl
    have e1 : (w1.alloc (.cells #[.bool false, .string ⟨#[]⟩] 23)).cell? ⟨w.heap.size, 1, none⟩ = some (.string ⟨#[]⟩) := cell_at hN2 rfl
    have g0 : (w1.alloc (.cells #[.bool false, .string ⟨#[]⟩] 23)).frozen? ⟨w.heap.size, 0, none⟩ = false := free_at hN2
    have g1 : (w1.alloc (.cells #[.bool false, .string ⟨#[]⟩] 23)).frozen? ⟨w.heap.size, 1, none⟩ = false := free_at hN2
    have HB2 := Hid.mk (HB.out.alloc HB.out.size (.cells #[.bool false, .string ⟨#[]⟩] 23))
    clear hf hp hb1 hN hN2 hlt
    go_wp2
    refine bodyPost_ret (v := .tuple #[.agg #[.bool false, .string ⟨#[]⟩], .bool false]) ?_ rfl ⟨by rw [HL.out]; rfl, ?_⟩
    · simp [results, Try.f36, go_sem, e0, e1]
    · exact (HB2.out.setCell (by simp) _).setCell (by simp) _

set_option maxHeartbeats 400000 in
set_option maxRecDepth 100000 in
theorem get_nil (i : Int) (w : World) : Calls Try.prog 36 #[.pointer none, .int .i64 i] w fun e w' => e = .returned (.tuple #[.agg #[.bool false, .string ⟨#[]⟩], .bool false]) ∧ Below w.heap.size w w' := by
  obtain ⟨hn0, hz0, hb0⟩ := box_new w false ⟨#[]⟩
  obtain ⟨w0, hw0⟩ : ∃ z, z = w.alloc (.cells #[.bool false, .string ⟨#[]⟩] 23) := ⟨_, rfl⟩
  rw [← hw0] at hn0 hz0 hb0
  have hlt : w.heap.size < w0.heap.size := by omega
  have HB := Hid.mk (hb0.alloc hb0.size (.cells #[.bool false, .string ⟨#[]⟩] 23))
  have hN2 : (w0.alloc (.cells #[.bool false, .string ⟨#[]⟩] 23)).heap[w.heap.size]? = some (.cells #[.bool false, .string ⟨#[]⟩] 23 (0, 0)) := (Below.heap_alloc _ _ _ hlt).trans hn0
  have e0 : (w0.alloc (.cells #[.bool false, .string ⟨#[]⟩] 23)).cell? ⟨w.heap.size, 0, none⟩ = some (.bool false) := cell_at hN2 rfl
  have e1 : (w0.alloc (.cells #[.bool false, .string ⟨#[]⟩] 23)).cell? ⟨w.heap.size, 1, none⟩ = some (.string ⟨#[]⟩) := cell_at hN2 rfl
  have g0 : (w0.alloc (.cells #[.bool false, .string ⟨#[]⟩] 23)).frozen? ⟨w.heap.size, 0, none⟩ = false := free_at hN2
  have g1 : (w0.alloc (.cells #[.bool false, .string ⟨#[]⟩] 23)).frozen? ⟨w.heap.size, 1, none⟩ = false := free_at hN2
  clear hn0 hz0 hb0 hN2 hlt
  go_enter Try.func36, Try.ntmps36
  go_wp2_with fail
  rw [← hw0]
  refine (find_nil i _).mono ?_
  rintro e w1 ⟨rfl, hw1⟩
  rw [hw1]
  clear hw1 w1 hw0
  go_wp2
  refine bodyPost_ret (v := .tuple #[.agg #[.bool false, .string ⟨#[]⟩], .bool false]) ?_ rfl ⟨rfl, ?_⟩
  · simp [results, Try.f36, go_sem, e0, e1]
  · exact (HB.out.setCell (by simp) _).setCell (by simp) _

set_option maxHeartbeats 2000000 in
set_option maxRecDepth 100000 in
theorem put_any (h : DraftAt w b v R) (hs : R.length ≤ 1000000) (i : Int) (x : (Bool × ByteArray)) :
    Calls Try.prog 59 #[.pointer (some ⟨b, 0, none⟩), .int .i64 i, .agg #[.bool x.1, .string x.2]] w fun e w' =>
      e = .returned (.bool true) ∧ ∃ v', DraftAt w' b v' (put R i x) ∧ Wrote (Foot b [v]) (Foot b [v']) w w' := by
  obtain ⟨q, y⟩ := x
  dsimp only
  obtain ⟨hn0, hz0, hb0⟩ := box_new w q y
  have HD := Hid.mk h
  have HD0 := Hid.mk (h.grown hb0)
  have HN := Hid.mk hn0
  have HZ := Hid.mk hz0
  have HB0 := Hid.mk hb0
  have HLB := Hid.mk h.lt
  have HFT := Hid.mk h.own_lt
  clear h hn0 hz0 hb0
  go_enter Try.func59, Try.ntmps59
  go_wp2_with fail
  refine (find_yes HD0.out hs i).mono ?_
  rintro e w1 ⟨⟨p, hp, rfl⟩, hb1⟩
  have h1 := HD0.out.grown hb1
  have HD1 := Hid.mk h1
  have hN : w1.heap[w.heap.size]? = some (.cells #[.bool q, .string y] 23 (0, 0)) := (hb1.block w.heap.size (by rw [HZ.out]; omega)).trans HN.out
  have HB := Hid.mk (HB0.out.trans (hb1.mono (by rw [HZ.out]; omega)))
  have d0 : w1.cell? ⟨w.heap.size, 0, none⟩ = some (.bool q) := cell_at hN rfl
  have d1 : w1.cell? ⟨w.heap.size, 1, none⟩ = some (.string y) := cell_at hN rfl
  have HNN := Hid.mk hN
  have c0 := h1.c0
  have f0 := h1.fz 0
  by_cases hf : p < R.length ∧ R[p]!.1 = i
  · rw [decide_eq_true hf]
    have HE : Hid (put R i (q, y) = R.set p (i, (q, y))) := put_yes hp HD.out.up hf.1 hf.2 (q, y)
    have HF := Hid.mk hf
    obtain ⟨g, cap, rfl⟩ := row_full h1.owns (by omega)
    obtain ⟨x0, x1, x2⟩ := row_en h1.owns p hf.1
    have fg1 := h1.owns.frozenAt (p * 3 + 1)
    have fg2 := h1.owns.frozenAt (p * 3 + 2)
    obtain ⟨y1, hy1⟩ : ∃ y, y = R[p]!.2.1 := ⟨_, rfl⟩
    obtain ⟨y2, hy2⟩ : ∃ y, y = R[p]!.2.2 := ⟨_, rfl⟩
    rw [← hy1] at x1
    rw [← hy2] at x2
    obtain ⟨N, hN'⟩ : ∃ N, N = R.length := ⟨_, rfl⟩
    rw [← hN'] at c0 hf hs
    have hpN := hf.1
    have HN' := Hid.mk hN'
    clear hf h1 hN' hp hb1 hy1 hy2 x0 hN
    go_wp2_with fail
    go_big_region
    all_goals
      go_wp2
      go_ret
      have hk := (HD1.out.grown (Below.refl _ w1).drew).changed p HF.out.1 i HF.out.2 (q, y) (by rw [← HE.out]; exact rises_put HD.out.up i (q, y))
      refine ⟨rfl, _, by rw [HE.out]; exact hk.1, ?_⟩
      exact ((Wrote.of_below HB.out).trans (Wrote.of_below (Below.refl _ _).drew)).trans hk.2
  · rw [decide_eq_false hf]
    have HE : Hid (put R i (q, y) = R.take p ++ (i, (q, y)) :: R.drop p) := put_no hp HD.out.up hf (q, y)
    have HP := Hid.mk hp
    have hz1 := HB.out.size
    have h2 := HD1.out.grown ((Below.refl _ w1).alloc (Nat.le_refl _) (.cells #[.int .i64 i, .bool q, .string y] 77)).drew
    have hins := insert_any p i (q, y) w1.heap.size _ hp.le hs h2.owns (heap_new _ _) (fun e => by have := HFT.out _ e; have : w1.heap.size < w.heap.size := this; omega)
    have HINS := Hid.mk hins
    have hbw : Below w.heap.size w (w1.alloc (.cells #[.int .i64 i, .bool q, .string y] 77)).drew := (HB.out.alloc hz1 _).drew
    have HBW := Hid.mk hbw
    have ca : (w1.alloc (.cells #[.int .i64 i, .bool q, .string y] 77)).cell? ⟨b, 0, none⟩ = some v := (((Below.refl _ w1).alloc (Nat.le_refl _) _).cell (p := ⟨b, 0, none⟩) (World.block_lt_of_cell? w1 _ c0)).trans c0
    have H2 := Hid.mk h2
    clear hf h1 hp hb1 hN h2 hins hbw
    go_wp2_with fail
    go_region_with ((go_at_call 67; refine HINS.out.mono ?_; rintro e w3 ⟨g, cap, rfl, hown, hgrow, hat⟩; have hb3 : w3.heap[b]? = some (.cells #[v] 79 (0, 0)) := (by rw [hgrow.block b (by have := HBW.out.size; have := HLB.out; omega) (fun e => HD.out.own_b e.symm)]; exact H2.out.at_); have c3 := cell_at (i := 0) hb3 rfl; have f3 := free_at (i := 0) hb3))
    all_goals
      have hat2 : v.ownBlock = some g ∨ w.heap.size ≤ g := hat.imp_right (fun h => by have := HBW.out.size; omega)
      rw [← HE.out] at hown
      have hR : R.length + 1 = (put R i (q, y)).length := by rw [HE.out]; have := HP.out.le; simp; omega
      have HK := Hid.mk (HD.out.more hR hown (rises_put HD.out.up i (q, y)) HBW.out hgrow hat2)
      clear hR hown hgrow hat hat2 hb3 c0 f0
      go_wp2
      go_ret
      exact ⟨rfl, _, HK.out.1, HK.out.2⟩

end

end Go.Proofs.Ytdngehfebmaegaa.Dft.F
