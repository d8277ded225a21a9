/-
  A draft in memory (things: int), and the walks of Put, Get and Len.
-/
import Derived.Test.YtocdnlnhjfigjaaDfInsI
namespace Go.Proofs.Ytocdnlnhjfigjaa.Dft.I
open Go.RowKit Go.Proofs.Ytocdnlnhjfigjaa.Cel

/-- A draft, in block b: v is its slice, R what was written. -/
structure DraftAt (w : World) (b : Nat) (v : Value) (R : List (Int × Int)) : Prop where
  at_ : w.heap[b]? = some (.cells #[v] 27 (0, 0))
  owns : w.ownsRow 0 51 2 v R.length (enC R)
  up : Rises R

section
variable {w w' : World} {b : Nat} {v : Value} {R : List (Int × Int)}

theorem DraftAt.lt (h : DraftAt w b v R) : b < w.heap.size := (Array.getElem?_eq_some_iff.1 h.at_).1
theorem DraftAt.own_lt (h : DraftAt w b v R) : ∀ k, v.ownBlock = some k → k < w.heap.size := fun k hk => (h.owns.lt k hk).2
theorem DraftAt.foot_lt (h : DraftAt w b v R) : ∀ k, Foot b [v] k → k < w.heap.size := fun k hk => by
  rcases hk with e | ⟨x, hx, e⟩
  · rw [e]; exact h.lt
  · simp at hx; subst hx; exact h.own_lt k e
theorem DraftAt.c0 (h : DraftAt w b v R) : w.cell? ⟨b, 0, none⟩ = some v := cell_at h.at_ rfl
theorem DraftAt.fz (h : DraftAt w b v R) (i : Nat) : w.frozen? ⟨b, i, none⟩ = false := free_at h.at_
theorem DraftAt.keep (h : DraftAt w b v R) (hk : ∀ k, Foot b [v] k → w'.heap[k]? = w.heap[k]?) : DraftAt w' b v R :=
  ⟨(hk b (.inl rfl)).trans h.at_, ownsRow_carry h.owns fun k e => hk k (.inr ⟨v, by simp, e⟩), h.up⟩
theorem DraftAt.grown (h : DraftAt w b v R) (hb : Below w.heap.size w w') : DraftAt w' b v R := h.keep fun k hk => hb.block k (h.foot_lt k hk)
theorem DraftAt.own_b (h : DraftAt w b v R) : v.ownBlock ≠ some b := fun e => by
  obtain ⟨cs, hc⟩ := own_at h.owns e
  exact block_ne hc h.at_ (by decide) rfl

/-- An empty one. -/
theorem DraftAt.made (w : World) : DraftAt (w.alloc (.cells #[.slice none 0 0] 27)) w.heap.size (.slice none 0 0) [] :=
  ⟨heap_new _ _, World.ownsRow_nil _ _ _ _, rises_nil⟩

/-- Another value. -/
theorem DraftAt.changed {g cap : Nat} (h : DraftAt w b (.slice (some ⟨g, 0, none⟩) R.length cap) R) (p : Nat) (hp : p < R.length) (i : Int) (hi : R[p]!.1 = i) (x : Int) (hup : Rises (R.set p (i, x))) :
    DraftAt (w.setCell ⟨g, p * 2 + 1, none⟩ (.int .i64 (x))) b (.slice (some ⟨g, 0, none⟩) R.length cap) (R.set p (i, x)) ∧
      Wrote (Foot b [.slice (some ⟨g, 0, none⟩) R.length cap]) (Foot b [.slice (some ⟨g, 0, none⟩) R.length cap]) w (w.setCell ⟨g, p * 2 + 1, none⟩ (.int .i64 (x))) := by
  have hgb : g ≠ b := fun e => h.own_b (by rw [e]; rfl)
  have hlt : p * 2 + 1 < (enC R).length := by rw [enC_length]; omega
  refine ⟨⟨?_, ?_, hup⟩, ?_⟩
  · rw [Below.heap_setCell _ _ _ _ (Ne.symm hgb)]; exact h.at_
  · have hl : (R.set p (i, x)).length = R.length := List.length_set
    rw [hl]
    refine ⟨by rw [enC_length, hl], .inr ?_⟩
    rcases h.owns.2 with ⟨e, _⟩ | ⟨g', cap', cur, e, hb, hg, hnc, hcm, hcs, ht⟩
    · injection e with e _ _; cases e
    · injection e with e1 _ e3
      injection e1 with e1
      injection e1 with e1 _
      subst e1 e3
      refine ⟨g, cap, _, rfl, hb, heap_set _ hg, hnc, hcm, by simpa using hcs, ?_⟩
      rw [← hi, ← enC_set R x p hp, ← ht, Array.toList_setIfInBounds, List.take_set]
  · refine ⟨rfl, rfl, rfl, by simp [World.setCell], fun k hk hf => Below.heap_setCell _ _ _ _ (fun e => hf (.inr ⟨_, List.mem_cons_self, congrArg some (Eq.symm e)⟩)), fun _ h => .inl h⟩

/-- One more. -/
theorem DraftAt.more {w1 w2 : World} {g cap n : Nat} {R' : List (Int × Int)} (h : DraftAt w b v R) (hn : n = R'.length) (hown : w2.ownsRow 0 51 2 (.slice (some ⟨g, 0, none⟩) n cap) n (enC R')) (hup : Rises R')
    (hw1 : Below w.heap.size w w1) (hgrow : w1.grownBy w2 v.ownBlock) (hat : v.ownBlock = some g ∨ w.heap.size ≤ g) :
    DraftAt (w2.setCell ⟨b, 0, none⟩ (.slice (some ⟨g, 0, none⟩) n cap)) b (.slice (some ⟨g, 0, none⟩) n cap) R' ∧
      Wrote (Foot b [v]) (Foot b [.slice (some ⟨g, 0, none⟩) n cap]) w (w2.setCell ⟨b, 0, none⟩ (.slice (some ⟨g, 0, none⟩) n cap)) := by
  subst hn
  have hlt := h.lt
  have hsz := hw1.size
  have hb2 : w2.heap[b]? = some (.cells #[v] 27 (0, 0)) := by
    rw [hgrow.block b (by omega) (fun e => h.own_b e.symm), hw1.block b hlt]
    exact h.at_
  have hgb : g ≠ b := by
    rcases hat with e | e
    · exact fun e' => h.own_b (by rw [e, e'])
    · omega
  have hs2 := hgrow.size
  refine ⟨⟨?_, ?_, hup⟩, ?_, ?_, ?_, ?_, fun k hk hf => ?_, fun k hk => ?_⟩
  · rw [heap_set _ hb2]
    simp
  · exact ownsRow_carry hown fun k hk => by
      simp [Value.ownBlock] at hk
      subst hk
      exact Below.heap_setCell _ _ _ _ hgb
  · exact hgrow.os.trans hw1.os
  · exact hgrow.tape.trans hw1.tape
  · exact hgrow.output.trans hw1.output
  · simp [World.setCell]; omega
  · rw [Below.heap_setCell _ _ _ _ (fun e => hf (.inl e)), hgrow.block k (by omega) (fun e => hf (.inr ⟨v, by simp, e.symm⟩))]
    exact hw1.block k hk
  · rcases hk with e | ⟨x, hx, e⟩
    · exact .inl (.inl e)
    · simp at hx
      subst hx
      simp [Value.ownBlock] at e
      subst e
      rcases hat with e | e
      · exact .inl (.inr ⟨v, by simp, e⟩)
      · exact .inr e

/-! ### The walks -/

set_option maxHeartbeats 1000000 in
set_option maxRecDepth 100000 in
theorem find_yes (h : DraftAt w b v R) (hs : R.length ≤ 1000000) (i : Int) :
    Calls Try.prog 17 #[.pointer (some ⟨b, 0, none⟩), .int .i64 i] w fun e w' =>
      (∃ p, Stands (·.1) R i p ∧ e = .returned (.tuple #[.int .i64 (p : Nat), .bool (decide (p < R.length ∧ R[p]!.1 = i))])) ∧ Below w.heap.size w w' := by
  have c0 := h.c0
  have HD := Hid.mk h
  clear h
  go_enter Try.func17, Try.ntmps17
  go_wp2_with fail
  refine (search_any i _ HD.out.owns HD.out.up hs).mono ?_
  rintro e w1 ⟨⟨p, hp, rfl⟩, hb1⟩
  have HP := Hid.mk hp
  have HB := Hid.mk hb1
  clear hp hb1
  obtain ⟨t, ht⟩ : ∃ t, t = decide (p < R.length ∧ R[p]!.1 = i) := ⟨_, rfl⟩
  have HT := Hid.mk ht
  rw [← ht]
  clear ht
  go_wp2
  go_ret2
  exact ⟨⟨p, HP.out, by rw [← HT.out]; rfl⟩, HB.out⟩

set_option maxHeartbeats 400000 in
set_option maxRecDepth 100000 in
theorem find_nil (i : Int) (w : World) : Calls Try.prog 17 #[.pointer none, .int .i64 i] w fun e w' => e = .returned (.tuple #[.int .i64 0, .bool false]) ∧ w' = w := by
  go_enter Try.func17, Try.ntmps17
  go_wp2
  go_ret2
  exact ⟨rfl, rfl⟩

set_option maxHeartbeats 400000 in
set_option maxRecDepth 100000 in
theorem len_yes (h : DraftAt w b v R) :
    Calls Try.prog 12 #[.pointer (some ⟨b, 0, none⟩)] w fun e w' => e = .returned (.int .i64 (R.length : Nat)) ∧ w' = w := by
  have c0 := h.c0
  obtain ⟨va, vc, rfl⟩ := row_shape h.owns
  clear h
  go_enter Try.func12, Try.ntmps12
  go_wp2
  go_ret
  exact ⟨rfl, rfl⟩

set_option maxHeartbeats 400000 in
set_option maxRecDepth 100000 in
theorem len_nil (w : World) : Calls Try.prog 12 #[.pointer none] w fun e w' => e = .returned (.int .i64 0) ∧ w' = w := by
  go_enter Try.func12, Try.ntmps12
  go_wp2
  go_ret
  exact ⟨rfl, rfl⟩

set_option maxHeartbeats 1000000 in
set_option maxRecDepth 100000 in
theorem get_yes (h : DraftAt w b v R) (hs : R.length ≤ 1000000) (i : Int) :
    Calls Try.prog 8 #[.pointer (some ⟨b, 0, none⟩), .int .i64 i] w fun e w' =>
      e = .returned (.tuple #[(.int .i64 (((look R i).getD 0))), .bool (look R i).isSome]) ∧ Below w.heap.size w w' := by
  have HD := Hid.mk h
  clear h
  go_enter Try.func8, Try.ntmps8
  go_wp2_with fail
  refine (find_yes HD.out hs i).mono ?_
  rintro e w1 ⟨⟨p, hp, rfl⟩, hb1⟩
  have HP := Hid.mk hp
  have HB := Hid.mk hb1
  by_cases hf : p < R.length ∧ R[p]!.1 = i
  · rw [decide_eq_true hf]
    have hl : look R i = some R[p]!.2 := look_yes hp hf.1 hf.2
    have h1 := HD.out.grown hb1
    obtain ⟨g, cap, rfl⟩ := row_full h1.owns (by omega)
    have c0 := h1.c0
    obtain ⟨x0, x1⟩ := row_en h1.owns p hf.1
    obtain ⟨y1, hy1⟩ : ∃ y, y = R[p]!.2 := ⟨_, rfl⟩
    rw [← hy1] at x1 hl
    obtain ⟨N, hN⟩ : ∃ N, N = R.length := ⟨_, rfl⟩
    rw [← hN] at c0 hf hs
    have hpN := hf.1
    have HL := Hid.mk hl
    clear hl hf h1 hN hp hb1 hy1 x0
    go_wp2
    go_ret2
    exact ⟨by rw [HL.out]; rfl, HB.out⟩
  · rw [decide_eq_false hf]
    have HL : Hid (look R i = none) := look_no hp HD.out.up hf
    clear hf hp hb1
    go_wp2
    go_ret2
    exact ⟨by rw [HL.out]; rfl, HB.out⟩

set_option maxHeartbeats 400000 in
set_option maxRecDepth 100000 in
theorem get_nil (i : Int) (w : World) : Calls Try.prog 8 #[.pointer none, .int .i64 i] w fun e w' => e = .returned (.tuple #[(.int .i64 0), .bool false]) ∧ w' = w := by
  go_enter Try.func8, Try.ntmps8
  go_wp2_with fail
  refine (find_nil i _).mono ?_
  rintro e w1 ⟨rfl, rfl⟩
  go_wp2
  go_ret2
  exact ⟨rfl, rfl⟩

set_option maxHeartbeats 400000 in
set_option maxRecDepth 100000 in
theorem put_nil (i : Int) (x : Int) (w : World) : Calls Try.prog 7 #[.pointer none, .int .i64 i, (.int .i64 (x))] w fun e w' => e = .returned (.bool false) ∧ w' = w := by
  go_enter Try.func7, Try.ntmps7
  go_wp2
  go_ret
  exact ⟨rfl, rfl⟩

set_option maxHeartbeats 2000000 in
set_option maxRecDepth 100000 in
theorem put_any (h : DraftAt w b v R) (hs : R.length ≤ 1000000) (i : Int) (x : Int) :
    Calls Try.prog 7 #[.pointer (some ⟨b, 0, none⟩), .int .i64 i, (.int .i64 (x))] w fun e w' =>
      e = .returned (.bool true) ∧ ∃ v', DraftAt w' b v' (put R i x) ∧ Wrote (Foot b [v]) (Foot b [v']) w w' := by
  have HD := Hid.mk h
  clear h
  go_enter Try.func7, Try.ntmps7
  go_wp2_with fail
  refine (find_yes HD.out hs i).mono ?_
  rintro e w1 ⟨⟨p, hp, rfl⟩, hb1⟩
  have h1 := HD.out.grown hb1
  have HD1 := Hid.mk h1
  have HB := Hid.mk hb1
  have c0 := h1.c0
  have f0 := h1.fz 0
  by_cases hf : p < R.length ∧ R[p]!.1 = i
  · rw [decide_eq_true hf]
    have HE : Hid (put R i x = R.set p (i, x)) := put_yes hp HD.out.up hf.1 hf.2 x
    have HF := Hid.mk hf
    obtain ⟨g, cap, rfl⟩ := row_full h1.owns (by omega)
    obtain ⟨x0, x1⟩ := row_en h1.owns p hf.1
    have fg := h1.owns.frozenAt (p * 2 + 1)
    obtain ⟨y1, hy1⟩ : ∃ y, y = R[p]!.2 := ⟨_, rfl⟩
    rw [← hy1] at x1
    obtain ⟨N, hN⟩ : ∃ N, N = R.length := ⟨_, rfl⟩
    rw [← hN] at c0 hf hs
    have hpN := hf.1
    have HN := Hid.mk hN
    clear hf h1 hN hp hb1 hy1 x0
    go_wp2
    go_ret
    have hk := HD1.out.changed p HF.out.1 i HF.out.2 x (by rw [← HE.out]; exact rises_put HD.out.up i x)
    refine ⟨rfl, _, by rw [HE.out]; exact hk.1, ?_⟩
    exact (Wrote.of_below HB.out).trans hk.2
  · rw [decide_eq_false hf]
    have HE : Hid (put R i x = R.take p ++ (i, x) :: R.drop p) := put_no hp HD.out.up hf x
    have HP := Hid.mk hp
    clear hf h1 hp hb1
    go_wp2_with fail
    have hz1 := HB.out.size
    have h2 := HD1.out.grown ((Below.refl _ w1).alloc (Nat.le_refl _) (.cells #[.int .i64 i, (.int .i64 (x))] 51))
    refine (insert_any p i x w1.heap.size _ HP.out.le hs h2.owns (heap_new _ _) (fun e => by have := HD1.out.own_lt _ e; omega)).mono ?_
    rintro e w3 ⟨g, cap, rfl, hown, hgrow, hat⟩
    have hbw : Below w.heap.size w (w1.alloc (.cells #[.int .i64 i, (.int .i64 (x))] 51)) := HB.out.alloc (by omega) _
    have hR : R.length + 1 = (put R i x).length := by rw [HE.out]; have := HP.out.le; simp; omega
    have hat2 : v.ownBlock = some g ∨ w.heap.size ≤ g := hat.imp_right (fun h => by have := hbw.size; omega)
    rw [← HE.out] at hown
    have HK := Hid.mk (HD.out.more hR hown (rises_put HD.out.up i x) hbw hgrow hat2)
    have hlt := HD.out.lt
    have hb3 : w3.heap[b]? = some (.cells #[v] 27 (0, 0)) := by
      rw [hgrow.block b (by have := hbw.size; omega) (fun e => HD.out.own_b e.symm)]
      exact h2.at_
    have c3 := cell_at (i := 0) hb3 rfl
    have f3 := free_at (i := 0) hb3
    clear hR hown hgrow hat hat2 hbw h2 hb3 c0 f0
    go_wp2
    go_ret
    exact ⟨rfl, _, HK.out.1, HK.out.2⟩

end

end Go.Proofs.Ytocdnlnhjfigjaa.Dft.I
