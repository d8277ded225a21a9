/-
  ReadsStays: for every list of steps and every further thing, the law returns true: what is valid, and nothing is changed, stays valid, and each thing can be read again; what was read and is changed isn't valid any more. No condition.
-/
import Derived.Test.YtafpfioonbdgnaaNBox
namespace Go.Proofs.Ytafpfioonbdgnaa.readsStays
open Go.ChangeShapes Go.WideShapes Go.ChangeAt Go.RowKit Go.Deep Go.Shelf Go.Proofs.Ytafpfioonbdgnaa.Cel Go.Proofs.Ytafpfioonbdgnaa.Rng Go.Proofs.Ytafpfioonbdgnaa.Rds
attribute [local go_sem] Oper.semAt_some

set_option maxRecDepth 100000 in
set_option maxHeartbeats 16000000 in
theorem walk (c : Option Addr) (lc cc : Nat) (ss : List Sp) (x : Th) (w : World) (h2 : IsSps w c lc cc ss) :
    Calls Try.prog 5 #[.slice c lc cc, .agg #[.int .i64 x.1, .int .i64 x.2]] w fun e w' => e = .returned (.bool true) ∧ Below w.heap.size w w' := by
  obtain ⟨x0, x1⟩ := x
  dsimp only
  have H2 := Hid.mk h2
  clear h2
  refine (callsIn_wide (n := 6)).1 ?_
  refine callsIn_of_wp_marks Try.func5 rfl trivial ?_ rfl
  simp only [Try.ntmps5, List.size_toArray, List.length_cons, List.length_nil, Nat.reduceAdd, Nat.reduceSub, Array.replicate_succ, Array.replicate_zero, List.push_toArray, List.append_toArray, List.nil_append, List.cons_append]
  gi_wp2_with fail
  refine ⟨trivial, (callsIn_wide.2 (alive_any _)).mono ?_⟩
  rintro e w1 ⟨rfl, hb1⟩
  obtain ⟨w0, hw0⟩ : ∃ w0, w0 = (w.alloc (.cells #[.int .i64 x0, .int .i64 x1] 36)).alloc (.cells #[.bool false] 4) := ⟨_, rfl⟩
  rw [← hw0] at hb1
  have hb0 : Below w.heap.size w w0 := by rw [hw0]; exact ((Below.refl _ w).alloc (Nat.le_refl _) _).alloc (by simp) _
  have hz0 : w0.heap.size = w.heap.size + 2 := by rw [hw0]; simp
  have kx : w0.heap[w.heap.size]? = some (.cells #[.int .i64 x0, .int .i64 x1] 36 (0, 0)) := by rw [hw0, Below.heap_alloc _ _ _ (by simp), heap_new]
  have kr : w0.heap[w.heap.size + 1]? = some (.cells #[.bool false] 4 (0, 0)) := by
    have h := heap_new (w.alloc (.cells #[.int .i64 x0, .int .i64 x1] 36)) (.cells #[.bool false] 4)
    rw [World.size_alloc] at h
    rw [hw0]
    exact h
  have kx1 := (hb1.block _ (Array.getElem?_eq_some_iff.1 kx).1).trans kx
  have kr1 := (hb1.block _ (Array.getElem?_eq_some_iff.1 kr).1).trans kr
  have hz1 : w.heap.size + 2 ≤ w1.heap.size := by have := hb1.size; omega
  have HB1 := Hid.mk (hb0.trans (hb1.mono hb0.size))
  have HX1 := Hid.mk kx1
  have HR1 := Hid.mk kr1
  have HZ1 := Hid.mk hz1
  have c0 : w1.cell? ⟨w.heap.size, 0, none⟩ = some (.int .i64 x0) := cell_at kx1 rfl
  have c1 : w1.cell? ⟨w.heap.size, 1, none⟩ = some (.int .i64 x1) := cell_at kx1 rfl
  have hl1 : w.heap.size < w1.heap.size := by omega
  clear hw0 hb0 hz0 kx kr kx1 kr1 hb1 hz1
  gi_wp2_with fail
  have hb2 : Below w1.heap.size w1 (w1.alloc (.cells #[.int .i64 x0, .int .i64 x1] 36)) := (Below.refl _ _).alloc (Nat.le_refl _) _
  have hn2 := heap_new w1 (.cells #[.int .i64 x0, .int .i64 x1] 36)
  have ht2 : IsThs (w1.alloc (.cells #[.int .i64 x0, .int .i64 x1] 36)) (some ⟨w1.heap.size, 0, none⟩) 1 1 [(x0, x1)] := by
    refine ⟨rfl, Nat.le_refl _, .inr ⟨w1.heap.size, 0, rfl, by simp, fun j hj => ?_, fun j hj => ?_⟩⟩
    all_goals
      have hj0 : j = 0 := by simpa using hj
      subst hj0
      exact cell_at hn2 rfl
  refine ⟨trivial, (callsIn_wide.2 (great_any ht2 ((H2.out.carry HB1.out).carry hb2))).mono ?_⟩
  rintro e w3 ⟨hg, hb3⟩
  have HB3 := Hid.mk (HB1.out.trans ((hb2.trans (hb3.mono hb2.size)).mono HB1.out.size))
  have hb13 : Below w1.heap.size w1 w3 := hb2.trans (hb3.mono hb2.size)
  have hx3 := (hb13.block _ (Array.getElem?_eq_some_iff.1 HX1.out).1).trans HX1.out
  have hr3 := (hb13.block _ (Array.getElem?_eq_some_iff.1 HR1.out).1).trans HR1.out
  have hz3 : w.heap.size + 2 ≤ w3.heap.size := by have := hb13.size; have := HZ1.out; omega
  have HX3 := Hid.mk hx3
  have HR3 := Hid.mk hr3
  have HZ3 := Hid.mk hz3
  have cr : w3.cell? ⟨w.heap.size + 1, 0, none⟩ = some (.bool false) := cell_at hr3 rfl
  have fr : w3.frozen? ⟨w.heap.size + 1, 0, none⟩ = false := free_at hr3
  clear hb2 hn2 ht2 hb3 hb13 hx3 hr3 hz3 c0 c1 hl1
  rcases hg with rfl | ⟨rfl, hsm⟩
  · gi_wp2
    have hc5 := World.cell?_setCell_same' w3 ⟨w.heap.size + 1, 0, none⟩ (.bool true) (by rw [cr]; rfl)
    refine ⟨.bool true, ?_, rfl, HB3.out.setCell (p := ⟨w.heap.size + 1, 0, none⟩) (by show _ ≤ w.heap.size + 1; omega) _⟩
    simp [results, Try.f5, go_sem, hc5]
  have HSM := Hid.mk hsm
  clear hsm cr fr
  gi_wp2_with fail
  refine ⟨trivial, (callsIn_wide.2 (new_any 0 _)).mono ?_⟩
  rintro e w5 ⟨rfl, hs5, hw5⟩
  obtain ⟨w4, hw4⟩ : ∃ w4, w4 = (w3.alloc (.cells #[.slice none 0 0] 28)).alloc (.cells #[.pointer (some ⟨w3.heap.size, 0, none⟩)] 26) := ⟨_, rfl⟩
  have hz4 : w4.heap.size = w3.heap.size + 2 := by rw [hw4]; simp
  have hm4 : w4.heap[w3.heap.size]? = some (.cells #[.slice none 0 0] 28 (0, 0)) := by rw [hw4, Below.heap_alloc _ _ _ (by simp), heap_new]
  have hp4 : w4.heap[w3.heap.size + 1]? = some (.cells #[.pointer (some ⟨w3.heap.size, 0, none⟩)] 26 (0, 0)) := by
    have h := heap_new (w3.alloc (.cells #[.slice none 0 0] 28)) (.cells #[.pointer (some ⟨w3.heap.size, 0, none⟩)] 26)
    rw [World.size_alloc] at h
    rw [hw4]
    exact h
  have hb34 : Below w3.heap.size w3 w4 := by rw [hw4]; exact ((Below.refl _ _).alloc (Nat.le_refl _) _).alloc (by simp) _
  rw [← hw4] at hs5 hw5
  rw [← hw4]
  obtain ⟨C, hC⟩ : ∃ C, C = w3.heap.size := ⟨_, rfl⟩
  have hb45 : Below w4.heap.size w4 w5 := by rw [hw5]; exact (Below.refl _ _).alloc (Nat.le_refl _) _
  have hz5 : w5.heap.size = C + 3 := by rw [hw5]; simp; omega
  have hb35 : Below w3.heap.size w3 w5 := hb34.trans (hb45.mono hb34.size)
  have hm5 := (hb45.block _ (Array.getElem?_eq_some_iff.1 hm4).1).trans hm4
  have hp5 := (hb45.block _ (Array.getElem?_eq_some_iff.1 hp4).1).trans hp4
  rw [hz4] at hs5
  rw [hz4]
  rw [← hC] at hm5 hp5 hs5 hb35
  rw [← hC]
  have HS5 := Hid.mk hs5
  have HM5 := Hid.mk hm5
  have HP5 := Hid.mk hp5
  have HZ5 := Hid.mk hz5
  have HB5 := Hid.mk (HB3.out.trans (hb35.mono (by rw [hC]; exact HB3.out.size)))
  have HX5 := Hid.mk ((hb35.block _ (by rw [hC]; exact (Array.getElem?_eq_some_iff.1 HX3.out).1)).trans HX3.out)
  have HR5 := Hid.mk ((hb35.block _ (by rw [hC]; exact (Array.getElem?_eq_some_iff.1 HR3.out).1)).trans HR3.out)
  have HCB : Hid (w.heap.size + 1 < C) := Hid.mk (by rw [hC]; have := HZ3.out; omega)
  have HTH : Hid (isB x0 x1 = true) := Hid.mk (HSM.out.xs 0 (by simp))
  have hlc := H2.out.1
  have HLC := Hid.mk hlc
  clear hlc hs5 hw5 hz4 hm4 hp4 hb34 hw4 hb45 hz5 hb35 hm5 hp5 hC HX1 HR1 HX3 HR3 HZ1 HZ3 HB1 HB3 w4
  gi_wp2
  have hL0 : LS w.heap.size w (w5.alloc (.cells #[.pointer (some ⟨C + 2, 0, none⟩)] 29)) C C (C + 1) (C + 2) (C + 3) (x0, x1) 0 [] 0 [] := by
    have hb6 : Below w5.heap.size w5 (w5.alloc (.cells #[.pointer (some ⟨C + 2, 0, none⟩)] 29)) := (Below.refl _ _).alloc (Nat.le_refl _) _
    refine ⟨⟨_, .slice none 0 0, HS5.out.grown hb6, ⟨(hb6.block _ (Array.getElem?_eq_some_iff.1 HM5.out).1).trans HM5.out, ⟨rfl, .inl ⟨rfl, rfl⟩⟩⟩, fun q hq => ?_, fun q hq => ?_⟩,
      ⟨(hb6.block _ (Array.getElem?_eq_some_iff.1 HX5.out).1).trans HX5.out, (hb6.block _ (Array.getElem?_eq_some_iff.1 HR5.out).1).trans HR5.out, (hb6.block _ (Array.getElem?_eq_some_iff.1 HP5.out).1).trans HP5.out, ?_⟩,
      HB5.out.trans (hb6.mono HB5.out.size), HCB.out, (fun e he => by cases he), (fun e he => by cases he), Nat.le_refl _, Nat.le_refl _⟩
    · rcases hq with e | ⟨y, hy, e⟩
      · omega
      · simp at hy
        subst hy
        cases e
    · rcases hq with e | ⟨y, hy, e⟩
      · omega
      · simp at hy
        subst hy
        cases e
    · have h := heap_new w5 (.cells #[.pointer (some ⟨C + 2, 0, none⟩)] 29)
      rw [HZ5.out] at h
      exact h
  obtain ⟨w6, hw6⟩ : ∃ w6, w6 = w5.alloc (.cells #[.pointer (some ⟨C + 2, 0, none⟩)] 29) := ⟨_, rfl⟩
  rw [← hw6] at hL0
  rw [← hw6, HZ5.out]
  have HL0 := Hid.mk hL0
  clear hL0 hw6 HS5 HM5 HP5 HZ5 HB5 HX5 HR5
  gi_loopw [8, 22] (fun _ idx wr => ∃ (k : Nat) (A : List Th) (st : Int) (E : List En), k ≤ lc ∧ idx = .int .i64 k ∧ LS w.heap.size w wr C C (C + 1) (C + 2) (C + 3) (x0, x1) k A st E) (fun _ idx _ => lc - (intOf idx).toNat)
  case atStart => exact ⟨0, [], 0, [], Nat.zero_le _, rfl, HL0.out⟩
  case round =>
    clear HL0
    obtain ⟨k, A, st, E, hk, rfl, hst⟩ := hrel
    by_cases hlt : k < lc
    · have hkl : k < ss.length := by have := HLC.out; omega
      have hk80 : k < 80 := by have := HSM.out.steps; omega
      obtain ⟨g, off, rfl, hat⟩ := (H2.out.carry hst.below).at_ (by omega)
      have c0 := hat.k k hkl
      have c1 := hat.i k hkl
      have c2 := hat.c k hkl
      have his := HSM.out.ss k hkl
      obtain ⟨y, hy⟩ : ∃ y, y = ss[k]! := ⟨_, rfl⟩
      rw [← hy] at c0 c1 c2 his
      obtain ⟨y0, y1, y2⟩ := y
      dsimp only at c0 c1 c2 his
      have HIS := Hid.mk his
      have hgl := World.block_lt_of_cell? _ _ c0
      obtain ⟨X, hX⟩ : ∃ X, X = wr.heap.size := ⟨_, rfl⟩
      obtain ⟨W, hW⟩ : ∃ W, W = wr.alloc (.cells #[.int .i64 y0, .int .i64 y1, .bool y2] 38) := ⟨_, rfl⟩
      have hbW : Below wr.heap.size wr W := by rw [hW]; exact (Below.refl _ _).alloc (Nat.le_refl _) _
      have hxW : W.heap[X]? = some (.cells #[.int .i64 y0, .int .i64 y1, .bool y2] 38 (0, 0)) := by rw [hW, hX]; exact heap_new _ _
      have hstW := hst.grown hbW
      have HST := Hid.mk hstW
      have HXW := Hid.mk hxW
      have x0' : W.cell? ⟨X, 0, none⟩ = some (.int .i64 y0) := cell_at hxW rfl
      have x1' : W.cell? ⟨X, 1, none⟩ = some (.int .i64 y1) := cell_at hxW rfl
      have x2' : W.cell? ⟨X, 2, none⟩ = some (.bool y2) := cell_at hxW rfl
      have p0 : W.cell? ⟨C + 1, 0, none⟩ = some (.pointer (some ⟨C, 0, none⟩)) := cell_at hstW.bx.pw rfl
      have p1 : W.cell? ⟨C + 3, 0, none⟩ = some (.pointer (some ⟨C + 2, 0, none⟩)) := cell_at hstW.bx.ps rfl
      have hXl : X < W.heap.size := (Array.getElem?_eq_some_iff.1 hxW).1
      obtain ⟨v, u, hs, hwo, hf1, hf2⟩ := hstW.ex
      have HS := Hid.mk hs
      have HWO := Hid.mk hwo
      have HF1 := Hid.mk hf1
      have HF2 := Hid.mk hf2
      gi_upto_region 10 with fail
      rw [← hX, ← hW]
      clear hX hW hbW hxW hstW hst hat hs hwo hf1 hf2 c0 c1 c2 hy his
      cases y2 with
      | true =>
        obtain ⟨ua, uc, rfl⟩ := row_shape HWO.out.owns
        obtain ⟨NA, hNA⟩ : ∃ NA, NA = A.length := ⟨_, rfl⟩
        have hml := HWO.out.lt
        have ag := HWO.out.own_b
        have aX : (Value.slice ua A.length uc).ownBlock ≠ some X := fun e => wo_free HWO.out HXW.out (by decide) (by decide) (.inr ⟨_, by simp, e⟩)
        have aP : (Value.slice ua A.length uc).ownBlock ≠ some (C + 1) := fun e => wo_free HWO.out HST.out.bx.pw (by decide) (by decide) (.inr ⟨_, by simp, e⟩)
        have hXm : X ≠ C := fun e => wo_free HWO.out HXW.out (by decide) (by decide) (.inl e)
        have hown := HWO.out.owns
        have d2 := HWO.out.c0
        have d3 := HWO.out.fz 0
        have hal := HST.out.alen
        have hPl : C + 1 < W.heap.size := (Array.getElem?_eq_some_iff.1 HST.out.bx.pw).1
        rw [← hNA] at ag aX aP hown d2 hal
        have HNA := Hid.mk hNA
        clear hNA
        obtain ⟨i0, hi, hz0, hz1, hz2⟩ := info_parts Try.info36
        gi_wp2_with fail
        refine Code.wpIn_mono NoPanic.imp ?_
        refine wpIn_wide.2 ?_
        refine wp_region_held_drew (S := (fun wx => wx.cell? ⟨C + 1, 0, none⟩ = some (.pointer (some ⟨C, 0, none⟩)) ∧ wx.cell? ⟨X, 0, none⟩ = some (.int .i64 y0) ∧ wx.cell? ⟨X, 1, none⟩ = some (.int .i64 y1))) (by kernel_rfl) ⟨p0, x0', x1'⟩ (fun hHeld => ?_)
        refine wpAnyH_take (i := 0) (v := ?_) rfl (by kernel_rfl) (by kernel_rfl) (by kernel_rfl) (fun _ _ _ h => h) (Or.inl ⟨by rfl, ?h0⟩) (by assumption) ?_
        case h0 =>
          intro wx hSw
          try dsimp only at hSw
          go_simp
          try with_reducible rfl
        refine wpAnyH_take (i := 1) (v := ?_) rfl (by kernel_rfl) (by kernel_rfl) (by kernel_rfl) (fun _ _ _ h => h) (Or.inl ⟨by rfl, ?h1⟩) (by assumption) ?_
        case h1 =>
          intro wx hSw
          try dsimp only at hSw
          go_simp
          try with_reducible rfl
        refine wpAnyH_take (i := 2) (v := ?_) rfl (by kernel_rfl) (by kernel_rfl) (by kernel_rfl) (fun _ _ _ h => h) (Or.inl ⟨by rfl, ?h2⟩) (by assumption) ?_
        case h2 =>
          intro wx hSw
          try dsimp only at hSw
          go_simp
          try with_reducible rfl
        refine wpAnyH_take (i := 3) (v := ?_) rfl (by kernel_rfl) (by kernel_rfl) (by kernel_rfl) (fun _ _ _ h => h) (Or.inl ⟨by rfl, ?h3⟩) (by assumption) ?_
        case h3 =>
          intro wx hSw
          try dsimp only at hSw
          go_simp
          try with_reducible rfl
        refine wpAnyH_take (i := 5) (v := ?_) rfl (by kernel_rfl) (by kernel_rfl) (by kernel_rfl) (fun _ _ _ h => h) (Or.inl ⟨by rfl, ?h5⟩) (by assumption) ?_
        case h5 =>
          intro wx hSw
          try dsimp only at hSw
          go_simp
          try with_reducible rfl
        refine wpAnyH_take (i := 6) (v := ?_) rfl (by kernel_rfl) (by kernel_rfl) (by kernel_rfl) (fun _ _ _ h => h) (Or.inl ⟨by rfl, ?h6⟩) (by assumption) ?_
        case h6 =>
          intro wx hSw
          try dsimp only at hSw
          go_simp
          try with_reducible rfl
        refine wpAnyH_ready (rs := [4, 7]) (by kernel_rfl) (by simp) ?_
        refine AllReadyH.cons rfl (fun K hK => ?_) ?_
        · go_simp
          refine hK.out _ _ ⟨p0, x0', x1'⟩ (fun _ => ?_)
          clear hK K
          refine wpAnyH_ready (rs := [7]) (by kernel_rfl) (by simp) ?_
          refine AllReadyH.cons rfl (fun K hK => ?_) AllReadyH.nil
          go_simp
          refine hK.out _ _ ⟨Rds.cell_past1 p0, Rds.cell_past1 x0', Rds.cell_past1 x1'⟩ (fun _ => ?_)
          clear hK K
          refine wpAnyH_ready (rs := [8]) (by kernel_rfl) (by simp) ?_
          refine AllReadyH.cons rfl (fun K hK => ?_) AllReadyH.nil
          refine step_append_lies _ (by rfl) _ _ _ (by rfl) 0 36 i0 _ 2 16 Try.underlying22 hi hz0 hz1 hz2 rfl (by omega) (.slice ua NA uc) NA (thC A) (by rfl) ((hown.alloc _).drew) ⟨W.heap.size, 0, none⟩ 1 1 [.int .i64 y0, .int .i64 y1] (by rfl) (by rfl) (World.news_of_block (cs := #[.int .i64 y0, .int .i64 y1]) (t := 36) (fr := (0, 0)) (heap_alloc_new W _)) (by simp [Value.oneCell']) (by omega) (by unfold maxLen; omega) (by omega) (Nat.zero_le _) (W.heap.size + 1) (by simp) ?_
          intro gg cap w7 hown1 hgrow hat hlt2
          have c5 : w7.cell? ⟨C, 0, none⟩ = some (.slice ua NA uc) := (hgrow.cell_far ⟨C, 0, none⟩ (by simp; omega) (Ne.symm ag)).trans (Rds.cell_past1 d2)
          have f5 : w7.frozen? ⟨C, 0, none⟩ = false := (hgrow.frozen_far ⟨C, 0, none⟩ (by simp; omega) (Ne.symm ag)).trans (by simp [World.frozen?_alloc_past, hml, d3])
          have e1 := (hgrow.cell_far ⟨C + 1, 0, none⟩ (by simp; omega) (Ne.symm aP)).trans (Rds.cell_past1 p0)
          have e2 := (hgrow.cell_far ⟨X, 0, none⟩ (by simp; omega) (Ne.symm aX)).trans (Rds.cell_past1 x0')
          have e3 := (hgrow.cell_far ⟨X, 1, none⟩ (by simp; omega) (Ne.symm aX)).trans (Rds.cell_past1 x1')
          refine hK.out _ _ ⟨e1, e2, e3⟩ (fun _ => ?_)
          clear hK K
          refine wpAnyH_ready (rs := [9]) (by kernel_rfl) (by simp) ?_
          refine AllReadyH.cons rfl (fun K hK => ?_) AllReadyH.nil
          go_simp
          refine hK.out _ _ ⟨e1, e2, e3⟩ (fun _ => ?_)
          clear hK K
          refine wpAnyH_ready (rs := [10]) (by kernel_rfl) (by simp) ?_
          refine AllReadyH.cons rfl (fun K hK => ?_) AllReadyH.nil
          go_simp
          refine hK.out _ _ ⟨e1, e2, e3⟩ (fun _ => ?_)
          clear hK K
          refine wpAnyH_ready (rs := [11]) (by kernel_rfl) (by simp) ?_
          refine AllReadyH.cons rfl (fun K hK => ?_) AllReadyH.nil
          go_simp
          refine hK.out _ _ ⟨(World.cell?_setCell_far _ _ _ _ (show C ≠ C + 1 by omega)).trans e1, (World.cell?_setCell_far _ _ _ _ (show C ≠ X from Ne.symm hXm)).trans e2, (World.cell?_setCell_far _ _ _ _ (show C ≠ X from Ne.symm hXm)).trans e3⟩ (fun _ => ?_)
          clear hK K
          refine wpAnyH_done (by kernel_rfl) ?_ _
          refine NoPanic.normal ?_
          have hY1 : Below W.heap.size W ((W.alloc (.cells #[.int .i64 y0, .int .i64 y1] 36)).drew) := ((Below.refl _ _).alloc (Nat.le_refl _) _).drew
          have hg2 := hgrow
          have hat2 := hat
          rw [HNA.out] at hown1 hg2 hat2
          have R := HWO.out.more (y0, y1) hown1 hY1 hg2 (by rcases hat2 with e | e; exact .inl e; exact .inr (by omega))
          have hn := HST.out.change HWO.out HF2.out R.1 R.2
          rw [← HNA.out] at hn
          have HN2 := Hid.mk hn
          clear R hn hY1 hown1 hgrow hg2 hat hat2 hlt2 c5 f5 e1 e2 e3 hown ag aX aP hXm hml hPl d2 d3 x0' x1' x2' p0 p1 hal hi hz0 hz1 hz2 hHeld
          gi_wp2
          go_roundw
          case rel => exact ⟨k + 1, _, st, E, by omega, by go_num, HN2.out⟩
          case measure => simp [intOf]; omega
        · refine AllReadyH.cons rfl (fun K hK => ?_) AllReadyH.nil
          go_simp
          refine hK.out _ _ ⟨Rds.cell_past1 p0, Rds.cell_past1 x0', Rds.cell_past1 x1'⟩ (fun _ => ?_)
          clear hK K
          have d2p := Rds.cell_past1 (o := .cells #[.int .i64 y0, .int .i64 y1] 36) d2
          refine wpAnyH_ready (rs := [4]) (by kernel_rfl) (by simp) ?_
          refine AllReadyH.cons rfl (fun K hK => ?_) AllReadyH.nil
          go_simp
          refine hK.out _ _ ⟨Rds.cell_past1 p0, Rds.cell_past1 x0', Rds.cell_past1 x1'⟩ (fun _ => ?_)
          clear hK K
          refine wpAnyH_ready (rs := [8]) (by kernel_rfl) (by simp) ?_
          refine AllReadyH.cons rfl (fun K hK => ?_) AllReadyH.nil
          refine step_append_lies _ (by rfl) _ _ _ (by rfl) 0 36 i0 _ 2 16 Try.underlying22 hi hz0 hz1 hz2 rfl (by omega) (.slice ua NA uc) NA (thC A) (by rfl) ((hown.alloc _).drew) ⟨W.heap.size, 0, none⟩ 1 1 [.int .i64 y0, .int .i64 y1] (by rfl) (by rfl) (World.news_of_block (cs := #[.int .i64 y0, .int .i64 y1]) (t := 36) (fr := (0, 0)) (heap_alloc_new W _)) (by simp [Value.oneCell']) (by omega) (by unfold maxLen; omega) (by omega) (Nat.zero_le _) (W.heap.size + 1) (by simp) ?_
          intro gg cap w7 hown1 hgrow hat hlt2
          have c5 : w7.cell? ⟨C, 0, none⟩ = some (.slice ua NA uc) := (hgrow.cell_far ⟨C, 0, none⟩ (by simp; omega) (Ne.symm ag)).trans (Rds.cell_past1 d2)
          have f5 : w7.frozen? ⟨C, 0, none⟩ = false := (hgrow.frozen_far ⟨C, 0, none⟩ (by simp; omega) (Ne.symm ag)).trans (by simp [World.frozen?_alloc_past, hml, d3])
          have e1 := (hgrow.cell_far ⟨C + 1, 0, none⟩ (by simp; omega) (Ne.symm aP)).trans (Rds.cell_past1 p0)
          have e2 := (hgrow.cell_far ⟨X, 0, none⟩ (by simp; omega) (Ne.symm aX)).trans (Rds.cell_past1 x0')
          have e3 := (hgrow.cell_far ⟨X, 1, none⟩ (by simp; omega) (Ne.symm aX)).trans (Rds.cell_past1 x1')
          refine hK.out _ _ ⟨e1, e2, e3⟩ (fun _ => ?_)
          clear hK K
          refine wpAnyH_ready (rs := [9]) (by kernel_rfl) (by simp) ?_
          refine AllReadyH.cons rfl (fun K hK => ?_) AllReadyH.nil
          go_simp
          refine hK.out _ _ ⟨e1, e2, e3⟩ (fun _ => ?_)
          clear hK K
          refine wpAnyH_ready (rs := [10]) (by kernel_rfl) (by simp) ?_
          refine AllReadyH.cons rfl (fun K hK => ?_) AllReadyH.nil
          go_simp
          refine hK.out _ _ ⟨e1, e2, e3⟩ (fun _ => ?_)
          clear hK K
          refine wpAnyH_ready (rs := [11]) (by kernel_rfl) (by simp) ?_
          refine AllReadyH.cons rfl (fun K hK => ?_) AllReadyH.nil
          go_simp
          refine hK.out _ _ ⟨(World.cell?_setCell_far _ _ _ _ (show C ≠ C + 1 by omega)).trans e1, (World.cell?_setCell_far _ _ _ _ (show C ≠ X from Ne.symm hXm)).trans e2, (World.cell?_setCell_far _ _ _ _ (show C ≠ X from Ne.symm hXm)).trans e3⟩ (fun _ => ?_)
          clear hK K
          refine wpAnyH_done (by kernel_rfl) ?_ _
          refine NoPanic.normal ?_
          have hY1 : Below W.heap.size W ((W.alloc (.cells #[.int .i64 y0, .int .i64 y1] 36)).drew) := ((Below.refl _ _).alloc (Nat.le_refl _) _).drew
          have hg2 := hgrow
          have hat2 := hat
          rw [HNA.out] at hown1 hg2 hat2
          have R := HWO.out.more (y0, y1) hown1 hY1 hg2 (by rcases hat2 with e | e; exact .inl e; exact .inr (by omega))
          have hn := HST.out.change HWO.out HF2.out R.1 R.2
          rw [← HNA.out] at hn
          have HN2 := Hid.mk hn
          clear R hn hY1 hown1 hgrow hg2 hat hat2 hlt2 c5 f5 e1 e2 e3 hown ag aX aP hXm hml hPl d2 d3 x0' x1' x2' p0 p1 hal hi hz0 hz1 hz2 hHeld
          gi_wp2
          go_roundw
          case rel => exact ⟨k + 1, _, st, E, by omega, by go_num, HN2.out⟩
          case measure => simp [intOf]; omega
      | false =>
        have hel := HST.out.elen
        have hnow := now_any HWO.out.drew (by have := HST.out.alen; omega)
        have hnote := fun (z : World) (hz : SetAt z (C + 2) v st E) => note_any (verF A) (A.length : Nat) y0 y1 hz (by omega)
        obtain ⟨NB, hNB⟩ : ∃ NB, NB = noteB (ofF (verF A)) st E y0 y1 := ⟨_, rfl⟩
        rw [← hNB] at hnote
        have HNOW := Hid.mk hnow
        have HNOTE := Hid.mk hnote
        clear hnow hnote hNB hel
        gi_wp2_with fail
        refine Code.wpIn_mono NoPanic.imp ?_
        refine wpIn_wide.2 ?_
        go_region_held3 (fun wx => wx.cell? ⟨C + 1, 0, none⟩ = some (.pointer (some ⟨C, 0, none⟩)) ∧ wx.cell? ⟨C + 3, 0, none⟩ = some (.pointer (some ⟨C + 2, 0, none⟩)) ∧ wx.cell? ⟨X, 0, none⟩ = some (.int .i64 y0) ∧ wx.cell? ⟨X, 1, none⟩ = some (.int .i64 y1))
          (first
            | exact ⟨p0, p1, x0', x1'⟩
            | exact hS2
            | exact hS1)
          (first
            | (go_at_call 10; have m2 := m1; refine (HNOTE.out _ d4.out).mono ?_; rintro e w8 ⟨rfl, v8, hs8, hr8⟩; have hn8 := Hid.mk (l4.out.note d4.out HF1.out hs8 hr8 HIS.out); have hx8 := (hr8.block X (Array.getElem?_eq_some_iff.1 xx4.out).1 (box_free d4.out xx4.out (by decide) (by decide))).trans xx4.out; have hS2 : w8.cell? ⟨C + 1, 0, none⟩ = some (.pointer (some ⟨C, 0, none⟩)) ∧ w8.cell? ⟨C + 3, 0, none⟩ = some (.pointer (some ⟨C + 2, 0, none⟩)) ∧ w8.cell? ⟨X, 0, none⟩ = some (.int .i64 y0) ∧ w8.cell? ⟨X, 1, none⟩ = some (.int .i64 y1) := ⟨cell_at hn8.out.bx.pw rfl, cell_at hn8.out.bx.ps rfl, cell_at hx8 rfl, cell_at hx8 rfl⟩; clear hs8 hr8 hx8)
            | (go_at_call 11; refine HNOW.out.mono ?_; rintro e w7 ⟨rfl, hb7⟩; have m1 := Hid.mk hb7; have l4 := Hid.mk (LS.grown (W := W.drew) (HST.out.grown (Below.refl W.heap.size W).drew) hb7); have d4 := Hid.mk (HS.out.drew.grown hb7); have hx4 := (hb7.block X (Array.getElem?_eq_some_iff.1 (show W.drew.heap[X]? = _ from HXW.out)).1).trans (show W.drew.heap[X]? = _ from HXW.out); have xx4 := Hid.mk hx4; have hS1 : w7.cell? ⟨C + 1, 0, none⟩ = some (.pointer (some ⟨C, 0, none⟩)) ∧ w7.cell? ⟨C + 3, 0, none⟩ = some (.pointer (some ⟨C + 2, 0, none⟩)) ∧ w7.cell? ⟨X, 0, none⟩ = some (.int .i64 y0) ∧ w7.cell? ⟨X, 1, none⟩ = some (.int .i64 y1) := ⟨cell_at l4.out.bx.pw rfl, cell_at l4.out.bx.ps rfl, cell_at hx4 rfl, cell_at hx4 rfl⟩; clear hb7 hx4))
        all_goals
          refine NoPanic.normal ?_
          clear hS1 hS2 x0' x1' x2' p0 p1
          gi_wp2
          go_roundw
          case rel => exact ⟨k + 1, A, _, _, by omega, by go_num, hn8.out⟩
          case measure => simp [intOf]; omega
    · have hke : k = lc := by omega
      have hle : (lc : Int) ≤ (k : Int) := by omega
      have hk80 : k ≤ 80 := by have := HSM.out.steps; have := HLC.out; omega
      obtain ⟨v, u, hs, hwo, hf1, hf2⟩ := hst.ex
      have hal := hst.alen
      have hel := hst.elen
      have hnow := fun (g : Wider wr.heap.size wr) => now_any (hwo.grown g.h) (by omega)
      have hval := fun (g : Wider wr.heap.size wr) => valid_any (verF A) (A.length : Nat) g.z (hs.grown g.h) (by omega)
      have kp : ∀ g : Wider wr.heap.size wr, g.z.cell? ⟨C + 1, 0, none⟩ = some (.pointer (some ⟨C, 0, none⟩)) := fun g => cell_at (hst.grown g.h).bx.pw rfl
      have kq : ∀ g : Wider wr.heap.size wr, g.z.cell? ⟨C + 3, 0, none⟩ = some (.pointer (some ⟨C + 2, 0, none⟩)) := fun g => cell_at (hst.grown g.h).bx.ps rfl
      obtain ⟨VB, hVB⟩ : ∃ VB, VB = validB (ofF (verF A)) E := ⟨_, rfl⟩
      rw [← hVB] at hval
      have HNOW := Hid.mk hnow
      have HVAL := Hid.mk hval
      have HVB := Hid.mk hVB
      have HST := Hid.mk hst
      have hne := Wider.some wr.heap.size wr
      clear hnow hval hVB hst hs hwo hf1 hf2 hal hel
      gi_wp2_with fail
      refine wpIn_wide.2 ?_
      refine wp_region_wider (B := wr.heap.size) (w0 := wr) (by kernel_rfl) (by kernel_rfl) (Below.refl _ wr) ?_
      repeat (go_big_quiet_step ((first
        | (go_at_call 11; refine (HNOW.out _).mono ?_; rintro e w6 ⟨rfl, hb6⟩; exact ⟨rfl, ⟨w6, by rename_i g; exact farther (Nat.le_refl _) g.h hb6⟩, rfl⟩)
        | (go_at_call 13; refine (HVAL.out _).mono ?_; rintro e w6 ⟨rfl, hb6⟩; exact ⟨rfl, ⟨w6, by rename_i g; exact farther (Nat.le_refl _) g.h hb6⟩, rfl⟩))))
      refine wpQuiet_nil ?_
      rintro z ⟨g, hg⟩
      have hz : Below wr.heap.size wr z := by rw [hg]; exact g.h
      have hlz := HST.out.grown hz
      have HLz := Hid.mk hlz
      clear hg g hz hlz kp kq hne
      cases VB with
      | false =>
        obtain ⟨Z, hZ⟩ : ∃ Z, Z = z := ⟨_, rfl⟩
        obtain ⟨F, hF⟩ : ∃ F, F = E := ⟨_, rfl⟩
        have HLZ : Hid (LS w.heap.size w Z C C (C + 1) (C + 2) (C + 3) (x0, x1) k A st F) := Hid.mk (by rw [hZ, hF]; exact HLz.out)
        rw [← hZ]
        clear hZ hF
        have p0 : Z.cell? ⟨C + 1, 0, none⟩ = some (.pointer (some ⟨C, 0, none⟩)) := cell_at HLZ.out.bx.pw rfl
        have p1 : Z.cell? ⟨C + 3, 0, none⟩ = some (.pointer (some ⟨C + 2, 0, none⟩)) := cell_at HLZ.out.bx.ps rfl
        have x0' : Z.cell? ⟨w.heap.size, 0, none⟩ = some (.int .i64 x0) := cell_at HLZ.out.bx.x rfl
        have x1' : Z.cell? ⟨w.heap.size, 1, none⟩ = some (.int .i64 x1) := cell_at HLZ.out.bx.x rfl
        obtain ⟨v9, u9, hs9, hwo9, hf91, hf92⟩ := HLZ.out.ex
        have hhas := has_any hs9 (by have := HLZ.out.elen; omega) x0 x1
        obtain ⟨HA, hHA⟩ : ∃ HA, HA = (findE F x0 x1).isSome := ⟨_, rfl⟩
        rw [← hHA] at hhas
        have HHAS := Hid.mk hhas
        have HHA := Hid.mk hHA
        clear hhas hHA hs9 hwo9 hf91 hf92 u9
        gi_wp2_with fail
        refine ⟨trivial, (callsIn_wide.2 HHAS.out).mono ?_⟩
        rintro e W ⟨rfl, hb9⟩
        have hlw := HLZ.out.grown hb9
        have HLW := Hid.mk hlw
        obtain ⟨v, u, hs, hwo, hf1, hf2⟩ := hlw.ex
        have HS := Hid.mk hs
        have HWO := Hid.mk hwo
        have HF2 := Hid.mk hf2
        clear p0 p1 x0' x1' hb9 hlw hs hwo hf1 hf2
        have p0 : W.cell? ⟨C + 1, 0, none⟩ = some (.pointer (some ⟨C, 0, none⟩)) := cell_at HLW.out.bx.pw rfl
        have x0' : W.cell? ⟨w.heap.size, 0, none⟩ = some (.int .i64 x0) := cell_at HLW.out.bx.x rfl
        have x1' : W.cell? ⟨w.heap.size, 1, none⟩ = some (.int .i64 x1) := cell_at HLW.out.bx.x rfl
        obtain ⟨ua, uc, rfl⟩ := row_shape HWO.out.owns
        obtain ⟨NA, hNA⟩ : ∃ NA, NA = A.length := ⟨_, rfl⟩
        have hml := HWO.out.lt
        have ag := HWO.out.own_b
        have hcb := HCB.out
        have aX : (Value.slice ua A.length uc).ownBlock ≠ some w.heap.size := fun e => by have := HF2.out _ (.inr ⟨_, by simp, e⟩); omega
        have aP : (Value.slice ua A.length uc).ownBlock ≠ some (C + 1) := fun e => wo_free HWO.out HLW.out.bx.pw (by decide) (by decide) (.inr ⟨_, by simp, e⟩)
        have hXm : w.heap.size ≠ C := by omega
        have hown := HWO.out.owns
        have d2 := HWO.out.c0
        have d3 := HWO.out.fz 0
        have hal := HLW.out.alen
        have hPl : C + 1 < W.heap.size := (Array.getElem?_eq_some_iff.1 HLW.out.bx.pw).1
        rw [← hNA] at ag aX aP hown d2 hal
        have HNA := Hid.mk hNA
        clear hNA
        obtain ⟨i0, hi, hz0, hz1, hz2⟩ := info_parts Try.info36
        gi_wp2_with fail
        refine Code.wpIn_mono NoPanic.imp ?_
        refine wpIn_wide.2 ?_
        refine wp_region_held_drew (S := (fun wx => wx.cell? ⟨C + 1, 0, none⟩ = some (.pointer (some ⟨C, 0, none⟩)) ∧ wx.cell? ⟨w.heap.size, 0, none⟩ = some (.int .i64 x0) ∧ wx.cell? ⟨w.heap.size, 1, none⟩ = some (.int .i64 x1))) (by kernel_rfl) ⟨p0, x0', x1'⟩ (fun hHeld => ?_)
        refine wpAnyH_take (i := 0) (v := ?_) rfl (by kernel_rfl) (by kernel_rfl) (by kernel_rfl) (fun _ _ _ h => h) (Or.inl ⟨by rfl, ?h0⟩) (by assumption) ?_
        case h0 =>
          intro wx hSw
          try dsimp only at hSw
          go_simp
          try with_reducible rfl
        refine wpAnyH_take (i := 1) (v := ?_) rfl (by kernel_rfl) (by kernel_rfl) (by kernel_rfl) (fun _ _ _ h => h) (Or.inl ⟨by rfl, ?h1⟩) (by assumption) ?_
        case h1 =>
          intro wx hSw
          try dsimp only at hSw
          go_simp
          try with_reducible rfl
        refine wpAnyH_take (i := 2) (v := ?_) rfl (by kernel_rfl) (by kernel_rfl) (by kernel_rfl) (fun _ _ _ h => h) (Or.inl ⟨by rfl, ?h2⟩) (by assumption) ?_
        case h2 =>
          intro wx hSw
          try dsimp only at hSw
          go_simp
          try with_reducible rfl
        refine wpAnyH_take (i := 3) (v := ?_) rfl (by kernel_rfl) (by kernel_rfl) (by kernel_rfl) (fun _ _ _ h => h) (Or.inl ⟨by rfl, ?h3⟩) (by assumption) ?_
        case h3 =>
          intro wx hSw
          try dsimp only at hSw
          go_simp
          try with_reducible rfl
        refine wpAnyH_take (i := 5) (v := ?_) rfl (by kernel_rfl) (by kernel_rfl) (by kernel_rfl) (fun _ _ _ h => h) (Or.inl ⟨by rfl, ?h5⟩) (by assumption) ?_
        case h5 =>
          intro wx hSw
          try dsimp only at hSw
          go_simp
          try with_reducible rfl
        refine wpAnyH_ready (rs := [4, 6]) (by kernel_rfl) (by simp) ?_
        refine AllReadyH.cons rfl (fun K hK => ?_) ?_
        · go_simp
          refine hK.out _ _ ⟨p0, x0', x1'⟩ (fun _ => ?_)
          clear hK K
          refine wpAnyH_ready (rs := [6]) (by kernel_rfl) (by simp) ?_
          refine AllReadyH.cons rfl (fun K hK => ?_) AllReadyH.nil
          go_simp
          refine hK.out _ _ ⟨Rds.cell_past1 p0, Rds.cell_past1 x0', Rds.cell_past1 x1'⟩ (fun _ => ?_)
          clear hK K
          refine wpAnyH_ready (rs := [7]) (by kernel_rfl) (by simp) ?_
          refine AllReadyH.cons rfl (fun K hK => ?_) AllReadyH.nil
          refine step_append_lies _ (by rfl) _ _ _ (by rfl) 0 36 i0 _ 2 16 Try.underlying22 hi hz0 hz1 hz2 rfl (by omega) (.slice ua NA uc) NA (thC A) (by rfl) ((hown.alloc _).drew) ⟨W.heap.size, 0, none⟩ 1 1 [.int .i64 x0, .int .i64 x1] (by rfl) (by rfl) (World.news_of_block (cs := #[.int .i64 x0, .int .i64 x1]) (t := 36) (fr := (0, 0)) (heap_alloc_new W _)) (by simp [Value.oneCell']) (by omega) (by unfold maxLen; omega) (by omega) (Nat.zero_le _) (W.heap.size + 1) (by simp) ?_
          intro gg cap w7 hown1 hgrow hat hlt2
          have c5 : w7.cell? ⟨C, 0, none⟩ = some (.slice ua NA uc) := (hgrow.cell_far ⟨C, 0, none⟩ (by simp; omega) (Ne.symm ag)).trans (Rds.cell_past1 d2)
          have f5 : w7.frozen? ⟨C, 0, none⟩ = false := (hgrow.frozen_far ⟨C, 0, none⟩ (by simp; omega) (Ne.symm ag)).trans (by simp [World.frozen?_alloc_past, hml, d3])
          have e1 := (hgrow.cell_far ⟨C + 1, 0, none⟩ (by simp; omega) (Ne.symm aP)).trans (Rds.cell_past1 p0)
          have e2 := (hgrow.cell_far ⟨w.heap.size, 0, none⟩ (by simp; omega) (Ne.symm aX)).trans (Rds.cell_past1 x0')
          have e3 := (hgrow.cell_far ⟨w.heap.size, 1, none⟩ (by simp; omega) (Ne.symm aX)).trans (Rds.cell_past1 x1')
          refine hK.out _ _ ⟨e1, e2, e3⟩ (fun _ => ?_)
          clear hK K
          refine wpAnyH_ready (rs := [8]) (by kernel_rfl) (by simp) ?_
          refine AllReadyH.cons rfl (fun K hK => ?_) AllReadyH.nil
          go_simp
          refine hK.out _ _ ⟨e1, e2, e3⟩ (fun _ => ?_)
          clear hK K
          refine wpAnyH_ready (rs := [9]) (by kernel_rfl) (by simp) ?_
          refine AllReadyH.cons rfl (fun K hK => ?_) AllReadyH.nil
          go_simp
          refine hK.out _ _ ⟨e1, e2, e3⟩ (fun _ => ?_)
          clear hK K
          refine wpAnyH_ready (rs := [10]) (by kernel_rfl) (by simp) ?_
          refine AllReadyH.cons rfl (fun K hK => ?_) AllReadyH.nil
          go_simp
          refine hK.out _ _ ⟨(World.cell?_setCell_far _ _ _ _ (show C ≠ C + 1 by omega)).trans e1, (World.cell?_setCell_far _ _ _ _ (show C ≠ w.heap.size from Ne.symm hXm)).trans e2, (World.cell?_setCell_far _ _ _ _ (show C ≠ w.heap.size from Ne.symm hXm)).trans e3⟩ (fun _ => ?_)
          clear hK K
          refine wpAnyH_done (by kernel_rfl) ?_ _
          refine NoPanic.normal ?_
          have hY1 : Below W.heap.size W ((W.alloc (.cells #[.int .i64 x0, .int .i64 x1] 36)).drew) := ((Below.refl _ _).alloc (Nat.le_refl _) _).drew
          have hg2 := hgrow
          have hat2 := hat
          rw [HNA.out] at hown1 hg2 hat2
          have R := HWO.out.more (x0, x1) hown1 hY1 hg2 (by rcases hat2 with e | e; exact .inl e; exact .inr (by omega))
          have hn := HLW.out.change HWO.out HF2.out R.1 R.2
          rw [← HNA.out] at hn
          obtain ⟨Y, hY⟩ : ∃ Y, Y = w7.setCell ⟨C, 0, none⟩ (.slice (some ⟨gg, 0, none⟩) (NA + 1) cap) := ⟨_, rfl⟩
          rw [← hY] at hn ⊢
          obtain ⟨A2, hA2⟩ : ∃ A2, A2 = A ++ [(x0, x1)] := ⟨_, rfl⟩
          rw [← hA2] at hn
          have HA2 := Hid.mk hA2
          have HLY := Hid.mk hn
          clear R hn hY1 hown1 hgrow hg2 hat hat2 hlt2 c5 f5 e1 e2 e3 hown ag aX aP hXm hml hPl d2 d3 x0' x1' p0 hal hi hz0 hz1 hz2 hHeld hY hcb hA2
          have p0 : Y.cell? ⟨C + 1, 0, none⟩ = some (.pointer (some ⟨C, 0, none⟩)) := cell_at HLY.out.bx.pw rfl
          have p1 : Y.cell? ⟨C + 3, 0, none⟩ = some (.pointer (some ⟨C + 2, 0, none⟩)) := cell_at HLY.out.bx.ps rfl
          have x0' : Y.cell? ⟨w.heap.size, 0, none⟩ = some (.int .i64 x0) := cell_at HLY.out.bx.x rfl
          have x1' : Y.cell? ⟨w.heap.size, 1, none⟩ = some (.int .i64 x1) := cell_at HLY.out.bx.x rfl
          have cr : Y.cell? ⟨w.heap.size + 1, 0, none⟩ = some (.bool false) := cell_at HLY.out.bx.r rfl
          have fr : Y.frozen? ⟨w.heap.size + 1, 0, none⟩ = false := free_at HLY.out.bx.r
          cases HA with
          | false =>
            gi_wp2_with fail
            refine Code.wpIn_mono NoPanic.imp ?_
            refine wpIn_wide.2 ?_
            go_big_region
            all_goals
              refine NoPanic.normal ?_
              obtain ⟨V, hV⟩ : ∃ V, V = (Y.setCell ⟨w.heap.size + 1, 0, none⟩ (.bool true)).drew := ⟨_, rfl⟩
              have hbV : Below w.heap.size w V := by rw [hV]; exact (HLY.out.below.setCell (p := ⟨w.heap.size + 1, 0, none⟩) (by show _ ≤ w.heap.size + 1; omega) _).drew
              have hrV : V.heap[w.heap.size + 1]? = some (.cells #[.bool true] 4 (0, 0)) := by rw [hV]; exact (HLY.out.bx.answer (D := 0) true).1
              rw [← hV]
              have HBV := Hid.mk hbV
              have HRV := Hid.mk hrV
              clear hV hbV hrV p0 p1 x0' x1' cr fr
              gi_wp2
              have hc5 : V.cell? ⟨w.heap.size + 1, 0, none⟩ = some (.bool true) := cell_at HRV.out rfl
              refine ⟨.bool true, ?_, rfl, HBV.out⟩
              simp [results, Try.f5, go_sem, hc5]
          | true =>
            obtain ⟨v2, u2, hs2, hwo2, _, _⟩ := HLY.out.ex
            obtain ⟨e0, he0⟩ : ∃ e0, findE F x0 x1 = some e0 := Option.isSome_iff_exists.1 HHA.out.symm
            obtain ⟨q1, q2⟩ := changed (x := (x0, x1)) HTH.out HLW.out.vs he0
            rw [← HA2.out] at q1 q2
            obtain ⟨N2, hN2⟩ : ∃ N2 : Int, N2 = (A2.length : Nat) := ⟨_, rfl⟩
            have hnow := fun (z : World) (hz : Below Y.heap.size Y z) => now_any (hwo2.grown hz) (by have := HLY.out.alen; omega)
            have hval := fun (z : World) (hz : Below Y.heap.size Y z) => valid_any (verF A2) (A2.length : Nat) z (hs2.grown hz) (by have := HLY.out.elen; omega)
            have hnote := fun (z : World) (hz : Below Y.heap.size Y z) => note_old (verF A2) (A2.length : Nat) x0 x1 e0 (hs2.grown hz) (by have := HLY.out.elen; omega) he0
            rw [q1] at hval
            rw [← hN2] at hnow hval hnote
            dsimp only at q2
            rw [q2] at hnote
            have HNOW2 := Hid.mk hnow
            have HVAL2 := Hid.mk hval
            have HNOTE2 := Hid.mk hnote
            have HY0 := Hid.mk (Below.refl Y.heap.size Y).drew
            clear hs2 hwo2 he0 q1 q2 hnow hval hnote hN2
            gi_wp2_with fail
            refine Code.wpIn_mono NoPanic.imp ?_
            refine wpIn_wide.2 ?_
            go_region_held3 (fun wx => wx.cell? ⟨C + 1, 0, none⟩ = some (.pointer (some ⟨C, 0, none⟩)) ∧ wx.cell? ⟨C + 3, 0, none⟩ = some (.pointer (some ⟨C + 2, 0, none⟩)) ∧ wx.cell? ⟨w.heap.size, 0, none⟩ = some (.int .i64 x0) ∧ wx.cell? ⟨w.heap.size, 1, none⟩ = some (.int .i64 x1))
              (first
                | exact ⟨p0, p1, x0', x1'⟩
                | exact hS5
                | exact hS4
                | exact hS3
                | exact hS2
                | exact hS1)
              (first
                | (go_at_call 10; have m9 := m3; refine (HNOTE2.out _ m3.out).mono ?_; rintro e z4 ⟨rfl, hbz4⟩; have m4 := Hid.mk (m3.out.trans (hbz4.mono m3.out.size)); have lm4 := Hid.mk (HLY.out.grown m4.out); have cr4 : z4.cell? ⟨w.heap.size + 1, 0, none⟩ = some (.bool false) := cell_at lm4.out.bx.r rfl; have fr4 : z4.frozen? ⟨w.heap.size + 1, 0, none⟩ = false := free_at lm4.out.bx.r; have hS4 : z4.cell? ⟨C + 1, 0, none⟩ = some (.pointer (some ⟨C, 0, none⟩)) ∧ z4.cell? ⟨C + 3, 0, none⟩ = some (.pointer (some ⟨C + 2, 0, none⟩)) ∧ z4.cell? ⟨w.heap.size, 0, none⟩ = some (.int .i64 x0) ∧ z4.cell? ⟨w.heap.size, 1, none⟩ = some (.int .i64 x1) := ⟨cell_at lm4.out.bx.pw rfl, cell_at lm4.out.bx.ps rfl, cell_at lm4.out.bx.x rfl, cell_at lm4.out.bx.x rfl⟩; clear hbz4; have hcb := HCB.out; have hS5 : (z4.setCell ⟨w.heap.size + 1, 0, none⟩ (.bool true)).cell? ⟨C + 1, 0, none⟩ = some (.pointer (some ⟨C, 0, none⟩)) ∧ (z4.setCell ⟨w.heap.size + 1, 0, none⟩ (.bool true)).cell? ⟨C + 3, 0, none⟩ = some (.pointer (some ⟨C + 2, 0, none⟩)) ∧ (z4.setCell ⟨w.heap.size + 1, 0, none⟩ (.bool true)).cell? ⟨w.heap.size, 0, none⟩ = some (.int .i64 x0) ∧ (z4.setCell ⟨w.heap.size + 1, 0, none⟩ (.bool true)).cell? ⟨w.heap.size, 1, none⟩ = some (.int .i64 x1) := ⟨(World.cell?_setCell_far _ _ _ _ (show w.heap.size + 1 ≠ C + 1 by omega)).trans hS4.1, (World.cell?_setCell_far _ _ _ _ (show w.heap.size + 1 ≠ C + 3 by omega)).trans hS4.2.1, (World.cell?_setCell_far _ _ _ _ (show w.heap.size + 1 ≠ w.heap.size by omega)).trans hS4.2.2.1, (World.cell?_setCell_far _ _ _ _ (show w.heap.size + 1 ≠ w.heap.size by omega)).trans hS4.2.2.2⟩; clear hcb)
                | (go_at_call 11; have m9 := m2; refine (HNOW2.out _ m2.out).mono ?_; rintro e z3 ⟨rfl, hbz3⟩; have m3 := Hid.mk (m2.out.trans (hbz3.mono m2.out.size)); have lm3 := Hid.mk (HLY.out.grown m3.out); have hS3 : z3.cell? ⟨C + 1, 0, none⟩ = some (.pointer (some ⟨C, 0, none⟩)) ∧ z3.cell? ⟨C + 3, 0, none⟩ = some (.pointer (some ⟨C + 2, 0, none⟩)) ∧ z3.cell? ⟨w.heap.size, 0, none⟩ = some (.int .i64 x0) ∧ z3.cell? ⟨w.heap.size, 1, none⟩ = some (.int .i64 x1) := ⟨cell_at lm3.out.bx.pw rfl, cell_at lm3.out.bx.ps rfl, cell_at lm3.out.bx.x rfl, cell_at lm3.out.bx.x rfl⟩; clear hbz3)
                | (go_at_call 13; have m9 := m1; refine (HVAL2.out _ m1.out).mono ?_; rintro e z2 ⟨rfl, hbz2⟩; have m2 := Hid.mk (m1.out.trans (hbz2.mono m1.out.size)); have lm2 := Hid.mk (HLY.out.grown m2.out); have hS2 : z2.cell? ⟨C + 1, 0, none⟩ = some (.pointer (some ⟨C, 0, none⟩)) ∧ z2.cell? ⟨C + 3, 0, none⟩ = some (.pointer (some ⟨C + 2, 0, none⟩)) ∧ z2.cell? ⟨w.heap.size, 0, none⟩ = some (.int .i64 x0) ∧ z2.cell? ⟨w.heap.size, 1, none⟩ = some (.int .i64 x1) := ⟨cell_at lm2.out.bx.pw rfl, cell_at lm2.out.bx.ps rfl, cell_at lm2.out.bx.x rfl, cell_at lm2.out.bx.x rfl⟩; clear hbz2)
                | (go_at_call 11; refine (HNOW2.out _ HY0.out).mono ?_; rintro e z1 ⟨rfl, hbz1⟩; have m1 := Hid.mk (HY0.out.trans (hbz1.mono HY0.out.size)); have lm1 := Hid.mk (HLY.out.grown m1.out); have hS1 : z1.cell? ⟨C + 1, 0, none⟩ = some (.pointer (some ⟨C, 0, none⟩)) ∧ z1.cell? ⟨C + 3, 0, none⟩ = some (.pointer (some ⟨C + 2, 0, none⟩)) ∧ z1.cell? ⟨w.heap.size, 0, none⟩ = some (.int .i64 x0) ∧ z1.cell? ⟨w.heap.size, 1, none⟩ = some (.int .i64 x1) := ⟨cell_at lm1.out.bx.pw rfl, cell_at lm1.out.bx.ps rfl, cell_at lm1.out.bx.x rfl, cell_at lm1.out.bx.x rfl⟩; clear hbz1))
            all_goals
              refine NoPanic.normal ?_
              clear hS1 hS2 hS3 hS4 hS5 cr4 fr4
              obtain ⟨V, hV⟩ : ∃ V, V = z4.setCell ⟨w.heap.size + 1, 0, none⟩ (.bool true) := ⟨_, rfl⟩
              have hbV : Below w.heap.size w V := by rw [hV]; exact (lm4.out.below.setCell (p := ⟨w.heap.size + 1, 0, none⟩) (by show _ ≤ w.heap.size + 1; omega) _)
              have hrV : V.heap[w.heap.size + 1]? = some (.cells #[.bool true] 4 (0, 0)) := by rw [hV]; exact (lm4.out.bx.answer (D := 0) true).1
              rw [← hV]
              have HBV := Hid.mk hbV
              have HRV := Hid.mk hrV
              clear hV hbV hrV p0 p1 x0' x1' cr fr
              gi_wp2
              have hc5 : V.cell? ⟨w.heap.size + 1, 0, none⟩ = some (.bool true) := cell_at HRV.out rfl
              refine ⟨.bool true, ?_, rfl, HBV.out⟩
              simp [results, Try.f5, go_sem, hc5]
        · refine AllReadyH.cons rfl (fun K hK => ?_) AllReadyH.nil
          go_simp
          refine hK.out _ _ ⟨Rds.cell_past1 p0, Rds.cell_past1 x0', Rds.cell_past1 x1'⟩ (fun _ => ?_)
          clear hK K
          have d2p := Rds.cell_past1 (o := .cells #[.int .i64 x0, .int .i64 x1] 36) d2
          refine wpAnyH_ready (rs := [4]) (by kernel_rfl) (by simp) ?_
          refine AllReadyH.cons rfl (fun K hK => ?_) AllReadyH.nil
          go_simp
          refine hK.out _ _ ⟨Rds.cell_past1 p0, Rds.cell_past1 x0', Rds.cell_past1 x1'⟩ (fun _ => ?_)
          clear hK K
          refine wpAnyH_ready (rs := [7]) (by kernel_rfl) (by simp) ?_
          refine AllReadyH.cons rfl (fun K hK => ?_) AllReadyH.nil
          refine step_append_lies _ (by rfl) _ _ _ (by rfl) 0 36 i0 _ 2 16 Try.underlying22 hi hz0 hz1 hz2 rfl (by omega) (.slice ua NA uc) NA (thC A) (by rfl) ((hown.alloc _).drew) ⟨W.heap.size, 0, none⟩ 1 1 [.int .i64 x0, .int .i64 x1] (by rfl) (by rfl) (World.news_of_block (cs := #[.int .i64 x0, .int .i64 x1]) (t := 36) (fr := (0, 0)) (heap_alloc_new W _)) (by simp [Value.oneCell']) (by omega) (by unfold maxLen; omega) (by omega) (Nat.zero_le _) (W.heap.size + 1) (by simp) ?_
          intro gg cap w7 hown1 hgrow hat hlt2
          have c5 : w7.cell? ⟨C, 0, none⟩ = some (.slice ua NA uc) := (hgrow.cell_far ⟨C, 0, none⟩ (by simp; omega) (Ne.symm ag)).trans (Rds.cell_past1 d2)
          have f5 : w7.frozen? ⟨C, 0, none⟩ = false := (hgrow.frozen_far ⟨C, 0, none⟩ (by simp; omega) (Ne.symm ag)).trans (by simp [World.frozen?_alloc_past, hml, d3])
          have e1 := (hgrow.cell_far ⟨C + 1, 0, none⟩ (by simp; omega) (Ne.symm aP)).trans (Rds.cell_past1 p0)
          have e2 := (hgrow.cell_far ⟨w.heap.size, 0, none⟩ (by simp; omega) (Ne.symm aX)).trans (Rds.cell_past1 x0')
          have e3 := (hgrow.cell_far ⟨w.heap.size, 1, none⟩ (by simp; omega) (Ne.symm aX)).trans (Rds.cell_past1 x1')
          refine hK.out _ _ ⟨e1, e2, e3⟩ (fun _ => ?_)
          clear hK K
          refine wpAnyH_ready (rs := [8]) (by kernel_rfl) (by simp) ?_
          refine AllReadyH.cons rfl (fun K hK => ?_) AllReadyH.nil
          go_simp
          refine hK.out _ _ ⟨e1, e2, e3⟩ (fun _ => ?_)
          clear hK K
          refine wpAnyH_ready (rs := [9]) (by kernel_rfl) (by simp) ?_
          refine AllReadyH.cons rfl (fun K hK => ?_) AllReadyH.nil
          go_simp
          refine hK.out _ _ ⟨e1, e2, e3⟩ (fun _ => ?_)
          clear hK K
          refine wpAnyH_ready (rs := [10]) (by kernel_rfl) (by simp) ?_
          refine AllReadyH.cons rfl (fun K hK => ?_) AllReadyH.nil
          go_simp
          refine hK.out _ _ ⟨(World.cell?_setCell_far _ _ _ _ (show C ≠ C + 1 by omega)).trans e1, (World.cell?_setCell_far _ _ _ _ (show C ≠ w.heap.size from Ne.symm hXm)).trans e2, (World.cell?_setCell_far _ _ _ _ (show C ≠ w.heap.size from Ne.symm hXm)).trans e3⟩ (fun _ => ?_)
          clear hK K
          refine wpAnyH_done (by kernel_rfl) ?_ _
          refine NoPanic.normal ?_
          have hY1 : Below W.heap.size W ((W.alloc (.cells #[.int .i64 x0, .int .i64 x1] 36)).drew) := ((Below.refl _ _).alloc (Nat.le_refl _) _).drew
          have hg2 := hgrow
          have hat2 := hat
          rw [HNA.out] at hown1 hg2 hat2
          have R := HWO.out.more (x0, x1) hown1 hY1 hg2 (by rcases hat2 with e | e; exact .inl e; exact .inr (by omega))
          have hn := HLW.out.change HWO.out HF2.out R.1 R.2
          rw [← HNA.out] at hn
          obtain ⟨Y, hY⟩ : ∃ Y, Y = w7.setCell ⟨C, 0, none⟩ (.slice (some ⟨gg, 0, none⟩) (NA + 1) cap) := ⟨_, rfl⟩
          rw [← hY] at hn ⊢
          obtain ⟨A2, hA2⟩ : ∃ A2, A2 = A ++ [(x0, x1)] := ⟨_, rfl⟩
          rw [← hA2] at hn
          have HA2 := Hid.mk hA2
          have HLY := Hid.mk hn
          clear R hn hY1 hown1 hgrow hg2 hat hat2 hlt2 c5 f5 e1 e2 e3 hown ag aX aP hXm hml hPl d2 d3 x0' x1' p0 hal hi hz0 hz1 hz2 hHeld hY hcb hA2
          have p0 : Y.cell? ⟨C + 1, 0, none⟩ = some (.pointer (some ⟨C, 0, none⟩)) := cell_at HLY.out.bx.pw rfl
          have p1 : Y.cell? ⟨C + 3, 0, none⟩ = some (.pointer (some ⟨C + 2, 0, none⟩)) := cell_at HLY.out.bx.ps rfl
          have x0' : Y.cell? ⟨w.heap.size, 0, none⟩ = some (.int .i64 x0) := cell_at HLY.out.bx.x rfl
          have x1' : Y.cell? ⟨w.heap.size, 1, none⟩ = some (.int .i64 x1) := cell_at HLY.out.bx.x rfl
          have cr : Y.cell? ⟨w.heap.size + 1, 0, none⟩ = some (.bool false) := cell_at HLY.out.bx.r rfl
          have fr : Y.frozen? ⟨w.heap.size + 1, 0, none⟩ = false := free_at HLY.out.bx.r
          cases HA with
          | false =>
            gi_wp2_with fail
            refine Code.wpIn_mono NoPanic.imp ?_
            refine wpIn_wide.2 ?_
            go_big_region
            all_goals
              refine NoPanic.normal ?_
              obtain ⟨V, hV⟩ : ∃ V, V = (Y.setCell ⟨w.heap.size + 1, 0, none⟩ (.bool true)).drew := ⟨_, rfl⟩
              have hbV : Below w.heap.size w V := by rw [hV]; exact (HLY.out.below.setCell (p := ⟨w.heap.size + 1, 0, none⟩) (by show _ ≤ w.heap.size + 1; omega) _).drew
              have hrV : V.heap[w.heap.size + 1]? = some (.cells #[.bool true] 4 (0, 0)) := by rw [hV]; exact (HLY.out.bx.answer (D := 0) true).1
              rw [← hV]
              have HBV := Hid.mk hbV
              have HRV := Hid.mk hrV
              clear hV hbV hrV p0 p1 x0' x1' cr fr
              gi_wp2
              have hc5 : V.cell? ⟨w.heap.size + 1, 0, none⟩ = some (.bool true) := cell_at HRV.out rfl
              refine ⟨.bool true, ?_, rfl, HBV.out⟩
              simp [results, Try.f5, go_sem, hc5]
          | true =>
            obtain ⟨v2, u2, hs2, hwo2, _, _⟩ := HLY.out.ex
            obtain ⟨e0, he0⟩ : ∃ e0, findE F x0 x1 = some e0 := Option.isSome_iff_exists.1 HHA.out.symm
            obtain ⟨q1, q2⟩ := changed (x := (x0, x1)) HTH.out HLW.out.vs he0
            rw [← HA2.out] at q1 q2
            obtain ⟨N2, hN2⟩ : ∃ N2 : Int, N2 = (A2.length : Nat) := ⟨_, rfl⟩
            have hnow := fun (z : World) (hz : Below Y.heap.size Y z) => now_any (hwo2.grown hz) (by have := HLY.out.alen; omega)
            have hval := fun (z : World) (hz : Below Y.heap.size Y z) => valid_any (verF A2) (A2.length : Nat) z (hs2.grown hz) (by have := HLY.out.elen; omega)
            have hnote := fun (z : World) (hz : Below Y.heap.size Y z) => note_old (verF A2) (A2.length : Nat) x0 x1 e0 (hs2.grown hz) (by have := HLY.out.elen; omega) he0
            rw [q1] at hval
            rw [← hN2] at hnow hval hnote
            dsimp only at q2
            rw [q2] at hnote
            have HNOW2 := Hid.mk hnow
            have HVAL2 := Hid.mk hval
            have HNOTE2 := Hid.mk hnote
            have HY0 := Hid.mk (Below.refl Y.heap.size Y).drew
            clear hs2 hwo2 he0 q1 q2 hnow hval hnote hN2
            gi_wp2_with fail
            refine Code.wpIn_mono NoPanic.imp ?_
            refine wpIn_wide.2 ?_
            go_region_held3 (fun wx => wx.cell? ⟨C + 1, 0, none⟩ = some (.pointer (some ⟨C, 0, none⟩)) ∧ wx.cell? ⟨C + 3, 0, none⟩ = some (.pointer (some ⟨C + 2, 0, none⟩)) ∧ wx.cell? ⟨w.heap.size, 0, none⟩ = some (.int .i64 x0) ∧ wx.cell? ⟨w.heap.size, 1, none⟩ = some (.int .i64 x1))
              (first
                | exact ⟨p0, p1, x0', x1'⟩
                | exact hS5
                | exact hS4
                | exact hS3
                | exact hS2
                | exact hS1)
              (first
                | (go_at_call 10; have m9 := m3; refine (HNOTE2.out _ m3.out).mono ?_; rintro e z4 ⟨rfl, hbz4⟩; have m4 := Hid.mk (m3.out.trans (hbz4.mono m3.out.size)); have lm4 := Hid.mk (HLY.out.grown m4.out); have cr4 : z4.cell? ⟨w.heap.size + 1, 0, none⟩ = some (.bool false) := cell_at lm4.out.bx.r rfl; have fr4 : z4.frozen? ⟨w.heap.size + 1, 0, none⟩ = false := free_at lm4.out.bx.r; have hS4 : z4.cell? ⟨C + 1, 0, none⟩ = some (.pointer (some ⟨C, 0, none⟩)) ∧ z4.cell? ⟨C + 3, 0, none⟩ = some (.pointer (some ⟨C + 2, 0, none⟩)) ∧ z4.cell? ⟨w.heap.size, 0, none⟩ = some (.int .i64 x0) ∧ z4.cell? ⟨w.heap.size, 1, none⟩ = some (.int .i64 x1) := ⟨cell_at lm4.out.bx.pw rfl, cell_at lm4.out.bx.ps rfl, cell_at lm4.out.bx.x rfl, cell_at lm4.out.bx.x rfl⟩; clear hbz4; have hcb := HCB.out; have hS5 : (z4.setCell ⟨w.heap.size + 1, 0, none⟩ (.bool true)).cell? ⟨C + 1, 0, none⟩ = some (.pointer (some ⟨C, 0, none⟩)) ∧ (z4.setCell ⟨w.heap.size + 1, 0, none⟩ (.bool true)).cell? ⟨C + 3, 0, none⟩ = some (.pointer (some ⟨C + 2, 0, none⟩)) ∧ (z4.setCell ⟨w.heap.size + 1, 0, none⟩ (.bool true)).cell? ⟨w.heap.size, 0, none⟩ = some (.int .i64 x0) ∧ (z4.setCell ⟨w.heap.size + 1, 0, none⟩ (.bool true)).cell? ⟨w.heap.size, 1, none⟩ = some (.int .i64 x1) := ⟨(World.cell?_setCell_far _ _ _ _ (show w.heap.size + 1 ≠ C + 1 by omega)).trans hS4.1, (World.cell?_setCell_far _ _ _ _ (show w.heap.size + 1 ≠ C + 3 by omega)).trans hS4.2.1, (World.cell?_setCell_far _ _ _ _ (show w.heap.size + 1 ≠ w.heap.size by omega)).trans hS4.2.2.1, (World.cell?_setCell_far _ _ _ _ (show w.heap.size + 1 ≠ w.heap.size by omega)).trans hS4.2.2.2⟩; clear hcb)
                | (go_at_call 11; have m9 := m2; refine (HNOW2.out _ m2.out).mono ?_; rintro e z3 ⟨rfl, hbz3⟩; have m3 := Hid.mk (m2.out.trans (hbz3.mono m2.out.size)); have lm3 := Hid.mk (HLY.out.grown m3.out); have hS3 : z3.cell? ⟨C + 1, 0, none⟩ = some (.pointer (some ⟨C, 0, none⟩)) ∧ z3.cell? ⟨C + 3, 0, none⟩ = some (.pointer (some ⟨C + 2, 0, none⟩)) ∧ z3.cell? ⟨w.heap.size, 0, none⟩ = some (.int .i64 x0) ∧ z3.cell? ⟨w.heap.size, 1, none⟩ = some (.int .i64 x1) := ⟨cell_at lm3.out.bx.pw rfl, cell_at lm3.out.bx.ps rfl, cell_at lm3.out.bx.x rfl, cell_at lm3.out.bx.x rfl⟩; clear hbz3)
                | (go_at_call 13; have m9 := m1; refine (HVAL2.out _ m1.out).mono ?_; rintro e z2 ⟨rfl, hbz2⟩; have m2 := Hid.mk (m1.out.trans (hbz2.mono m1.out.size)); have lm2 := Hid.mk (HLY.out.grown m2.out); have hS2 : z2.cell? ⟨C + 1, 0, none⟩ = some (.pointer (some ⟨C, 0, none⟩)) ∧ z2.cell? ⟨C + 3, 0, none⟩ = some (.pointer (some ⟨C + 2, 0, none⟩)) ∧ z2.cell? ⟨w.heap.size, 0, none⟩ = some (.int .i64 x0) ∧ z2.cell? ⟨w.heap.size, 1, none⟩ = some (.int .i64 x1) := ⟨cell_at lm2.out.bx.pw rfl, cell_at lm2.out.bx.ps rfl, cell_at lm2.out.bx.x rfl, cell_at lm2.out.bx.x rfl⟩; clear hbz2)
                | (go_at_call 11; refine (HNOW2.out _ HY0.out).mono ?_; rintro e z1 ⟨rfl, hbz1⟩; have m1 := Hid.mk (HY0.out.trans (hbz1.mono HY0.out.size)); have lm1 := Hid.mk (HLY.out.grown m1.out); have hS1 : z1.cell? ⟨C + 1, 0, none⟩ = some (.pointer (some ⟨C, 0, none⟩)) ∧ z1.cell? ⟨C + 3, 0, none⟩ = some (.pointer (some ⟨C + 2, 0, none⟩)) ∧ z1.cell? ⟨w.heap.size, 0, none⟩ = some (.int .i64 x0) ∧ z1.cell? ⟨w.heap.size, 1, none⟩ = some (.int .i64 x1) := ⟨cell_at lm1.out.bx.pw rfl, cell_at lm1.out.bx.ps rfl, cell_at lm1.out.bx.x rfl, cell_at lm1.out.bx.x rfl⟩; clear hbz1))
            all_goals
              refine NoPanic.normal ?_
              clear hS1 hS2 hS3 hS4 hS5 cr4 fr4
              obtain ⟨V, hV⟩ : ∃ V, V = z4.setCell ⟨w.heap.size + 1, 0, none⟩ (.bool true) := ⟨_, rfl⟩
              have hbV : Below w.heap.size w V := by rw [hV]; exact (lm4.out.below.setCell (p := ⟨w.heap.size + 1, 0, none⟩) (by show _ ≤ w.heap.size + 1; omega) _)
              have hrV : V.heap[w.heap.size + 1]? = some (.cells #[.bool true] 4 (0, 0)) := by rw [hV]; exact (lm4.out.bx.answer (D := 0) true).1
              rw [← hV]
              have HBV := Hid.mk hbV
              have HRV := Hid.mk hrV
              clear hV hbV hrV p0 p1 x0' x1' cr fr
              gi_wp2
              have hc5 : V.cell? ⟨w.heap.size + 1, 0, none⟩ = some (.bool true) := cell_at HRV.out rfl
              refine ⟨.bool true, ?_, rfl, HBV.out⟩
              simp [results, Try.f5, go_sem, hc5]
      | true =>
        have p1 : z.cell? ⟨C + 3, 0, none⟩ = some (.pointer (some ⟨C + 2, 0, none⟩)) := cell_at HLz.out.bx.ps rfl
        gi_wp2_with fail
        refine ⟨trivial, (all_in _ _ _).mono ?_⟩
        rintro e w8 ⟨rfl, hw8⟩
        obtain ⟨ZS, hZS⟩ : ∃ ZS, ZS = z.heap.size := ⟨_, rfl⟩
        rw [← hZS]
        have hb8 : Below z.heap.size z w8 := by rw [hw8]; exact (Below.refl _ _).alloc (Nat.le_refl _) _
        have hc8 : w8.cell? ⟨ZS, 0, none⟩ = some (.pointer (some ⟨C + 2, 0, none⟩)) := by rw [hw8, hZS]; exact cell_at (heap_new _ _) rfl
        have hl8 := HLz.out.grown hb8
        obtain ⟨v, u, hs8, _, _, _⟩ := hl8.ex
        have HL8 := Hid.mk hl8
        have HS8 := Hid.mk hs8
        have HC8 := Hid.mk hc8
        clear hw8 hZS hb8 hc8 hl8 hs8 p1 HLz HNOW HVAL
        gi_wp2
        refine range_over2 (gf := 24) (lb := #[.pointer (some ⟨ZS, 0, none⟩)]) rfl (enters_of Try.func24 (by kernel_rfl) rfl)
          (all_gives 5 (by omega) _ (C + 2) v st E w8 HC8.out HS8.out (by have := HL8.out.elen; omega)) (Below.refl _ _) (fun _ _ _ h k => h.trans k) (fun W l r r' hl hr => Kp.put W l _ (fun k hk => by have := HS8.out.own_lt k hk; omega)) (fun _ => rfl)
          (fun (pre : List (Ix E.length)) X => LS w.heap.size w X C C (C + 1) (C + 2) (C + 3) (x0, x1) k A st E) (fun _ _ => False)
          (fun s X Y row hs hg hr => hs.kept hg hr HL8.out.sizeB) (fun _ _ _ _ h _ _ => h) HL8.out ?round ?done ?stop
        case stop => intro D pre X hD hS hF; exact hF.elim
        case round =>
          intro l pre x X r hl hr hI hgood
          have hlX : l < X.heap.size := (Array.getElem?_eq_some_iff.1 hr).1
          unfold encE
          obtain ⟨e', hfe, hqe⟩ := find_read HVB.out.symm x.1 x.2
          obtain ⟨y0, hy0⟩ : ∃ y, y = E[x.1]!.1 := ⟨_, rfl⟩
          obtain ⟨y1, hy1⟩ : ∃ y, y = E[x.1]!.2.1 := ⟨_, rfl⟩
          obtain ⟨y2, hy2⟩ : ∃ y, y = E[x.1]!.2.2 := ⟨_, rfl⟩
          rw [← hy0, ← hy1] at hfe hqe
          rw [← hy0, ← hy1, ← hy2]
          have HI := Hid.mk hI
          have HFE := Hid.mk hfe
          have HQE := Hid.mk hqe
          have hr1 : (X.alloc (.cells #[.int .i64 y0, .int .i64 y1, .int .i64 y2] 54)).heap[l]? = some (.loop r) := (Below.heap_alloc _ _ _ hlX).trans hr
          have HR := Hid.mk hr1
          have hl0 : w8.heap.size ≤ l := hl
          clear hy0 hy1 hy2 hgood hI hr hr1 hfe hqe
          gi_wp2
          refine ⟨others_below ((Below.refl _ _).alloc (Nat.le_refl _) _) _, Kp.of_below (B := X.heap.size) (fun k hk => by have := HS8.out.own_lt k hk; omega) ((Below.refl _ _).alloc (Nat.le_refl _) _), fun r' => ?_⟩
          obtain ⟨M, hM⟩ : ∃ M, M = X.heap.size := ⟨_, rfl⟩
          obtain ⟨Z, hZ⟩ : ∃ Z, Z = (X.alloc (.cells #[.int .i64 y0, .int .i64 y1, .int .i64 y2] 54)).putObj l (.loop r') := ⟨_, rfl⟩
          have hzZ : Z.heap.size = X.heap.size + 1 := by rw [hZ]; simp
          have hg1 : (X.alloc (.cells #[.int .i64 y0, .int .i64 y1, .int .i64 y2] 54)).grownBy Z (some l) := by rw [hZ]; exact grownBy_putObj' _ _ _
          have hrow : ∀ q, some l = some q → w8.heap.size ≤ q ∧ ∃ o : Obj, (X.alloc (.cells #[.int .i64 y0, .int .i64 y1, .int .i64 y2] 54)).heap[q]? = some o ∧ o.isCells = false := fun q e => by cases e; exact ⟨hl0, _, HR.out, rfl⟩
          have hLZ := (HI.out.grown ((Below.refl _ _).alloc (Nat.le_refl _) (.cells #[.int .i64 y0, .int .i64 y1, .int .i64 y2] 54))).kept hg1 hrow HL8.out.sizeB
          have heZ : Z.heap[M]? = some (.cells #[.int .i64 y0, .int .i64 y1, .int .i64 y2] 54 (0, 0)) := block_kept (by rw [hM]; exact heap_new _ _) hg1 (fun q e => (hrow q e).2)
          rw [← hZ, ← hM]
          have hne := Wider.some Z.heap.size Z
          obtain ⟨v2, u2, hs2, hwo2, _, _⟩ := hLZ.ex
          obtain ⟨NA, hNA⟩ : ∃ NA : Int, NA = (A.length : Nat) := ⟨_, rfl⟩
          have hnow := fun (g : Wider Z.heap.size Z) => now_any (hwo2.grown g.h) (by have := hLZ.alen; omega)
          have hnote := fun (g : Wider Z.heap.size Z) => note_old (verF A) (A.length : Nat) y0 y1 e' (hs2.grown g.h) (by have := hLZ.elen; omega) HFE.out
          rw [HQE.out] at hnote
          rw [← hNA] at hnow hnote
          have HNOW := Hid.mk hnow
          have HNOTE := Hid.mk hnote
          have HLZ := Hid.mk hLZ
          have HEZ := Hid.mk heZ
          have kp : ∀ g : Wider Z.heap.size Z, g.z.cell? ⟨C + 1, 0, none⟩ = some (.pointer (some ⟨C, 0, none⟩)) := fun g => cell_at (HLZ.out.grown g.h).bx.pw rfl
          have kq : ∀ g : Wider Z.heap.size Z, g.z.cell? ⟨C + 3, 0, none⟩ = some (.pointer (some ⟨C + 2, 0, none⟩)) := fun g => cell_at (HLZ.out.grown g.h).bx.ps rfl
          have k0 : ∀ g : Wider Z.heap.size Z, g.z.cell? ⟨M, 0, none⟩ = some (.int .i64 y0) := fun g => cell_at ((g.h.block M (Array.getElem?_eq_some_iff.1 HEZ.out).1).trans HEZ.out) rfl
          have k1 : ∀ g : Wider Z.heap.size Z, g.z.cell? ⟨M, 1, none⟩ = some (.int .i64 y1) := fun g => cell_at ((g.h.block M (Array.getElem?_eq_some_iff.1 HEZ.out).1).trans HEZ.out) rfl
          have HLV : Hid (w8.heap.size ≤ Z.heap.size) := Hid.mk (by omega)
          clear hZ hM hzZ hg1 hrow hLZ heZ hs2 hwo2 hnow hnote hNA
          gi_wp2_with fail
          refine wpIn_wider_round (B := Z.heap.size) (w0 := Z) _ (by kernel_rfl) (by kernel_rfl) (by kernel_rfl) (Below.refl _ Z) ?_
          repeat (go_big_quiet_step ((first
            | (go_at_call 11; refine (HNOW.out _).mono ?_; rintro e w6 ⟨rfl, hb6⟩; exact ⟨rfl, ⟨w6, by rename_i g; exact farther (Nat.le_refl _) g.h hb6⟩, rfl⟩)
            | (go_at_call 10; refine (HNOTE.out _).mono ?_; rintro e w6 ⟨rfl, hb6⟩; exact ⟨rfl, ⟨w6, by rename_i g; exact farther (Nat.le_refl _) g.h hb6⟩, rfl⟩))))
          refine wpQuiet_nil ?_
          rintro z2 ⟨g, hg⟩
          have hz2 : Below Z.heap.size Z z2 := by rw [hg]; exact g.h
          clear hg g
          have HLz := Hid.mk (HLZ.out.grown hz2)
          have hkf := Hid.mk (others_below hz2 w8.heap.size)
          have hkp : Hid (Kp v Z z2) := Hid.mk (Kp.of_below (B := Z.heap.size) (fun k hk => by have := HS8.out.own_lt k hk; have := HLV.out; omega) hz2)
          clear hz2 kp kq k0 k1 hne
          gi_wp2
          exact ⟨hkf.out, hkp.out, HLz.out⟩
        case done =>
          intro D ys W hD hys hI hK
          have HIW := Hid.mk hI
          have HKW := Hid.mk hK
          have HD : Hid (w.heap.size ≤ D) := Hid.mk (Nat.le_trans HL8.out.sizeB hD)
          obtain ⟨NA, hNA⟩ : ∃ NA : Int, NA = (A.length : Nat) := ⟨_, rfl⟩
          obtain ⟨T, hT⟩ : ∃ T, T = noteT (ofF (verF A)) NA st E x0 x1 := ⟨_, rfl⟩
          obtain ⟨F, hF⟩ : ∃ F, F = noteE (ofF (verF A)) st E x0 x1 := ⟨_, rfl⟩
          have hal := hI.alen
          have hel := hI.elen
          have hfl := noteE_length (ofF (verF A)) st E x0 x1
          rw [← hF] at hfl
          have hnow := fun (z : World) (u : Value) (hz : WoAt z C u A) => now_any hz (by omega)
          have hnote := fun (z : World) (v : Value) (hz : SetAt z (C + 2) v st E) => note_any (verF A) NA x0 x1 hz (by omega)
          have hval := fun (z : World) (v : Value) (hz : SetAt z (C + 2) v T F) => valid_any (verF A) NA z hz (by omega)
          have hvf : validB (ofF (verF A)) F = true := by rw [hF]; exact valid_note HVB.out.symm x0 x1
          rw [hvf] at hval
          rw [note_valid HVB.out.symm x0 x1, ← hT, ← hF] at hnote
          rw [← hNA] at hnow
          have hnext := fun (z z2 : World) (v v2 : Value) (hl : LS w.heap.size w z C C (C + 1) (C + 2) (C + 3) (x0, x1) k A st E) (hs : SetAt z (C + 2) v st E) (hv : ∀ q, Foot (C + 2) [v] q → C ≤ q) (hs2 : SetAt z2 (C + 2) v2 T F) (hr : Wrote (Foot (C + 2) [v]) (Foot (C + 2) [v2]) z z2) => (show LS w.heap.size w z2 C C (C + 1) (C + 2) (C + 3) (x0, x1) (k + 1) A T F by
            rw [hT, hF, hNA] at hs2 ⊢
            exact hl.note hs hv hs2 hr HTH.out)
          have HNOW := Hid.mk hnow
          have HNOTE := Hid.mk hnote
          have HVAL := Hid.mk hval
          have HNEXT := Hid.mk hnext
          have p0 : W.cell? ⟨C + 1, 0, none⟩ = some (.pointer (some ⟨C, 0, none⟩)) := cell_at hI.bx.pw rfl
          have p1 : W.cell? ⟨C + 3, 0, none⟩ = some (.pointer (some ⟨C + 2, 0, none⟩)) := cell_at hI.bx.ps rfl
          have x0' : W.cell? ⟨w.heap.size, 0, none⟩ = some (.int .i64 x0) := cell_at hI.bx.x rfl
          have x1' : W.cell? ⟨w.heap.size, 1, none⟩ = some (.int .i64 x1) := cell_at hI.bx.x rfl
          have l0 := Hid.mk (hI.grown (Below.refl W.heap.size W).drew)
          have kd0 : Hid (W.drew.heap[D]? = some (.deferred (some []))) := Hid.mk HKW.out
          clear hys hI hK hal hel hfl hnow hnote hval hnext hvf hT hF hNA HL8 HS8 HC8 HIW HKW hD
          gi_wp2_with fail
          refine Code.wpIn_mono NoPanic.imp ?_
          refine wpIn_wide.2 ?_
          go_region_held3 (fun wx => wx.cell? ⟨C + 1, 0, none⟩ = some (.pointer (some ⟨C, 0, none⟩)) ∧ wx.cell? ⟨C + 3, 0, none⟩ = some (.pointer (some ⟨C + 2, 0, none⟩)) ∧ wx.cell? ⟨w.heap.size, 0, none⟩ = some (.int .i64 x0) ∧ wx.cell? ⟨w.heap.size, 1, none⟩ = some (.int .i64 x1))
            (first
              | exact ⟨p0, p1, x0', x1'⟩
              | exact hS4
              | exact hS3
              | exact hS2
              | exact hS1)
            (first
              | (go_at_call 13; have m9 := l3; obtain ⟨v_, u_, s_, o_, _, _⟩ := l3.out.ex; refine (HVAL.out _ _ s_).mono ?_; rintro e z4 ⟨rfl, hb⟩; have l4 := Hid.mk (l3.out.grown hb); have kd4 := Hid.mk ((hb.block _ (Array.getElem?_eq_some_iff.1 kd3.out).1).trans kd3.out); have hS4 : z4.cell? ⟨C + 1, 0, none⟩ = some (.pointer (some ⟨C, 0, none⟩)) ∧ z4.cell? ⟨C + 3, 0, none⟩ = some (.pointer (some ⟨C + 2, 0, none⟩)) ∧ z4.cell? ⟨w.heap.size, 0, none⟩ = some (.int .i64 x0) ∧ z4.cell? ⟨w.heap.size, 1, none⟩ = some (.int .i64 x1) := ⟨cell_at l4.out.bx.pw rfl, cell_at l4.out.bx.ps rfl, cell_at l4.out.bx.x rfl, cell_at l4.out.bx.x rfl⟩; clear hb s_ o_)
              | (go_at_call 11; have m9 := l2; obtain ⟨v_, u_, s_, o_, _, _⟩ := l2.out.ex; refine (HNOW.out _ _ o_).mono ?_; rintro e z3 ⟨rfl, hb⟩; have l3 := Hid.mk (l2.out.grown hb); have kd3 := Hid.mk ((hb.block _ (Array.getElem?_eq_some_iff.1 kd2.out).1).trans kd2.out); have hS3 : z3.cell? ⟨C + 1, 0, none⟩ = some (.pointer (some ⟨C, 0, none⟩)) ∧ z3.cell? ⟨C + 3, 0, none⟩ = some (.pointer (some ⟨C + 2, 0, none⟩)) ∧ z3.cell? ⟨w.heap.size, 0, none⟩ = some (.int .i64 x0) ∧ z3.cell? ⟨w.heap.size, 1, none⟩ = some (.int .i64 x1) := ⟨cell_at l3.out.bx.pw rfl, cell_at l3.out.bx.ps rfl, cell_at l3.out.bx.x rfl, cell_at l3.out.bx.x rfl⟩; clear hb s_ o_)
              | (go_at_call 10; have m9 := l1; obtain ⟨v_, u_, s_, o_, f_, _⟩ := l1.out.ex; refine (HNOTE.out _ _ s_).mono ?_; rintro e z2 ⟨rfl, v2_, s2_, r2_⟩; have l2 := Hid.mk (HNEXT.out _ _ _ _ l1.out s_ f_ s2_ r2_); have kd2 := Hid.mk ((r2_.block _ (Array.getElem?_eq_some_iff.1 kd1.out).1 (set_rec s_ kd1.out)).trans kd1.out); have hS2 : z2.cell? ⟨C + 1, 0, none⟩ = some (.pointer (some ⟨C, 0, none⟩)) ∧ z2.cell? ⟨C + 3, 0, none⟩ = some (.pointer (some ⟨C + 2, 0, none⟩)) ∧ z2.cell? ⟨w.heap.size, 0, none⟩ = some (.int .i64 x0) ∧ z2.cell? ⟨w.heap.size, 1, none⟩ = some (.int .i64 x1) := ⟨cell_at l2.out.bx.pw rfl, cell_at l2.out.bx.ps rfl, cell_at l2.out.bx.x rfl, cell_at l2.out.bx.x rfl⟩; clear s_ o_ f_ s2_ r2_)
              | (go_at_call 11; obtain ⟨v_, u_, s_, o_, _, _⟩ := l0.out.ex; refine (HNOW.out _ _ o_).mono ?_; rintro e z1 ⟨rfl, hb⟩; have l1 := Hid.mk (l0.out.grown hb); have kd1 := Hid.mk ((hb.block _ (Array.getElem?_eq_some_iff.1 kd0.out).1).trans kd0.out); have hS1 : z1.cell? ⟨C + 1, 0, none⟩ = some (.pointer (some ⟨C, 0, none⟩)) ∧ z1.cell? ⟨C + 3, 0, none⟩ = some (.pointer (some ⟨C + 2, 0, none⟩)) ∧ z1.cell? ⟨w.heap.size, 0, none⟩ = some (.int .i64 x0) ∧ z1.cell? ⟨w.heap.size, 1, none⟩ = some (.int .i64 x1) := ⟨cell_at l1.out.bx.pw rfl, cell_at l1.out.bx.ps rfl, cell_at l1.out.bx.x rfl, cell_at l1.out.bx.x rfl⟩; clear hb s_ o_))
          all_goals
            refine NoPanic.normal ?_
            obtain ⟨Z, hZ⟩ : ∃ Z, Z = z4 := ⟨_, rfl⟩
            have HLZ : Hid (LS w.heap.size w Z C C (C + 1) (C + 2) (C + 3) (x0, x1) (k + 1) A T F) := Hid.mk (by rw [hZ]; exact l4.out)
            have HKD : Hid (Z.heap[D]? = some (.deferred (some []))) := Hid.mk (by rw [hZ]; exact kd4.out)
            rw [← hZ]
            clear hZ hS1 hS2 hS3 hS4 p0 p1 x0' x1' l0 l1 l2 l3 l4 kd0 kd1 kd2 kd3 kd4 HNOW HNOTE HVAL HNEXT
            have p0 : Z.cell? ⟨C + 1, 0, none⟩ = some (.pointer (some ⟨C, 0, none⟩)) := cell_at HLZ.out.bx.pw rfl
            have p1 : Z.cell? ⟨C + 3, 0, none⟩ = some (.pointer (some ⟨C + 2, 0, none⟩)) := cell_at HLZ.out.bx.ps rfl
            have x0' : Z.cell? ⟨w.heap.size, 0, none⟩ = some (.int .i64 x0) := cell_at HLZ.out.bx.x rfl
            have x1' : Z.cell? ⟨w.heap.size, 1, none⟩ = some (.int .i64 x1) := cell_at HLZ.out.bx.x rfl
            obtain ⟨v9, u9, hs9, hwo9, hf91, hf92⟩ := HLZ.out.ex
            have hhas := has_any hs9 (by have := HLZ.out.elen; omega) x0 x1
            obtain ⟨HA, hHA⟩ : ∃ HA, HA = (findE F x0 x1).isSome := ⟨_, rfl⟩
            rw [← hHA] at hhas
            have HHAS := Hid.mk hhas
            have HHA := Hid.mk hHA
            clear hhas hHA hs9 hwo9 hf91 hf92 u9
            gi_wp2_with fail
            refine ⟨trivial, (callsIn_wide.2 HHAS.out).mono ?_⟩
            rintro e W ⟨rfl, hb9⟩
            have hlw := HLZ.out.grown hb9
            have HKW := Hid.mk ((hb9.block _ (Array.getElem?_eq_some_iff.1 HKD.out).1).trans HKD.out)
            have HLW := Hid.mk hlw
            obtain ⟨v, u, hs, hwo, hf1, hf2⟩ := hlw.ex
            have HS := Hid.mk hs
            have HWO := Hid.mk hwo
            have HF2 := Hid.mk hf2
            clear p0 p1 x0' x1' hb9 hlw hs hwo hf1 hf2
            have p0 : W.cell? ⟨C + 1, 0, none⟩ = some (.pointer (some ⟨C, 0, none⟩)) := cell_at HLW.out.bx.pw rfl
            have x0' : W.cell? ⟨w.heap.size, 0, none⟩ = some (.int .i64 x0) := cell_at HLW.out.bx.x rfl
            have x1' : W.cell? ⟨w.heap.size, 1, none⟩ = some (.int .i64 x1) := cell_at HLW.out.bx.x rfl
            obtain ⟨ua, uc, rfl⟩ := row_shape HWO.out.owns
            obtain ⟨NA, hNA⟩ : ∃ NA, NA = A.length := ⟨_, rfl⟩
            have hml := HWO.out.lt
            have ag := HWO.out.own_b
            have hcb := HCB.out
            have aX : (Value.slice ua A.length uc).ownBlock ≠ some w.heap.size := fun e => by have := HF2.out _ (.inr ⟨_, by simp, e⟩); omega
            have aP : (Value.slice ua A.length uc).ownBlock ≠ some (C + 1) := fun e => wo_free HWO.out HLW.out.bx.pw (by decide) (by decide) (.inr ⟨_, by simp, e⟩)
            have hXm : w.heap.size ≠ C := by omega
            have hown := HWO.out.owns
            have d2 := HWO.out.c0
            have d3 := HWO.out.fz 0
            have hal := HLW.out.alen
            have hPl : C + 1 < W.heap.size := (Array.getElem?_eq_some_iff.1 HLW.out.bx.pw).1
            rw [← hNA] at ag aX aP hown d2 hal
            have HNA := Hid.mk hNA
            clear hNA
            obtain ⟨i0, hi, hz0, hz1, hz2⟩ := info_parts Try.info36
            gi_wp2_with fail
            refine Code.wpIn_mono NoPanic.imp ?_
            refine wpIn_wide.2 ?_
            refine wp_region_held_drew (S := (fun wx => wx.cell? ⟨C + 1, 0, none⟩ = some (.pointer (some ⟨C, 0, none⟩)) ∧ wx.cell? ⟨w.heap.size, 0, none⟩ = some (.int .i64 x0) ∧ wx.cell? ⟨w.heap.size, 1, none⟩ = some (.int .i64 x1))) (by kernel_rfl) ⟨p0, x0', x1'⟩ (fun hHeld => ?_)
            refine wpAnyH_take (i := 0) (v := ?_) rfl (by kernel_rfl) (by kernel_rfl) (by kernel_rfl) (fun _ _ _ h => h) (Or.inl ⟨by rfl, ?h0⟩) (by assumption) ?_
            case h0 =>
              intro wx hSw
              try dsimp only at hSw
              go_simp
              try with_reducible rfl
            refine wpAnyH_take (i := 1) (v := ?_) rfl (by kernel_rfl) (by kernel_rfl) (by kernel_rfl) (fun _ _ _ h => h) (Or.inl ⟨by rfl, ?h1⟩) (by assumption) ?_
            case h1 =>
              intro wx hSw
              try dsimp only at hSw
              go_simp
              try with_reducible rfl
            refine wpAnyH_take (i := 2) (v := ?_) rfl (by kernel_rfl) (by kernel_rfl) (by kernel_rfl) (fun _ _ _ h => h) (Or.inl ⟨by rfl, ?h2⟩) (by assumption) ?_
            case h2 =>
              intro wx hSw
              try dsimp only at hSw
              go_simp
              try with_reducible rfl
            refine wpAnyH_take (i := 3) (v := ?_) rfl (by kernel_rfl) (by kernel_rfl) (by kernel_rfl) (fun _ _ _ h => h) (Or.inl ⟨by rfl, ?h3⟩) (by assumption) ?_
            case h3 =>
              intro wx hSw
              try dsimp only at hSw
              go_simp
              try with_reducible rfl
            refine wpAnyH_take (i := 5) (v := ?_) rfl (by kernel_rfl) (by kernel_rfl) (by kernel_rfl) (fun _ _ _ h => h) (Or.inl ⟨by rfl, ?h5⟩) (by assumption) ?_
            case h5 =>
              intro wx hSw
              try dsimp only at hSw
              go_simp
              try with_reducible rfl
            refine wpAnyH_ready (rs := [4, 6]) (by kernel_rfl) (by simp) ?_
            refine AllReadyH.cons rfl (fun K hK => ?_) ?_
            · go_simp
              refine hK.out _ _ ⟨p0, x0', x1'⟩ (fun _ => ?_)
              clear hK K
              refine wpAnyH_ready (rs := [6]) (by kernel_rfl) (by simp) ?_
              refine AllReadyH.cons rfl (fun K hK => ?_) AllReadyH.nil
              go_simp
              refine hK.out _ _ ⟨Rds.cell_past1 p0, Rds.cell_past1 x0', Rds.cell_past1 x1'⟩ (fun _ => ?_)
              clear hK K
              refine wpAnyH_ready (rs := [7]) (by kernel_rfl) (by simp) ?_
              refine AllReadyH.cons rfl (fun K hK => ?_) AllReadyH.nil
              refine step_append_lies _ (by rfl) _ _ _ (by rfl) 0 36 i0 _ 2 16 Try.underlying22 hi hz0 hz1 hz2 rfl (by omega) (.slice ua NA uc) NA (thC A) (by rfl) ((hown.alloc _).drew) ⟨W.heap.size, 0, none⟩ 1 1 [.int .i64 x0, .int .i64 x1] (by rfl) (by rfl) (World.news_of_block (cs := #[.int .i64 x0, .int .i64 x1]) (t := 36) (fr := (0, 0)) (heap_alloc_new W _)) (by simp [Value.oneCell']) (by omega) (by unfold maxLen; omega) (by omega) (Nat.zero_le _) (W.heap.size + 1) (by simp) ?_
              intro gg cap w7 hown1 hgrow hat hlt2
              have c5 : w7.cell? ⟨C, 0, none⟩ = some (.slice ua NA uc) := (hgrow.cell_far ⟨C, 0, none⟩ (by simp; omega) (Ne.symm ag)).trans (Rds.cell_past1 d2)
              have f5 : w7.frozen? ⟨C, 0, none⟩ = false := (hgrow.frozen_far ⟨C, 0, none⟩ (by simp; omega) (Ne.symm ag)).trans (by simp [World.frozen?_alloc_past, hml, d3])
              have e1 := (hgrow.cell_far ⟨C + 1, 0, none⟩ (by simp; omega) (Ne.symm aP)).trans (Rds.cell_past1 p0)
              have e2 := (hgrow.cell_far ⟨w.heap.size, 0, none⟩ (by simp; omega) (Ne.symm aX)).trans (Rds.cell_past1 x0')
              have e3 := (hgrow.cell_far ⟨w.heap.size, 1, none⟩ (by simp; omega) (Ne.symm aX)).trans (Rds.cell_past1 x1')
              refine hK.out _ _ ⟨e1, e2, e3⟩ (fun _ => ?_)
              clear hK K
              refine wpAnyH_ready (rs := [8]) (by kernel_rfl) (by simp) ?_
              refine AllReadyH.cons rfl (fun K hK => ?_) AllReadyH.nil
              go_simp
              refine hK.out _ _ ⟨e1, e2, e3⟩ (fun _ => ?_)
              clear hK K
              refine wpAnyH_ready (rs := [9]) (by kernel_rfl) (by simp) ?_
              refine AllReadyH.cons rfl (fun K hK => ?_) AllReadyH.nil
              go_simp
              refine hK.out _ _ ⟨e1, e2, e3⟩ (fun _ => ?_)
              clear hK K
              refine wpAnyH_ready (rs := [10]) (by kernel_rfl) (by simp) ?_
              refine AllReadyH.cons rfl (fun K hK => ?_) AllReadyH.nil
              go_simp
              refine hK.out _ _ ⟨(World.cell?_setCell_far _ _ _ _ (show C ≠ C + 1 by omega)).trans e1, (World.cell?_setCell_far _ _ _ _ (show C ≠ w.heap.size from Ne.symm hXm)).trans e2, (World.cell?_setCell_far _ _ _ _ (show C ≠ w.heap.size from Ne.symm hXm)).trans e3⟩ (fun _ => ?_)
              clear hK K
              refine wpAnyH_done (by kernel_rfl) ?_ _
              refine NoPanic.normal ?_
              have hY1 : Below W.heap.size W ((W.alloc (.cells #[.int .i64 x0, .int .i64 x1] 36)).drew) := ((Below.refl _ _).alloc (Nat.le_refl _) _).drew
              have hg2 := hgrow
              have hat2 := hat
              rw [HNA.out] at hown1 hg2 hat2
              have R := HWO.out.more (x0, x1) hown1 hY1 hg2 (by rcases hat2 with e | e; exact .inl e; exact .inr (by omega))
              have hn := HLW.out.change HWO.out HF2.out R.1 R.2
              have hkd := (R.2.block D (Array.getElem?_eq_some_iff.1 HKW.out).1 (wo_rec HWO.out HKW.out)).trans HKW.out
              rw [← HNA.out] at hn hkd
              obtain ⟨Y, hY⟩ : ∃ Y, Y = w7.setCell ⟨C, 0, none⟩ (.slice (some ⟨gg, 0, none⟩) (NA + 1) cap) := ⟨_, rfl⟩
              rw [← hY] at hn hkd ⊢
              obtain ⟨A2, hA2⟩ : ∃ A2, A2 = A ++ [(x0, x1)] := ⟨_, rfl⟩
              rw [← hA2] at hn
              have HA2 := Hid.mk hA2
              have HLY := Hid.mk hn
              have HKY := Hid.mk hkd
              clear R hn hY1 hown1 hgrow hg2 hat hat2 hlt2 c5 f5 e1 e2 e3 hown ag aX aP hXm hml hPl d2 d3 x0' x1' p0 hal hi hz0 hz1 hz2 hHeld hY hcb hA2 hkd
              have p0 : Y.cell? ⟨C + 1, 0, none⟩ = some (.pointer (some ⟨C, 0, none⟩)) := cell_at HLY.out.bx.pw rfl
              have p1 : Y.cell? ⟨C + 3, 0, none⟩ = some (.pointer (some ⟨C + 2, 0, none⟩)) := cell_at HLY.out.bx.ps rfl
              have x0' : Y.cell? ⟨w.heap.size, 0, none⟩ = some (.int .i64 x0) := cell_at HLY.out.bx.x rfl
              have x1' : Y.cell? ⟨w.heap.size, 1, none⟩ = some (.int .i64 x1) := cell_at HLY.out.bx.x rfl
              have cr : Y.cell? ⟨w.heap.size + 1, 0, none⟩ = some (.bool false) := cell_at HLY.out.bx.r rfl
              have fr : Y.frozen? ⟨w.heap.size + 1, 0, none⟩ = false := free_at HLY.out.bx.r
              cases HA with
              | false =>
                gi_wp2_with fail
                refine Code.wpIn_mono NoPanic.imp ?_
                refine wpIn_wide.2 ?_
                go_big_region
                all_goals
                  refine NoPanic.normal ?_
                  obtain ⟨V, hV⟩ : ∃ V, V = (Y.setCell ⟨w.heap.size + 1, 0, none⟩ (.bool true)).drew := ⟨_, rfl⟩
                  have hbV : Below w.heap.size w V := by rw [hV]; exact (HLY.out.below.setCell (p := ⟨w.heap.size + 1, 0, none⟩) (by show _ ≤ w.heap.size + 1; omega) _).drew
                  have hrV : V.heap[w.heap.size + 1]? = some (.cells #[.bool true] 4 (0, 0)) := by rw [hV]; exact (HLY.out.bx.answer (D := 0) true).1
                  have hkV : V.heap[D]? = some (.deferred (some [])) := by rw [hV]; exact (KeepsOthers.setCell Y ⟨w.heap.size + 1, 0, none⟩ (.bool true)).same D _ HKY.out rfl
                  rw [← hV]
                  have HBV := Hid.mk hbV
                  have HRV := Hid.mk hrV
                  have HKV := Hid.mk hkV
                  clear hV hbV hrV hkV p0 p1 x0' x1' cr fr
                  gi_wp2
                  refine ⟨by simp, .inl ⟨_, _, rfl, run_takeDeferred HKV.out, ?_⟩⟩
                  have hc5 : (V.putObj D (.deferred none)).cell? ⟨w.heap.size + 1, 0, none⟩ = some (.bool true) := cell_at (block_kept HRV.out (grownBy_putObj' _ D (.deferred none)) (fun r e => by cases e; exact ⟨_, HKV.out, rfl⟩)) rfl
                  refine ⟨.bool true, ?_, rfl, HBV.out.trans (belowK_b (w := w) (Nat.le_refl _) _ D _ _ HD.out HKV.out rfl rfl)⟩
                  simp [results, Try.f5, go_sem, hc5]
              | true =>
                obtain ⟨v2, u2, hs2, hwo2, _, _⟩ := HLY.out.ex
                obtain ⟨e0, he0⟩ : ∃ e0, findE F x0 x1 = some e0 := Option.isSome_iff_exists.1 HHA.out.symm
                obtain ⟨q1, q2⟩ := changed (x := (x0, x1)) HTH.out HLW.out.vs he0
                rw [← HA2.out] at q1 q2
                obtain ⟨N2, hN2⟩ : ∃ N2 : Int, N2 = (A2.length : Nat) := ⟨_, rfl⟩
                have hnow := fun (z : World) (hz : Below Y.heap.size Y z) => now_any (hwo2.grown hz) (by have := HLY.out.alen; omega)
                have hval := fun (z : World) (hz : Below Y.heap.size Y z) => valid_any (verF A2) (A2.length : Nat) z (hs2.grown hz) (by have := HLY.out.elen; omega)
                have hnote := fun (z : World) (hz : Below Y.heap.size Y z) => note_old (verF A2) (A2.length : Nat) x0 x1 e0 (hs2.grown hz) (by have := HLY.out.elen; omega) he0
                rw [q1] at hval
                rw [← hN2] at hnow hval hnote
                dsimp only at q2
                rw [q2] at hnote
                have HNOW2 := Hid.mk hnow
                have HVAL2 := Hid.mk hval
                have HNOTE2 := Hid.mk hnote
                have HY0 := Hid.mk (Below.refl Y.heap.size Y).drew
                clear hs2 hwo2 he0 q1 q2 hnow hval hnote hN2
                gi_wp2_with fail
                refine Code.wpIn_mono NoPanic.imp ?_
                refine wpIn_wide.2 ?_
                go_region_held3 (fun wx => wx.cell? ⟨C + 1, 0, none⟩ = some (.pointer (some ⟨C, 0, none⟩)) ∧ wx.cell? ⟨C + 3, 0, none⟩ = some (.pointer (some ⟨C + 2, 0, none⟩)) ∧ wx.cell? ⟨w.heap.size, 0, none⟩ = some (.int .i64 x0) ∧ wx.cell? ⟨w.heap.size, 1, none⟩ = some (.int .i64 x1))
                  (first
                    | exact ⟨p0, p1, x0', x1'⟩
                    | exact hS5
                    | exact hS4
                    | exact hS3
                    | exact hS2
                    | exact hS1)
                  (first
                    | (go_at_call 10; have m9 := m3; refine (HNOTE2.out _ m3.out).mono ?_; rintro e z4 ⟨rfl, hbz4⟩; have m4 := Hid.mk (m3.out.trans (hbz4.mono m3.out.size)); have lm4 := Hid.mk (HLY.out.grown m4.out); have cr4 : z4.cell? ⟨w.heap.size + 1, 0, none⟩ = some (.bool false) := cell_at lm4.out.bx.r rfl; have fr4 : z4.frozen? ⟨w.heap.size + 1, 0, none⟩ = false := free_at lm4.out.bx.r; have hS4 : z4.cell? ⟨C + 1, 0, none⟩ = some (.pointer (some ⟨C, 0, none⟩)) ∧ z4.cell? ⟨C + 3, 0, none⟩ = some (.pointer (some ⟨C + 2, 0, none⟩)) ∧ z4.cell? ⟨w.heap.size, 0, none⟩ = some (.int .i64 x0) ∧ z4.cell? ⟨w.heap.size, 1, none⟩ = some (.int .i64 x1) := ⟨cell_at lm4.out.bx.pw rfl, cell_at lm4.out.bx.ps rfl, cell_at lm4.out.bx.x rfl, cell_at lm4.out.bx.x rfl⟩; clear hbz4; have hcb := HCB.out; have hS5 : (z4.setCell ⟨w.heap.size + 1, 0, none⟩ (.bool true)).cell? ⟨C + 1, 0, none⟩ = some (.pointer (some ⟨C, 0, none⟩)) ∧ (z4.setCell ⟨w.heap.size + 1, 0, none⟩ (.bool true)).cell? ⟨C + 3, 0, none⟩ = some (.pointer (some ⟨C + 2, 0, none⟩)) ∧ (z4.setCell ⟨w.heap.size + 1, 0, none⟩ (.bool true)).cell? ⟨w.heap.size, 0, none⟩ = some (.int .i64 x0) ∧ (z4.setCell ⟨w.heap.size + 1, 0, none⟩ (.bool true)).cell? ⟨w.heap.size, 1, none⟩ = some (.int .i64 x1) := ⟨(World.cell?_setCell_far _ _ _ _ (show w.heap.size + 1 ≠ C + 1 by omega)).trans hS4.1, (World.cell?_setCell_far _ _ _ _ (show w.heap.size + 1 ≠ C + 3 by omega)).trans hS4.2.1, (World.cell?_setCell_far _ _ _ _ (show w.heap.size + 1 ≠ w.heap.size by omega)).trans hS4.2.2.1, (World.cell?_setCell_far _ _ _ _ (show w.heap.size + 1 ≠ w.heap.size by omega)).trans hS4.2.2.2⟩; clear hcb)
                    | (go_at_call 11; have m9 := m2; refine (HNOW2.out _ m2.out).mono ?_; rintro e z3 ⟨rfl, hbz3⟩; have m3 := Hid.mk (m2.out.trans (hbz3.mono m2.out.size)); have lm3 := Hid.mk (HLY.out.grown m3.out); have hS3 : z3.cell? ⟨C + 1, 0, none⟩ = some (.pointer (some ⟨C, 0, none⟩)) ∧ z3.cell? ⟨C + 3, 0, none⟩ = some (.pointer (some ⟨C + 2, 0, none⟩)) ∧ z3.cell? ⟨w.heap.size, 0, none⟩ = some (.int .i64 x0) ∧ z3.cell? ⟨w.heap.size, 1, none⟩ = some (.int .i64 x1) := ⟨cell_at lm3.out.bx.pw rfl, cell_at lm3.out.bx.ps rfl, cell_at lm3.out.bx.x rfl, cell_at lm3.out.bx.x rfl⟩; clear hbz3)
                    | (go_at_call 13; have m9 := m1; refine (HVAL2.out _ m1.out).mono ?_; rintro e z2 ⟨rfl, hbz2⟩; have m2 := Hid.mk (m1.out.trans (hbz2.mono m1.out.size)); have lm2 := Hid.mk (HLY.out.grown m2.out); have hS2 : z2.cell? ⟨C + 1, 0, none⟩ = some (.pointer (some ⟨C, 0, none⟩)) ∧ z2.cell? ⟨C + 3, 0, none⟩ = some (.pointer (some ⟨C + 2, 0, none⟩)) ∧ z2.cell? ⟨w.heap.size, 0, none⟩ = some (.int .i64 x0) ∧ z2.cell? ⟨w.heap.size, 1, none⟩ = some (.int .i64 x1) := ⟨cell_at lm2.out.bx.pw rfl, cell_at lm2.out.bx.ps rfl, cell_at lm2.out.bx.x rfl, cell_at lm2.out.bx.x rfl⟩; clear hbz2)
                    | (go_at_call 11; refine (HNOW2.out _ HY0.out).mono ?_; rintro e z1 ⟨rfl, hbz1⟩; have m1 := Hid.mk (HY0.out.trans (hbz1.mono HY0.out.size)); have lm1 := Hid.mk (HLY.out.grown m1.out); have hS1 : z1.cell? ⟨C + 1, 0, none⟩ = some (.pointer (some ⟨C, 0, none⟩)) ∧ z1.cell? ⟨C + 3, 0, none⟩ = some (.pointer (some ⟨C + 2, 0, none⟩)) ∧ z1.cell? ⟨w.heap.size, 0, none⟩ = some (.int .i64 x0) ∧ z1.cell? ⟨w.heap.size, 1, none⟩ = some (.int .i64 x1) := ⟨cell_at lm1.out.bx.pw rfl, cell_at lm1.out.bx.ps rfl, cell_at lm1.out.bx.x rfl, cell_at lm1.out.bx.x rfl⟩; clear hbz1))
                all_goals
                  refine NoPanic.normal ?_
                  have HK4 : Hid (z4.heap[D]? = some (.deferred (some []))) := Hid.mk ((m4.out.block _ (Array.getElem?_eq_some_iff.1 HKY.out).1).trans HKY.out)
                  clear hS1 hS2 hS3 hS4 hS5 cr4 fr4
                  obtain ⟨V, hV⟩ : ∃ V, V = z4.setCell ⟨w.heap.size + 1, 0, none⟩ (.bool true) := ⟨_, rfl⟩
                  have hbV : Below w.heap.size w V := by rw [hV]; exact (lm4.out.below.setCell (p := ⟨w.heap.size + 1, 0, none⟩) (by show _ ≤ w.heap.size + 1; omega) _)
                  have hrV : V.heap[w.heap.size + 1]? = some (.cells #[.bool true] 4 (0, 0)) := by rw [hV]; exact (lm4.out.bx.answer (D := 0) true).1
                  have hkV : V.heap[D]? = some (.deferred (some [])) := by rw [hV]; exact (KeepsOthers.setCell z4 ⟨w.heap.size + 1, 0, none⟩ (.bool true)).same D _ HK4.out rfl
                  rw [← hV]
                  have HBV := Hid.mk hbV
                  have HRV := Hid.mk hrV
                  have HKV := Hid.mk hkV
                  clear hV hbV hrV hkV p0 p1 x0' x1' cr fr
                  gi_wp2
                  refine ⟨by simp, .inl ⟨_, _, rfl, run_takeDeferred HKV.out, ?_⟩⟩
                  have hc5 : (V.putObj D (.deferred none)).cell? ⟨w.heap.size + 1, 0, none⟩ = some (.bool true) := cell_at (block_kept HRV.out (grownBy_putObj' _ D (.deferred none)) (fun r e => by cases e; exact ⟨_, HKV.out, rfl⟩)) rfl
                  refine ⟨.bool true, ?_, rfl, HBV.out.trans (belowK_b (w := w) (Nat.le_refl _) _ D _ _ HD.out HKV.out rfl rfl)⟩
                  simp [results, Try.f5, go_sem, hc5]
            · refine AllReadyH.cons rfl (fun K hK => ?_) AllReadyH.nil
              go_simp
              refine hK.out _ _ ⟨Rds.cell_past1 p0, Rds.cell_past1 x0', Rds.cell_past1 x1'⟩ (fun _ => ?_)
              clear hK K
              have d2p := Rds.cell_past1 (o := .cells #[.int .i64 x0, .int .i64 x1] 36) d2
              refine wpAnyH_ready (rs := [4]) (by kernel_rfl) (by simp) ?_
              refine AllReadyH.cons rfl (fun K hK => ?_) AllReadyH.nil
              go_simp
              refine hK.out _ _ ⟨Rds.cell_past1 p0, Rds.cell_past1 x0', Rds.cell_past1 x1'⟩ (fun _ => ?_)
              clear hK K
              refine wpAnyH_ready (rs := [7]) (by kernel_rfl) (by simp) ?_
              refine AllReadyH.cons rfl (fun K hK => ?_) AllReadyH.nil
              refine step_append_lies _ (by rfl) _ _ _ (by rfl) 0 36 i0 _ 2 16 Try.underlying22 hi hz0 hz1 hz2 rfl (by omega) (.slice ua NA uc) NA (thC A) (by rfl) ((hown.alloc _).drew) ⟨W.heap.size, 0, none⟩ 1 1 [.int .i64 x0, .int .i64 x1] (by rfl) (by rfl) (World.news_of_block (cs := #[.int .i64 x0, .int .i64 x1]) (t := 36) (fr := (0, 0)) (heap_alloc_new W _)) (by simp [Value.oneCell']) (by omega) (by unfold maxLen; omega) (by omega) (Nat.zero_le _) (W.heap.size + 1) (by simp) ?_
              intro gg cap w7 hown1 hgrow hat hlt2
              have c5 : w7.cell? ⟨C, 0, none⟩ = some (.slice ua NA uc) := (hgrow.cell_far ⟨C, 0, none⟩ (by simp; omega) (Ne.symm ag)).trans (Rds.cell_past1 d2)
              have f5 : w7.frozen? ⟨C, 0, none⟩ = false := (hgrow.frozen_far ⟨C, 0, none⟩ (by simp; omega) (Ne.symm ag)).trans (by simp [World.frozen?_alloc_past, hml, d3])
              have e1 := (hgrow.cell_far ⟨C + 1, 0, none⟩ (by simp; omega) (Ne.symm aP)).trans (Rds.cell_past1 p0)
              have e2 := (hgrow.cell_far ⟨w.heap.size, 0, none⟩ (by simp; omega) (Ne.symm aX)).trans (Rds.cell_past1 x0')
              have e3 := (hgrow.cell_far ⟨w.heap.size, 1, none⟩ (by simp; omega) (Ne.symm aX)).trans (Rds.cell_past1 x1')
              refine hK.out _ _ ⟨e1, e2, e3⟩ (fun _ => ?_)
              clear hK K
              refine wpAnyH_ready (rs := [8]) (by kernel_rfl) (by simp) ?_
              refine AllReadyH.cons rfl (fun K hK => ?_) AllReadyH.nil
              go_simp
              refine hK.out _ _ ⟨e1, e2, e3⟩ (fun _ => ?_)
              clear hK K
              refine wpAnyH_ready (rs := [9]) (by kernel_rfl) (by simp) ?_
              refine AllReadyH.cons rfl (fun K hK => ?_) AllReadyH.nil
              go_simp
              refine hK.out _ _ ⟨e1, e2, e3⟩ (fun _ => ?_)
              clear hK K
              refine wpAnyH_ready (rs := [10]) (by kernel_rfl) (by simp) ?_
              refine AllReadyH.cons rfl (fun K hK => ?_) AllReadyH.nil
              go_simp
              refine hK.out _ _ ⟨(World.cell?_setCell_far _ _ _ _ (show C ≠ C + 1 by omega)).trans e1, (World.cell?_setCell_far _ _ _ _ (show C ≠ w.heap.size from Ne.symm hXm)).trans e2, (World.cell?_setCell_far _ _ _ _ (show C ≠ w.heap.size from Ne.symm hXm)).trans e3⟩ (fun _ => ?_)
              clear hK K
              refine wpAnyH_done (by kernel_rfl) ?_ _
              refine NoPanic.normal ?_
              have hY1 : Below W.heap.size W ((W.alloc (.cells #[.int .i64 x0, .int .i64 x1] 36)).drew) := ((Below.refl _ _).alloc (Nat.le_refl _) _).drew
              have hg2 := hgrow
              have hat2 := hat
              rw [HNA.out] at hown1 hg2 hat2
              have R := HWO.out.more (x0, x1) hown1 hY1 hg2 (by rcases hat2 with e | e; exact .inl e; exact .inr (by omega))
              have hn := HLW.out.change HWO.out HF2.out R.1 R.2
              have hkd := (R.2.block D (Array.getElem?_eq_some_iff.1 HKW.out).1 (wo_rec HWO.out HKW.out)).trans HKW.out
              rw [← HNA.out] at hn hkd
              obtain ⟨Y, hY⟩ : ∃ Y, Y = w7.setCell ⟨C, 0, none⟩ (.slice (some ⟨gg, 0, none⟩) (NA + 1) cap) := ⟨_, rfl⟩
              rw [← hY] at hn hkd ⊢
              obtain ⟨A2, hA2⟩ : ∃ A2, A2 = A ++ [(x0, x1)] := ⟨_, rfl⟩
              rw [← hA2] at hn
              have HA2 := Hid.mk hA2
              have HLY := Hid.mk hn
              have HKY := Hid.mk hkd
              clear R hn hY1 hown1 hgrow hg2 hat hat2 hlt2 c5 f5 e1 e2 e3 hown ag aX aP hXm hml hPl d2 d3 x0' x1' p0 hal hi hz0 hz1 hz2 hHeld hY hcb hA2 hkd
              have p0 : Y.cell? ⟨C + 1, 0, none⟩ = some (.pointer (some ⟨C, 0, none⟩)) := cell_at HLY.out.bx.pw rfl
              have p1 : Y.cell? ⟨C + 3, 0, none⟩ = some (.pointer (some ⟨C + 2, 0, none⟩)) := cell_at HLY.out.bx.ps rfl
              have x0' : Y.cell? ⟨w.heap.size, 0, none⟩ = some (.int .i64 x0) := cell_at HLY.out.bx.x rfl
              have x1' : Y.cell? ⟨w.heap.size, 1, none⟩ = some (.int .i64 x1) := cell_at HLY.out.bx.x rfl
              have cr : Y.cell? ⟨w.heap.size + 1, 0, none⟩ = some (.bool false) := cell_at HLY.out.bx.r rfl
              have fr : Y.frozen? ⟨w.heap.size + 1, 0, none⟩ = false := free_at HLY.out.bx.r
              cases HA with
              | false =>
                gi_wp2_with fail
                refine Code.wpIn_mono NoPanic.imp ?_
                refine wpIn_wide.2 ?_
                go_big_region
                all_goals
                  refine NoPanic.normal ?_
                  obtain ⟨V, hV⟩ : ∃ V, V = (Y.setCell ⟨w.heap.size + 1, 0, none⟩ (.bool true)).drew := ⟨_, rfl⟩
                  have hbV : Below w.heap.size w V := by rw [hV]; exact (HLY.out.below.setCell (p := ⟨w.heap.size + 1, 0, none⟩) (by show _ ≤ w.heap.size + 1; omega) _).drew
                  have hrV : V.heap[w.heap.size + 1]? = some (.cells #[.bool true] 4 (0, 0)) := by rw [hV]; exact (HLY.out.bx.answer (D := 0) true).1
                  have hkV : V.heap[D]? = some (.deferred (some [])) := by rw [hV]; exact (KeepsOthers.setCell Y ⟨w.heap.size + 1, 0, none⟩ (.bool true)).same D _ HKY.out rfl
                  rw [← hV]
                  have HBV := Hid.mk hbV
                  have HRV := Hid.mk hrV
                  have HKV := Hid.mk hkV
                  clear hV hbV hrV hkV p0 p1 x0' x1' cr fr
                  gi_wp2
                  refine ⟨by simp, .inl ⟨_, _, rfl, run_takeDeferred HKV.out, ?_⟩⟩
                  have hc5 : (V.putObj D (.deferred none)).cell? ⟨w.heap.size + 1, 0, none⟩ = some (.bool true) := cell_at (block_kept HRV.out (grownBy_putObj' _ D (.deferred none)) (fun r e => by cases e; exact ⟨_, HKV.out, rfl⟩)) rfl
                  refine ⟨.bool true, ?_, rfl, HBV.out.trans (belowK_b (w := w) (Nat.le_refl _) _ D _ _ HD.out HKV.out rfl rfl)⟩
                  simp [results, Try.f5, go_sem, hc5]
              | true =>
                obtain ⟨v2, u2, hs2, hwo2, _, _⟩ := HLY.out.ex
                obtain ⟨e0, he0⟩ : ∃ e0, findE F x0 x1 = some e0 := Option.isSome_iff_exists.1 HHA.out.symm
                obtain ⟨q1, q2⟩ := changed (x := (x0, x1)) HTH.out HLW.out.vs he0
                rw [← HA2.out] at q1 q2
                obtain ⟨N2, hN2⟩ : ∃ N2 : Int, N2 = (A2.length : Nat) := ⟨_, rfl⟩
                have hnow := fun (z : World) (hz : Below Y.heap.size Y z) => now_any (hwo2.grown hz) (by have := HLY.out.alen; omega)
                have hval := fun (z : World) (hz : Below Y.heap.size Y z) => valid_any (verF A2) (A2.length : Nat) z (hs2.grown hz) (by have := HLY.out.elen; omega)
                have hnote := fun (z : World) (hz : Below Y.heap.size Y z) => note_old (verF A2) (A2.length : Nat) x0 x1 e0 (hs2.grown hz) (by have := HLY.out.elen; omega) he0
                rw [q1] at hval
                rw [← hN2] at hnow hval hnote
                dsimp only at q2
                rw [q2] at hnote
                have HNOW2 := Hid.mk hnow
                have HVAL2 := Hid.mk hval
                have HNOTE2 := Hid.mk hnote
                have HY0 := Hid.mk (Below.refl Y.heap.size Y).drew
                clear hs2 hwo2 he0 q1 q2 hnow hval hnote hN2
                gi_wp2_with fail
                refine Code.wpIn_mono NoPanic.imp ?_
                refine wpIn_wide.2 ?_
                go_region_held3 (fun wx => wx.cell? ⟨C + 1, 0, none⟩ = some (.pointer (some ⟨C, 0, none⟩)) ∧ wx.cell? ⟨C + 3, 0, none⟩ = some (.pointer (some ⟨C + 2, 0, none⟩)) ∧ wx.cell? ⟨w.heap.size, 0, none⟩ = some (.int .i64 x0) ∧ wx.cell? ⟨w.heap.size, 1, none⟩ = some (.int .i64 x1))
                  (first
                    | exact ⟨p0, p1, x0', x1'⟩
                    | exact hS5
                    | exact hS4
                    | exact hS3
                    | exact hS2
                    | exact hS1)
                  (first
                    | (go_at_call 10; have m9 := m3; refine (HNOTE2.out _ m3.out).mono ?_; rintro e z4 ⟨rfl, hbz4⟩; have m4 := Hid.mk (m3.out.trans (hbz4.mono m3.out.size)); have lm4 := Hid.mk (HLY.out.grown m4.out); have cr4 : z4.cell? ⟨w.heap.size + 1, 0, none⟩ = some (.bool false) := cell_at lm4.out.bx.r rfl; have fr4 : z4.frozen? ⟨w.heap.size + 1, 0, none⟩ = false := free_at lm4.out.bx.r; have hS4 : z4.cell? ⟨C + 1, 0, none⟩ = some (.pointer (some ⟨C, 0, none⟩)) ∧ z4.cell? ⟨C + 3, 0, none⟩ = some (.pointer (some ⟨C + 2, 0, none⟩)) ∧ z4.cell? ⟨w.heap.size, 0, none⟩ = some (.int .i64 x0) ∧ z4.cell? ⟨w.heap.size, 1, none⟩ = some (.int .i64 x1) := ⟨cell_at lm4.out.bx.pw rfl, cell_at lm4.out.bx.ps rfl, cell_at lm4.out.bx.x rfl, cell_at lm4.out.bx.x rfl⟩; clear hbz4; have hcb := HCB.out; have hS5 : (z4.setCell ⟨w.heap.size + 1, 0, none⟩ (.bool true)).cell? ⟨C + 1, 0, none⟩ = some (.pointer (some ⟨C, 0, none⟩)) ∧ (z4.setCell ⟨w.heap.size + 1, 0, none⟩ (.bool true)).cell? ⟨C + 3, 0, none⟩ = some (.pointer (some ⟨C + 2, 0, none⟩)) ∧ (z4.setCell ⟨w.heap.size + 1, 0, none⟩ (.bool true)).cell? ⟨w.heap.size, 0, none⟩ = some (.int .i64 x0) ∧ (z4.setCell ⟨w.heap.size + 1, 0, none⟩ (.bool true)).cell? ⟨w.heap.size, 1, none⟩ = some (.int .i64 x1) := ⟨(World.cell?_setCell_far _ _ _ _ (show w.heap.size + 1 ≠ C + 1 by omega)).trans hS4.1, (World.cell?_setCell_far _ _ _ _ (show w.heap.size + 1 ≠ C + 3 by omega)).trans hS4.2.1, (World.cell?_setCell_far _ _ _ _ (show w.heap.size + 1 ≠ w.heap.size by omega)).trans hS4.2.2.1, (World.cell?_setCell_far _ _ _ _ (show w.heap.size + 1 ≠ w.heap.size by omega)).trans hS4.2.2.2⟩; clear hcb)
                    | (go_at_call 11; have m9 := m2; refine (HNOW2.out _ m2.out).mono ?_; rintro e z3 ⟨rfl, hbz3⟩; have m3 := Hid.mk (m2.out.trans (hbz3.mono m2.out.size)); have lm3 := Hid.mk (HLY.out.grown m3.out); have hS3 : z3.cell? ⟨C + 1, 0, none⟩ = some (.pointer (some ⟨C, 0, none⟩)) ∧ z3.cell? ⟨C + 3, 0, none⟩ = some (.pointer (some ⟨C + 2, 0, none⟩)) ∧ z3.cell? ⟨w.heap.size, 0, none⟩ = some (.int .i64 x0) ∧ z3.cell? ⟨w.heap.size, 1, none⟩ = some (.int .i64 x1) := ⟨cell_at lm3.out.bx.pw rfl, cell_at lm3.out.bx.ps rfl, cell_at lm3.out.bx.x rfl, cell_at lm3.out.bx.x rfl⟩; clear hbz3)
                    | (go_at_call 13; have m9 := m1; refine (HVAL2.out _ m1.out).mono ?_; rintro e z2 ⟨rfl, hbz2⟩; have m2 := Hid.mk (m1.out.trans (hbz2.mono m1.out.size)); have lm2 := Hid.mk (HLY.out.grown m2.out); have hS2 : z2.cell? ⟨C + 1, 0, none⟩ = some (.pointer (some ⟨C, 0, none⟩)) ∧ z2.cell? ⟨C + 3, 0, none⟩ = some (.pointer (some ⟨C + 2, 0, none⟩)) ∧ z2.cell? ⟨w.heap.size, 0, none⟩ = some (.int .i64 x0) ∧ z2.cell? ⟨w.heap.size, 1, none⟩ = some (.int .i64 x1) := ⟨cell_at lm2.out.bx.pw rfl, cell_at lm2.out.bx.ps rfl, cell_at lm2.out.bx.x rfl, cell_at lm2.out.bx.x rfl⟩; clear hbz2)
                    | (go_at_call 11; refine (HNOW2.out _ HY0.out).mono ?_; rintro e z1 ⟨rfl, hbz1⟩; have m1 := Hid.mk (HY0.out.trans (hbz1.mono HY0.out.size)); have lm1 := Hid.mk (HLY.out.grown m1.out); have hS1 : z1.cell? ⟨C + 1, 0, none⟩ = some (.pointer (some ⟨C, 0, none⟩)) ∧ z1.cell? ⟨C + 3, 0, none⟩ = some (.pointer (some ⟨C + 2, 0, none⟩)) ∧ z1.cell? ⟨w.heap.size, 0, none⟩ = some (.int .i64 x0) ∧ z1.cell? ⟨w.heap.size, 1, none⟩ = some (.int .i64 x1) := ⟨cell_at lm1.out.bx.pw rfl, cell_at lm1.out.bx.ps rfl, cell_at lm1.out.bx.x rfl, cell_at lm1.out.bx.x rfl⟩; clear hbz1))
                all_goals
                  refine NoPanic.normal ?_
                  have HK4 : Hid (z4.heap[D]? = some (.deferred (some []))) := Hid.mk ((m4.out.block _ (Array.getElem?_eq_some_iff.1 HKY.out).1).trans HKY.out)
                  clear hS1 hS2 hS3 hS4 hS5 cr4 fr4
                  obtain ⟨V, hV⟩ : ∃ V, V = z4.setCell ⟨w.heap.size + 1, 0, none⟩ (.bool true) := ⟨_, rfl⟩
                  have hbV : Below w.heap.size w V := by rw [hV]; exact (lm4.out.below.setCell (p := ⟨w.heap.size + 1, 0, none⟩) (by show _ ≤ w.heap.size + 1; omega) _)
                  have hrV : V.heap[w.heap.size + 1]? = some (.cells #[.bool true] 4 (0, 0)) := by rw [hV]; exact (lm4.out.bx.answer (D := 0) true).1
                  have hkV : V.heap[D]? = some (.deferred (some [])) := by rw [hV]; exact (KeepsOthers.setCell z4 ⟨w.heap.size + 1, 0, none⟩ (.bool true)).same D _ HK4.out rfl
                  rw [← hV]
                  have HBV := Hid.mk hbV
                  have HRV := Hid.mk hrV
                  have HKV := Hid.mk hkV
                  clear hV hbV hrV hkV p0 p1 x0' x1' cr fr
                  gi_wp2
                  refine ⟨by simp, .inl ⟨_, _, rfl, run_takeDeferred HKV.out, ?_⟩⟩
                  have hc5 : (V.putObj D (.deferred none)).cell? ⟨w.heap.size + 1, 0, none⟩ = some (.bool true) := cell_at (block_kept HRV.out (grownBy_putObj' _ D (.deferred none)) (fun r e => by cases e; exact ⟨_, HKV.out, rfl⟩)) rfl
                  refine ⟨.bool true, ?_, rfl, HBV.out.trans (belowK_b (w := w) (Nat.le_refl _) _ D _ _ HD.out HKV.out rfl rfl)⟩
                  simp [results, Try.f5, go_sem, hc5]
set_option maxRecDepth 100000 in
theorem lifted (os : Os) (started : os.Started) (H : Type) (enc : TypeId × Value → H) :
    ReturnsInHanded {} Try.checked os 5 .any (Rows.readsStaysSpec.pre6 enc Try.prog Try.f5 Rows.readsStaysRow.domain false) (Rows.readsStaysSpec.post enc Try.prog Try.f5 false true false false) := by
  refine returnsInHanded_of_change (C := Try.checked) own started (by kernel_rfl) Try.func5
    (ChangeSpec.witness6 (enc := enc) (C := Try.checked) false ⟨#[], #[.slice none 0 0, .agg #[.int .i64 0, .int .i64 0]], []⟩ 8 (by kernel_rfl) (by kernel_rfl) (by kernel_rfl) (by kernel_rfl)) ?_
  intro W base args ds gs before hval0 hW hcnd _
  have hval : ∀ (j : Nat) t v, Try.f5.params[j]? = some t → args[j]? = some v → Value.okWide Try.prog W .any base t v := hval0
  have hW' := hW
  obtain ⟨p, q, hA0, hV, rfl, hfz, hnd⟩ := hW
  have hA : DataW.TrodAll enc Try.prog W 0 (fun _ => true) true Try.f5.params.toList args.toList ds p := hA0
  rw [Try.params5] at hA hval
  obtain ⟨v0, vs0, d0, ds0, p0, q0, hargs, rfl, rfl, h0, r0⟩ := trodAll_cons hA
  obtain ⟨v1, vs1, d1, ds1, p1, q1, rfl, rfl, rfl, h1, r1⟩ := trodAll_cons r0
  obtain ⟨rfl, rfl, rfl⟩ := trodAll_nil r1
  obtain rfl : args = #[v0, v1] := by cases args; simp_all
  obtain ⟨rfl, rfl⟩ := trodVars_none hV
  obtain ⟨a0, len0, cap0, rfl⟩ := okWide_slice Try.underlying23 (hval 0 23 v0 rfl rfl)
  have k0 := h0
  have lt0 : ∀ x ∈ p0, x.block < W.heap.size := by obtain ⟨m, hm⟩ := k0; exact DataW.trod_lt m _ _ _ hm
  obtain ⟨ts0, w0⟩ : ∃ ts, IsSps W a0 len0 cap0 ts := by
    obtain ⟨fuel, hf⟩ := h0
    exact open_sps hf
  obtain ⟨ca1, rfl, hz1⟩ := okWide_struct Try.underlying36 (hval 1 36 v1 rfl rfl)
  have lt1 : ∀ x ∈ p1, x.block < W.heap.size := by obtain ⟨m, hm⟩ := h1; exact DataW.trod_lt m _ _ _ hm
  obtain ⟨th1, e1⟩ : ∃ th : Th, ca1 = #[.int .i64 th.1, .int .i64 th.2] := by
    obtain ⟨fuel, hf⟩ := h1
    obtain ⟨c, hc⟩ := open_th hf
    exact ⟨c, by simpa [Value.cells] using congrArg List.toArray hc⟩
  subst e1
  have k1 := h1
  clear hA0 hval0
  refine (walk a0 len0 cap0 ts0 th1 W w0).mono fun e W' ⟨he, bel⟩ => ?_
  subst he
  exact ⟨_, rfl, _, _, _, [], _, [], hW', trodAll_mk1 (shut_bool Try.underlying4 _), (trodAll_cons_mk (Below.trod laidOut (by kernel_rfl) (of_decide_eq_true (by kernel_rfl)) k0 bel lt0) (trodAll_cons_mk (Below.trod laidOut (by kernel_rfl) (of_decide_eq_true (by kernel_rfl)) k1 bel lt1) trodAll_mk0)), rfl, bel.frame _, fun h => by cases h⟩

set_option maxRecDepth 100000 in
theorem over : Rows.readsStaysRow.holds Try.pinned (OpenSpec.ofChange Rows.readsStaysSpec) :=
  OpenClaim.holds_of_wide 5 Try.f5 rfl rfl rfl rfl rfl rfl rfl ⟨rfl, rfl, rfl, rfl, rfl⟩ rfl rfl rfl rfl rfl (by kernel_rfl) Try.func5 (by kernel_rfl)
    (of_decide_eq_true (by kernel_rfl)) (by unfold Func.isWrapper; first | (rw [if_pos (by decide +kernel)]; kernel_rfl) | (rw [if_neg (by decide +kernel)]; exact ⟨rfl, rfl⟩))
    (fun os started H enc _ => lifted os started H enc)

end Go.Proofs.Ytafpfioonbdgnaa.readsStays

namespace Go.Proofs.Ytafpfioonbdgnaa
/-- The statement. -/
theorem readsStays_holds : Rows.ReadsStaysSaid := readsStays.over
#print axioms readsStays_holds
end Go.Proofs.Ytafpfioonbdgnaa
