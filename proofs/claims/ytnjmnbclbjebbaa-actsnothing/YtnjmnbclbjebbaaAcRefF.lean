/-
  The document's First: a walk.
-/
import Derived.Test.YtnjmnbclbjebbaaAcRefC
namespace Go.Proofs.Ytnjmnbclbjebbaa.Ac
open Go.RowKit Go.Deep Go.Proofs.Ytnjmnbclbjebbaa.Cel Go.Proofs.Ytnjmnbclbjebbaa.Dft

theorem first_yes {m : Nat → Int} {l : List A3} {x : A3} {k : Nat} (e : x.1 = k) (h : countL l k < m k) : (firstL m (l ++ [x])).1 = (firstL m l).1 ++ [x] ∧ (firstL m (l ++ [x])).2.1 = (firstL m l).2.1 := by
  rw [firstL_snoc]
  unfold fst1
  rw [firstL_all, e]
  have h2 : ((ofK l (k : Int)).length : Int) < m (k : Int).toNat := h
  rw [if_pos h2]
  exact ⟨rfl, rfl⟩
theorem first_no {m : Nat → Int} {l : List A3} {x : A3} {k : Nat} (e : x.1 = k) (h : ¬ countL l k < m k) : (firstL m (l ++ [x])).1 = (firstL m l).1 ∧ (firstL m (l ++ [x])).2.1 = (firstL m l).2.1 ++ [x] := by
  rw [firstL_snoc]
  unfold fst1
  rw [firstL_all, e]
  have h2 : ¬ ((ofK l (k : Int)).length : Int) < m (k : Int).toNat := h
  rw [if_neg h2]
  exact ⟨rfl, rfl⟩

/-- Behind those of l: the mark's block, the counts, what stays and what goes. -/
structure FSt (w : World) (m : Nat → Int) (l : List A3) (v1 v2 : Value) (X : World) : Prop where
  c : CSt w (w.heap.size + 1) l X
  mm : X.heap[w.heap.size]? = some (.cells (mA m) 33 (0, 0))
  stay : Held X (w.heap.size + 2) 32 3 v1 (firstL m l).1.length (flat eA (firstL m l).1)
  gone : Held X (w.heap.size + 2) 32 3 v2 (firstL m l).2.1.length (flat eA (firstL m l).2.1)
  apart : ∀ k, v1.ownBlock = some k → v2.ownBlock ≠ some k

section
variable {w X w2 : World} {m : Nat → Int} {l : List A3} {v1 v2 v' : Value} {x : A3} {k : Nat}

theorem FSt.past (h : FSt w m l v1 v2 X) (o : Obj) : FSt w m l v1 v2 (X.alloc o) :=
  ⟨h.c.past o, (Below.heap_alloc _ _ _ (Array.getElem?_eq_some_iff.1 h.mm).1).trans h.mm, h.stay.carry fun k hk => Below.heap_alloc _ _ _ (h.stay.lt k hk).2, h.gone.carry fun k hk => Below.heap_alloc _ _ _ (h.gone.lt k hk).2, h.apart⟩
theorem FSt.drew (h : FSt w m l v1 v2 X) : FSt w m l v1 v2 X.drew :=
  ⟨⟨h.c.blk, h.c.bel.drew⟩, h.mm, h.stay.carry fun _ _ => rfl, h.gone.carry fun _ _ => rfl, h.apart⟩
theorem FSt.mid {row : Option Nat} (h : FSt w m l v1 v2 X) (hg : X.grownBy w2 row) (hr : ∀ r, row = some r → w.heap.size + 2 ≤ r) : CSt w (w.heap.size + 1) l w2 ∧ w2.heap[w.heap.size]? = some (.cells (mA m) 33 (0, 0)) :=
  ⟨⟨(hg.block _ h.c.lt (fun e => by have := hr _ e.symm; omega)).trans h.c.blk, h.c.bel.grown hg h.c.bel.size (fun r e => by have := hr r e; omega)⟩,
    (hg.block _ (Array.getElem?_eq_some_iff.1 h.mm).1 (fun e => by have := hr _ e.symm; omega)).trans h.mm⟩

theorem FSt.stayed (h : FSt w m l v1 v2 X) (hr : Held w2 (w.heap.size + 2) 32 3 v' ((firstL m l).1.length + 1) (flat eA (firstL m l).1 ++ eA x)) (hg : X.grownBy w2 v1.ownBlock)
    (hn : ∀ j, v'.ownBlock = some j → v1.ownBlock = some j ∨ X.heap.size ≤ j) (hk : k < 4) (e : x.1 = k) (hlt : countL l k < m k) : FSt w m (l ++ [x]) v' v2 (w2.setCell ⟨w.heap.size + 1, k, none⟩ (.int .i64 (countL l k + 1))) := by
  obtain ⟨hc, hm⟩ := h.mid hg (fun r e => (h.stay.lt r e).1)
  have hset : ∀ j, j ≠ w.heap.size + 1 → (w2.setCell ⟨w.heap.size + 1, k, none⟩ (.int .i64 (countL l k + 1))).heap[j]? = w2.heap[j]? := fun j hj => Below.heap_setCell _ _ _ _ hj
  obtain ⟨f1, f2⟩ := first_yes (m := m) e hlt
  refine ⟨hc.up (by omega) x k hk e, (hset _ (by omega)).trans hm, ?_, ?_, fun j hj => ?_⟩
  · rw [f1, List.length_append, flat_append, flat_one]
    exact hr.carry fun j hj => hset j (by have := (hr.lt j hj).1; omega)
  · rw [f2]
    refine h.gone.carry fun j hj => ?_
    have hl := h.gone.lt j hj
    exact (hset j (by omega)).trans (hg.block j hl.2 (fun e => h.apart j e.symm hj))
  · rcases hn j hj with h1 | h1
    · exact h.apart j h1
    · exact fun e => by have := (h.gone.lt j e).2; omega
theorem FSt.went (h : FSt w m l v1 v2 X) (hr : Held w2 (w.heap.size + 2) 32 3 v' ((firstL m l).2.1.length + 1) (flat eA (firstL m l).2.1 ++ eA x)) (hg : X.grownBy w2 v2.ownBlock)
    (hn : ∀ j, v'.ownBlock = some j → v2.ownBlock = some j ∨ X.heap.size ≤ j) (hk : k < 4) (e : x.1 = k) (hlt : ¬ countL l k < m k) : FSt w m (l ++ [x]) v1 v' (w2.setCell ⟨w.heap.size + 1, k, none⟩ (.int .i64 (countL l k + 1))) := by
  obtain ⟨hc, hm⟩ := h.mid hg (fun r e => (h.gone.lt r e).1)
  have hset : ∀ j, j ≠ w.heap.size + 1 → (w2.setCell ⟨w.heap.size + 1, k, none⟩ (.int .i64 (countL l k + 1))).heap[j]? = w2.heap[j]? := fun j hj => Below.heap_setCell _ _ _ _ hj
  obtain ⟨f1, f2⟩ := first_no (m := m) e hlt
  refine ⟨hc.up (by omega) x k hk e, (hset _ (by omega)).trans hm, ?_, ?_, fun j hj e2 => ?_⟩
  · rw [f1]
    refine h.stay.carry fun j hj => ?_
    have hl := h.stay.lt j hj
    exact (hset j (by omega)).trans (hg.block j hl.2 (fun e => h.apart j hj e.symm))
  · rw [f2, List.length_append, flat_append, flat_one]
    exact hr.carry fun j hj => hset j (by have := (hr.lt j hj).1; omega)
  · rcases hn j e2 with h1 | h1
    · exact h.apart j hj h1
    · have := (h.stay.lt j hj).2; omega

/-- A box's cell behind an append. -/
theorem box_cell {W : World} {row : Option Nat} {B j : Nat} {v : Value} (h : W.cell? ⟨B, j, none⟩ = some v) (hg : W.grownBy w2 row) (hne : row ≠ some B) : w2.cell? ⟨B, j, none⟩ = some v := by
  have hB : B < W.heap.size := World.block_lt_of_cell? W _ h
  exact (World.cell?_of_block (w := W) (hg.block B hB (fun e => hne e.symm))).trans h
theorem box_at (W : World) (x : A3) : (W.alloc (.cells #[.int .i64 x.1, .int .i64 x.2.1, .int .i64 x.2.2] 32)).cell? ⟨W.heap.size, 0, none⟩ = some (.int .i64 x.1) := cell_at (heap_new W _) rfl
end

section
variable {w : World}

set_option maxHeartbeats 16000000 in
set_option maxRecDepth 100000 in
theorem refFirst_any {a : Option Addr} {len cap : Nat} {all : List A3} (hv : View w eA 3 a len cap all) (hs : len ≤ 1000000) (hk : Kinds all) (m : Nat → Int) :
    Calls Try.prog 9 #[.slice a len cap, .agg (mA m)] w fun e w' => ∃ v1 v2, e = .returned (.tuple #[v1, v2]) ∧
      Held w' w.heap.size 32 3 v1 (firstL m all).1.length (flat eA (firstL m all).1) ∧ Held w' w.heap.size 32 3 v2 (firstL m all).2.1.length (flat eA (firstL m all).2.1) ∧ Below w.heap.size w w' := by
  obtain ⟨i0, hi, hz0, hz1, hz2⟩ := info_parts Try.infoA
  have HV := Hid.mk hv
  have HL := Hid.mk hv.1
  have HKS := Hid.mk hk
  have HF0 : Hid (FSt w m [] (.slice none 0 0) (.slice none 0 0) ((w.alloc (.cells (mA m) 33)).alloc (.cells #[.int .i64 0, .int .i64 0, .int .i64 0, .int .i64 0] 33))) := by
    refine Hid.mk ⟨⟨?_, ((Below.refl _ w).alloc (Nat.le_refl _) _).alloc (by simp) _⟩, ?_, Held.nil _ _ _ _, Held.nil _ _ _ _, fun k e => by cases e⟩
    · have := heap_new (w.alloc (.cells (mA m) 33)) (.cells #[.int .i64 0, .int .i64 0, .int .i64 0, .int .i64 0] 33)
      rw [World.size_alloc] at this
      exact this
    · exact (Below.heap_alloc _ _ _ (by simp)).trans (heap_new w _)
  unfold mA at HF0 ⊢
  clear hv hk
  go_enter Try.func9, Try.ntmps9
  go_wp2
  go_loopw [6, 7, 10, 13] (fun y1 y2 _ i wr => ∃ j : Nat, j ≤ len ∧ i = .int .i64 j ∧ Hid (FSt w m (all.take j) y1 y2 wr)) (fun _ _ _ i _ => len - (intOf i).toNat)
  case atStart => exact ⟨0, Nat.zero_le _, rfl, HF0⟩
  case round =>
    obtain ⟨j, hj, rfl, HF⟩ := hrel
    by_cases hlt : j < len
    · obtain ⟨hz, g, off, rfl, c0, c1, c2⟩ := (HV.out.grown HF.out.c.bel).act j hlt
      obtain ⟨x, hx⟩ : ∃ x, x = all[j] := ⟨_, rfl⟩
      have hst : all.take (j + 1) = all.take j ++ [x] := by rw [List.take_succ_eq_append_getElem hz, hx]
      have hxk : 0 ≤ x.1 ∧ x.1 ≤ 3 := HKS.out x (by rw [hx]; exact List.getElem_mem hz)
      rw [← hx] at c0 c1 c2
      have hcl : ∀ k, 0 ≤ countL (all.take j) k ∧ countL (all.take j) k ≤ 1000000 := fun k => by
        have h1 := count_le (all.take j) k
        have h2 : (all.take j).length ≤ len := by rw [List.length_take]; omega
        exact ⟨h1.1, by omega⟩
      have hsl : (firstL m (all.take j)).1.length ≤ 1000000 := Nat.le_trans (stay_len _ _) (by rw [List.length_take]; omega)
      have hgl : (firstL m (all.take j)).2.1.length ≤ 1000000 := Nat.le_trans (gone_len _ _) (by rw [List.length_take]; omega)
      have HST := Hid.mk hst
      have HK := Hid.mk hlt
      have HX := Hid.mk hxk
      have HSL := Hid.mk hsl
      have HGL := Hid.mk hgl
      obtain ⟨p1, k1, e1, _⟩ := HF.out.stay.shape
      obtain ⟨p2, k2, e2, _⟩ := HF.out.gone.shape
      subst e1 e2
      have hNlt : w.heap.size + 1 < wr.heap.size := HF.out.c.lt
      have HN := Hid.mk hNlt
      have hp := HF.out.past (.cells #[.int .i64 x.1, .int .i64 x.2.1, .int .i64 x.2.2] 32)
      have HP := Hid.mk hp
      have hp2 := (hp.past (.cells #[.int .i64 x.1, .int .i64 x.2.1, .int .i64 x.2.2] 32)).drew
      have HP2 := Hid.mk hp2
      have hbx := (past (o := .cells #[.int .i64 x.1, .int .i64 x.2.1, .int .i64 x.2.2] 32) (box_at wr x))
      have hbx2 : ((wr.alloc (.cells #[.int .i64 x.1, .int .i64 x.2.1, .int .i64 x.2.2] 32)).alloc (.cells #[.int .i64 x.1, .int .i64 x.2.1, .int .i64 x.2.2] 32)).drew.cell? ⟨wr.heap.size, 0, none⟩ = some (.int .i64 x.1) := hbx
      have HBX := Hid.mk hbx2
      have hnw := act_news (wr.alloc (.cells #[.int .i64 x.1, .int .i64 x.2.1, .int .i64 x.2.2] 32)) x
      rw [World.size_alloc] at hnw
      have hnw2 : ∀ j u, (eA x)[j]? = some u → ((wr.alloc (.cells #[.int .i64 x.1, .int .i64 x.2.1, .int .i64 x.2.2] 32)).alloc (.cells #[.int .i64 x.1, .int .i64 x.2.1, .int .i64 x.2.2] 32)).drew.cell? ((⟨wr.heap.size + 1, 0, none⟩ : Addr).add j) = some u := hnw
      have HNW := Hid.mk hnw2
      clear hst hxk hx hsl hgl hp hp2 hbx hbx2 hnw hnw2
      rcases (show x.1 = 0 ∨ x.1 = 1 ∨ x.1 = 2 ∨ x.1 = 3 by have := HX.out; omega) with e | e | e | e
      all_goals obtain ⟨xk, xa, xb⟩ := x
      all_goals simp only at e
      all_goals subst e
      · have q := HP.out.c.cell 0 (by decide)
        have qm := cell_at HP.out.mm (mA_at m 0 (by decide))
        have hb := hcl 0
        by_cases hck : countL (all.take j) 0 < m 0
        · have HCK := Hid.mk hck
          clear hcl
          go_wp2_with fail
          go_big_region
          all_goals
            go_wp2_with (at_builtin; go_loud (refine wpList_append_held _ rfl (.tmp 26) (.tmp 28) 30 rfl (w.heap.size + 2) 32 i0 _ 3 24 Try.underlying30 hi hz0 hz1 hz2 rfl (by decide) _ _ _ rfl HP2.out.stay ⟨wr.heap.size + 1, 0, none⟩ 1 1 (eA (0, xa, xb)) rfl rfl HNW.out (eA_one _) (by have := HSL.out; unfold maxLen; omega) (by have := HSL.out; omega) (by have := HN.out; simp; omega) ?_; intro v' w2 ho hg hn; obtain ⟨ya, yc, ey, _⟩ := ho.out.shape; subst ey; have qb := box_cell HBX.out hg.out (fun e => by have := (HF.out.stay.lt _ e).2; omega); have qc := (HP2.out.mid hg.out (fun r e => (HF.out.stay.lt r e).1)).1.cell 0 (by decide); have qz := free_at (HP2.out.mid hg.out (fun r e => (HF.out.stay.lt r e).1)).1.blk (i := 0); have HU := Hid.mk (HP2.out.stayed (k := 0) ho.out hg.out hn.out (by decide) rfl (by have := HCK.out; omega)); rw [← HST.out] at HU))
            go_roundw
            case rel => exact ⟨j + 1, HK.out, by go_num, HU⟩
            case measure => have := HK.out; simp [intOf]; omega
        · have HCK := Hid.mk hck
          clear hcl
          go_wp2_with fail
          go_big_region
          all_goals
            go_wp2_with (at_builtin; go_loud (refine wpList_append_held _ rfl (.tmp 30) (.tmp 32) 30 rfl (w.heap.size + 2) 32 i0 _ 3 24 Try.underlying30 hi hz0 hz1 hz2 rfl (by decide) _ _ _ rfl HP2.out.gone ⟨wr.heap.size + 1, 0, none⟩ 1 1 (eA (0, xa, xb)) rfl rfl HNW.out (eA_one _) (by have := HGL.out; unfold maxLen; omega) (by have := HGL.out; omega) (by have := HN.out; simp; omega) ?_; intro v' w2 ho hg hn; obtain ⟨ya, yc, ey, _⟩ := ho.out.shape; subst ey; have qb := box_cell HBX.out hg.out (fun e => by have := (HF.out.gone.lt _ e).2; omega); have qc := (HP2.out.mid hg.out (fun r e => (HF.out.gone.lt r e).1)).1.cell 0 (by decide); have qz := free_at (HP2.out.mid hg.out (fun r e => (HF.out.gone.lt r e).1)).1.blk (i := 0); have HU := Hid.mk (HP2.out.went (k := 0) ho.out hg.out hn.out (by decide) rfl (by have := HCK.out; omega)); rw [← HST.out] at HU))
            go_roundw
            case rel => exact ⟨j + 1, HK.out, by go_num, HU⟩
            case measure => have := HK.out; simp [intOf]; omega
      · have q := HP.out.c.cell 1 (by decide)
        have qm := cell_at HP.out.mm (mA_at m 1 (by decide))
        have hb := hcl 1
        by_cases hck : countL (all.take j) 1 < m 1
        · have HCK := Hid.mk hck
          clear hcl
          go_wp2_with fail
          go_big_region
          all_goals
            go_wp2_with (at_builtin; go_loud (refine wpList_append_held _ rfl (.tmp 26) (.tmp 28) 30 rfl (w.heap.size + 2) 32 i0 _ 3 24 Try.underlying30 hi hz0 hz1 hz2 rfl (by decide) _ _ _ rfl HP2.out.stay ⟨wr.heap.size + 1, 0, none⟩ 1 1 (eA (1, xa, xb)) rfl rfl HNW.out (eA_one _) (by have := HSL.out; unfold maxLen; omega) (by have := HSL.out; omega) (by have := HN.out; simp; omega) ?_; intro v' w2 ho hg hn; obtain ⟨ya, yc, ey, _⟩ := ho.out.shape; subst ey; have qb := box_cell HBX.out hg.out (fun e => by have := (HF.out.stay.lt _ e).2; omega); have qc := (HP2.out.mid hg.out (fun r e => (HF.out.stay.lt r e).1)).1.cell 1 (by decide); have qz := free_at (HP2.out.mid hg.out (fun r e => (HF.out.stay.lt r e).1)).1.blk (i := 1); have HU := Hid.mk (HP2.out.stayed (k := 1) ho.out hg.out hn.out (by decide) rfl (by have := HCK.out; omega)); rw [← HST.out] at HU))
            go_roundw
            case rel => exact ⟨j + 1, HK.out, by go_num, HU⟩
            case measure => have := HK.out; simp [intOf]; omega
        · have HCK := Hid.mk hck
          clear hcl
          go_wp2_with fail
          go_big_region
          all_goals
            go_wp2_with (at_builtin; go_loud (refine wpList_append_held _ rfl (.tmp 30) (.tmp 32) 30 rfl (w.heap.size + 2) 32 i0 _ 3 24 Try.underlying30 hi hz0 hz1 hz2 rfl (by decide) _ _ _ rfl HP2.out.gone ⟨wr.heap.size + 1, 0, none⟩ 1 1 (eA (1, xa, xb)) rfl rfl HNW.out (eA_one _) (by have := HGL.out; unfold maxLen; omega) (by have := HGL.out; omega) (by have := HN.out; simp; omega) ?_; intro v' w2 ho hg hn; obtain ⟨ya, yc, ey, _⟩ := ho.out.shape; subst ey; have qb := box_cell HBX.out hg.out (fun e => by have := (HF.out.gone.lt _ e).2; omega); have qc := (HP2.out.mid hg.out (fun r e => (HF.out.gone.lt r e).1)).1.cell 1 (by decide); have qz := free_at (HP2.out.mid hg.out (fun r e => (HF.out.gone.lt r e).1)).1.blk (i := 1); have HU := Hid.mk (HP2.out.went (k := 1) ho.out hg.out hn.out (by decide) rfl (by have := HCK.out; omega)); rw [← HST.out] at HU))
            go_roundw
            case rel => exact ⟨j + 1, HK.out, by go_num, HU⟩
            case measure => have := HK.out; simp [intOf]; omega
      · have q := HP.out.c.cell 2 (by decide)
        have qm := cell_at HP.out.mm (mA_at m 2 (by decide))
        have hb := hcl 2
        by_cases hck : countL (all.take j) 2 < m 2
        · have HCK := Hid.mk hck
          clear hcl
          go_wp2_with fail
          go_big_region
          all_goals
            go_wp2_with (at_builtin; go_loud (refine wpList_append_held _ rfl (.tmp 26) (.tmp 28) 30 rfl (w.heap.size + 2) 32 i0 _ 3 24 Try.underlying30 hi hz0 hz1 hz2 rfl (by decide) _ _ _ rfl HP2.out.stay ⟨wr.heap.size + 1, 0, none⟩ 1 1 (eA (2, xa, xb)) rfl rfl HNW.out (eA_one _) (by have := HSL.out; unfold maxLen; omega) (by have := HSL.out; omega) (by have := HN.out; simp; omega) ?_; intro v' w2 ho hg hn; obtain ⟨ya, yc, ey, _⟩ := ho.out.shape; subst ey; have qb := box_cell HBX.out hg.out (fun e => by have := (HF.out.stay.lt _ e).2; omega); have qc := (HP2.out.mid hg.out (fun r e => (HF.out.stay.lt r e).1)).1.cell 2 (by decide); have qz := free_at (HP2.out.mid hg.out (fun r e => (HF.out.stay.lt r e).1)).1.blk (i := 2); have HU := Hid.mk (HP2.out.stayed (k := 2) ho.out hg.out hn.out (by decide) rfl (by have := HCK.out; omega)); rw [← HST.out] at HU))
            go_roundw
            case rel => exact ⟨j + 1, HK.out, by go_num, HU⟩
            case measure => have := HK.out; simp [intOf]; omega
        · have HCK := Hid.mk hck
          clear hcl
          go_wp2_with fail
          go_big_region
          all_goals
            go_wp2_with (at_builtin; go_loud (refine wpList_append_held _ rfl (.tmp 30) (.tmp 32) 30 rfl (w.heap.size + 2) 32 i0 _ 3 24 Try.underlying30 hi hz0 hz1 hz2 rfl (by decide) _ _ _ rfl HP2.out.gone ⟨wr.heap.size + 1, 0, none⟩ 1 1 (eA (2, xa, xb)) rfl rfl HNW.out (eA_one _) (by have := HGL.out; unfold maxLen; omega) (by have := HGL.out; omega) (by have := HN.out; simp; omega) ?_; intro v' w2 ho hg hn; obtain ⟨ya, yc, ey, _⟩ := ho.out.shape; subst ey; have qb := box_cell HBX.out hg.out (fun e => by have := (HF.out.gone.lt _ e).2; omega); have qc := (HP2.out.mid hg.out (fun r e => (HF.out.gone.lt r e).1)).1.cell 2 (by decide); have qz := free_at (HP2.out.mid hg.out (fun r e => (HF.out.gone.lt r e).1)).1.blk (i := 2); have HU := Hid.mk (HP2.out.went (k := 2) ho.out hg.out hn.out (by decide) rfl (by have := HCK.out; omega)); rw [← HST.out] at HU))
            go_roundw
            case rel => exact ⟨j + 1, HK.out, by go_num, HU⟩
            case measure => have := HK.out; simp [intOf]; omega
      · have q := HP.out.c.cell 3 (by decide)
        have qm := cell_at HP.out.mm (mA_at m 3 (by decide))
        have hb := hcl 3
        by_cases hck : countL (all.take j) 3 < m 3
        · have HCK := Hid.mk hck
          clear hcl
          go_wp2_with fail
          go_big_region
          all_goals
            go_wp2_with (at_builtin; go_loud (refine wpList_append_held _ rfl (.tmp 26) (.tmp 28) 30 rfl (w.heap.size + 2) 32 i0 _ 3 24 Try.underlying30 hi hz0 hz1 hz2 rfl (by decide) _ _ _ rfl HP2.out.stay ⟨wr.heap.size + 1, 0, none⟩ 1 1 (eA (3, xa, xb)) rfl rfl HNW.out (eA_one _) (by have := HSL.out; unfold maxLen; omega) (by have := HSL.out; omega) (by have := HN.out; simp; omega) ?_; intro v' w2 ho hg hn; obtain ⟨ya, yc, ey, _⟩ := ho.out.shape; subst ey; have qb := box_cell HBX.out hg.out (fun e => by have := (HF.out.stay.lt _ e).2; omega); have qc := (HP2.out.mid hg.out (fun r e => (HF.out.stay.lt r e).1)).1.cell 3 (by decide); have qz := free_at (HP2.out.mid hg.out (fun r e => (HF.out.stay.lt r e).1)).1.blk (i := 3); have HU := Hid.mk (HP2.out.stayed (k := 3) ho.out hg.out hn.out (by decide) rfl (by have := HCK.out; omega)); rw [← HST.out] at HU))
            go_roundw
            case rel => exact ⟨j + 1, HK.out, by go_num, HU⟩
            case measure => have := HK.out; simp [intOf]; omega
        · have HCK := Hid.mk hck
          clear hcl
          go_wp2_with fail
          go_big_region
          all_goals
            go_wp2_with (at_builtin; go_loud (refine wpList_append_held _ rfl (.tmp 30) (.tmp 32) 30 rfl (w.heap.size + 2) 32 i0 _ 3 24 Try.underlying30 hi hz0 hz1 hz2 rfl (by decide) _ _ _ rfl HP2.out.gone ⟨wr.heap.size + 1, 0, none⟩ 1 1 (eA (3, xa, xb)) rfl rfl HNW.out (eA_one _) (by have := HGL.out; unfold maxLen; omega) (by have := HGL.out; omega) (by have := HN.out; simp; omega) ?_; intro v' w2 ho hg hn; obtain ⟨ya, yc, ey, _⟩ := ho.out.shape; subst ey; have qb := box_cell HBX.out hg.out (fun e => by have := (HF.out.gone.lt _ e).2; omega); have qc := (HP2.out.mid hg.out (fun r e => (HF.out.gone.lt r e).1)).1.cell 3 (by decide); have qz := free_at (HP2.out.mid hg.out (fun r e => (HF.out.gone.lt r e).1)).1.blk (i := 3); have HU := Hid.mk (HP2.out.went (k := 3) ho.out hg.out hn.out (by decide) rfl (by have := HCK.out; omega)); rw [← HST.out] at HU))
            go_roundw
            case rel => exact ⟨j + 1, HK.out, by go_num, HU⟩
            case measure => have := HK.out; simp [intOf]; omega
    · have hjl : j = len := by omega
      have hall : all.take j = all := by rw [hjl]; exact List.take_of_length_le (Nat.le_of_eq HL.out)
      rw [hall] at HF
      have hnk : ¬ (j : Int) < (len : Int) := by omega
      obtain ⟨p1, k1, e1, _⟩ := HF.out.stay.shape
      obtain ⟨p2, k2, e2, _⟩ := HF.out.gone.shape
      subst e1 e2
      clear hjl hall
      go_wp2
      go_ret2
      exact ⟨_, _, rfl, HF.out.stay.low _ (fun k hk => by have := (HF.out.stay.lt k hk).1; omega), HF.out.gone.low _ (fun k hk => by have := (HF.out.gone.lt k hk).1; omega), HF.out.c.bel⟩

end

end Go.Proofs.Ytnjmnbclbjebbaa.Ac
