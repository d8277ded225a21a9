/-
  The walk of the document's Note.
-/
import Derived.Test.YtafpfioonbdgnaaNRef
namespace Go.Proofs.Ytafpfioonbdgnaa.Rds
open Go.RowKit Go.Shelf Go.Deep Go.Proofs.Ytafpfioonbdgnaa.Cel Go.Proofs.Ytafpfioonbdgnaa.Rng

/-- The document's set, its two rows each by itself. -/
structure RefRaw (w : World) (b : Nat) (vt vv : Value) (st : Int) (T : List Th) (V : List Int) : Prop where
  at_ : w.heap[b]? = some (.cells #[vt, vv, .int .i64 st] 34 (0, 0))
  th : w.ownsRow 0 36 2 vt T.length (thC T)
  ve : w.ownsRow 0 3 1 vv V.length (nuC V)

theorem RefAt.raw {w : World} {b : Nat} {vt vv : Value} {st : Int} {E : List En} (h : RefAt w b vt vv st E) : RefRaw w b vt vv st (thE E) (veE E) :=
  ⟨h.at_, by rw [thE_length]; exact h.th, by rw [veE_length]; exact h.ve⟩
theorem RefRaw.ref {w : World} {b : Nat} {vt vv : Value} {st : Int} {E : List En} (h : RefRaw w b vt vv st (thE E) (veE E)) : RefAt w b vt vv st E :=
  ⟨h.at_, by have := h.th; rw [thE_length] at this; exact this, by have := h.ve; rw [veE_length] at this; exact this⟩

section
variable {w : World} {b : Nat} {vt vv : Value} {st : Int} {T : List Th} {V : List Int}

theorem RefRaw.lt (h : RefRaw w b vt vv st T V) : b < w.heap.size := (Array.getElem?_eq_some_iff.1 h.at_).1
theorem RefRaw.t_b (h : RefRaw w b vt vv st T V) : vt.ownBlock ≠ some b := fun e => by
  obtain ⟨cs, hc⟩ := own_at h.th e
  exact block_ne hc h.at_ (by decide) rfl
theorem RefRaw.v_b (h : RefRaw w b vt vv st T V) : vv.ownBlock ≠ some b := fun e => by
  obtain ⟨cs, hc⟩ := own_at h.ve e
  exact block_ne hc h.at_ (by decide) rfl
theorem RefRaw.t_v (h : RefRaw w b vt vv st T V) {k : Nat} (ht : vt.ownBlock = some k) : vv.ownBlock ≠ some k := fun e => by
  obtain ⟨cs, hc⟩ := own_at h.th ht
  obtain ⟨ds, hd⟩ := own_at h.ve e
  exact block_ne hc hd (by decide) rfl

/-- Another stamp. -/
theorem RefRaw.stamp (h : RefRaw w b vt vv st T V) (t : Int) : RefRaw (w.setCell ⟨b, 2, none⟩ (.int .i64 t)) b vt vv t T V ∧ Wrote (Foot b [vt, vv]) (Foot b [vt, vv]) w (w.setCell ⟨b, 2, none⟩ (.int .i64 t)) := by
  refine ⟨⟨?_, ownsRow_carry h.th fun k e => Below.heap_setCell _ _ _ _ (fun e' => h.t_b (by rw [e]; exact congrArg some e')), ownsRow_carry h.ve fun k e => Below.heap_setCell _ _ _ _ (fun e' => h.v_b (by rw [e]; exact congrArg some e'))⟩,
    rfl, rfl, rfl, by simp [World.setCell], fun k hk hf => Below.heap_setCell _ _ _ _ (fun e => hf (.inl e)), fun _ h => .inl h⟩
  rw [heap_set _ h.at_]
  simp

/-- One thing more. -/
theorem RefRaw.moreT {w1 w2 : World} {g cap : Nat} (h : RefRaw w b vt vv st T V) (x : Th) (hown : w2.ownsRow 0 36 2 (.slice (some ⟨g, 0, none⟩) (T.length + 1) cap) (T.length + 1) (thC T ++ thC [x]))
    (hw1 : Below w.heap.size w w1) (hgrow : w1.grownBy w2 vt.ownBlock) (hat : vt.ownBlock = some g ∨ w.heap.size ≤ g) :
    RefRaw (w2.setCell ⟨b, 0, none⟩ (.slice (some ⟨g, 0, none⟩) (T.length + 1) cap)) b (.slice (some ⟨g, 0, none⟩) (T.length + 1) cap) vv st (T ++ [x]) V ∧
      Wrote (Foot b [vt, vv]) (Foot b [.slice (some ⟨g, 0, none⟩) (T.length + 1) cap, vv]) w (w2.setCell ⟨b, 0, none⟩ (.slice (some ⟨g, 0, none⟩) (T.length + 1) cap)) := by
  have hlt := h.lt
  have hsz := hw1.size
  have hb2 : w2.heap[b]? = some (.cells #[vt, vv, .int .i64 st] 34 (0, 0)) := by
    rw [hgrow.block b (by omega) (fun e => h.t_b e.symm), hw1.block b hlt]
    exact h.at_
  have hgb : g ≠ b := by
    rcases hat with e | e
    · exact fun e' => h.t_b (by rw [e, e'])
    · omega
  have hs2 := hgrow.size
  have hv2 : ∀ k, vv.ownBlock = some k → (w2.setCell ⟨b, 0, none⟩ (.slice (some ⟨g, 0, none⟩) (T.length + 1) cap)).heap[k]? = w.heap[k]? := fun k hk => by
    have hkl := (h.ve.lt k hk).2
    rw [Below.heap_setCell _ _ _ _ (fun e => h.v_b (by rw [hk]; exact congrArg some e)), hgrow.block k (by omega) (fun e => h.t_v e.symm hk)]
    exact hw1.block k hkl
  refine ⟨⟨?_, ?_, ownsRow_carry h.ve hv2⟩, ?_, ?_, ?_, ?_, fun k hk hf => ?_, fun k hk => ?_⟩
  · rw [heap_set _ hb2]
    simp
  · rw [List.length_append, thC_append]
    exact ownsRow_carry hown fun k hk => by
      simp [Value.ownBlock] at hk
      subst hk
      exact Below.heap_setCell _ _ _ _ hgb
  · exact hgrow.os.trans hw1.os
  · exact hgrow.tape.trans hw1.tape
  · exact hgrow.output.trans hw1.output
  · simp [World.setCell]; omega
  · rw [Below.heap_setCell _ _ _ _ (fun e => hf (.inl e)), hgrow.block k (by omega) (fun e => hf (.inr ⟨vt, by simp, e.symm⟩))]
    exact hw1.block k hk
  · rcases hk with e | ⟨y, hy, e⟩
    · exact .inl (.inl e)
    · simp at hy
      rcases hy with rfl | rfl
      · simp [Value.ownBlock] at e
        subst e
        rcases hat with e | e
        · exact .inl (.inr ⟨vt, by simp, e⟩)
        · exact .inr e
      · exact .inl (.inr ⟨y, by simp, e⟩)

/-- One version more. -/
theorem RefRaw.moreV {w1 w2 : World} {g cap : Nat} (h : RefRaw w b vt vv st T V) (x : Int) (hown : w2.ownsRow 0 3 1 (.slice (some ⟨g, 0, none⟩) (V.length + 1) cap) (V.length + 1) (nuC V ++ nuC [x]))
    (hw1 : Below w.heap.size w w1) (hgrow : w1.grownBy w2 vv.ownBlock) (hat : vv.ownBlock = some g ∨ w.heap.size ≤ g) :
    RefRaw (w2.setCell ⟨b, 1, none⟩ (.slice (some ⟨g, 0, none⟩) (V.length + 1) cap)) b vt (.slice (some ⟨g, 0, none⟩) (V.length + 1) cap) st T (V ++ [x]) ∧
      Wrote (Foot b [vt, vv]) (Foot b [vt, .slice (some ⟨g, 0, none⟩) (V.length + 1) cap]) w (w2.setCell ⟨b, 1, none⟩ (.slice (some ⟨g, 0, none⟩) (V.length + 1) cap)) := by
  have hlt := h.lt
  have hsz := hw1.size
  have hb2 : w2.heap[b]? = some (.cells #[vt, vv, .int .i64 st] 34 (0, 0)) := by
    rw [hgrow.block b (by omega) (fun e => h.v_b e.symm), hw1.block b hlt]
    exact h.at_
  have hgb : g ≠ b := by
    rcases hat with e | e
    · exact fun e' => h.v_b (by rw [e, e'])
    · omega
  have hs2 := hgrow.size
  have hv2 : ∀ k, vt.ownBlock = some k → (w2.setCell ⟨b, 1, none⟩ (.slice (some ⟨g, 0, none⟩) (V.length + 1) cap)).heap[k]? = w.heap[k]? := fun k hk => by
    have hkl := (h.th.lt k hk).2
    rw [Below.heap_setCell _ _ _ _ (fun e => h.t_b (by rw [hk]; exact congrArg some e)), hgrow.block k (by omega) (fun e => h.t_v hk e.symm)]
    exact hw1.block k hkl
  refine ⟨⟨?_, ownsRow_carry h.th hv2, ?_⟩, ?_, ?_, ?_, ?_, fun k hk hf => ?_, fun k hk => ?_⟩
  · rw [heap_set _ hb2]
    simp
  · rw [List.length_append, nuC_append]
    exact ownsRow_carry hown fun k hk => by
      simp [Value.ownBlock] at hk
      subst hk
      exact Below.heap_setCell _ _ _ _ hgb
  · exact hgrow.os.trans hw1.os
  · exact hgrow.tape.trans hw1.tape
  · exact hgrow.output.trans hw1.output
  · simp [World.setCell]; omega
  · rw [Below.heap_setCell _ _ _ _ (fun e => hf (.inl e)), hgrow.block k (by omega) (fun e => hf (.inr ⟨vv, by simp, e.symm⟩))]
    exact hw1.block k hk
  · rcases hk with e | ⟨y, hy, e⟩
    · exact .inl (.inl e)
    · simp at hy
      rcases hy with rfl | rfl
      · exact .inl (.inr ⟨y, by simp, e⟩)
      · simp [Value.ownBlock] at e
        subst e
        rcases hat with e | e
        · exact .inl (.inr ⟨vv, by simp, e⟩)
        · exact .inr e

end

/-! ### Note -/

set_option maxRecDepth 100000 in
theorem Try.info36 : (Try.prog.info? 36).map (fun i => (i.zero, i.size, i.bytes)) = some (some (.agg #[.int .i64 0, .int .i64 0]), 2, 16) := by kernel_rfl
set_option maxRecDepth 100000 in
theorem Try.info3 : (Try.prog.info? 3).map (fun i => (i.zero, i.size, i.bytes)) = some (some (.int .i64 0), 1, 8) := by kernel_rfl

section
variable {w : World} {b m : Nat} {v vt vv : Value} {l : List Th} {st : Int} {E : List En}

set_option maxHeartbeats 4000000 in
set_option maxRecDepth 100000 in
theorem refNote_old (hw : WoAt w b v l) (hl : l.length ≤ 1000000) (h : RefAt w m vt vv st E) (hE : E.length ≤ 100000) (k i : Int) (e0 : En) (hf : findE E k i = some e0) :
    Calls Try.prog 12 #[.pointer (some ⟨m, 0, none⟩), .pointer (some ⟨b, 0, none⟩), .agg #[.int .i64 k, .int .i64 i]] w fun e w' => e = .returned (.bool (decide (e0.2.2 = vfN l k i))) ∧ Below w.heap.size w w' := by
  obtain ⟨ta, tc, rfl⟩ := row_shape h.th
  obtain ⟨va, vc, rfl⟩ := row_shape hw.owns
  obtain ⟨N, hN⟩ : ∃ N, N = E.length := ⟨_, rfl⟩
  obtain ⟨L, hL⟩ : ∃ L, L = l.length := ⟨_, rfl⟩
  obtain ⟨W, hW⟩ : ∃ W, W = w.alloc (.cells #[.int .i64 k, .int .i64 i] 36) := ⟨_, rfl⟩
  obtain ⟨X, hX⟩ : ∃ X, X = w.heap.size := ⟨_, rfl⟩
  have hbW : Below w.heap.size w W := by rw [hW]; exact (Below.refl _ _).alloc (Nat.le_refl _) _
  have hxW : W.heap[X]? = some (.cells #[.int .i64 k, .int .i64 i] 36 (0, 0)) := by rw [hW, hX]; exact heap_new _ _
  have hrW := h.grown hbW
  have hwW := hw.grown hbW
  have hat := fun (g : Wider W.heap.size W) => at_any (hwW.grown g.h) hl (k, i) (l.length : Nat)
  have k0 : ∀ g : Wider W.heap.size W, g.z.cell? ⟨X, 0, none⟩ = some (.int .i64 k) := fun g => cell_at ((g.h.block _ (Array.getElem?_eq_some_iff.1 hxW).1).trans hxW) rfl
  have k1 : ∀ g : Wider W.heap.size W, g.z.cell? ⟨X, 1, none⟩ = some (.int .i64 i) := fun g => cell_at ((g.h.block _ (Array.getElem?_eq_some_iff.1 hxW).1).trans hxW) rfl
  have k2 : ∀ g : Wider W.heap.size W, g.z.cell? ⟨b, 0, none⟩ = some (.slice va L vc) := fun g => by rw [hL]; exact (hwW.grown g.h).c0
  obtain ⟨V, hV⟩ : ∃ V : Int, V = (atN l (k, i) (l.length : Nat) : Nat) := ⟨_, rfl⟩
  have HVN : Hid (V = vfN l k i) := Hid.mk hV
  rw [← hV, ← hL] at hat
  have hne := Wider.some W.heap.size W
  have H := Hid.mk hrW
  have HWO := Hid.mk hwW
  have HAT := Hid.mk hat
  have HBW := Hid.mk hbW
  have HXW := Hid.mk hxW
  have HN := Hid.mk hN
  have HL := Hid.mk hL
  have HLL := Hid.mk hl
  have HEE := Hid.mk hE
  have HF := Hid.mk hf
  have H0 := Hid.mk h
  have HXE := Hid.mk hX
  have hNl : N ≤ 100000 := by omega
  go_enter Try.func12, Try.ntmps12
  go_upto_region 1 with fail
  rw [← hX, ← hW]
  clear hX hW hbW hxW hrW hwW hat hV hN hL hl hE h hw hf
  refine wp_region_wider (B := W.heap.size) (w0 := W) (by kernel_rfl) (by kernel_rfl) (Below.refl _ W) ?_
  repeat (go_big_quiet_step ((go_at_call 21; refine (HAT.out _).mono ?_; rintro e w6 ⟨rfl, hb6⟩; exact ⟨rfl, ⟨w6, by rename_i g; exact farther (Nat.le_refl _) g.h hb6⟩, rfl⟩)))
  refine wpQuiet_nil ?_
  rintro z ⟨g, hg⟩
  have hz : Below W.heap.size W z := by rw [hg]; exact g.h
  clear hg g
  have c0 := (H.out.grown hz).c0
  rw [← HN.out] at c0
  have HZ := Hid.mk hz
  clear hz k0 k1 k2 hne HAT
  go_wp2
  go_loopw [8, 9, 23] (fun _ _ idx wr => ∃ q : Nat, q ≤ N ∧ idx = .int .i64 q ∧ (∀ j, j < q → ¬ hit k i E[j]!) ∧ Below W.heap.size W wr) (fun _ _ idx _ => N - (intOf idx).toNat)
  case atStart => exact ⟨0, Nat.zero_le _, rfl, fun j hj => absurd hj (Nat.not_lt_zero j), HZ.out⟩
  case round =>
    clear HZ c0
    obtain ⟨q, hq, rfl, hok, hb⟩ := hrel
    have HOK := Hid.mk hok
    have hxr := (hb.block _ (Array.getElem?_eq_some_iff.1 HXW.out).1).trans HXW.out
    have x0 : wr.cell? ⟨X, 0, none⟩ = some (.int .i64 k) := cell_at hxr rfl
    have x1 : wr.cell? ⟨X, 1, none⟩ = some (.int .i64 i) := cell_at hxr rfl
    have hXl : X < wr.heap.size := (Array.getElem?_eq_some_iff.1 hxr).1
    by_cases hlt : q < N
    · have hqE : q < E.length := by have := HN.out; omega
      have hr := H.out.grown hb
      obtain ⟨g, cap, e⟩ := row_full hr.th (by omega)
      injection e with e1 _ e3
      subst e1 e3
      obtain ⟨z0, z1⟩ := row_th hr.th q (by rw [thE_length]; exact hqE)
      rw [thE_at E q hqE] at z0 z1
      obtain ⟨gv, capv, rfl⟩ := row_full hr.ve (by omega)
      have z2 := row_nu hr.ve q (by rw [veE_length]; exact hqE)
      rw [veE_at E q hqE] at z2
      have c1 := hr.c1
      rw [← HN.out] at c1
      have hml := hr.lt
      have hgl := (hr.th.lt g rfl).2
      have hvl := (hr.ve.lt gv rfl).2
      obtain ⟨y0, hy0⟩ : ∃ y, y = E[q]!.1 := ⟨_, rfl⟩
      obtain ⟨y1, hy1⟩ : ∃ y, y = E[q]!.2.1 := ⟨_, rfl⟩
      obtain ⟨y2, hy2⟩ : ∃ y, y = E[q]!.2.2 := ⟨_, rfl⟩
      dsimp only at z0 z1
      rw [← hy0] at z0
      rw [← hy1] at z1
      rw [← hy2] at z2
      have HY : Hid (y0 = E[q]!.1 ∧ y1 = E[q]!.2.1 ∧ y2 = E[q]!.2.2) := Hid.mk ⟨hy0, hy1, hy2⟩
      have HBR : Hid (Below W.heap.size W (wr.alloc (.cells #[.int .i64 y0, .int .i64 y1] 36))) := Hid.mk (hb.alloc hb.size _)
      clear hy0 hy1 hy2 hr hxr hb hok
      by_cases p0 : k = y0
      · by_cases p1 : i = y1
        · have HH : Hid (hit k i E[q]!) := Hid.mk ⟨by obtain ⟨a0, a1, a2⟩ := HY.out; rw [← a0, p0], by obtain ⟨a0, a1, a2⟩ := HY.out; rw [← a1, p1]⟩
          obtain rfl : k = y0 := p0
          obtain rfl : i = y1 := p1
          have hv : findE E k i = some E[q]! := findE_some q hqE HH.out (fun j hj => HOK.out j hj)
          rw [HF.out] at hv
          injection hv with hv
          have HV2 := Hid.mk hv
          clear hv
          go_wp2
          go_ret
          refine ⟨?_, HBW.out.trans (HBR.out.mono HBW.out.size)⟩
          obtain ⟨a0, a1, a2⟩ := HY.out
          rw [HV2.out, ← a2, ← HVN.out]
          rfl
        · have HH : Hid (¬ hit k i E[q]!) := Hid.mk (fun e => p1 (by obtain ⟨a0, a1, a2⟩ := HY.out; rw [a1, e.2]))
          obtain rfl : k = y0 := p0
          go_wp2
          go_roundw
          case rel =>
            refine ⟨q + 1, by omega, by go_num, fun j hj => ?_, HBR.out⟩
            by_cases e : j = q
            · subst e; exact HH.out
            · exact HOK.out j (by omega)
          case measure => simp [intOf]; omega
      · have HH : Hid (¬ hit k i E[q]!) := Hid.mk (fun e => p0 (by obtain ⟨a0, a1, a2⟩ := HY.out; rw [a0, e.1]))
        go_wp2
        go_roundw
        case rel =>
          refine ⟨q + 1, by omega, by go_num, fun j hj => ?_, HBR.out⟩
          by_cases e : j = q
          · subst e; exact HH.out
          · exact HOK.out j (by omega)
        case measure => simp [intOf]; omega
    · have hle : (N : Int) ≤ (q : Int) := by omega
      have hqE : q = E.length := by have := HN.out; omega
      exact absurd HF.out (by rw [findE_none (fun j hj => hok j (by rw [hqE]; exact hj))]; exact fun e => by cases e)

set_option maxHeartbeats 4000000 in
set_option maxRecDepth 100000 in
theorem refNote_bad (hw : WoAt w b v l) (hl : l.length ≤ 1000000) (h : RefAt w m vt vv st E) (hE : E.length ≤ 100000) (k i : Int) (hf : findE E k i = none) (hlt : st < vfN l k i) (hv : validB (vfN l) E = false) :
    Calls Try.prog 12 #[.pointer (some ⟨m, 0, none⟩), .pointer (some ⟨b, 0, none⟩), .agg #[.int .i64 k, .int .i64 i]] w fun e w' => e = .returned (.bool false) ∧ Below w.heap.size w w' := by
  obtain ⟨ta, tc, rfl⟩ := row_shape h.th
  obtain ⟨va, vc, rfl⟩ := row_shape hw.owns
  obtain ⟨N, hN⟩ : ∃ N, N = E.length := ⟨_, rfl⟩
  obtain ⟨L, hL⟩ : ∃ L, L = l.length := ⟨_, rfl⟩
  obtain ⟨W, hW⟩ : ∃ W, W = w.alloc (.cells #[.int .i64 k, .int .i64 i] 36) := ⟨_, rfl⟩
  obtain ⟨X, hX⟩ : ∃ X, X = w.heap.size := ⟨_, rfl⟩
  have hbW : Below w.heap.size w W := by rw [hW]; exact (Below.refl _ _).alloc (Nat.le_refl _) _
  have hxW : W.heap[X]? = some (.cells #[.int .i64 k, .int .i64 i] 36 (0, 0)) := by rw [hW, hX]; exact heap_new _ _
  have hrW := h.grown hbW
  have hwW := hw.grown hbW
  have hat := fun (g : Wider W.heap.size W) => at_any (hwW.grown g.h) hl (k, i) (l.length : Nat)
  have k0 : ∀ g : Wider W.heap.size W, g.z.cell? ⟨X, 0, none⟩ = some (.int .i64 k) := fun g => cell_at ((g.h.block _ (Array.getElem?_eq_some_iff.1 hxW).1).trans hxW) rfl
  have k1 : ∀ g : Wider W.heap.size W, g.z.cell? ⟨X, 1, none⟩ = some (.int .i64 i) := fun g => cell_at ((g.h.block _ (Array.getElem?_eq_some_iff.1 hxW).1).trans hxW) rfl
  have k2 : ∀ g : Wider W.heap.size W, g.z.cell? ⟨b, 0, none⟩ = some (.slice va L vc) := fun g => by rw [hL]; exact (hwW.grown g.h).c0
  obtain ⟨V, hV⟩ : ∃ V : Int, V = (atN l (k, i) (l.length : Nat) : Nat) := ⟨_, rfl⟩
  have HVN : Hid (V = vfN l k i) := Hid.mk hV
  rw [← hV, ← hL] at hat
  have hne := Wider.some W.heap.size W
  have H := Hid.mk hrW
  have HWO := Hid.mk hwW
  have HAT := Hid.mk hat
  have HBW := Hid.mk hbW
  have HXW := Hid.mk hxW
  have HN := Hid.mk hN
  have HL := Hid.mk hL
  have HLL := Hid.mk hl
  have HEE := Hid.mk hE
  have HF := Hid.mk hf
  have H0 := Hid.mk h
  have HXE := Hid.mk hX
  have hNl : N ≤ 100000 := by omega
  rw [← HVN.out] at hlt
  have HST := Hid.mk hlt
  have HVB := Hid.mk hv
  clear hlt hv
  go_enter Try.func12, Try.ntmps12
  go_upto_region 1 with fail
  rw [← hX, ← hW]
  clear hX hW hbW hxW hrW hwW hat hV hN hL hl hE h hw hf
  refine wp_region_wider (B := W.heap.size) (w0 := W) (by kernel_rfl) (by kernel_rfl) (Below.refl _ W) ?_
  repeat (go_big_quiet_step ((go_at_call 21; refine (HAT.out _).mono ?_; rintro e w6 ⟨rfl, hb6⟩; exact ⟨rfl, ⟨w6, by rename_i g; exact farther (Nat.le_refl _) g.h hb6⟩, rfl⟩)))
  refine wpQuiet_nil ?_
  rintro z ⟨g, hg⟩
  have hz : Below W.heap.size W z := by rw [hg]; exact g.h
  clear hg g
  have c0 := (H.out.grown hz).c0
  rw [← HN.out] at c0
  have HZ := Hid.mk hz
  clear hz k0 k1 k2 hne HAT
  go_wp2
  go_loopw [8, 9, 23] (fun _ _ idx wr => ∃ q : Nat, q ≤ N ∧ idx = .int .i64 q ∧ (∀ j, j < q → ¬ hit k i E[j]!) ∧ Below W.heap.size W wr) (fun _ _ idx _ => N - (intOf idx).toNat)
  case atStart => exact ⟨0, Nat.zero_le _, rfl, fun j hj => absurd hj (Nat.not_lt_zero j), HZ.out⟩
  case round =>
    clear HZ c0
    obtain ⟨q, hq, rfl, hok, hb⟩ := hrel
    have HOK := Hid.mk hok
    have hxr := (hb.block _ (Array.getElem?_eq_some_iff.1 HXW.out).1).trans HXW.out
    have x0 : wr.cell? ⟨X, 0, none⟩ = some (.int .i64 k) := cell_at hxr rfl
    have x1 : wr.cell? ⟨X, 1, none⟩ = some (.int .i64 i) := cell_at hxr rfl
    have hXl : X < wr.heap.size := (Array.getElem?_eq_some_iff.1 hxr).1
    by_cases hlt : q < N
    · have hqE : q < E.length := by have := HN.out; omega
      have hr := H.out.grown hb
      obtain ⟨g, cap, e⟩ := row_full hr.th (by omega)
      injection e with e1 _ e3
      subst e1 e3
      obtain ⟨z0, z1⟩ := row_th hr.th q (by rw [thE_length]; exact hqE)
      rw [thE_at E q hqE] at z0 z1
      obtain ⟨gv, capv, rfl⟩ := row_full hr.ve (by omega)
      have z2 := row_nu hr.ve q (by rw [veE_length]; exact hqE)
      rw [veE_at E q hqE] at z2
      have c1 := hr.c1
      rw [← HN.out] at c1
      have hml := hr.lt
      have hgl := (hr.th.lt g rfl).2
      have hvl := (hr.ve.lt gv rfl).2
      obtain ⟨y0, hy0⟩ : ∃ y, y = E[q]!.1 := ⟨_, rfl⟩
      obtain ⟨y1, hy1⟩ : ∃ y, y = E[q]!.2.1 := ⟨_, rfl⟩
      obtain ⟨y2, hy2⟩ : ∃ y, y = E[q]!.2.2 := ⟨_, rfl⟩
      dsimp only at z0 z1
      rw [← hy0] at z0
      rw [← hy1] at z1
      rw [← hy2] at z2
      have HY : Hid (y0 = E[q]!.1 ∧ y1 = E[q]!.2.1 ∧ y2 = E[q]!.2.2) := Hid.mk ⟨hy0, hy1, hy2⟩
      have HBR : Hid (Below W.heap.size W (wr.alloc (.cells #[.int .i64 y0, .int .i64 y1] 36))) := Hid.mk (hb.alloc hb.size _)
      clear hy0 hy1 hy2 hr hxr hb hok
      by_cases p0 : k = y0
      · by_cases p1 : i = y1
        · have HH : Hid (hit k i E[q]!) := Hid.mk ⟨by obtain ⟨a0, a1, a2⟩ := HY.out; rw [← a0, p0], by obtain ⟨a0, a1, a2⟩ := HY.out; rw [← a1, p1]⟩
          obtain rfl : k = y0 := p0
          obtain rfl : i = y1 := p1
          exact absurd HF.out (by rw [findE_some q hqE HH.out (fun j hj => HOK.out j hj)]; exact fun e => by cases e)
        · have HH : Hid (¬ hit k i E[q]!) := Hid.mk (fun e => p1 (by obtain ⟨a0, a1, a2⟩ := HY.out; rw [a1, e.2]))
          obtain rfl : k = y0 := p0
          go_wp2
          go_roundw
          case rel =>
            refine ⟨q + 1, by omega, by go_num, fun j hj => ?_, HBR.out⟩
            by_cases e : j = q
            · subst e; exact HH.out
            · exact HOK.out j (by omega)
          case measure => simp [intOf]; omega
      · have HH : Hid (¬ hit k i E[q]!) := Hid.mk (fun e => p0 (by obtain ⟨a0, a1, a2⟩ := HY.out; rw [a0, e.1]))
        go_wp2
        go_roundw
        case rel =>
          refine ⟨q + 1, by omega, by go_num, fun j hj => ?_, HBR.out⟩
          by_cases e : j = q
          · subst e; exact HH.out
          · exact HOK.out j (by omega)
        case measure => simp [intOf]; omega
    · have hle : (N : Int) ≤ (q : Int) := by omega
      have hqE : q = E.length := by have := HN.out; omega
      have hr := H.out.grown hb
      have hwr := HWO.out.grown hb
      have c2 := hr.c2
      have HR := Hid.mk hr
      have HWR := Hid.mk hwr
      have HBR := Hid.mk hb
      have HX2 := Hid.mk hxr
      have hd : decide (st < V) = true := by simpa using HST.out
      have hst := HST.out
      clear hr hwr hb hxr hok hqE
      go_wp2_with fail
      refine (refValid_any HWR.out HLL.out HR.out (by have := HEE.out; omega)).mono ?_
      rw [HVB.out]
      rintro e w4 ⟨rfl, hb4⟩
      have HB4 := Hid.mk ((HBW.out.trans (HBR.out.mono HBW.out.size)).trans (hb4.mono (HBW.out.trans (HBR.out.mono HBW.out.size)).size))
      clear hb4
      go_wp2
      go_ret
      exact ⟨rfl, HB4.out⟩

set_option maxHeartbeats 4000000 in
set_option maxRecDepth 100000 in
theorem refNote_new (hw : WoAt w b v l) (hl : l.length ≤ 1000000) (h : RefAt w m vt vv st E) (hE : E.length ≤ 100000) (k i : Int) (hf : findE E k i = none) (hlt : ¬ st < vfN l k i) :
    Calls Try.prog 12 #[.pointer (some ⟨m, 0, none⟩), .pointer (some ⟨b, 0, none⟩), .agg #[.int .i64 k, .int .i64 i]] w fun e w' => e = .returned (.bool true) ∧ ∃ vt' vv', RefAt w' m vt' vv' st (E ++ [(k, i, vfN l k i)]) ∧ Wrote (Foot m [vt, vv]) (Foot m [vt', vv']) w w' := by
  obtain ⟨ta, tc, rfl⟩ := row_shape h.th
  obtain ⟨va, vc, rfl⟩ := row_shape hw.owns
  obtain ⟨N, hN⟩ : ∃ N, N = E.length := ⟨_, rfl⟩
  obtain ⟨L, hL⟩ : ∃ L, L = l.length := ⟨_, rfl⟩
  obtain ⟨W, hW⟩ : ∃ W, W = w.alloc (.cells #[.int .i64 k, .int .i64 i] 36) := ⟨_, rfl⟩
  obtain ⟨X, hX⟩ : ∃ X, X = w.heap.size := ⟨_, rfl⟩
  have hbW : Below w.heap.size w W := by rw [hW]; exact (Below.refl _ _).alloc (Nat.le_refl _) _
  have hxW : W.heap[X]? = some (.cells #[.int .i64 k, .int .i64 i] 36 (0, 0)) := by rw [hW, hX]; exact heap_new _ _
  have hrW := h.grown hbW
  have hwW := hw.grown hbW
  have hat := fun (g : Wider W.heap.size W) => at_any (hwW.grown g.h) hl (k, i) (l.length : Nat)
  have k0 : ∀ g : Wider W.heap.size W, g.z.cell? ⟨X, 0, none⟩ = some (.int .i64 k) := fun g => cell_at ((g.h.block _ (Array.getElem?_eq_some_iff.1 hxW).1).trans hxW) rfl
  have k1 : ∀ g : Wider W.heap.size W, g.z.cell? ⟨X, 1, none⟩ = some (.int .i64 i) := fun g => cell_at ((g.h.block _ (Array.getElem?_eq_some_iff.1 hxW).1).trans hxW) rfl
  have k2 : ∀ g : Wider W.heap.size W, g.z.cell? ⟨b, 0, none⟩ = some (.slice va L vc) := fun g => by rw [hL]; exact (hwW.grown g.h).c0
  obtain ⟨V, hV⟩ : ∃ V : Int, V = (atN l (k, i) (l.length : Nat) : Nat) := ⟨_, rfl⟩
  have HVN : Hid (V = vfN l k i) := Hid.mk hV
  rw [← hV, ← hL] at hat
  have hne := Wider.some W.heap.size W
  have H := Hid.mk hrW
  have HWO := Hid.mk hwW
  have HAT := Hid.mk hat
  have HBW := Hid.mk hbW
  have HXW := Hid.mk hxW
  have HN := Hid.mk hN
  have HL := Hid.mk hL
  have HLL := Hid.mk hl
  have HEE := Hid.mk hE
  have HF := Hid.mk hf
  have H0 := Hid.mk h
  have HXE := Hid.mk hX
  have hNl : N ≤ 100000 := by omega
  rw [← HVN.out] at hlt
  have HST := Hid.mk hlt
  clear hlt
  go_enter Try.func12, Try.ntmps12
  go_upto_region 1 with fail
  rw [← hX, ← hW]
  clear hX hW hbW hxW hrW hwW hat hV hN hL hl hE h hw hf
  refine wp_region_wider (B := W.heap.size) (w0 := W) (by kernel_rfl) (by kernel_rfl) (Below.refl _ W) ?_
  repeat (go_big_quiet_step ((go_at_call 21; refine (HAT.out _).mono ?_; rintro e w6 ⟨rfl, hb6⟩; exact ⟨rfl, ⟨w6, by rename_i g; exact farther (Nat.le_refl _) g.h hb6⟩, rfl⟩)))
  refine wpQuiet_nil ?_
  rintro z ⟨g, hg⟩
  have hz : Below W.heap.size W z := by rw [hg]; exact g.h
  clear hg g
  have c0 := (H.out.grown hz).c0
  rw [← HN.out] at c0
  have HZ := Hid.mk hz
  clear hz k0 k1 k2 hne HAT
  go_wp2
  go_loopw [8, 9, 23] (fun _ _ idx wr => ∃ q : Nat, q ≤ N ∧ idx = .int .i64 q ∧ (∀ j, j < q → ¬ hit k i E[j]!) ∧ Below W.heap.size W wr) (fun _ _ idx _ => N - (intOf idx).toNat)
  case atStart => exact ⟨0, Nat.zero_le _, rfl, fun j hj => absurd hj (Nat.not_lt_zero j), HZ.out⟩
  case round =>
    clear HZ c0
    obtain ⟨q, hq, rfl, hok, hb⟩ := hrel
    have HOK := Hid.mk hok
    have hxr := (hb.block _ (Array.getElem?_eq_some_iff.1 HXW.out).1).trans HXW.out
    have x0 : wr.cell? ⟨X, 0, none⟩ = some (.int .i64 k) := cell_at hxr rfl
    have x1 : wr.cell? ⟨X, 1, none⟩ = some (.int .i64 i) := cell_at hxr rfl
    have hXl : X < wr.heap.size := (Array.getElem?_eq_some_iff.1 hxr).1
    by_cases hlt : q < N
    · have hqE : q < E.length := by have := HN.out; omega
      have hr := H.out.grown hb
      obtain ⟨g, cap, e⟩ := row_full hr.th (by omega)
      injection e with e1 _ e3
      subst e1 e3
      obtain ⟨z0, z1⟩ := row_th hr.th q (by rw [thE_length]; exact hqE)
      rw [thE_at E q hqE] at z0 z1
      obtain ⟨gv, capv, rfl⟩ := row_full hr.ve (by omega)
      have z2 := row_nu hr.ve q (by rw [veE_length]; exact hqE)
      rw [veE_at E q hqE] at z2
      have c1 := hr.c1
      rw [← HN.out] at c1
      have hml := hr.lt
      have hgl := (hr.th.lt g rfl).2
      have hvl := (hr.ve.lt gv rfl).2
      obtain ⟨y0, hy0⟩ : ∃ y, y = E[q]!.1 := ⟨_, rfl⟩
      obtain ⟨y1, hy1⟩ : ∃ y, y = E[q]!.2.1 := ⟨_, rfl⟩
      obtain ⟨y2, hy2⟩ : ∃ y, y = E[q]!.2.2 := ⟨_, rfl⟩
      dsimp only at z0 z1
      rw [← hy0] at z0
      rw [← hy1] at z1
      rw [← hy2] at z2
      have HY : Hid (y0 = E[q]!.1 ∧ y1 = E[q]!.2.1 ∧ y2 = E[q]!.2.2) := Hid.mk ⟨hy0, hy1, hy2⟩
      have HBR : Hid (Below W.heap.size W (wr.alloc (.cells #[.int .i64 y0, .int .i64 y1] 36))) := Hid.mk (hb.alloc hb.size _)
      clear hy0 hy1 hy2 hr hxr hb hok
      by_cases p0 : k = y0
      · by_cases p1 : i = y1
        · have HH : Hid (hit k i E[q]!) := Hid.mk ⟨by obtain ⟨a0, a1, a2⟩ := HY.out; rw [← a0, p0], by obtain ⟨a0, a1, a2⟩ := HY.out; rw [← a1, p1]⟩
          obtain rfl : k = y0 := p0
          obtain rfl : i = y1 := p1
          exact absurd HF.out (by rw [findE_some q hqE HH.out (fun j hj => HOK.out j hj)]; exact fun e => by cases e)
        · have HH : Hid (¬ hit k i E[q]!) := Hid.mk (fun e => p1 (by obtain ⟨a0, a1, a2⟩ := HY.out; rw [a1, e.2]))
          obtain rfl : k = y0 := p0
          go_wp2
          go_roundw
          case rel =>
            refine ⟨q + 1, by omega, by go_num, fun j hj => ?_, HBR.out⟩
            by_cases e : j = q
            · subst e; exact HH.out
            · exact HOK.out j (by omega)
          case measure => simp [intOf]; omega
      · have HH : Hid (¬ hit k i E[q]!) := Hid.mk (fun e => p0 (by obtain ⟨a0, a1, a2⟩ := HY.out; rw [a0, e.1]))
        go_wp2
        go_roundw
        case rel =>
          refine ⟨q + 1, by omega, by go_num, fun j hj => ?_, HBR.out⟩
          by_cases e : j = q
          · subst e; exact HH.out
          · exact HOK.out j (by omega)
        case measure => simp [intOf]; omega
    · have hle : (N : Int) ≤ (q : Int) := by omega
      have hqE : q = E.length := by have := HN.out; omega
      have hr := H.out.grown hb
      have hwr := HWO.out.grown hb
      have c2 := hr.c2
      have HR := Hid.mk hr
      have HWR := Hid.mk hwr
      have HBR := Hid.mk hb
      have HX2 := Hid.mk hxr
      have hd : decide (st < V) = false := by simpa using HST.out
      have hst := HST.out
      clear hr hwr hb hxr hok hqE
      go_upto_region 12 with fail
      obtain ⟨Y, hY⟩ : ∃ Y, Y = wr := ⟨_, rfl⟩
      have HRY : Hid (RefRaw Y m (.slice ta E.length tc) vv st (thE E) (veE E)) := Hid.mk (by rw [hY]; exact HR.out.raw)
      have HXY : Hid (Y.heap[X]? = some (.cells #[.int .i64 k, .int .i64 i] 36 (0, 0))) := Hid.mk (by rw [hY]; exact HX2.out)
      have HWY : Hid (Wrote (Foot m [.slice ta E.length tc, vv]) (Foot m [.slice ta E.length tc, vv]) w Y) := Hid.mk (by rw [hY]; exact Wrote.of_below (HBW.out.trans (HBR.out.mono HBW.out.size)))
      rw [← hY]
      clear hY c2 hd hst x0 x1 hXl HR HX2
      have hlt5 := HRY.out.lt
      have ag := HRY.out.t_b
      have hown := HRY.out.th
      have d0 : Y.cell? ⟨m, 0, none⟩ = some (.slice ta N tc) := by rw [HN.out]; exact cell_at HRY.out.at_ rfl
      have f0 : Y.frozen? ⟨m, 0, none⟩ = false := free_at HRY.out.at_
      have y0 : Y.cell? ⟨X, 0, none⟩ = some (.int .i64 k) := cell_at HXY.out rfl
      have y1 : Y.cell? ⟨X, 1, none⟩ = some (.int .i64 i) := cell_at HXY.out rfl
      have hXY : X < Y.heap.size := (Array.getElem?_eq_some_iff.1 HXY.out).1
      obtain ⟨i0, hi, hz0, hz1, hz2⟩ := info_parts Try.info36
      rw [thE_length, ← HN.out] at hown
      rw [← HN.out] at ag
      go_region_law
        ((refine step_append_lies _ (by rfl) _ _ _ (by rfl) 0 36 i0 _ 2 16 Try.underlying22 hi hz0 hz1 hz2 rfl (by omega) (.slice ta N tc) N (thC (thE E)) (by rfl) ((hown.alloc _).drew) ⟨Y.heap.size, 0, none⟩ 1 1 [.int .i64 k, .int .i64 i] (by rfl) (by rfl) (World.news_of_block (cs := #[.int .i64 k, .int .i64 i]) (t := 36) (fr := (0, 0)) (heap_alloc_new Y _)) (by simp [Value.oneCell']) (by omega) (by unfold maxLen; omega) (by omega) (Nat.zero_le _) (Y.heap.size + 1) (by simp) ?_; intro gg cap w5 hown1 hgrow hat hlt2; have c5 : w5.cell? ⟨m, 0, none⟩ = some (.slice ta N tc) := (hgrow.cell_far ⟨m, 0, none⟩ (by simp; omega) (Ne.symm ag)).trans (by simp [World.cell?_alloc_some, d0]); have f5 : w5.frozen? ⟨m, 0, none⟩ = false := (hgrow.frozen_far ⟨m, 0, none⟩ (by simp; omega) (Ne.symm ag)).trans (by simp [World.frozen?_alloc_past, hlt5, f0])))
      all_goals
        have hNT : N = (thE E).length := by rw [thE_length]; exact HN.out
        have hY1 : Below Y.heap.size Y ((Y.alloc (.cells #[.int .i64 k, .int .i64 i] 36)).drew) := ((Below.refl _ _).alloc (Nat.le_refl _) _).drew
        rw [hNT] at hown1
        have hg2 := hgrow
        rw [HN.out] at hg2
        have R := HRY.out.moreT (k, i) hown1 hY1 hg2 (by rcases hat with e | e; rw [HN.out] at e; exact .inl e; exact .inr (by omega))
        rw [← hNT] at R
        obtain ⟨Z, hZ⟩ : ∃ Z, Z = w5.setCell ⟨m, 0, none⟩ (.slice (some ⟨gg, 0, none⟩) (N + 1) cap) := ⟨_, rfl⟩
        rw [← hZ] at R ⊢
        have HRZ := Hid.mk R.1
        have HWZ := Hid.mk (HWY.out.trans R.2)
        clear R hZ hY1 hown1 hgrow hg2 hat hlt2 c5 f5 hown hlt5 ag d0 f0 y0 y1 hXY hNT hi hz0 hz1 hz2
        obtain ⟨i0, hi, hz0, hz1, hz2⟩ := info_parts Try.info3
        obtain ⟨va2, vc2, hv2⟩ := row_shape HRZ.out.ve
        rw [veE_length, ← HN.out] at hv2
        subst hv2
        have hlt5 := HRZ.out.lt
        have ag := HRZ.out.v_b
        have hown := HRZ.out.ve
        rw [veE_length, ← HN.out] at hown
        have d1 : Z.cell? ⟨m, 1, none⟩ = some (.slice va2 N vc2) := cell_at HRZ.out.at_ rfl
        have f1 : Z.frozen? ⟨m, 1, none⟩ = false := free_at HRZ.out.at_
        have HNW := Hid.mk (World.news_of_block (heap_new Z (.cells #[.int .i64 V] 3)))
        go_wp2_with ((refine wpList_append_lies _ rfl _ _ _ rfl 0 3 i0 _ 1 8 Try.underlying32 hi hz0 hz1 hz2 rfl (by decide) (.slice va2 N vc2) N (nuC (veE E)) rfl (hown.alloc _) ⟨Z.heap.size, 0, none⟩ 1 1 [.int .i64 V] rfl rfl HNW.out (by simp [Value.oneCell']) (by decide) (by unfold maxLen; omega) (by omega) (Nat.zero_le _) (Z.heap.size + 1) (by simp) ?_; intro gg cap w5 hown1 hgrow hat hlt2; have c5 : w5.cell? ⟨m, 1, none⟩ = some (.slice va2 N vc2) := (hgrow.cell_far ⟨m, 1, none⟩ (by simp; omega) (Ne.symm ag)).trans (by simp [World.cell?_alloc_some, d1]); have f5 : w5.frozen? ⟨m, 1, none⟩ = false := (hgrow.frozen_far ⟨m, 1, none⟩ (by simp; omega) (Ne.symm ag)).trans (by simp [World.frozen?_alloc_past, hlt5, f1])))
        have hNT : N = (veE E).length := by rw [veE_length]; exact HN.out
        rw [hNT] at hown1
        have R := HRZ.out.moreV V hown1 ((Below.refl _ _).alloc (Nat.le_refl _) _) hgrow (by rcases hat with e | e; exact .inl e; exact .inr (by omega))
        rw [← hNT] at R
        have HR1 := Hid.mk R.1
        have HR2 := Hid.mk (HWZ.out.trans R.2)
        clear R hown1 hgrow hat hlt2 c5 f5 hown hlt5 ag d1 f1 hNT hi hz0 hz1 hz2
        go_ret
        refine ⟨rfl, _, _, RefRaw.ref ?_, HR2.out⟩
        rw [thE_snoc, veE_snoc, ← HVN.out]
        exact HR1.out

set_option maxHeartbeats 4000000 in
set_option maxRecDepth 100000 in
theorem refNote_late (hw : WoAt w b v l) (hl : l.length ≤ 1000000) (h : RefAt w m vt vv st E) (hE : E.length ≤ 100000) (k i : Int) (hf : findE E k i = none) (hlt : st < vfN l k i) (hv : validB (vfN l) E = true) :
    Calls Try.prog 12 #[.pointer (some ⟨m, 0, none⟩), .pointer (some ⟨b, 0, none⟩), .agg #[.int .i64 k, .int .i64 i]] w fun e w' => e = .returned (.bool true) ∧ ∃ vt' vv', RefAt w' m vt' vv' (l.length : Nat) (E ++ [(k, i, vfN l k i)]) ∧ Wrote (Foot m [vt, vv]) (Foot m [vt', vv']) w w' := by
  obtain ⟨ta, tc, rfl⟩ := row_shape h.th
  obtain ⟨va, vc, rfl⟩ := row_shape hw.owns
  obtain ⟨N, hN⟩ : ∃ N, N = E.length := ⟨_, rfl⟩
  obtain ⟨L, hL⟩ : ∃ L, L = l.length := ⟨_, rfl⟩
  obtain ⟨W, hW⟩ : ∃ W, W = w.alloc (.cells #[.int .i64 k, .int .i64 i] 36) := ⟨_, rfl⟩
  obtain ⟨X, hX⟩ : ∃ X, X = w.heap.size := ⟨_, rfl⟩
  have hbW : Below w.heap.size w W := by rw [hW]; exact (Below.refl _ _).alloc (Nat.le_refl _) _
  have hxW : W.heap[X]? = some (.cells #[.int .i64 k, .int .i64 i] 36 (0, 0)) := by rw [hW, hX]; exact heap_new _ _
  have hrW := h.grown hbW
  have hwW := hw.grown hbW
  have hat := fun (g : Wider W.heap.size W) => at_any (hwW.grown g.h) hl (k, i) (l.length : Nat)
  have k0 : ∀ g : Wider W.heap.size W, g.z.cell? ⟨X, 0, none⟩ = some (.int .i64 k) := fun g => cell_at ((g.h.block _ (Array.getElem?_eq_some_iff.1 hxW).1).trans hxW) rfl
  have k1 : ∀ g : Wider W.heap.size W, g.z.cell? ⟨X, 1, none⟩ = some (.int .i64 i) := fun g => cell_at ((g.h.block _ (Array.getElem?_eq_some_iff.1 hxW).1).trans hxW) rfl
  have k2 : ∀ g : Wider W.heap.size W, g.z.cell? ⟨b, 0, none⟩ = some (.slice va L vc) := fun g => by rw [hL]; exact (hwW.grown g.h).c0
  obtain ⟨V, hV⟩ : ∃ V : Int, V = (atN l (k, i) (l.length : Nat) : Nat) := ⟨_, rfl⟩
  have HVN : Hid (V = vfN l k i) := Hid.mk hV
  rw [← hV, ← hL] at hat
  have hne := Wider.some W.heap.size W
  have H := Hid.mk hrW
  have HWO := Hid.mk hwW
  have HAT := Hid.mk hat
  have HBW := Hid.mk hbW
  have HXW := Hid.mk hxW
  have HN := Hid.mk hN
  have HL := Hid.mk hL
  have HLL := Hid.mk hl
  have HEE := Hid.mk hE
  have HF := Hid.mk hf
  have H0 := Hid.mk h
  have HXE := Hid.mk hX
  have hNl : N ≤ 100000 := by omega
  rw [← HVN.out] at hlt
  have HST := Hid.mk hlt
  have HVB := Hid.mk hv
  clear hlt hv
  go_enter Try.func12, Try.ntmps12
  go_upto_region 1 with fail
  rw [← hX, ← hW]
  clear hX hW hbW hxW hrW hwW hat hV hN hL hl hE h hw hf
  refine wp_region_wider (B := W.heap.size) (w0 := W) (by kernel_rfl) (by kernel_rfl) (Below.refl _ W) ?_
  repeat (go_big_quiet_step ((go_at_call 21; refine (HAT.out _).mono ?_; rintro e w6 ⟨rfl, hb6⟩; exact ⟨rfl, ⟨w6, by rename_i g; exact farther (Nat.le_refl _) g.h hb6⟩, rfl⟩)))
  refine wpQuiet_nil ?_
  rintro z ⟨g, hg⟩
  have hz : Below W.heap.size W z := by rw [hg]; exact g.h
  clear hg g
  have c0 := (H.out.grown hz).c0
  rw [← HN.out] at c0
  have HZ := Hid.mk hz
  clear hz k0 k1 k2 hne HAT
  go_wp2
  go_loopw [8, 9, 23] (fun _ _ idx wr => ∃ q : Nat, q ≤ N ∧ idx = .int .i64 q ∧ (∀ j, j < q → ¬ hit k i E[j]!) ∧ Below W.heap.size W wr) (fun _ _ idx _ => N - (intOf idx).toNat)
  case atStart => exact ⟨0, Nat.zero_le _, rfl, fun j hj => absurd hj (Nat.not_lt_zero j), HZ.out⟩
  case round =>
    clear HZ c0
    obtain ⟨q, hq, rfl, hok, hb⟩ := hrel
    have HOK := Hid.mk hok
    have hxr := (hb.block _ (Array.getElem?_eq_some_iff.1 HXW.out).1).trans HXW.out
    have x0 : wr.cell? ⟨X, 0, none⟩ = some (.int .i64 k) := cell_at hxr rfl
    have x1 : wr.cell? ⟨X, 1, none⟩ = some (.int .i64 i) := cell_at hxr rfl
    have hXl : X < wr.heap.size := (Array.getElem?_eq_some_iff.1 hxr).1
    by_cases hlt : q < N
    · have hqE : q < E.length := by have := HN.out; omega
      have hr := H.out.grown hb
      obtain ⟨g, cap, e⟩ := row_full hr.th (by omega)
      injection e with e1 _ e3
      subst e1 e3
      obtain ⟨z0, z1⟩ := row_th hr.th q (by rw [thE_length]; exact hqE)
      rw [thE_at E q hqE] at z0 z1
      obtain ⟨gv, capv, rfl⟩ := row_full hr.ve (by omega)
      have z2 := row_nu hr.ve q (by rw [veE_length]; exact hqE)
      rw [veE_at E q hqE] at z2
      have c1 := hr.c1
      rw [← HN.out] at c1
      have hml := hr.lt
      have hgl := (hr.th.lt g rfl).2
      have hvl := (hr.ve.lt gv rfl).2
      obtain ⟨y0, hy0⟩ : ∃ y, y = E[q]!.1 := ⟨_, rfl⟩
      obtain ⟨y1, hy1⟩ : ∃ y, y = E[q]!.2.1 := ⟨_, rfl⟩
      obtain ⟨y2, hy2⟩ : ∃ y, y = E[q]!.2.2 := ⟨_, rfl⟩
      dsimp only at z0 z1
      rw [← hy0] at z0
      rw [← hy1] at z1
      rw [← hy2] at z2
      have HY : Hid (y0 = E[q]!.1 ∧ y1 = E[q]!.2.1 ∧ y2 = E[q]!.2.2) := Hid.mk ⟨hy0, hy1, hy2⟩
      have HBR : Hid (Below W.heap.size W (wr.alloc (.cells #[.int .i64 y0, .int .i64 y1] 36))) := Hid.mk (hb.alloc hb.size _)
      clear hy0 hy1 hy2 hr hxr hb hok
      by_cases p0 : k = y0
      · by_cases p1 : i = y1
        · have HH : Hid (hit k i E[q]!) := Hid.mk ⟨by obtain ⟨a0, a1, a2⟩ := HY.out; rw [← a0, p0], by obtain ⟨a0, a1, a2⟩ := HY.out; rw [← a1, p1]⟩
          obtain rfl : k = y0 := p0
          obtain rfl : i = y1 := p1
          exact absurd HF.out (by rw [findE_some q hqE HH.out (fun j hj => HOK.out j hj)]; exact fun e => by cases e)
        · have HH : Hid (¬ hit k i E[q]!) := Hid.mk (fun e => p1 (by obtain ⟨a0, a1, a2⟩ := HY.out; rw [a1, e.2]))
          obtain rfl : k = y0 := p0
          go_wp2
          go_roundw
          case rel =>
            refine ⟨q + 1, by omega, by go_num, fun j hj => ?_, HBR.out⟩
            by_cases e : j = q
            · subst e; exact HH.out
            · exact HOK.out j (by omega)
          case measure => simp [intOf]; omega
      · have HH : Hid (¬ hit k i E[q]!) := Hid.mk (fun e => p0 (by obtain ⟨a0, a1, a2⟩ := HY.out; rw [a0, e.1]))
        go_wp2
        go_roundw
        case rel =>
          refine ⟨q + 1, by omega, by go_num, fun j hj => ?_, HBR.out⟩
          by_cases e : j = q
          · subst e; exact HH.out
          · exact HOK.out j (by omega)
        case measure => simp [intOf]; omega
    · have hle : (N : Int) ≤ (q : Int) := by omega
      have hqE : q = E.length := by have := HN.out; omega
      have hr := H.out.grown hb
      have hwr := HWO.out.grown hb
      have c2 := hr.c2
      have HR := Hid.mk hr
      have HWR := Hid.mk hwr
      have HBR := Hid.mk hb
      have HX2 := Hid.mk hxr
      have hd : decide (st < V) = true := by simpa using HST.out
      have hst := HST.out
      clear hr hwr hb hxr hok hqE
      go_wp2_with fail
      refine (refValid_any HWR.out HLL.out HR.out (by have := HEE.out; omega)).mono ?_
      rw [HVB.out]
      rintro e w4 ⟨rfl, hb4⟩
      have HB4 := Hid.mk ((HBW.out.trans (HBR.out.mono HBW.out.size)).trans (hb4.mono (HBW.out.trans (HBR.out.mono HBW.out.size)).size))
      have hR4 := HR.out.grown hb4
      have e2 := hR4.c2
      have e3 := hR4.fz 2
      have e4 := (HWR.out.grown hb4).c0
      rw [← HL.out] at e4
      have HR4 := Hid.mk hR4
      have HX4 := Hid.mk ((hb4.block _ (Array.getElem?_eq_some_iff.1 HX2.out).1).trans HX2.out)
      clear hb4 hR4 c2
      go_upto_region 12 with fail
      obtain ⟨Y, hY⟩ : ∃ Y, Y = w4.setCell ⟨m, 2, none⟩ (.int .i64 (L : Nat)) := ⟨_, rfl⟩
      have R0 := HR4.out.raw.stamp (L : Nat)
      rw [← hY] at R0
      have HRY := Hid.mk R0.1
      have HXY : Hid (Y.heap[X]? = some (.cells #[.int .i64 k, .int .i64 i] 36 (0, 0))) := Hid.mk (by rw [hY, Below.heap_setCell _ _ _ _ (fun e => by have h1 := HX4.out; rw [show X = m from e, HR4.out.at_] at h1; cases h1)]; exact HX4.out)
      have HWY : Hid (Wrote (Foot m [.slice ta E.length tc, vv]) (Foot m [.slice ta E.length tc, vv]) w Y) := Hid.mk ((Wrote.of_below HB4.out).trans R0.2)
      rw [← hY]
      clear hY hd hst x0 x1 hXl HR HX2 e2 e3 e4 R0 HR4 HX4
      have hlt5 := HRY.out.lt
      have ag := HRY.out.t_b
      have hown := HRY.out.th
      have d0 : Y.cell? ⟨m, 0, none⟩ = some (.slice ta N tc) := by rw [HN.out]; exact cell_at HRY.out.at_ rfl
      have f0 : Y.frozen? ⟨m, 0, none⟩ = false := free_at HRY.out.at_
      have y0 : Y.cell? ⟨X, 0, none⟩ = some (.int .i64 k) := cell_at HXY.out rfl
      have y1 : Y.cell? ⟨X, 1, none⟩ = some (.int .i64 i) := cell_at HXY.out rfl
      have hXY : X < Y.heap.size := (Array.getElem?_eq_some_iff.1 HXY.out).1
      obtain ⟨i0, hi, hz0, hz1, hz2⟩ := info_parts Try.info36
      rw [thE_length, ← HN.out] at hown
      rw [← HN.out] at ag
      go_region_law
        ((refine step_append_lies _ (by rfl) _ _ _ (by rfl) 0 36 i0 _ 2 16 Try.underlying22 hi hz0 hz1 hz2 rfl (by omega) (.slice ta N tc) N (thC (thE E)) (by rfl) ((hown.alloc _).drew) ⟨Y.heap.size, 0, none⟩ 1 1 [.int .i64 k, .int .i64 i] (by rfl) (by rfl) (World.news_of_block (cs := #[.int .i64 k, .int .i64 i]) (t := 36) (fr := (0, 0)) (heap_alloc_new Y _)) (by simp [Value.oneCell']) (by omega) (by unfold maxLen; omega) (by omega) (Nat.zero_le _) (Y.heap.size + 1) (by simp) ?_; intro gg cap w5 hown1 hgrow hat hlt2; have c5 : w5.cell? ⟨m, 0, none⟩ = some (.slice ta N tc) := (hgrow.cell_far ⟨m, 0, none⟩ (by simp; omega) (Ne.symm ag)).trans (by simp [World.cell?_alloc_some, d0]); have f5 : w5.frozen? ⟨m, 0, none⟩ = false := (hgrow.frozen_far ⟨m, 0, none⟩ (by simp; omega) (Ne.symm ag)).trans (by simp [World.frozen?_alloc_past, hlt5, f0])))
      all_goals
        have hNT : N = (thE E).length := by rw [thE_length]; exact HN.out
        have hY1 : Below Y.heap.size Y ((Y.alloc (.cells #[.int .i64 k, .int .i64 i] 36)).drew) := ((Below.refl _ _).alloc (Nat.le_refl _) _).drew
        rw [hNT] at hown1
        have hg2 := hgrow
        rw [HN.out] at hg2
        have R := HRY.out.moreT (k, i) hown1 hY1 hg2 (by rcases hat with e | e; rw [HN.out] at e; exact .inl e; exact .inr (by omega))
        rw [← hNT] at R
        obtain ⟨Z, hZ⟩ : ∃ Z, Z = w5.setCell ⟨m, 0, none⟩ (.slice (some ⟨gg, 0, none⟩) (N + 1) cap) := ⟨_, rfl⟩
        rw [← hZ] at R ⊢
        have HRZ := Hid.mk R.1
        have HWZ := Hid.mk (HWY.out.trans R.2)
        clear R hZ hY1 hown1 hgrow hg2 hat hlt2 c5 f5 hown hlt5 ag d0 f0 y0 y1 hXY hNT hi hz0 hz1 hz2
        obtain ⟨i0, hi, hz0, hz1, hz2⟩ := info_parts Try.info3
        obtain ⟨va2, vc2, hv2⟩ := row_shape HRZ.out.ve
        rw [veE_length, ← HN.out] at hv2
        subst hv2
        have hlt5 := HRZ.out.lt
        have ag := HRZ.out.v_b
        have hown := HRZ.out.ve
        rw [veE_length, ← HN.out] at hown
        have d1 : Z.cell? ⟨m, 1, none⟩ = some (.slice va2 N vc2) := cell_at HRZ.out.at_ rfl
        have f1 : Z.frozen? ⟨m, 1, none⟩ = false := free_at HRZ.out.at_
        have HNW := Hid.mk (World.news_of_block (heap_new Z (.cells #[.int .i64 V] 3)))
        go_wp2_with ((refine wpList_append_lies _ rfl _ _ _ rfl 0 3 i0 _ 1 8 Try.underlying32 hi hz0 hz1 hz2 rfl (by decide) (.slice va2 N vc2) N (nuC (veE E)) rfl (hown.alloc _) ⟨Z.heap.size, 0, none⟩ 1 1 [.int .i64 V] rfl rfl HNW.out (by simp [Value.oneCell']) (by decide) (by unfold maxLen; omega) (by omega) (Nat.zero_le _) (Z.heap.size + 1) (by simp) ?_; intro gg cap w5 hown1 hgrow hat hlt2; have c5 : w5.cell? ⟨m, 1, none⟩ = some (.slice va2 N vc2) := (hgrow.cell_far ⟨m, 1, none⟩ (by simp; omega) (Ne.symm ag)).trans (by simp [World.cell?_alloc_some, d1]); have f5 : w5.frozen? ⟨m, 1, none⟩ = false := (hgrow.frozen_far ⟨m, 1, none⟩ (by simp; omega) (Ne.symm ag)).trans (by simp [World.frozen?_alloc_past, hlt5, f1])))
        have hNT : N = (veE E).length := by rw [veE_length]; exact HN.out
        rw [hNT] at hown1
        have R := HRZ.out.moreV V hown1 ((Below.refl _ _).alloc (Nat.le_refl _) _) hgrow (by rcases hat with e | e; exact .inl e; exact .inr (by omega))
        rw [← hNT] at R
        have HR1 := Hid.mk R.1
        have HR2 := Hid.mk (HWZ.out.trans R.2)
        clear R hown1 hgrow hat hlt2 c5 f5 hown hlt5 ag d1 f1 hNT hi hz0 hz1 hz2
        go_ret
        refine ⟨rfl, _, _, RefRaw.ref ?_, HR2.out⟩
        rw [thE_snoc, veE_snoc, ← HVN.out, ← HL.out]
        exact HR1.out

set_option maxRecDepth 100000 in
/-- The document's Note, whatever was read. -/
theorem refNote_any (hw : WoAt w b v l) (hl : l.length ≤ 1000000) (h : RefAt w m vt vv st E) (hE : E.length ≤ 100000) (k i : Int) :
    Calls Try.prog 12 #[.pointer (some ⟨m, 0, none⟩), .pointer (some ⟨b, 0, none⟩), .agg #[.int .i64 k, .int .i64 i]] w fun e w' => e = .returned (.bool (noteB (vfN l) st E k i)) ∧ ∃ vt' vv', RefAt w' m vt' vv' (noteT (vfN l) (l.length : Nat) st E k i) (noteE (vfN l) st E k i) ∧ Wrote (Foot m [vt, vv]) (Foot m [vt', vv']) w w' := by
  unfold noteB noteT noteE
  cases hf : findE E k i with
  | some e0 =>
    exact (refNote_old hw hl h hE k i e0 hf).mono fun e w' ⟨he, hb⟩ => ⟨he, vt, vv, h.grown hb, .of_below hb⟩
  | none =>
    by_cases hlt : st < vfN l k i
    · rw [if_pos hlt, if_pos hlt, if_pos hlt]
      cases hv : validB (vfN l) E with
      | true => exact refNote_late hw hl h hE k i hf hlt hv
      | false => exact (refNote_bad hw hl h hE k i hf hlt hv).mono fun e w' ⟨he, hb⟩ => ⟨he, vt, vv, h.grown hb, .of_below hb⟩
    · rw [if_neg hlt, if_neg hlt, if_neg hlt]
      exact refNote_new hw hl h hE k i hf hlt

end

end Go.Proofs.Ytafpfioonbdgnaa.Rds
