/-
  The walks of slices.Clone, slices.Grow and slices.Concat, of Notes, Output and Undo.
-/
import Derived.Lib.AppendZeros
import Derived.Lib.SliceRun
import Derived.Test.YtnjmnbclbjebbaaAcUndo
namespace Go.Proofs.Ytnjmnbclbjebbaa.Ac
open Go.RowKit Go.Deep Go.Proofs.Ytnjmnbclbjebbaa.Cel Go.Proofs.Ytnjmnbclbjebbaa.Dft

theorem eO_len : ∀ x, (eO x).length = 2 := fun _ => rfl
theorem eP_len : ∀ x, (eP x).length = 2 := fun _ => rfl
theorem eI_len : ∀ x, (eI x).length = 1 := fun _ => rfl
theorem eA_len : ∀ x, (eA x).length = 3 := fun _ => rfl

theorem eO_one : ∀ x, ∀ u ∈ eO x, u.oneCell' = true := fun x u hu => by
  simp [eO] at hu
  rcases hu with rfl | rfl <;> rfl
theorem eP_one : ∀ x, ∀ u ∈ eP x, u.oneCell' = true := fun x u hu => by
  simp [eP] at hu
  rcases hu with rfl | rfl <;> rfl
theorem eI_one : ∀ x, ∀ u ∈ eI x, u.oneCell' = true := fun x u hu => by
  simp [eI] at hu
  rcases hu with rfl
  rfl
theorem eA_one : ∀ x, ∀ u ∈ eA x, u.oneCell' = true := fun x u hu => by
  simp [eA] at hu
  rcases hu with rfl | rfl | rfl <;> rfl

section
variable {w w' : World} {b : Nat} {vs : Vs} {T : AS}

theorem AcAt.view0 (h : AcAt w b vs T) : ∃ a cap, vs 0 = .slice a T.out.length cap ∧ View w eO 2 a T.out.length cap T.out ∧ cap ≤ maxLen := by
  obtain ⟨a, cap, e, _, _, hm⟩ := h.shape 0 (by decide)
  have hr := h.row 0 (by decide)
  rw [e] at hr
  exact ⟨a, cap, e, Held.view (enc := eO) (fun _ => rfl) hr, hm⟩
theorem AcAt.view1 (h : AcAt w b vs T) : ∃ a cap, vs 1 = .slice a T.beh.length cap ∧ View w eO 2 a T.beh.length cap T.beh ∧ cap ≤ maxLen := by
  obtain ⟨a, cap, e, _, _, hm⟩ := h.shape 1 (by decide)
  have hr := h.row 1 (by decide)
  rw [e] at hr
  exact ⟨a, cap, e, Held.view (enc := eO) (fun _ => rfl) hr, hm⟩
theorem AcAt.view2 (h : AcAt w b vs T) : ∃ a cap, vs 2 = .slice a T.notes.length cap ∧ View w eI 1 a T.notes.length cap T.notes ∧ cap ≤ maxLen := by
  obtain ⟨a, cap, e, _, _, hm⟩ := h.shape 2 (by decide)
  have hr := h.row 2 (by decide)
  rw [e] at hr
  exact ⟨a, cap, e, Held.view (enc := eI) (fun _ => rfl) hr, hm⟩
theorem AcAt.view3 (h : AcAt w b vs T) : ∃ a cap, vs 3 = .slice a T.ops.length cap ∧ View w eP 2 a T.ops.length cap T.ops ∧ cap ≤ maxLen := by
  obtain ⟨a, cap, e, _, _, hm⟩ := h.shape 3 (by decide)
  have hr := h.row 3 (by decide)
  rw [e] at hr
  exact ⟨a, cap, e, Held.view (enc := eP) (fun _ => rfl) hr, hm⟩

set_option maxRecDepth 100000 in
theorem undo_any (h : AcAt w b vs T) (hT : T.Le 1000000) :
    Calls Try.prog 20 #[.pointer (some ⟨b, 0, none⟩)] w fun e w' => ∃ v, e = .returned v ∧ w'.ownsRow w.heap.size 56 2 v T.ops.length (flat eP (amendsL T.ops)) ∧ Below w.heap.size w w' := by
  obtain ⟨a, cap, e3, hv, _⟩ := h.view3
  have c3 := h.cell 3 (by decide)
  rw [e3] at c3
  have HC := Hid.mk (amends_any hv hT.ops)
  clear h e3 hv hT
  go_enter Try.func20, Try.ntmps20
  go_wp2_with fail
  refine HC.out.mono ?_
  rintro e w1 ⟨v, rfl, ho, hb⟩
  have HO := Hid.mk ho
  have HB := Hid.mk hb
  clear ho hb
  go_wp2
  go_ret
  exact ⟨_, rfl, HO.out, HB.out⟩

set_option maxHeartbeats 400000 in
set_option maxRecDepth 100000 in
theorem undo_nil (w : World) :
    Calls Try.prog 20 #[.pointer none] w fun e w' => e = .returned (.slice none 0 0) ∧ w' = w := by
  go_enter Try.func20, Try.ntmps20
  go_wp2
  go_ret
  exact ⟨rfl, rfl⟩

set_option maxHeartbeats 1000000 in
set_option maxRecDepth 100000 in
theorem cloneI_any {a : Option Addr} {len cap : Nat} {l : List Int} (hv : View w eI 1 a len cap l) (hs : len ≤ 1000000) :
    Calls Try.prog 29 #[.slice a len cap] w fun e w' => ∃ v, e = .returned v ∧ w'.ownsRow w.heap.size 3 1 v l.length (flat eI l) ∧ Below w.heap.size w w' := by
  obtain ⟨i0, hi, hz0, hz1, hz2⟩ := info_parts Try.infoI
  have q50 : ∀ (w : World) (a : Option Addr) (n c n' c' : Nat), (binOp .eql 26 (.slice a n c) (.slice none n' c')).run Try.prog w = .ok (.bool a.isNone) w := fun w a n c n' c' => Lib.run_eql_slice_nil w _ _ a n c n' c' Try.underlying26
  have hll := hv.1
  cases a with
  | none =>
    obtain ⟨h0, hc0⟩ := (hv.opt eI_len (by decide)).1 rfl
    subst h0 hc0
    obtain rfl : l = [] := List.eq_nil_of_length_eq_zero hll
    clear hv hll
    go_enter Try.func29, Try.ntmps29
    go_wp2
    go_ret
    exact ⟨_, rfl, ⟨rfl, .inl ⟨rfl, rfl⟩⟩, Below.refl _ _⟩
  | some p =>
    obtain ⟨_, hfl, hnews⟩ := (hv.grown ((Below.refl w.heap.size w).alloc (Nat.le_refl _) (.cells #[] 3))).opt eI_len (by decide)
    have HN := Hid.mk hnews
    have HF := Hid.mk hfl
    have HO : Hid ((w.alloc (.cells #[] 3)).ownsRow w.heap.size 3 1 (.slice (some ⟨w.heap.size, 0, none⟩) 0 0) 0 []) := Hid.mk (World.ownsRow_made w #[] 0 (Nat.le_refl _) (Nat.zero_le _) rfl)
    have HB := Hid.mk ((Below.refl w.heap.size w).alloc (Nat.le_refl _) (.cells #[] 3))
    clear hv hnews hfl
    go_enter Try.func29, Try.ntmps29
    go_wp2_with (at_builtin; refine wpList_append_opt _ rfl (.tmp 5) (.tmp 6) 26 rfl w.heap.size 3 i0 _ 1 8 Try.underlying26 hi hz0 hz1 hz2 rfl (by decide) (.slice (some ⟨w.heap.size, 0, none⟩) 0 0) 0 [] rfl HO.out (some p) len cap (flat eI l) rfl (fun e => absurd e (by simp)) HF.out HN.out (flat_one_cell eI_one l) (by unfold maxLen; omega) (by omega) (by simp) ?_; intro v' w2 ho hg; obtain ⟨va, vc, rfl⟩ := row_shape ho.out)
    go_ret
    refine ⟨_, rfl, ?_, HB.out.grown hg.out (by simp) (fun r e => by cases e; exact Nat.le_refl _)⟩
    have h := ho.out
    rw [List.nil_append, Nat.zero_add] at h
    rw [hll]
    exact h

set_option maxRecDepth 100000 in
theorem notes_any (h : AcAt w b vs T) (hT : T.Le 1000000) :
    Calls Try.prog 16 #[.pointer (some ⟨b, 0, none⟩)] w fun e w' => ∃ v, e = .returned v ∧ w'.ownsRow w.heap.size 3 1 v T.notes.length (flat eI T.notes) ∧ Below w.heap.size w w' := by
  obtain ⟨a, cap, e3, hv, _⟩ := h.view2
  have c3 := h.cell 2 (by decide)
  rw [e3] at c3
  have HC := Hid.mk (cloneI_any hv hT.notes)
  clear h e3 hv hT
  go_enter Try.func16, Try.ntmps16
  go_wp2_with fail
  refine HC.out.mono ?_
  rintro e w1 ⟨v, rfl, ho, hb⟩
  have HO := Hid.mk ho
  have HB := Hid.mk hb
  clear ho hb
  go_wp2
  go_ret
  exact ⟨_, rfl, HO.out, HB.out⟩

set_option maxHeartbeats 400000 in
set_option maxRecDepth 100000 in
theorem notes_nil (w : World) :
    Calls Try.prog 16 #[.pointer none] w fun e w' => e = .returned (.slice none 0 0) ∧ w' = w := by
  go_enter Try.func16, Try.ntmps16
  go_wp2
  go_ret
  exact ⟨rfl, rfl⟩

set_option maxHeartbeats 1000000 in
set_option maxRecDepth 100000 in
theorem grow_any (n : Nat) (hn : n ≤ 2000000) (w : World) :
    Calls Try.prog 33 #[.slice none 0 0, .int .i64 n] w fun e w' => ∃ v, e = .returned v ∧ w'.ownsRow w.heap.size 59 2 v 0 [] ∧ Below w.heap.size w w' := by
  obtain ⟨i0, hi, hz0, hz1, hz2⟩ := info_parts Try.infoO
  by_cases h0 : n = 0
  · subst h0
    go_enter Try.func33, Try.ntmps33
    go_wp2
    go_ret
    exact ⟨_, rfl, ⟨rfl, .inl ⟨rfl, rfl⟩⟩, Below.refl _ _⟩
  · have h1 : (0 : Int) < (n : Int) := by omega
    have hrun := Lib.run_append_nil_zeros (P := Try.prog) w 25 3 25 59 i0 _ .i64 .i64 Try.underlying25 Try.underlying3 hi hz0 n (by omega) (by omega) (by omega) (by rw [hz2]; omega)
    have hO : (w.drew.alloc (.cells (Builtin.zeroCells (Value.agg #[.int .i64 0, .int .u8 0]).cells n ++ Builtin.zeroCells (Value.agg #[.int .i64 0, .int .u8 0]).cells (grownCap w n 0 59 - n)) 59)).ownsRow w.heap.size 59 2 (.slice (some ⟨w.heap.size, 0, none⟩) 0 (grownCap w n 0 59)) 0 [] :=
      World.ownsRow_made w.drew _ _ (Nat.le_refl _) (grownCap_le_maxLen w n 0 _ (by unfold maxLen; omega)) (by
        have hge := grownCap_ge w n 0 59
        rw [Array.size_append, size_zeroCells, size_zeroCells, ← Nat.add_mul, Nat.add_sub_cancel' hge]
        rfl)
    have hge := grownCap_ge w n 0 59
    have hle := grownCap_le_maxLen w n 0 59 (by unfold maxLen; omega)
    have hB : Below w.heap.size w (w.drew.alloc (.cells (Builtin.zeroCells (Value.agg #[.int .i64 0, .int .u8 0]).cells n ++ Builtin.zeroCells (Value.agg #[.int .i64 0, .int .u8 0]).cells (grownCap w n 0 59 - n)) 59)) := (Below.refl _ w).drew.alloc (Nat.le_refl _) _
    obtain ⟨K, hK⟩ : ∃ K, K = grownCap w n 0 59 := ⟨_, rfl⟩
    rw [← hK] at hrun hO hge hle hB
    obtain ⟨W2, hW2⟩ : ∃ W2, W2 = w.drew.alloc (.cells (Builtin.zeroCells (Value.agg #[.int .i64 0, .int .u8 0]).cells n ++ Builtin.zeroCells (Value.agg #[.int .i64 0, .int .u8 0]).cells (K - n)) 59) := ⟨_, rfl⟩
    rw [← hW2] at hrun hO hB
    have HR := Hid.mk hrun
    have HO := Hid.mk hO
    have HB := Hid.mk hB
    have h2 : (0 : Int) ≤ (K : Int) := by omega
    have h3 : (K : Int) ≤ 9223372036854775807 := by unfold maxLen at hle; omega
    clear hrun hO hB hK hW2
    go_enter Try.func33, Try.ntmps33
    go_wp2_with (at_builtin; refine Lib.wpList_append_run _ rfl (.tmp 20) (.tmp 21) 25 3 rfl _ _ rfl rfl _ _ HR.out ?_)
    go_ret
    exact ⟨_, rfl, HO.out, HB.out⟩

theorem own_low {w : World} {B B2 : Nat} {e : TypeId} {size : Nat} {v : Value} {n : Nat} {xs : List Value} (h : w.ownsRow B e size v n xs) (hb : B2 ≤ B) : w.ownsRow B2 e size v n xs := by
  refine ⟨h.1, ?_⟩
  rcases h.2 with h | ⟨g, c, cur, e, hg, r⟩
  · exact .inl h
  · exact .inr ⟨g, c, cur, e, Nat.le_trans hb hg, r⟩
theorem past {w : World} {a : Addr} {o : Obj} {v : Value} (h : w.cell? a = some v) : (w.alloc o).cell? a = some v := by
  rw [World.cell?_alloc_some _ _ _ (by rw [h]; rfl), h]
theorem on_cell {w w' : World} {a : Addr} {v : Value} (hb : Below w.heap.size w w') (h : w.cell? a = some v) : w'.cell? a = some v := (hb.cell (World.block_lt_of_cell? w a h)).trans h

set_option maxHeartbeats 4000000 in
set_option maxRecDepth 100000 in
theorem concat_any {g : Nat} {a0 a1 : Option Addr} {n0 c0 n1 c1 : Nat} {l0 l1 : List Pr} (q0 : w.cell? ⟨g, 0, none⟩ = some (.slice a0 n0 c0)) (q1 : w.cell? ⟨g, 1, none⟩ = some (.slice a1 n1 c1))
    (hv0 : View w eO 2 a0 n0 c0 l0) (hv1 : View w eO 2 a1 n1 c1 l1) (h0 : n0 ≤ 1000000) (h1 : n1 ≤ 1000000) :
    Calls Try.prog 30 #[.slice (some ⟨g, 0, none⟩) 2 2] w fun e w' => ∃ v, e = .returned v ∧ w'.ownsRow w.heap.size 59 2 v (l0 ++ l1).length (flat eO (l0 ++ l1)) ∧ Below w.heap.size w w' := by
  obtain ⟨i0, hi, hz0, hz1, hz2⟩ := info_parts Try.infoO
  have HG := Hid.mk (World.block_lt_of_cell? w ⟨g, 0, none⟩ q0)
  have HV0 := Hid.mk hv0
  have HV1 := Hid.mk hv1
  have Q0 := Hid.mk q0
  have Q1 := Hid.mk q1
  clear hv0 hv1
  go_enter Try.func30, Try.ntmps30
  go_wp2
  go_loopw [3, 5, 11] (fun sz _ i wr => (i = .int .i64 0 ∧ sz = .int .i64 0 ∧ wr = w) ∨ (i = .int .i64 1 ∧ sz = .int .i64 n0 ∧ wr = w) ∨ (i = .int .i64 2 ∧ sz = .int .i64 ((n0 + n1 : Nat) : Int) ∧ wr = w)) (fun _ _ i _ => 2 - (intOf i).toNat)
  case atStart => exact .inl ⟨rfl, rfl, rfl⟩
  case round =>
    rcases hrel with ⟨rfl, rfl, hwr⟩ | ⟨rfl, rfl, hwr⟩ | ⟨rfl, rfl, hwr⟩
    · rw [hwr]
      clear hwr wr
      go_wp2
      go_roundw
      case rel => exact .inr (.inl ⟨rfl, by go_num, trivial⟩)
      case measure => simp [intOf]
    · rw [hwr]
      clear hwr wr
      go_wp2
      go_roundw
      case rel => exact .inr (.inr ⟨rfl, by go_num, trivial⟩)
      case measure => simp [intOf]
    · rw [hwr]
      clear hwr wr
      have HGR := Hid.mk (grow_any (n0 + n1) (by omega) w)
      go_wp2_with fail
      refine HGR.out.mono ?_
      rintro e w1 ⟨v, rfl, ho, hb⟩
      have HO := Hid.mk ho
      have HB := Hid.mk hb
      obtain ⟨va, vc, rfl⟩ := row_shape ho
      clear ho hb q0 q1
      go_wp2
      go_loopw [6, 8, 27] (fun o _ i wr => Hid (Below w.heap.size w wr) ∧ ∃ v, o = v ∧ ((i = .int .i64 0 ∧ Hid (wr.ownsRow w.heap.size 59 2 v 0 [])) ∨ (i = .int .i64 1 ∧ Hid (wr.ownsRow w.heap.size 59 2 v n0 (flat eO l0))) ∨ (i = .int .i64 2 ∧ Hid (wr.ownsRow w.heap.size 59 2 v (n0 + n1) (flat eO l0 ++ flat eO l1))))) (fun _ _ i _ => 2 - (intOf i).toNat)
      case atStart => exact ⟨HB, _, rfl, .inl ⟨rfl, HO⟩⟩
      case round =>
        clear HO HB
        obtain ⟨HB, v, rfl, ⟨rfl, HO⟩ | ⟨rfl, HO⟩ | ⟨rfl, HO⟩⟩ := hrel
        · have d0 := (HB.out.cell (p := ⟨g, 0, none⟩) HG.out).trans Q0.out
          obtain ⟨hnone, hfl, hnews⟩ := (HV0.out.grown HB.out).opt eO_len (by decide)
          have HNO := Hid.mk hnone
          have HF := Hid.mk hfl
          have HN := Hid.mk hnews
          have HBS := Hid.mk HB.out.size
          obtain ⟨xa, xc, rfl⟩ := row_shape HO.out
          clear hnone hfl hnews
          go_wp2_with (at_builtin; refine wpList_append_opt _ rfl (.tmp 31) (.tmp 32) 25 rfl w.heap.size 59 i0 _ 2 16 Try.underlying25 hi hz0 hz1 hz2 rfl (by decide) (.slice xa 0 xc) 0 [] rfl HO.out a0 n0 c0 (flat eO l0) rfl HNO.out HF.out HN.out (flat_one_cell eO_one l0) (by unfold maxLen; omega) (by omega) HBS.out ?_; intro v' w2 ho hg; obtain ⟨ya, yc, rfl⟩ := row_shape ho.out)
          go_roundw
          case rel =>
            have h := ho.out
            rw [List.nil_append, Nat.zero_add] at h
            refine ⟨Hid.mk (HB.out.grown hg.out HB.out.size (fun r e => (HO.out.lt r e).1)), _, rfl, .inr (.inl ⟨rfl, Hid.mk ?_⟩)⟩
            simpa using h
          case measure => simp [intOf]
        · have d1 := (HB.out.cell (p := ⟨g, 1, none⟩) HG.out).trans Q1.out
          obtain ⟨hnone, hfl, hnews⟩ := (HV1.out.grown HB.out).opt eO_len (by decide)
          have HNO := Hid.mk hnone
          have HF := Hid.mk hfl
          have HN := Hid.mk hnews
          have HBS := Hid.mk HB.out.size
          obtain ⟨xa, xc, rfl⟩ := row_shape HO.out
          clear hnone hfl hnews
          go_wp2_with (at_builtin; refine wpList_append_opt _ rfl (.tmp 31) (.tmp 32) 25 rfl w.heap.size 59 i0 _ 2 16 Try.underlying25 hi hz0 hz1 hz2 rfl (by decide) (.slice xa n0 xc) n0 (flat eO l0) rfl HO.out a1 n1 c1 (flat eO l1) rfl HNO.out HF.out HN.out (flat_one_cell eO_one l1) (by unfold maxLen; omega) (by omega) HBS.out ?_; intro v' w2 ho hg; obtain ⟨ya, yc, rfl⟩ := row_shape ho.out)
          go_roundw
          case rel => exact ⟨Hid.mk (HB.out.grown hg.out HB.out.size (fun r e => (HO.out.lt r e).1)), _, rfl, .inr (.inr ⟨rfl, ho⟩)⟩
          case measure => simp [intOf]
        · obtain ⟨xa, xc, rfl⟩ := row_shape HO.out
          go_wp2
          go_ret
          refine ⟨.slice xa (n0 + n1) xc, rfl, ?_, HB.out⟩
          rw [flat_append, List.length_append, HV0.out.1, HV1.out.1]
          exact HO.out

set_option maxHeartbeats 400000 in
set_option maxRecDepth 100000 in
theorem output_nil (w : World) :
    Calls Try.prog 19 #[.pointer none] w fun e w' => e = .returned (.slice none 0 0) ∧ w' = w := by
  go_enter Try.func19, Try.ntmps19
  go_wp2
  go_ret
  exact ⟨rfl, rfl⟩

set_option maxHeartbeats 4000000 in
set_option maxRecDepth 100000 in
theorem output_any (h : AcAt w b vs T) (hT : T.Le 1000000) :
    Calls Try.prog 19 #[.pointer (some ⟨b, 0, none⟩)] w fun e w' => ∃ v, e = .returned v ∧ w'.ownsRow w.heap.size 59 2 v (T.out ++ T.beh).length (flat eO (T.out ++ T.beh)) ∧ Below w.heap.size w w' := by
  obtain ⟨a0, k0, e0, hv0, _⟩ := h.view0
  obtain ⟨a1, k1, e1, hv1, _⟩ := h.view1
  have c0 := h.cell 0 (by decide)
  have c1 := h.cell 1 (by decide)
  rw [e0] at c0
  rw [e1] at c1
  have hBL := (Below.refl w.heap.size w).drew.alloc (Nat.le_refl _) (.cells #[.slice a0 T.out.length k0, .slice a1 T.beh.length k1] 25)
  have hc := concat_any (w := w.drew.alloc (.cells #[.slice a0 T.out.length k0, .slice a1 T.beh.length k1] 25)) (g := w.heap.size) (cell_at (heap_new w.drew _) rfl) (cell_at (heap_new w.drew _) rfl) (hv0.grown hBL) (hv1.grown hBL) hT.out hT.beh
  obtain ⟨N, hN⟩ : ∃ N, N = (T.out ++ T.beh).length := ⟨_, rfl⟩
  rw [← hN] at hc ⊢
  clear hN
  have HC := Hid.mk hc
  have HB := Hid.mk hBL
  have HT0 := Hid.mk hT.out
  clear h e0 e1 hv0 hv1 hT hc hBL
  go_enter Try.func19, Try.ntmps19
  go_wp2_with fail
  go_region_held3 (fun wx => wx.cell? ⟨b, 0, none⟩ = some (.slice a0 T.out.length k0) ∧ wx.cell? ⟨b, 1, none⟩ = some (.slice a1 T.beh.length k1))
    (first
      | exact ⟨c0, c1⟩
      | exact ⟨past c0, past c1⟩
      | exact ⟨on_cell HB1.out (past c0), on_cell HB1.out (past c1)⟩)
    (first | (go_at_call 30; have m1 := HB; refine HC.out.mono ?_; rintro e w1 ⟨v, rfl, ho, hb⟩; obtain ⟨va, vc, rfl⟩ := row_shape ho; have HO := Hid.mk ho; have HB1 := Hid.mk hb; clear ho hb))
  all_goals
    go_wp2
    go_ret
    exact ⟨_, rfl, own_low HO.out (by simp), HB.out.trans (HB1.out.mono (by simp))⟩

end

end Go.Proofs.Ytnjmnbclbjebbaa.Ac
