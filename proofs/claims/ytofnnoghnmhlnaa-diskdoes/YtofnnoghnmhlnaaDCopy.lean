/-
  The walks of slices.Clone and of Copy.
-/
import Derived.Laws.AppendOwnNone
import Derived.Lib.SliceRun
import Derived.Test.YtofnnoghnmhlnaaDChange
namespace Go.Proofs.Ytofnnoghnmhlnaa
open Go.RowKit

theorem ownsRow_low {w : World} {base e size : Nat} {v : Value} {n : Nat} {xs : List Value} (h : w.ownsRow base e size v n xs) : w.ownsRow 0 e size v n xs := by
  refine ⟨h.1, ?_⟩
  rcases h.2 with e | ⟨g, cap, cur, e, h0, r⟩
  · exact .inl e
  · exact .inr ⟨g, cap, cur, e, Nat.zero_le _, r⟩

theorem cell_past {w : World} {a : Addr} {o : Obj} {v : Value} (h : w.cell? a = some v) : (w.alloc o).cell? a = some v :=
  (World.cell?_alloc_some w a o (by rw [h]; rfl)).trans h

/-- The cells of a row that is owned. -/
theorem ownsRow_cells {w : World} {e size g n cap : Nat} {xs : List Value} (h : w.ownsRow 0 e size (.slice (some ⟨g, 0, none⟩) n cap) n xs) : ∀ j u, xs[j]? = some u → w.cell? ((⟨g, 0, none⟩ : Addr).add j) = some u :=
  fun j u hu => h.cells (g := g) rfl j u hu

set_option maxHeartbeats 400000 in
theorem clone_nil (w : World) : Calls Try.prog 29 #[.slice none 0 0] w fun e w' => e = .returned (.slice none 0 0) ∧ w' = w := by
  have q50 : ∀ (w : World) (a : Option Addr) (n c n' c' : Nat), (binOp .eql 50 (.slice a n c) (.slice none n' c')).run Try.prog w = .ok (.bool a.isNone) w := fun w a n c n' c' => Lib.run_eql_slice_nil w _ _ a n c n' c' Try.underlying50
  go_enter Try.func29, Try.ntmps29
  go_wp2
  go_ret
  exact ⟨rfl, rfl⟩

set_option maxHeartbeats 400000 in
theorem clone_some {w : World} {g cap : Nat} {ws : List Ch} (h : w.ownsRow 0 58 3 (.slice (some ⟨g, 0, none⟩) ws.length cap) ws.length (chC ws)) (hl : ws.length ≤ 1000000) :
    Calls Try.prog 29 #[.slice (some ⟨g, 0, none⟩) ws.length cap] w fun e w' => ∃ g' cap', e = .returned (.slice (some ⟨g', 0, none⟩) ws.length cap') ∧ w'.ownsRow 0 58 3 (.slice (some ⟨g', 0, none⟩) ws.length cap') ws.length (chC ws) ∧ w.heap.size ≤ g' ∧ Below w.heap.size w w' := by
  obtain ⟨i0, hi, hz0, hz1, hz2⟩ := info_parts Try.info58
  have q50 : ∀ (w : World) (a : Option Addr) (n c n' c' : Nat), (binOp .eql 50 (.slice a n c) (.slice none n' c')).run Try.prog w = .ok (.bool a.isNone) w := fun w a n c n' c' => Lib.run_eql_slice_nil w _ _ a n c n' c' Try.underlying50
  go_enter Try.func29, Try.ntmps29
  go_wp2_with (at_builtin; refine wpList_append_own _ rfl (.tmp 5) (.tmp 6) 50 rfl w.heap.size 58 i0 _ 3 32 Try.underlying50 hi hz0 hz1 hz2 rfl (by decide) (.slice (some ⟨w.heap.size, 0, none⟩) 0 0) 0 [] rfl ?o1 ⟨g, 0, none⟩ ws.length cap (chC ws) rfl (chC_length ws) ?n1 (chC_one ws) (by unfold maxLen; omega) (by omega) (by simp) (fun v1 w1 hown hg hnn => ?_))
  case o1 => exact World.ownsRow_made w #[] 0 (Nat.le_refl _) (Nat.zero_le _) rfl
  case n1 => exact ownsRow_cells (h.alloc _)
  have hb : Below w.heap.size w w1 := ((Below.refl _ _).alloc (Nat.le_refl _) _).grown hg (by simp) (fun k hk => by simp [Value.ownBlock] at hk; omega)
  rw [Nat.zero_add, List.nil_append] at hown
  have hv : v1 ≠ .slice none 0 0 := fun e => by have := hnn.1 e; simp at this
  have hf := fun k hk => (hown.lt k hk).1
  have hlow := ownsRow_low hown
  rcases hown.2 with ⟨e, _⟩ | ⟨g', cap', cur, rfl, _⟩
  · exact absurd e hv
  have HO := Hid.mk hlow
  have HB := Hid.mk hb
  have HF := Hid.mk (hf g' rfl)
  clear hown hb hg hnn hv hf hlow
  go_wp2
  go_ret
  exact ⟨g', cap', rfl, HO.out, HF.out, HB.out⟩

section
variable {w : World} {b : Nat} {v : Value} {dn ws : List Ch}

theorem Has.copied {w1 : World} {v' : Value} (h : Has w b v dn ws) (hown : w1.ownsRow 0 58 3 v' ws.length (chC ws)) :
    Has (w1.alloc (.cells #[.string (txt false (dn ++ ws)), .string (txt true (dn ++ ws)), .string (txt false dn), .string (txt true dn), v'] 52)) w1.heap.size v' dn ws :=
  ⟨⟨heap_alloc_new w1 _, fun e => Nat.lt_irrefl _ (hown.lt _ e).2, hown.alloc _⟩, h.fits⟩

set_option maxHeartbeats 800000 in
theorem copy_nil (h : Has w b (.slice none 0 0) dn ws) :
    Calls Try.prog 24 #[.pointer (some ⟨b, 0, none⟩)] w fun e w' => ∃ b' v', e = .returned (.pointer (some ⟨b', 0, none⟩)) ∧ Has w' b' v' dn ws ∧ w.heap.size ≤ b' ∧ (∀ k, v'.ownBlock = some k → w.heap.size ≤ k) ∧ Below w.heap.size w w' := by
  have c0 := h.dsk.c0
  have c1 := h.dsk.c1
  have c2 := h.dsk.c2
  have c3 := h.dsk.c3
  have c4 := h.dsk.c4
  have hlt := h.lt
  have hC : Calls Try.prog 29 #[.slice none 0 0] w.drew fun e w' => e = .returned (.slice none 0 0) ∧ w'.ownsRow 0 58 3 (.slice none 0 0) ws.length (chC ws) ∧ Below w.heap.size w.drew w' :=
    (clone_nil w.drew).mono fun e w' ⟨he, hw⟩ => ⟨he, by rw [hw]; exact ownsRow_carry h.dsk.owns fun _ _ => rfl, by rw [hw]; exact Below.refl _ _⟩
  have HC := Hid.mk hC
  have R := Hid.mk h
  clear h hC
  go_enter Try.func24, Try.ntmps24
  go_wp2_with fail
  go_region_held3 (fun wx => wx.cell? ⟨b, 0, none⟩ = some (.string (txt false (dn ++ ws))) ∧ wx.cell? ⟨b, 1, none⟩ = some (.string (txt true (dn ++ ws))) ∧ wx.cell? ⟨b, 2, none⟩ = some (.string (txt false dn)) ∧ wx.cell? ⟨b, 3, none⟩ = some (.string (txt true dn)) ∧ wx.cell? ⟨b, 4, none⟩ = some (.slice none 0 0))
    (first
      | (simp [*])
      | (go_split_ands
         refine ⟨?_, ?_, ?_, ?_, ?_⟩
         · exact (hb1.cell (p := ⟨b, 0, none⟩) hlt).trans c0
         · exact (hb1.cell (p := ⟨b, 1, none⟩) hlt).trans c1
         · exact (hb1.cell (p := ⟨b, 2, none⟩) hlt).trans c2
         · exact (hb1.cell (p := ⟨b, 3, none⟩) hlt).trans c3
         · exact (hb1.cell (p := ⟨b, 4, none⟩) hlt).trans c4)
      | (go_split_ands
         refine ⟨?_, ?_, ?_, ?_, ?_⟩
         · exact cell_past ((hb1.cell (p := ⟨b, 0, none⟩) hlt).trans c0)
         · exact cell_past ((hb1.cell (p := ⟨b, 1, none⟩) hlt).trans c1)
         · exact cell_past ((hb1.cell (p := ⟨b, 2, none⟩) hlt).trans c2)
         · exact cell_past ((hb1.cell (p := ⟨b, 3, none⟩) hlt).trans c3)
         · exact cell_past ((hb1.cell (p := ⟨b, 4, none⟩) hlt).trans c4)))
    ((go_at_call 29; refine HC.out.mono ?_; rintro e w1 ⟨rfl, hown1, hb1⟩))
  all_goals
    have HO := Hid.mk hown1
    have HB := Hid.mk hb1
    clear hown1 hb1
    go_wp2
    go_ret
    exact ⟨_, _, rfl, R.out.copied HO.out, HB.out.size, by simp [Value.ownBlock], (((Below.refl w.heap.size w).drew).trans HB.out).alloc HB.out.size _⟩

set_option maxHeartbeats 800000 in
theorem copy_some {g cap : Nat} (h : Has w b (.slice (some ⟨g, 0, none⟩) ws.length cap) dn ws) (hl : ws.length ≤ 1000000) :
    Calls Try.prog 24 #[.pointer (some ⟨b, 0, none⟩)] w fun e w' => ∃ b' v', e = .returned (.pointer (some ⟨b', 0, none⟩)) ∧ Has w' b' v' dn ws ∧ w.heap.size ≤ b' ∧ (∀ k, v'.ownBlock = some k → w.heap.size ≤ k) ∧ Below w.heap.size w w' := by
  have c0 := h.dsk.c0
  have c1 := h.dsk.c1
  have c2 := h.dsk.c2
  have c3 := h.dsk.c3
  have c4 := h.dsk.c4
  have hlt := h.lt
  have hC := clone_some (w := w.drew) (ownsRow_carry h.dsk.owns fun _ _ => rfl) hl
  have HC := Hid.mk hC
  have R := Hid.mk h
  clear h hC
  go_enter Try.func24, Try.ntmps24
  go_wp2_with fail
  go_region_held3 (fun wx => wx.cell? ⟨b, 0, none⟩ = some (.string (txt false (dn ++ ws))) ∧ wx.cell? ⟨b, 1, none⟩ = some (.string (txt true (dn ++ ws))) ∧ wx.cell? ⟨b, 2, none⟩ = some (.string (txt false dn)) ∧ wx.cell? ⟨b, 3, none⟩ = some (.string (txt true dn)) ∧ wx.cell? ⟨b, 4, none⟩ = some (.slice (some ⟨g, 0, none⟩) ws.length cap))
    (first
      | (simp [*])
      | (go_split_ands
         refine ⟨?_, ?_, ?_, ?_, ?_⟩
         · exact (hb1.cell (p := ⟨b, 0, none⟩) hlt).trans c0
         · exact (hb1.cell (p := ⟨b, 1, none⟩) hlt).trans c1
         · exact (hb1.cell (p := ⟨b, 2, none⟩) hlt).trans c2
         · exact (hb1.cell (p := ⟨b, 3, none⟩) hlt).trans c3
         · exact (hb1.cell (p := ⟨b, 4, none⟩) hlt).trans c4)
      | (go_split_ands
         refine ⟨?_, ?_, ?_, ?_, ?_⟩
         · exact cell_past ((hb1.cell (p := ⟨b, 0, none⟩) hlt).trans c0)
         · exact cell_past ((hb1.cell (p := ⟨b, 1, none⟩) hlt).trans c1)
         · exact cell_past ((hb1.cell (p := ⟨b, 2, none⟩) hlt).trans c2)
         · exact cell_past ((hb1.cell (p := ⟨b, 3, none⟩) hlt).trans c3)
         · exact cell_past ((hb1.cell (p := ⟨b, 4, none⟩) hlt).trans c4)))
    ((go_at_call 29; refine HC.out.mono ?_; rintro e w1 ⟨g', cap', rfl, hown1, hfrom, hb1⟩))
  all_goals
    have HO := Hid.mk hown1
    have HB := Hid.mk hb1
    have HF := Hid.mk hfrom
    clear hown1 hb1 hfrom
    go_wp2
    go_ret
    exact ⟨_, _, rfl, R.out.copied HO.out, HB.out.size, by simp [Value.ownBlock]; exact HF.out, (((Below.refl w.heap.size w).drew).trans HB.out).alloc HB.out.size _⟩

theorem copy_any (h : Has w b v dn ws) (hl : ws.length ≤ 1000000) :
    Calls Try.prog 24 #[.pointer (some ⟨b, 0, none⟩)] w fun e w' => ∃ b' v', e = .returned (.pointer (some ⟨b', 0, none⟩)) ∧ Has w' b' v' dn ws ∧ w.heap.size ≤ b' ∧ (∀ k, v'.ownBlock = some k → w.heap.size ≤ k) ∧ Below w.heap.size w w' := by
  rcases h.dsk.owns.2 with ⟨rfl, h0⟩ | ⟨g, cap, cur, rfl, _⟩
  · exact copy_nil h
  · exact copy_some h hl

end

end Go.Proofs.Ytofnnoghnmhlnaa
