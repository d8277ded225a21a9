/-
  The document's set in memory, and the walks of its Valid and Note.
-/
import Derived.Test.YtafpfioonbdgnaaNWorld
namespace Go.Proofs.Ytafpfioonbdgnaa.Rds
open Go.RowKit Go.Shelf Go.Deep Go.Proofs.Ytafpfioonbdgnaa.Cel Go.Proofs.Ytafpfioonbdgnaa.Rng

/-- Things that were read, and of which versions. -/
def thE (E : List En) : List Th := E.map fun e => (e.1, e.2.1)
def veE (E : List En) : List Int := E.map fun e => e.2.2

theorem thE_length (E : List En) : (thE E).length = E.length := by simp [thE]
theorem veE_length (E : List En) : (veE E).length = E.length := by simp [veE]
theorem thE_at (E : List En) (j : Nat) (hj : j < E.length) : (thE E)[j]! = (E[j]!.1, E[j]!.2.1) := by
  rw [getElem!_pos _ j (by rw [thE_length]; exact hj), getElem!_pos E j hj]
  simp [thE]
theorem veE_at (E : List En) (j : Nat) (hj : j < E.length) : (veE E)[j]! = E[j]!.2.2 := by
  rw [getElem!_pos _ j (by rw [veE_length]; exact hj), getElem!_pos E j hj]
  simp [veE]
theorem thE_snoc (E : List En) (e : En) : thE (E ++ [e]) = thE E ++ [(e.1, e.2.1)] := by simp [thE]
theorem veE_snoc (E : List En) (e : En) : veE (E ++ [e]) = veE E ++ [e.2.2] := by simp [veE]

/-- The versions as they are now, thing by thing. -/
def vfN (l : List Th) (k i : Int) : Int := (nw l (k, i) : Int)

/-- The document's set in block b. -/
structure RefAt (w : World) (b : Nat) (vt vv : Value) (st : Int) (E : List En) : Prop where
  at_ : w.heap[b]? = some (.cells #[vt, vv, .int .i64 st] 34 (0, 0))
  th : w.ownsRow 0 36 2 vt E.length (thC (thE E))
  ve : w.ownsRow 0 3 1 vv E.length (nuC (veE E))

section
variable {w w' : World} {b : Nat} {vt vv : Value} {st : Int} {E : List En}

theorem RefAt.lt (h : RefAt w b vt vv st E) : b < w.heap.size := (Array.getElem?_eq_some_iff.1 h.at_).1
theorem RefAt.foot_lt (h : RefAt w b vt vv st E) : ∀ k, Foot b [vt, vv] k → k < w.heap.size := fun k hk => by
  rcases hk with e | ⟨x, hx, e⟩
  · rw [e]; exact h.lt
  · simp at hx
    rcases hx with rfl | rfl
    · exact (h.th.lt k e).2
    · exact (h.ve.lt k e).2
theorem RefAt.c0 (h : RefAt w b vt vv st E) : w.cell? ⟨b, 0, none⟩ = some vt := cell_at h.at_ rfl
theorem RefAt.c1 (h : RefAt w b vt vv st E) : w.cell? ⟨b, 1, none⟩ = some vv := cell_at h.at_ rfl
theorem RefAt.c2 (h : RefAt w b vt vv st E) : w.cell? ⟨b, 2, none⟩ = some (.int .i64 st) := cell_at h.at_ rfl
theorem RefAt.fz (h : RefAt w b vt vv st E) (i : Nat) : w.frozen? ⟨b, i, none⟩ = false := free_at h.at_
theorem RefAt.keep (h : RefAt w b vt vv st E) (hk : ∀ k, Foot b [vt, vv] k → w'.heap[k]? = w.heap[k]?) : RefAt w' b vt vv st E :=
  ⟨(hk b (.inl rfl)).trans h.at_, ownsRow_carry h.th fun k e => hk k (.inr ⟨vt, by simp, e⟩), ownsRow_carry h.ve fun k e => hk k (.inr ⟨vv, by simp, e⟩)⟩
theorem RefAt.grown (h : RefAt w b vt vv st E) (hb : Below w.heap.size w w') : RefAt w' b vt vv st E := h.keep fun k hk => hb.block k (h.foot_lt k hk)
theorem RefAt.drew (h : RefAt w b vt vv st E) : RefAt w.drew b vt vv st E := h.keep fun _ _ => rfl
theorem RefAt.alloc (h : RefAt w b vt vv st E) (o : Obj) : RefAt (w.alloc o) b vt vv st E := h.grown ((Below.refl _ _).alloc (Nat.le_refl _) _)
theorem RefAt.t_b (h : RefAt w b vt vv st E) : vt.ownBlock ≠ some b := fun e => by
  obtain ⟨cs, hc⟩ := own_at h.th e
  exact block_ne hc h.at_ (by decide) rfl
theorem RefAt.v_b (h : RefAt w b vt vv st E) : vv.ownBlock ≠ some b := fun e => by
  obtain ⟨cs, hc⟩ := own_at h.ve e
  exact block_ne hc h.at_ (by decide) rfl
theorem RefAt.t_v (h : RefAt w b vt vv st E) {k : Nat} (ht : vt.ownBlock = some k) : vv.ownBlock ≠ some k := fun e => by
  obtain ⟨cs, hc⟩ := own_at h.th ht
  obtain ⟨ds, hd⟩ := own_at h.ve e
  exact block_ne hc hd (by decide) rfl

theorem row_nu {l : List Int} {B g n cap : Nat} {e : TypeId} (h : w.ownsRow B e 1 (.slice (some ⟨g, 0, none⟩) n cap) n (nuC l)) (j : Nat) (hj : j < l.length) : w.cell? ⟨g, j, none⟩ = some (.int .i64 l[j]!) := by
  have k0 := h.cells (g := g) rfl _ _ (nuC_get l j hj)
  rw [addP] at k0
  exact k0

end

section
variable {w : World} {b m : Nat} {v vt vv : Value} {l : List Th} {st : Int} {E : List En}

set_option maxHeartbeats 4000000 in
set_option maxRecDepth 100000 in
theorem refValid_any (hw : WoAt w b v l) (hl : l.length ≤ 1000000) (h : RefAt w m vt vv st E) (hE : E.length ≤ 1000000) :
    Calls Try.prog 14 #[.pointer (some ⟨m, 0, none⟩), .pointer (some ⟨b, 0, none⟩)] w fun e w' => e = .returned (.bool (validB (vfN l) E)) ∧ Below w.heap.size w w' := by
  obtain ⟨ta, tc, rfl⟩ := row_shape h.th
  obtain ⟨va, vc, rfl⟩ := row_shape hw.owns
  obtain ⟨N, hN⟩ : ∃ N, N = E.length := ⟨_, rfl⟩
  obtain ⟨L, hL⟩ : ∃ L, L = l.length := ⟨_, rfl⟩
  have c0 := h.c0
  rw [← hN] at c0 hE
  have H := Hid.mk h
  have HW := Hid.mk hw
  have HN := Hid.mk hN
  have HL := Hid.mk hL
  have HLL := Hid.mk hl
  clear h hw hN hL hl
  go_enter Try.func14, Try.ntmps14
  go_wp2
  go_loopw [5, 6, 12] (fun _ _ idx wr => ∃ k : Nat, k ≤ N ∧ idx = .int .i64 k ∧ (∀ j, j < k → vfN l E[j]!.1 E[j]!.2.1 = E[j]!.2.2) ∧ Below w.heap.size w wr) (fun _ _ idx _ => N - (intOf idx).toNat)
  case atStart => exact ⟨0, Nat.zero_le _, rfl, fun j hj => absurd hj (Nat.not_lt_zero j), Below.refl _ _⟩
  case round =>
    obtain ⟨k, hk, rfl, hok, hb⟩ := hrel
    have HOK := Hid.mk hok
    by_cases hlt : k < N
    · have hkE : k < E.length := by have := HN.out; omega
      have hr := H.out.grown hb
      obtain ⟨g, cap, e⟩ := row_full hr.th (by omega)
      injection e with e1 _ e3
      subst e1 e3
      obtain ⟨z0, z1⟩ := row_th hr.th k (by rw [thE_length]; exact hkE)
      rw [thE_at E k hkE] at z0 z1
      obtain ⟨gv, capv, rfl⟩ := row_full hr.ve (by omega)
      have hgl := (hr.th.lt g rfl).2
      obtain ⟨y0, hy0⟩ : ∃ y, y = E[k]!.1 := ⟨_, rfl⟩
      obtain ⟨y1, hy1⟩ : ∃ y, y = E[k]!.2.1 := ⟨_, rfl⟩
      obtain ⟨y2, hy2⟩ : ∃ y, y = E[k]!.2.2 := ⟨_, rfl⟩
      dsimp only at z0 z1
      rw [← hy0] at z0
      rw [← hy1] at z1
      have HY : Hid (y0 = E[k]!.1 ∧ y1 = E[k]!.2.1 ∧ y2 = E[k]!.2.2) := Hid.mk ⟨hy0, hy1, hy2⟩
      obtain ⟨W, hW⟩ : ∃ W, W = wr.alloc (.cells #[.int .i64 y0, .int .i64 y1] 36) := ⟨_, rfl⟩
      have hbW : Below w.heap.size w W := by rw [hW]; exact hb.alloc hb.size _
      have hxW : W.heap[wr.heap.size]? = some (.cells #[.int .i64 y0, .int .i64 y1] 36 (0, 0)) := by rw [hW]; exact heap_new _ _
      have hrW := H.out.grown hbW
      have hwW := HW.out.grown hbW
      obtain ⟨X, hX⟩ : ∃ X, X = wr.heap.size := ⟨_, rfl⟩
      have hat := fun (g : Wider W.heap.size W) => at_any (hwW.grown g.h) HLL.out (y0, y1) (l.length : Nat)
      have k0 : ∀ g : Wider W.heap.size W, g.z.cell? ⟨X, 0, none⟩ = some (.int .i64 y0) := fun g => by rw [hX]; exact cell_at ((g.h.block _ (Array.getElem?_eq_some_iff.1 hxW).1).trans hxW) rfl
      have k1 : ∀ g : Wider W.heap.size W, g.z.cell? ⟨X, 1, none⟩ = some (.int .i64 y1) := fun g => by rw [hX]; exact cell_at ((g.h.block _ (Array.getElem?_eq_some_iff.1 hxW).1).trans hxW) rfl
      have k2 : ∀ g : Wider W.heap.size W, g.z.cell? ⟨b, 0, none⟩ = some (.slice va L vc) := fun g => by rw [HL.out]; exact (hwW.grown g.h).c0
      have k3 : ∀ g : Wider W.heap.size W, g.z.cell? ⟨m, 1, none⟩ = some (.slice (some ⟨gv, 0, none⟩) N capv) := fun g => by rw [HN.out]; exact (hrW.grown g.h).c1
      have k4 : ∀ g : Wider W.heap.size W, g.z.cell? ⟨gv, k, none⟩ = some (.int .i64 y2) := fun g => by
        have := row_nu (hrW.grown g.h).ve k (by rw [veE_length]; exact hkE)
        rw [veE_at E k hkE, ← hy2] at this
        exact this
      obtain ⟨V, hV⟩ : ∃ V : Int, V = (atN l (y0, y1) (l.length : Nat) : Nat) := ⟨_, rfl⟩
      have HVN : Hid (V = vfN l y0 y1) := Hid.mk hV
      rw [← hV] at hat
      rw [← HL.out] at hat
      have hne := Wider.some W.heap.size W
      have HAT := Hid.mk hat
      have HBW := Hid.mk hbW
      clear hbW hxW hrW hwW hat hV hy0 hy1 hy2 hr hb hok
      go_wp2_with fail
      rw [← hX, ← hW]
      clear hX hW z0 z1 hgl
      refine wp_region_wider (B := W.heap.size) (w0 := W) (by kernel_rfl) (by kernel_rfl) (Below.refl _ W) ?_
      repeat (go_big_quiet_step ((go_at_call 21; refine (HAT.out _).mono ?_; rintro e w6 ⟨rfl, hb6⟩; exact ⟨rfl, ⟨w6, by rename_i g; exact farther (Nat.le_refl _) g.h hb6⟩, rfl⟩)))
      refine wpQuiet_nil ?_
      rintro z ⟨g, hg⟩
      have hz : Below W.heap.size W z := by rw [hg]; exact g.h
      clear hg g
      have HBz := Hid.mk (HBW.out.trans (hz.mono HBW.out.size))
      clear hz k0 k1 k2 k3 k4 hne
      by_cases hq : V = y2
      · have e1 : (V != y2) = false := by simp [hq]
        have HQ := Hid.mk hq
        clear hq
        go_wp2
        go_roundw
        case rel =>
          refine ⟨k + 1, by omega, by go_num, fun j hj => ?_, HBz.out⟩
          by_cases e : j = k
          · subst e
            obtain ⟨p0, p1, p2⟩ := HY.out
            rw [← p0, ← p1, ← p2, ← HVN.out]
            exact HQ.out
          · exact HOK.out j (by omega)
        case measure => simp [intOf]; omega
      · have e1 : (V != y2) = true := by simp [hq]
        have HQ := Hid.mk hq
        clear hq
        go_wp2
        go_ret
        refine ⟨?_, HBz.out⟩
        rw [validB_no k hkE (by obtain ⟨p0, p1, p2⟩ := HY.out; rw [← p0, ← p1, ← p2, ← HVN.out]; exact HQ.out)]
        rfl
    · have hle : (N : Int) ≤ (k : Int) := by omega
      have HK : Hid (k = E.length) := Hid.mk (by have := HN.out; omega)
      have HBR := Hid.mk hb
      clear hb hok
      go_wp2
      go_ret
      refine ⟨?_, HBR.out⟩
      rw [validB_yes (fun j hj => HOK.out j (by rw [HK.out]; exact hj))]
      rfl

end

end Go.Proofs.Ytafpfioonbdgnaa.Rds
