/-
  The document's Count: a walk.
-/
import Derived.Test.YtnjmnbclbjebbaaAcRef
import Derived.Test.YtnjmnbclbjebbaaAcOps
namespace Go.Proofs.Ytnjmnbclbjebbaa.Ac
open Go.RowKit Go.Deep Go.Proofs.Ytnjmnbclbjebbaa.Cel Go.Proofs.Ytnjmnbclbjebbaa.Dft

theorem count_snoc (l : List A3) (x : A3) (k : Nat) : countL (l ++ [x]) k = if x.1 = k then countL l k + 1 else countL l k := by
  unfold countL
  rw [ofK_snoc]
  split <;> simp
theorem count_le (l : List A3) (k : Nat) : 0 ≤ countL l k ∧ countL l k ≤ (l.length : Int) := by
  have := ofK_len l k
  exact ⟨by unfold countL; omega, by unfold countL; omega⟩
theorem mA_set (l : List A3) (x : A3) (k : Nat) (hk : k < 4) (e : x.1 = k) : (mA (countL l)).setIfInBounds k (.int .i64 (countL l k + 1)) = mA (countL (l ++ [x])) := by
  obtain ⟨a, b, c⟩ := x
  simp only at e
  subst e
  rcases below4 hk with rfl | rfl | rfl | rfl <;> simp [mA, count_snoc]
theorem mA_at (m : Nat → Int) (k : Nat) (hk : k < 4) : (mA m)[k]? = some (.int .i64 (m k)) := by rcases below4 hk with rfl | rfl | rfl | rfl <;> rfl
theorem mA_nil : mA (countL []) = #[.int .i64 0, .int .i64 0, .int .i64 0, .int .i64 0] := rfl
set_option maxRecDepth 100000 in
theorem size_four (m : Nat → Int) : (Try.prog.info? 33).map (·.size) = some (mA m).size := by
  show _ = some 4
  kernel_rfl

/-- Block N counts those of l. -/
structure CSt (w : World) (N : Nat) (l : List A3) (X : World) : Prop where
  blk : X.heap[N]? = some (.cells (mA (countL l)) 33 (0, 0))
  bel : Below w.heap.size w X

section
variable {w X : World} {N : Nat} {l : List A3}
theorem CSt.cell (h : CSt w N l X) (k : Nat) (hk : k < 4) : X.cell? ⟨N, k, none⟩ = some (.int .i64 (countL l k)) := cell_at h.blk (mA_at _ k hk)
theorem CSt.lt (h : CSt w N l X) : N < X.heap.size := (Array.getElem?_eq_some_iff.1 h.blk).1
theorem CSt.past (h : CSt w N l X) (o : Obj) : CSt w N l (X.alloc o) := ⟨(Below.heap_alloc _ _ _ h.lt).trans h.blk, h.bel.alloc h.bel.size o⟩
theorem CSt.up (h : CSt w N l X) (hN : w.heap.size ≤ N) (x : A3) (k : Nat) (hk : k < 4) (e : x.1 = k) : CSt w N (l ++ [x]) (X.setCell ⟨N, k, none⟩ (.int .i64 (countL l k + 1))) :=
  ⟨by rw [heap_set _ h.blk, mA_set l x k hk e], h.bel.setCell hN _⟩
end

section
variable {w : World}

set_option maxHeartbeats 8000000 in
set_option maxRecDepth 100000 in
theorem refCount_any {a : Option Addr} {len cap : Nat} {all : List A3} (hv : View w eA 3 a len cap all) (hs : len ≤ 1000000) (hk : Kinds all) :
    Calls Try.prog 18 #[.slice a len cap] w fun e w' => e = .returned (.agg (mA (countL all))) ∧ Below w.heap.size w w' := by
  have HV := Hid.mk hv
  have HL := Hid.mk hv.1
  have HKS := Hid.mk hk
  have HC0 : Hid (CSt w (w.heap.size + 1) [] ((w.alloc (.cells #[.int .i64 0, .int .i64 0, .int .i64 0, .int .i64 0] 33)).alloc (.cells #[.int .i64 0, .int .i64 0, .int .i64 0, .int .i64 0] 33)) ∧ ((w.alloc (.cells #[.int .i64 0, .int .i64 0, .int .i64 0, .int .i64 0] 33)).alloc (.cells #[.int .i64 0, .int .i64 0, .int .i64 0, .int .i64 0] 33)).heap[w.heap.size]? = some (.cells (mA (countL [])) 33 (0, 0))) := by
    refine Hid.mk ⟨⟨?_, ((Below.refl _ w).alloc (Nat.le_refl _) _).alloc (by simp) _⟩, ?_⟩
    · have := heap_new (w.alloc (.cells #[.int .i64 0, .int .i64 0, .int .i64 0, .int .i64 0] 33)) (.cells #[.int .i64 0, .int .i64 0, .int .i64 0, .int .i64 0] 33)
      rw [World.size_alloc] at this
      exact this
    · exact (Below.heap_alloc _ _ _ (by simp)).trans (heap_new w _)
  clear hv hk
  go_enter Try.func18, Try.ntmps18
  go_wp2
  go_loopw [5, 8] (fun _ i wr => ∃ j : Nat, j ≤ len ∧ i = .int .i64 j ∧ Hid (CSt w (w.heap.size + 1) (all.take j) wr) ∧ Hid (wr.heap[w.heap.size]? = some (.cells (mA (countL [])) 33 (0, 0)))) (fun _ i _ => len - (intOf i).toNat)
  case atStart => exact ⟨0, Nat.zero_le _, rfl, Hid.mk HC0.out.1, Hid.mk HC0.out.2⟩
  case round =>
    obtain ⟨j, hj, rfl, HS, HR⟩ := hrel
    by_cases hlt : j < len
    · obtain ⟨hz, g, off, rfl, c0, c1, c2⟩ := (HV.out.grown HS.out.bel).act j hlt
      obtain ⟨x, hx⟩ : ∃ x, x = all[j] := ⟨_, rfl⟩
      have hst : all.take (j + 1) = all.take j ++ [x] := by rw [List.take_succ_eq_append_getElem hz, hx]
      have hxk : 0 ≤ x.1 ∧ x.1 ≤ 3 := HKS.out x (by rw [hx]; exact List.getElem_mem hz)
      rw [← hx] at c0 c1 c2
      have hcl : ∀ k, 0 ≤ countL (all.take j) k ∧ countL (all.take j) k ≤ 1000000 := fun k => by
        have h1 := count_le (all.take j) k
        have h2 : (all.take j).length ≤ len := by rw [List.length_take]; omega
        exact ⟨h1.1, by omega⟩
      have HST := Hid.mk hst
      have HK := Hid.mk hlt
      have HX := Hid.mk hxk
      have hp := HS.out.past (.cells #[.int .i64 x.1, .int .i64 x.2.1, .int .i64 x.2.2] 32)
      have HP := Hid.mk hp
      have hNlt := HS.out.lt
      clear hst hxk hx
      rcases (show x.1 = 0 ∨ x.1 = 1 ∨ x.1 = 2 ∨ x.1 = 3 by have := HX.out; omega) with e | e | e | e
      all_goals obtain ⟨xk, xa, xb⟩ := x
      all_goals simp only at e
      all_goals subst e
      · have q := HP.out.cell 0 (by decide)
        have z := free_at HP.out.blk (i := 0)
        have hb := hcl 0
        have HU := Hid.mk ((HS.out.up (by omega) (0, xa, xb) 0 (by decide) rfl).past (.cells #[.int .i64 0, .int .i64 xa, .int .i64 xb] 32))
        rw [← HST.out] at HU
        have hr2 := (Below.heap_setCell wr ⟨w.heap.size + 1, 0, none⟩ (.int .i64 (countL (all.take j) 0 + 1)) w.heap.size (by simp)).trans HR.out
        have HR2 := Hid.mk ((Below.heap_alloc (wr.setCell ⟨w.heap.size + 1, 0, none⟩ (.int .i64 (countL (all.take j) 0 + 1))) (.cells #[.int .i64 0, .int .i64 xa, .int .i64 xb] 32) _ (Array.getElem?_eq_some_iff.1 hr2).1).trans hr2)
        clear hr2
        clear hp hcl
        go_wp2
        go_roundw
        case rel => exact ⟨j + 1, HK.out, by go_num, HU, HR2⟩
        case measure => have := HK.out; simp [intOf]; omega
      · have q := HP.out.cell 1 (by decide)
        have z := free_at HP.out.blk (i := 1)
        have hb := hcl 1
        have HU := Hid.mk ((HS.out.up (by omega) (1, xa, xb) 1 (by decide) rfl).past (.cells #[.int .i64 1, .int .i64 xa, .int .i64 xb] 32))
        rw [← HST.out] at HU
        have hr2 := (Below.heap_setCell wr ⟨w.heap.size + 1, 1, none⟩ (.int .i64 (countL (all.take j) 1 + 1)) w.heap.size (by simp)).trans HR.out
        have HR2 := Hid.mk ((Below.heap_alloc (wr.setCell ⟨w.heap.size + 1, 1, none⟩ (.int .i64 (countL (all.take j) 1 + 1))) (.cells #[.int .i64 1, .int .i64 xa, .int .i64 xb] 32) _ (Array.getElem?_eq_some_iff.1 hr2).1).trans hr2)
        clear hr2
        clear hp hcl
        go_wp2
        go_roundw
        case rel => exact ⟨j + 1, HK.out, by go_num, HU, HR2⟩
        case measure => have := HK.out; simp [intOf]; omega
      · have q := HP.out.cell 2 (by decide)
        have z := free_at HP.out.blk (i := 2)
        have hb := hcl 2
        have HU := Hid.mk ((HS.out.up (by omega) (2, xa, xb) 2 (by decide) rfl).past (.cells #[.int .i64 2, .int .i64 xa, .int .i64 xb] 32))
        rw [← HST.out] at HU
        have hr2 := (Below.heap_setCell wr ⟨w.heap.size + 1, 2, none⟩ (.int .i64 (countL (all.take j) 2 + 1)) w.heap.size (by simp)).trans HR.out
        have HR2 := Hid.mk ((Below.heap_alloc (wr.setCell ⟨w.heap.size + 1, 2, none⟩ (.int .i64 (countL (all.take j) 2 + 1))) (.cells #[.int .i64 2, .int .i64 xa, .int .i64 xb] 32) _ (Array.getElem?_eq_some_iff.1 hr2).1).trans hr2)
        clear hr2
        clear hp hcl
        go_wp2
        go_roundw
        case rel => exact ⟨j + 1, HK.out, by go_num, HU, HR2⟩
        case measure => have := HK.out; simp [intOf]; omega
      · have q := HP.out.cell 3 (by decide)
        have z := free_at HP.out.blk (i := 3)
        have hb := hcl 3
        have HU := Hid.mk ((HS.out.up (by omega) (3, xa, xb) 3 (by decide) rfl).past (.cells #[.int .i64 3, .int .i64 xa, .int .i64 xb] 32))
        rw [← HST.out] at HU
        have hr2 := (Below.heap_setCell wr ⟨w.heap.size + 1, 3, none⟩ (.int .i64 (countL (all.take j) 3 + 1)) w.heap.size (by simp)).trans HR.out
        have HR2 := Hid.mk ((Below.heap_alloc (wr.setCell ⟨w.heap.size + 1, 3, none⟩ (.int .i64 (countL (all.take j) 3 + 1))) (.cells #[.int .i64 3, .int .i64 xa, .int .i64 xb] 32) _ (Array.getElem?_eq_some_iff.1 hr2).1).trans hr2)
        clear hr2
        clear hp hcl
        go_wp2
        go_roundw
        case rel => exact ⟨j + 1, HK.out, by go_num, HU, HR2⟩
        case measure => have := HK.out; simp [intOf]; omega
    · have hjl : j = len := by omega
      have hall : all.take j = all := by rw [hjl]; exact List.take_of_length_le (Nat.le_of_eq HL.out)
      rw [hall] at HS
      have hnk : ¬ (j : Int) < (len : Int) := by omega
      have q0 := HS.out.cell 0 (by decide)
      have q1 := HS.out.cell 1 (by decide)
      have q2 := HS.out.cell 2 (by decide)
      have q3 := HS.out.cell 3 (by decide)
      have y0 := cell_at HR.out (mA_at _ 0 (by decide))
      have y1 := cell_at HR.out (mA_at _ 1 (by decide))
      have y2 := cell_at HR.out (mA_at _ 2 (by decide))
      have y3 := cell_at HR.out (mA_at _ 3 (by decide))
      have z0 := free_at HR.out (i := 0)
      have z1 := free_at HR.out (i := 1)
      have z2 := free_at HR.out (i := 2)
      have z3 := free_at HR.out (i := 3)
      have HBL := Hid.mk ((((HS.out.bel.setCell (p := ⟨w.heap.size, 0, none⟩) (Nat.le_refl _) (.int .i64 (countL all 0))).setCell (p := ⟨w.heap.size, 1, none⟩) (Nat.le_refl _) (.int .i64 (countL all 1))).setCell (p := ⟨w.heap.size, 2, none⟩) (Nat.le_refl _) (.int .i64 (countL all 2))).setCell (p := ⟨w.heap.size, 3, none⟩) (Nat.le_refl _) (.int .i64 (countL all 3)))
      have HAT := Hid.mk (heap_set (i := 3) (.int .i64 (countL all 3)) (heap_set (i := 2) (.int .i64 (countL all 2)) (heap_set (i := 1) (.int .i64 (countL all 1)) (heap_set (i := 0) (.int .i64 (countL all 0)) HR.out))))
      clear hjl hall
      go_wp2
      refine bodyPost_ret (v := .agg (mA (countL all))) ?_ rfl ⟨rfl, HBL.out⟩
      exact results_cell_row rfl _ _ w.heap.size 33 (mA (countL all)) (0, 0) _ rfl HAT.out Try.underlying33 rfl (size_four _)

end

end Go.Proofs.Ytnjmnbclbjebbaa.Ac
