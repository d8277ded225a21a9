/-
  The walks of the document's At, of 'is', and of 'now': all versions out of all changes.
-/
import Derived.Test.YtafpfioonbdgnaaNNote
namespace Go.Proofs.Ytafpfioonbdgnaa.Rds
open Go.RowKit Go.Shelf Go.Deep Go.Proofs.Ytafpfioonbdgnaa.Cel Go.Proofs.Ytafpfioonbdgnaa.Rng

section
variable {w : World} {b : Nat} {v : Value} {l : List Th}

set_option maxHeartbeats 4000000 in
set_option maxRecDepth 100000 in
theorem at_any (h : WoAt w b v l) (hl : l.length ≤ 1000000) (x : Th) (t : Int) :
    Calls Try.prog 21 #[.pointer (some ⟨b, 0, none⟩), .agg #[.int .i64 x.1, .int .i64 x.2], .int .i64 t] w fun e w' => e = .returned (.int .i64 (atN l x t : Nat)) ∧ Below w.heap.size w w' := by
  obtain ⟨x0, x1⟩ := x
  dsimp only
  obtain ⟨w0, hw0⟩ : ∃ w0, w0 = w.alloc (.cells #[.int .i64 x0, .int .i64 x1] 36) := ⟨_, rfl⟩
  have hb0 : Below w.heap.size w w0 := by rw [hw0]; exact (Below.refl _ _).alloc (Nat.le_refl _) _
  have hx0 : w0.heap[w.heap.size]? = some (.cells #[.int .i64 x0, .int .i64 x1] 36 (0, 0)) := by rw [hw0]; exact heap_new _ _
  have hs0 := h.grown hb0
  obtain ⟨va, vc, rfl⟩ := row_shape h.owns
  obtain ⟨N, hN⟩ : ∃ N, N = l.length := ⟨_, rfl⟩
  have c0 := hs0.c0
  rw [← hN] at c0 hl
  have HN := Hid.mk hN
  have HS := Hid.mk hs0
  have HB := Hid.mk hb0
  have HX := Hid.mk hx0
  have HZ : Hid (w0.heap.size = w.heap.size + 1) := Hid.mk (by rw [hw0]; simp)
  obtain ⟨M, hM⟩ : ∃ M, M = w.heap.size := ⟨_, rfl⟩
  have HM := Hid.mk hM
  go_enter Try.func21, Try.ntmps21
  go_upto_region 2 with fail
  rw [← hw0, ← hM]
  clear hw0 hb0 hx0 hs0 h hN hM
  go_wp2
  go_loopw [7, 8, 9, 15] (fun n _ _ idx wr => ∃ k : Nat, k ≤ N ∧ n = .int .i64 (atTo l (x0, x1) t k : Nat) ∧ idx = .int .i64 k ∧ Below w0.heap.size w0 wr) (fun _ _ _ idx _ => N - (intOf idx).toNat)
  case atStart => exact ⟨0, Nat.zero_le _, rfl, rfl, Below.refl _ _⟩
  case round =>
    obtain ⟨k, hk, rfl, rfl, hb⟩ := hrel
    have hsr := HS.out.grown hb
    have hxr : wr.heap[M]? = some (.cells #[.int .i64 x0, .int .i64 x1] 36 (0, 0)) := by
      have hx := HX.out
      rw [← HM.out] at hx
      exact (hb.block M (Array.getElem?_eq_some_iff.1 hx).1).trans hx
    have d0 : wr.cell? ⟨M, 0, none⟩ = some (.int .i64 x0) := cell_at hxr rfl
    have d1 : wr.cell? ⟨M, 1, none⟩ = some (.int .i64 x1) := cell_at hxr rfl
    have hMl : M < wr.heap.size := (Array.getElem?_eq_some_iff.1 hxr).1
    by_cases hlt : k < N
    · have hkl : k < l.length := by have := HN.out; omega
      obtain ⟨g, cap, e⟩ := row_full hsr.owns (by omega)
      injection e with e1 _ e3
      subst e1 e3
      obtain ⟨z0, z1⟩ := row_th hsr.owns k hkl
      have hgl := (hsr.owns.lt g rfl).2
      have ha : atTo l (x0, x1) t (k + 1) = if (x0, x1) = l[k]! ∧ (k : Int) + 1 ≤ t then k + 1 else atTo l (x0, x1) t k := rfl
      obtain ⟨y0, hy0⟩ : ∃ y, y = l[k]!.1 := ⟨_, rfl⟩
      obtain ⟨y1, hy1⟩ : ∃ y, y = l[k]!.2 := ⟨_, rfl⟩
      have hy : l[k]! = (y0, y1) := by rw [hy0, hy1]
      rw [hy] at ha
      rw [← hy0] at z0
      rw [← hy1] at z1
      have HA := Hid.mk ha
      have HBR : Hid (Below w0.heap.size w0 (wr.alloc (.cells #[.int .i64 y0, .int .i64 y1] 36))) := Hid.mk (hb.alloc hb.size _)
      clear ha hy0 hy1 hy hsr hxr hb hkl
      by_cases q0 : x0 = y0 ∧ x1 = y1
      · obtain ⟨rfl, rfl⟩ := q0
        by_cases q1 : (k : Int) + 1 ≤ t
        · have HQ : Hid (atTo l (x0, x1) t (k + 1) = k + 1) := Hid.mk (by rw [HA.out, if_pos ⟨rfl, q1⟩])
          go_wp2
          go_roundw
          case rel => exact ⟨k + 1, by omega, by rw [HQ.out]; go_num, by go_num, HBR.out⟩
          case measure => simp [intOf]; omega
        · have HQ : Hid (atTo l (x0, x1) t (k + 1) = atTo l (x0, x1) t k) := Hid.mk (by rw [HA.out, if_neg (fun e => q1 e.2)])
          go_wp2
          go_roundw
          case rel => exact ⟨k + 1, by omega, by rw [HQ.out], by go_num, HBR.out⟩
          case measure => simp [intOf]; omega
      · have HQ : Hid (atTo l (x0, x1) t (k + 1) = atTo l (x0, x1) t k) := Hid.mk (by rw [HA.out, if_neg (fun e => q0 ⟨congrArg Prod.fst e.1, congrArg Prod.snd e.1⟩)])
        by_cases qa : x0 = y0
        · have qb : ¬ x1 = y1 := fun e => q0 ⟨qa, e⟩
          obtain rfl : x0 = y0 := qa
          clear q0
          go_wp2
          go_roundw
          case rel => exact ⟨k + 1, by omega, by rw [HQ.out], by go_num, HBR.out⟩
          case measure => simp [intOf]; omega
        · clear q0
          go_wp2
          go_roundw
          case rel => exact ⟨k + 1, by omega, by rw [HQ.out], by go_num, HBR.out⟩
          case measure => simp [intOf]; omega
    · have hle : (N : Int) ≤ (k : Int) := by omega
      have HK : Hid (k = l.length) := Hid.mk (by have := HN.out; omega)
      have HBR : Hid (Below w0.heap.size w0 wr) := Hid.mk hb
      clear hb hsr hxr
      go_wp2
      go_ret
      exact ⟨by rw [HK.out]; rfl, HB.out.trans (HBR.out.mono HB.out.size)⟩

set_option maxHeartbeats 1600000 in
set_option maxRecDepth 100000 in
theorem is_any (k i : Int) (w : World) :
    Calls Try.prog 20 #[.agg #[.int .i64 k, .int .i64 i]] w fun e w' => e = .returned (.bool (isB k i)) ∧ Below w.heap.size w w' := by
  have HB := Hid.mk ((Below.refl w.heap.size w).alloc (Nat.le_refl _) (.cells #[.int .i64 k, .int .i64 i] 36))
  by_cases h0 : 0 ≤ k
  · by_cases h1 : k ≤ 2
    · by_cases h2 : 0 ≤ i
      · by_cases h3 : i ≤ 7
        · have HV : Hid (isB k i = true) := Hid.mk (by simp [isB]; omega)
          go_enter Try.func20, Try.ntmps20
          go_wp2
          go_ret
          exact ⟨by rw [HV.out]; simp, HB.out⟩
        · have HV : Hid (isB k i = false) := Hid.mk (by simp [isB]; omega)
          go_enter Try.func20, Try.ntmps20
          go_wp2
          go_ret
          exact ⟨by rw [HV.out]; simp, HB.out⟩
      · have HV : Hid (isB k i = false) := Hid.mk (by simp [isB]; omega)
        go_enter Try.func20, Try.ntmps20
        go_wp2
        go_ret
        exact ⟨by rw [HV.out]; rfl, HB.out⟩
    · have HV : Hid (isB k i = false) := Hid.mk (by simp [isB]; omega)
      go_enter Try.func20, Try.ntmps20
      go_wp2
      go_ret
      exact ⟨by rw [HV.out]; rfl, HB.out⟩
  · have HV : Hid (isB k i = false) := Hid.mk (by simp [isB]; omega)
    go_enter Try.func20, Try.ntmps20
    go_wp2
    go_ret
    exact ⟨by rw [HV.out]; rfl, HB.out⟩

/-- Versions up to a place, and none behind it. -/
def upTo (l : List Th) (j q : Nat) : Int := if q < j then verF l q else 0

theorem upTo_one (l : List Th) (c : Int) (j : Nat) (hj : j < 24) : (nowA (upTo l j) c).setIfInBounds j (.int .i64 (verF l j)) = nowA (upTo l (j + 1)) c := by
  rw [nowA_set _ _ j hj]
  refine nowA_ext fun q hq => ?_
  unfold upTo
  by_cases e : q = j
  · rw [if_pos e, if_pos (by omega), e]
  · rw [if_neg e]
    by_cases e2 : q < j
    · rw [if_pos e2, if_pos (by omega)]
    · rw [if_neg e2, if_neg (by omega)]

theorem upTo_all (l : List Th) (c : Int) : nowA (upTo l 24) c = nowA (verF l) c := nowA_ext fun q hq => by unfold upTo; rw [if_pos hq]

theorem setRow_below {B g : Nat} {w0 w : World} {cs : Array Value} (h : Below B w0 w) (hg : B ≤ g) : Below B w0 (w.setRow g cs) :=
  ⟨h.os, h.tape, h.output, by rw [setRow_size]; exact h.size, fun k hk => (setRow_other w g k cs (by omega)).trans (h.block k hk)⟩

/-- What now's own cells hold. -/
structure Ln (P : Nat) (l : List Th) (j : Nat) (W : World) : Prop where
  res : W.heap[P]? = some (.cells (nowA (fun _ => 0) 0) 43 (0, 0))
  n : W.heap[P + 1]? = some (.cells (nowA (upTo l j) (l.length : Nat)) 43 (0, 0))

theorem Ln.grown {P : Nat} {l : List Th} {j : Nat} {A W : World} (h : Ln P l j A) (hb : Below A.heap.size A W) : Ln P l j W :=
  ⟨(hb.block _ (Array.getElem?_eq_some_iff.1 h.res).1).trans h.res, (hb.block _ (Array.getElem?_eq_some_iff.1 h.n).1).trans h.n⟩

theorem Ln.next {P : Nat} {l : List Th} {j : Nat} {A : World} (h : Ln P l j A) (hj : j < 24) : Ln P l (j + 1) (A.setCell ⟨P + 1, j, none⟩ (.int .i64 (verF l j))) := by
  refine ⟨?_, ?_⟩
  · rw [Below.heap_setCell _ _ _ _ (by show P ≠ P + 1; omega)]
    exact h.res
  · rw [heap_set _ h.n, upTo_one l _ j hj]

set_option maxHeartbeats 4000000 in
set_option maxRecDepth 100000 in
theorem now_any (h : WoAt w b v l) (hl : l.length ≤ 1000000) :
    Calls Try.prog 11 #[.pointer (some ⟨b, 0, none⟩)] w fun e w' => e = .returned (.agg (nowA (verF l) (l.length : Nat))) ∧ Below w.heap.size w w' := by
  obtain ⟨va, vc, rfl⟩ := row_shape h.owns
  have hz1 : ((w.alloc (.cells (nowA (fun _ => 0) 0) 43)).alloc (.cells (nowA (fun _ => 0) 0) 43)).heap[w.heap.size + 1]? = some (.cells (nowA (fun _ => 0) 0) 43 (0, 0)) := by
    have h := heap_new (w.alloc (.cells (nowA (fun _ => 0) 0) 43)) (.cells (nowA (fun _ => 0) 0) 43)
    rw [World.size_alloc] at h
    exact h
  have hz0 : ((w.alloc (.cells (nowA (fun _ => 0) 0) 43)).alloc (.cells (nowA (fun _ => 0) 0) 43)).heap[w.heap.size]? = some (.cells (nowA (fun _ => 0) 0) 43 (0, 0)) := by
    rw [Below.heap_alloc _ _ _ (by simp), heap_new]
  have hb1 : Below w.heap.size w ((w.alloc (.cells (nowA (fun _ => 0) 0) 43)).alloc (.cells (nowA (fun _ => 0) 0) 43)) := ((Below.refl _ w).alloc (Nat.le_refl _) _).alloc (by simp) _
  have hs0 := (h.alloc (.cells #[.int .i64 0, .int .i64 0, .int .i64 0, .int .i64 0, .int .i64 0, .int .i64 0, .int .i64 0, .int .i64 0, .int .i64 0, .int .i64 0, .int .i64 0, .int .i64 0, .int .i64 0, .int .i64 0, .int .i64 0, .int .i64 0, .int .i64 0, .int .i64 0, .int .i64 0, .int .i64 0, .int .i64 0, .int .i64 0, .int .i64 0, .int .i64 0, .int .i64 0] 43))
  have c0 := hs0.c0
  obtain ⟨N, hN⟩ : ∃ N, N = l.length := ⟨_, rfl⟩
  rw [← hN] at c0
  have HZ1 := Hid.mk hz1
  have HZ0 := Hid.mk hz0
  have HB1 := Hid.mk hb1
  have H := Hid.mk h
  have HN := Hid.mk hN
  clear hz1 hz0 hb1 hs0 h hN
  go_enter Try.func11, Try.ntmps11
  go_wp2_with (refine wpList_store_row rfl 43 _ _ rfl (w.heap.size + 1) (nowA (fun _ => 0) (N : Nat)) rfl rfl 43 (nowA (fun _ => 0) 0) HZ1.out (size_now _ _) rfl (nowA_one _ _) ?_)
  obtain ⟨W, hW⟩ : ∃ W, W = ((w.alloc (.cells #[.int .i64 0, .int .i64 0, .int .i64 0, .int .i64 0, .int .i64 0, .int .i64 0, .int .i64 0, .int .i64 0, .int .i64 0, .int .i64 0, .int .i64 0, .int .i64 0, .int .i64 0, .int .i64 0, .int .i64 0, .int .i64 0, .int .i64 0, .int .i64 0, .int .i64 0, .int .i64 0, .int .i64 0, .int .i64 0, .int .i64 0, .int .i64 0, .int .i64 0] 43)).alloc (.cells #[.int .i64 0, .int .i64 0, .int .i64 0, .int .i64 0, .int .i64 0, .int .i64 0, .int .i64 0, .int .i64 0, .int .i64 0, .int .i64 0, .int .i64 0, .int .i64 0, .int .i64 0, .int .i64 0, .int .i64 0, .int .i64 0, .int .i64 0, .int .i64 0, .int .i64 0, .int .i64 0, .int .i64 0, .int .i64 0, .int .i64 0, .int .i64 0, .int .i64 0] 43)).setRow (w.heap.size + 1) (nowA (fun _ => 0) (N : Nat)) := ⟨_, rfl⟩
  rw [← hW]
  have hL0 : Ln w.heap.size l 0 W := by
    rw [hW]
    refine ⟨(setRow_other _ _ _ _ (by omega)).trans HZ0.out, ?_⟩
    rw [← HN.out]
    refine (setRow_heap _ _ _ _ _ _ HZ1.out).trans ?_
    rw [show nowA (fun _ => 0) ((N : Nat) : Int) = nowA (upTo l 0) ((N : Nat) : Int) from nowA_ext fun q _ => by unfold upTo; rw [if_neg (by omega)]]
  have hbW : Below w.heap.size w W := by rw [hW]; exact setRow_below HB1.out (by omega)
  have HL0 := Hid.mk hL0
  have HBW := Hid.mk hbW
  clear hW hL0 hbW HZ0 HZ1 HB1 c0
  go_loopw [4, 5, 12, 15] (fun _ _ a _ wr => ∃ k : Nat, k ≤ 3 ∧ a = .int .i64 k ∧ Ln w.heap.size l (k * 8) wr ∧ Below w.heap.size w wr) (fun _ _ a _ _ => 3 - (intOf a).toNat)
  case atStart => exact ⟨0, Nat.zero_le _, rfl, HL0.out, HBW.out⟩
  case round =>
    clear HL0 HBW
    obtain ⟨k, hk, rfl, hL, hB⟩ := hrel
    have HL := Hid.mk hL
    have HB := Hid.mk hB
    clear hL hB
    by_cases hk3 : k < 3
    · have k0 : (k : Int) < 3 := by omega
      have k1 : ¬ (k : Int) < 0 := by omega
      go_wp2
      go_loopw [5, 15] (fun _ a wi => ∃ i : Nat, i ≤ 8 ∧ a = .int .i64 i ∧ Ln w.heap.size l (k * 8 + i) wi ∧ Below w.heap.size w wi) (fun _ a _ => 8 - (intOf a).toNat)
      case atStart => exact ⟨0, Nat.zero_le _, rfl, HL.out, HB.out⟩
      case round =>
        clear HL HB
        obtain ⟨i, hi, rfl, hL, hB⟩ := hrel
        by_cases hi8 : i < 8
        · have i0 : (i : Int) < 8 := by omega
          have i1 : ¬ (i : Int) < 0 := by omega
          have hwo := H.out.grown hB
          have c0 := hwo.c0
          have hver : verF l (k * 8 + i) = (nw l ((k : Int), (i : Int)) : Int) := by
            unfold verF
            rw [show (k * 8 + i) / 8 = k by omega, show (k * 8 + i) % 8 = i by omega]
          have hat := fun (z : World) (hz : WoAt z b (.slice va l.length vc) l) => at_any hz hl ((k : Int), (i : Int)) (l.length : Nat)
          have he : ∀ z, Below wr.heap.size wr z → z.heap.size = z.heap.size := fun _ _ => rfl
          rw [← HN.out] at c0 hat hwo
          have HWO := Hid.mk hwo
          have HVER := Hid.mk hver
          have HAT := Hid.mk hat
          have HL := Hid.mk hL
          have HB := Hid.mk hB
          clear hwo hver hat hL hB he
          obtain ⟨V, hV⟩ : ∃ V : Int, V = (atN l ((k : Int), (i : Int)) (l.length : Nat) : Nat) := ⟨_, rfl⟩
          have HV := Hid.mk hV
          rw [← HN.out] at hV
          rw [← hV] at HAT
          clear hV
          go_wp2_with fail
          go_region_with ((go_at_call 21; refine (HAT.out _ HWO.out.drew).mono ?_; rintro e w5 ⟨rfl, hb5⟩; have hl5 := (HL.out.grown (W := wr.drew) (Below.refl _ _).drew).grown hb5; have cs : w5.cell? ⟨w.heap.size + 1, k * 8 + i, none⟩ = some (.int .i64 (upTo l (k * 8 + i) (k * 8 + i))) := cell_at hl5.n (nowA_at _ _ _ (by omega)); have fs : w5.frozen? ⟨w.heap.size + 1, k * 8 + i, none⟩ = false := free_at hl5.n))
          all_goals
            have HL5 := Hid.mk hl5
            have HB5 := Hid.mk ((HB.out.drew).trans (hb5.mono HB.out.drew.size))
            clear hl5 hb5 cs fs c0
            go_wp2
            go_roundw
            case rel =>
              refine ⟨i + 1, by omega, by go_num, ?_, HB5.out.setCell (p := ⟨w.heap.size + 1, k * 8 + i, none⟩) (by show w.heap.size ≤ w.heap.size + 1; omega) _⟩
              have hn := HL5.out.next (by omega)
              rw [HVER.out] at hn
              rw [HV.out]
              exact hn
            case measure => simp [intOf]; omega
        · have hi9 : (8 : Int) ≤ (i : Int) := by omega
          have hie : i = 8 := by omega
          have HL := Hid.mk hL
          have HB := Hid.mk hB
          have HI := Hid.mk hie
          clear hL hB hie
          go_wp2
          go_roundw
          case rel => exact ⟨k + 1, by omega, by go_num, by have h := HL.out; rw [HI.out] at h; rw [show (k + 1) * 8 = k * 8 + 8 by omega]; exact h, HB.out⟩
          case measure => simp [intOf]; omega
    · have hk9 : (3 : Int) ≤ (k : Int) := by omega
      have hke : k = 3 := by omega
      subst hke
      have hf : nowA (upTo l (3 * 8)) (l.length : Nat) = nowA (verF l) (l.length : Nat) := upTo_all l _
      have hn := HL.out.n
      rw [hf] at hn
      have HNN := Hid.mk hn
      clear hf hn
      go_wp2_with (first | (refine wpList_load_row rfl 43 _ rfl (w.heap.size + 1) rfl 43 (nowA (verF l) (l.length : Nat)) (0, 0) _ HNN.out Try.underlying43 rfl (size_now _ _) ?_) | (refine wpList_store_row rfl 43 _ _ rfl w.heap.size (nowA (verF l) (l.length : Nat)) rfl rfl 43 (nowA (fun _ => 0) 0) HL.out.res (size_now _ _) rfl (nowA_one _ _) ?_))
      refine bodyPost_ret (v := .agg (nowA (verF l) (l.length : Nat))) ?_ rfl ⟨rfl, setRow_below HB.out (Nat.le_refl _)⟩
      exact results_cell_row rfl _ _ w.heap.size 43 _ (0, 0) _ rfl (setRow_heap _ _ _ _ _ _ HL.out.res) Try.underlying43 rfl (size_now _ _)

end

end Go.Proofs.Ytafpfioonbdgnaa.Rds
