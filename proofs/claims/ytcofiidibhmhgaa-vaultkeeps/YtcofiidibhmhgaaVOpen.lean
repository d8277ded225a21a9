/-
  The walks of Open, and of the vault's Append, Force, Size and Epoch.
-/
import Derived.BigRegion
import Derived.Test.YtcofiidibhmhgaaVMem
namespace Go.Proofs.Ytcofiidibhmhgaa
open Go.RowKit

set_option maxRecDepth 100000 in
theorem vEpoch_nil (w : World) : Calls Try.prog 15 #[.pointer none] w fun en w' => en = .returned (.int .i64 0) ∧ w' = w := by
  go_enter Try.func15, Try.ntmps15
  go_wp2
  go_ret
  exact ⟨rfl, rfl⟩
set_option maxRecDepth 100000 in
theorem vSize_nil (w : World) : Calls Try.prog 21 #[.pointer none] w fun en w' => en = .returned (.int .i64 0) ∧ w' = w := by
  go_enter Try.func21, Try.ntmps21
  go_wp2
  go_ret
  exact ⟨rfl, rfl⟩
set_option maxRecDepth 100000 in
theorem vForce_nil (w : World) : Calls Try.prog 22 #[.pointer none] w fun en w' => en = .returned (.tuple #[]) ∧ w' = w := by
  go_enter Try.func22, Try.ntmps22
  go_wp2
  go_end0
  exact ⟨rfl, rfl⟩
set_option maxRecDepth 100000 in
theorem vAppend_nil (s : ByteArray) (w : World) : Calls Try.prog 17 #[.pointer none, .string s] w fun en w' => en = .returned (.int .i64 2) ∧ w' = w := by
  go_enter Try.func17, Try.ntmps17
  go_wp2
  go_ret
  exact ⟨rfl, rfl⟩
set_option maxRecDepth 100000 in
theorem vSettle_nil (s : ByteArray) (w : World) : Calls Try.prog 18 #[.pointer none, .string s] w fun en w' => en = .returned (.int .i64 2) ∧ w' = w := by
  go_enter Try.func18, Try.ntmps18
  go_wp2
  go_ret
  exact ⟨rfl, rfl⟩

set_option maxRecDepth 100000 in
theorem vOpen_nil (w : World) : Calls Try.prog 13 #[.pointer none] w fun en w' => en = .returned (.tuple #[.pointer none, .agg #[.string ⟨#[]⟩, .slice none 0 0], .int .i64 2]) ∧ Below w.heap.size w w' := by
  go_enter Try.func13, Try.ntmps13
  go_wp2
  refine bodyPost_ret (v := .tuple #[.pointer none, .agg #[.string ⟨#[]⟩, .slice none 0 0], .int .i64 2]) (by simp [results, Try.f13, go_sem]) rfl ?_
  exact ⟨rfl, (Below.refl _ w).alloc (Nat.le_refl _) _⟩

section
variable {w : World} {vb lb ob b : Nat} {v : Value} {y tn tm : Bool} {e : Nat} {st : Bool} {dn ws : List Ch}

set_option maxRecDepth 100000 in
theorem vEpoch_any (h : VAt w vb lb ob e st) : Calls Try.prog 15 #[.pointer (some ⟨vb, 0, none⟩)] w fun en w' => en = .returned (.int .i64 e) ∧ w' = w := by
  have c2 := h.c2
  go_enter Try.func15, Try.ntmps15
  go_wp2
  go_ret
  exact ⟨rfl, rfl⟩

set_option maxRecDepth 100000 in
theorem vSize_any (ha : VAt w vb lb ob e st) (hl : LogAt w lb b y tn) (h : Has w b v dn ws) (L : List ByteArray) (hL : AllOf (txt y (dn ++ ws)).data.toList L) :
    Calls Try.prog 21 #[.pointer (some ⟨vb, 0, none⟩)] w fun en w' => en = .returned (.int .i64 (wholeN L : Nat)) ∧ Below w.heap.size w w' := by
  have c0 := ha.c0
  have HL := Hid.mk hL
  clear hL
  go_enter Try.func21, Try.ntmps21
  go_wp2_with fail
  refine (size_any hl h L HL.out).mono ?_
  rintro en w1 ⟨rfl, hb⟩
  go_wp2
  go_ret
  exact ⟨rfl, hb⟩

set_option maxRecDepth 100000 in
theorem vForce_any (ha : VAt w vb lb ob e st) (hl : LogAt w lb b y tn) (h : Has w b v dn ws) :
    Calls Try.prog 22 #[.pointer (some ⟨vb, 0, none⟩)] w fun en w' => en = .returned (.tuple #[]) ∧ Has w' b (.slice none 0 0) (dn ++ ws) [] ∧ Wrote b v w (.slice none 0 0) w' := by
  have c0 := ha.c0
  go_enter Try.func22, Try.ntmps22
  go_wp2_with fail
  refine (force_any hl h).mono ?_
  rintro en w1 ⟨rfl, R⟩
  have HR := Hid.mk R
  clear R
  go_wp2
  go_end0
  exact ⟨rfl, HR.out⟩

set_option maxRecDepth 100000 in
theorem vAppend_stale (ha : VAt w vb lb ob e false) (s : ByteArray) :
    Calls Try.prog 17 #[.pointer (some ⟨vb, 0, none⟩), .string s] w fun en w' => en = .returned (.int .i64 9) ∧ w' = w := by
  have c3 := ha.c3
  go_enter Try.func17, Try.ntmps17
  go_wp2
  go_ret
  exact ⟨rfl, rfl⟩

set_option maxRecDepth 100000 in
theorem vAppend_any (s : ByteArray) (ha : VAt w vb lb ob e true) (hl : LogAt w lb b y tn) (h : Has w b v dn ws) (hs : s.size ≤ 100000000) (hn : ws.length ≤ 1000000) :
    Calls Try.prog 17 #[.pointer (some ⟨vb, 0, none⟩), .string s] w fun en w' => en = .returned (.int .i64 (stepL y tn (ldB s) dn ws).1) ∧
      ∃ v', Has w' b v' dn (stepL y tn (ldB s) dn ws).2 ∧ Wrote b v w v' w' := by
  have c0 := ha.c0
  have c3 := ha.c3
  have hz := ldB_size s
  have hc := logAppend_any (ldB s) hl h (by omega) hn
  rw [← ldB_add s] at hc ⊢
  have HC := Hid.mk hc
  clear hc
  go_enter Try.func17, Try.ntmps17
  go_wp2_with fail
  refine HC.out.mono ?_
  rintro en w1 ⟨rfl, R⟩
  have HR := Hid.mk R
  clear R
  go_wp2
  go_ret
  exact ⟨rfl, HR.out⟩

theorem row_low {w : World} {b b' n : Nat} {v : Value} {xs : List Value} (h : w.ownsRow b 9 1 v n xs) (hb : b' ≤ b) : w.ownsRow b' 9 1 v n xs := by
  refine ⟨h.1, ?_⟩
  rcases h.2 with e | ⟨g, cap, cur, e, h0, r⟩
  · exact .inl e
  · exact .inr ⟨g, cap, cur, e, Nat.le_trans hb h0, r⟩

/-- A block is laid, and both cells of block B are others. -/
structure After (B : Nat) (w w' : World) (cs : Array Value) (t : TypeId) (x y : Value) : Prop where
  block : ∀ k, k < w.heap.size → k ≠ B → w'.heap[k]? = w.heap[k]?
  new : w'.heap[w.heap.size]? = some (.cells cs t (0, 0))
  at_ : w'.heap[B]? = some (.cells #[x, y] 31 (0, 0))
  below : Below B w w'

theorem after_mk {B : Nat} {w : World} {x0 y0 : Value} (h : w.heap[B]? = some (.cells #[x0, y0] 31 (0, 0))) (cs : Array Value) (t : TypeId) (x y : Value) :
    After B w (((w.alloc (.cells cs t)).setCell ⟨B, 0, none⟩ x).setCell ⟨B, 1, none⟩ y).drew cs t x y := by
  have hlt := (Array.getElem?_eq_some_iff.1 h).1
  have k1 : (w.alloc (.cells cs t)).heap[B]? = some (.cells #[x0, y0] 31 (0, 0)) := (Below.heap_alloc _ _ _ hlt).trans h
  have k2 : ((w.alloc (.cells cs t)).setCell ⟨B, 0, none⟩ x).heap[B]? = some (.cells #[x, y0] 31 (0, 0)) := by rw [heap_set _ k1]; simp
  refine ⟨fun k hk hne => ?_, ?_, ?_, (((Below.refl B w).alloc (Nat.le_of_lt hlt) _).setCell (p := ⟨B, 0, none⟩) (Nat.le_refl _) _).setCell (p := ⟨B, 1, none⟩) (Nat.le_refl _) _ |>.drew⟩
  · show (((w.alloc (.cells cs t)).setCell ⟨B, 0, none⟩ x).setCell ⟨B, 1, none⟩ y).heap[k]? = _
    rw [Below.heap_setCell _ _ _ _ hne, Below.heap_setCell _ _ _ _ hne, Below.heap_alloc _ _ _ hk]
  · show (((w.alloc (.cells cs t)).setCell ⟨B, 0, none⟩ x).setCell ⟨B, 1, none⟩ y).heap[w.heap.size]? = _
    rw [Below.heap_setCell _ _ _ _ (by show w.heap.size ≠ B; omega), Below.heap_setCell _ _ _ _ (by show w.heap.size ≠ B; omega)]
    exact heap_alloc_new w _
  · show (((w.alloc (.cells cs t)).setCell ⟨B, 0, none⟩ x).setCell ⟨B, 1, none⟩ y).heap[B]? = _
    rw [heap_set _ k2]; simp

theorem After.log {B : Nat} {w w' : World} {cs : Array Value} {t : TypeId} {x y x0 y0 : Value} {lb b : Nat} {o tn : Bool} (h : After B w w' cs t x y) (hr : w.heap[B]? = some (.cells #[x0, y0] 31 (0, 0))) (hl : LogAt w lb b o tn) : LogAt w' lb b o tn :=
  hl.carry (h.block lb hl.lt (ne_block hl.at_ hr (by decide)))
theorem After.row {B base n : Nat} {w w' : World} {cs : Array Value} {t : TypeId} {x y x0 y0 v : Value} {xs : List Value} (h : After B w w' cs t x y) (hr : w.heap[B]? = some (.cells #[x0, y0] 31 (0, 0))) (hv : w.ownsRow base 9 1 v n xs) : w'.ownsRow base 9 1 v n xs := by
  refine ⟨hv.1, ?_⟩
  rcases hv.2 with e | ⟨g, cap, cur, e, h0, hg, r⟩
  · exact .inl e
  · exact .inr ⟨g, cap, cur, e, h0, (h.block g (Array.getElem?_eq_some_iff.1 hg).1 (ne_block hg hr (by decide))).trans hg, r⟩

set_option maxHeartbeats 1600000 in
set_option maxRecDepth 100000 in
theorem vOpen_two (h : Has w b v dn ws) {L0 L1 : List ByteArray} {e0 e1 : Nat} {s0 s1 : ByteArray} {l0 l1 : List ByteArray} (hL0 : AllOf (txt false (dn ++ ws)).data.toList L0) (hL1 : AllOf (txt true (dn ++ ws)).data.toList L1) (hT0 : Told L0 e0 s0 l0) (hT1 : Told L1 e1 s1 l1) :
    Calls Try.prog 13 #[.pointer (some ⟨b, 0, none⟩)] w fun en w' => ∃ vb lb ob t0 t1 vr, 
      ((e0 < e1 ∧ en = .returned (.tuple #[.pointer (some ⟨vb, 0, none⟩), .agg #[.string s1, vr], .int .i64 0]) ∧ VAt w' vb ob lb e1 false ∧ w'.ownsRow w.heap.size 9 1 vr l1.length (textCells l1)) ∨
       (¬ e0 < e1 ∧ en = .returned (.tuple #[.pointer (some ⟨vb, 0, none⟩), .agg #[.string s0, vr], .int .i64 0]) ∧ VAt w' vb lb ob e0 false ∧ w'.ownsRow w.heap.size 9 1 vr l0.length (textCells l0))) ∧
      LogAt w' lb b false t0 ∧ LogAt w' ob b true t1 ∧ lb ≠ ob ∧ w.heap.size ≤ vb ∧ w.heap.size ≤ lb ∧ w.heap.size ≤ ob ∧ Below w.heap.size w w' := by
  have hb1 : Below w.heap.size w (w.alloc (.cells #[.string ⟨#[]⟩, .slice none 0 0] 31)) := (Below.refl _ w).alloc (Nat.le_refl _) _
  have h1 := h.grown hb1
  have r1 := heap_alloc_new w (.cells #[.string ⟨#[]⟩, .slice none 0 0] 31)
  have HL0 := Hid.mk hL0
  have HL1 := Hid.mk hL1
  have HT0 := Hid.mk hT0
  have HT1 := Hid.mk hT1
  clear hL0 hL1 hT0 hT1 h
  go_enter Try.func13, Try.ntmps13
  go_wp2_with fail
  refine (walOpen_yes false h1 L0 HL0.out).mono ?_
  rintro en w2 ⟨rfl, hl2, hb2⟩
  have h2 := h1.grown hb2
  have r2 := (hb2.block w.heap.size (by simp)).trans r1
  have hB2 := hb1.trans (hb2.mono (by simp))
  have hz2 : w.heap.size < w2.heap.size := by have := hb2.size; simp at this; omega
  rw [World.size_alloc] at hl2
  clear h1 r1 hb1 hb2
  go_wp2_with fail
  refine (walOpen_yes true h2 L1 HL1.out).mono ?_
  rintro en w3 ⟨rfl, hl3, hb3⟩
  have h3 := h2.grown hb3
  have hl23 := hl2.grown hb3
  have hl2lt := hl2.lt
  have r3 := (hb3.block w.heap.size hz2).trans r2
  have hB3 := hB2.trans (hb3.mono (by omega))
  have hz3 := hb3.size
  clear h2 r2 hB2 hb3 hl2
  go_wp2_with fail
  refine (told_any hl23 h3 L0 HL0.out e0 s0 l0 HT0.out).mono ?_
  rintro en w4 ⟨v4, rfl, row4, hb4⟩
  obtain ⟨a4, c4, rfl, _⟩ := texts_of_row row4
  have h4 := h3.grown hb4
  have hl24 := hl23.grown hb4
  have hl34 := hl3.grown hb4
  have r4 := (hb4.block w.heap.size (by omega)).trans r3
  have hB4 := hB3.trans (hb4.mono (by omega))
  have hz4 := hb4.size
  have HR4 := Hid.mk row4
  clear h3 r3 hB3 hb4 hl23 hl3 row4
  have hb5 : Below w4.heap.size w4 (w4.alloc (.cells #[.string s0, .slice a4 l0.length c4] 31)) := (Below.refl _ w4).alloc (Nat.le_refl _) _
  have h5 := h4.grown hb5
  have hl25 := hl24.grown hb5
  have hl35 := hl34.grown hb5
  have x5 := heap_alloc_new w4 (.cells #[.string s0, .slice a4 l0.length c4] 31)
  clear h4 hl24 hl34
  go_wp2_with fail
  refine (told_any hl35 h5 L1 HL1.out e1 s1 l1 HT1.out).mono ?_
  rintro en w6 ⟨v6, rfl, row6, hb6⟩
  obtain ⟨a6, c6, rfl, _⟩ := texts_of_row row6
  have h46 : Below w4.heap.size w4 w6 := hb5.trans (hb6.mono (by simp))
  have hl26 := hl25.grown hb6
  have hl36 := hl35.grown hb6
  have hz6 := h46.size
  have r6 := (h46.block w.heap.size (by omega)).trans r4
  have x6 := (hb6.block w4.heap.size (by simp)).trans x5
  have hB6 := hB4.trans (h46.mono (by omega))
  have hx6 : w4.heap.size < w6.heap.size := by have := hb6.size; simp at this; omega
  have row46 := (Keeps.below h46).row HR4.out
  have row66 : w6.ownsRow w.heap.size 9 1 (.slice a6 l1.length c6) l1.length (textCells l1) := row_low row6 (by simp; omega)
  have hb7 : Below w6.heap.size w6 (w6.alloc (.cells #[.string s1, .slice a6 l1.length c6] 31)) := (Below.refl _ w6).alloc (Nat.le_refl _) _
  have x7 := heap_alloc_new w6 (.cells #[.string s1, .slice a6 l1.length c6] 31)
  have y7 := (hb7.block w4.heap.size hx6).trans x6
  have r7 := (hb7.block w.heap.size (by omega)).trans r6
  have HF := Hid.mk (And.intro (hl26.grown hb7) (And.intro (hl36.grown hb7) (And.intro ((Keeps.below hb7).row row46) (And.intro ((Keeps.below hb7).row row66) (And.intro r7 (hB6.trans (hb7.mono (by omega))))))))
  have HY7 := Hid.mk y7
  obtain ⟨p70, p71, q70, q71⟩ := box2 x7
  obtain ⟨p40, p41, q40, q41⟩ := box2 y7
  obtain ⟨p00, p01, q00, q01⟩ := box2 r7
  clear hb5 h5 hl25 hl35 x5 r4 hB4 HR4 row6 hb6 h46 hl26 hl36 r6 x6 hB6 row46 row66 hb7 x7 y7 r7
  by_cases hlt : e0 < e1
  · have hlt' : (e0 : Int) < (e1 : Int) := by omega
    obtain ⟨p80, p81, q80, q81⟩ := box2 ((((Below.refl _ (w6.alloc (.cells #[.string s1, .slice a6 l1.length c6] 31))).alloc (Nat.le_refl _) (.cells #[.pointer (some ⟨w2.heap.size, 0, none⟩), .pointer (some ⟨w.heap.size + 1, 0, none⟩), .int .i64 e1, .bool false] 66)).block w.heap.size (by simp; omega)).trans HF.out.2.2.2.2.1)
    go_wp2_with fail
    go_region
    go_wp2
    obtain ⟨k1, k2, k3, k4, k5, k6⟩ := HF.out
    have hA := after_mk k5 #[.pointer (some ⟨w2.heap.size, 0, none⟩), .pointer (some ⟨w.heap.size + 1, 0, none⟩), .int .i64 e1, .bool false] 66 (.string s1) (.slice a6 l1.length c6)
    obtain ⟨g0, g1, _, _⟩ := box2 hA.at_
    refine bodyPost_ret (v := .tuple #[.pointer (some ⟨w6.heap.size + 1, 0, none⟩), .agg #[.string s1, .slice a6 l1.length c6], .int .i64 0]) (by simp [results, Try.f13, go_sem, g0, g1]) rfl ?_
    refine ⟨w6.heap.size + 1, w.heap.size + 1, w2.heap.size, _, _, _, .inl ⟨hlt, rfl, ⟨?_⟩, hA.row k5 k4⟩, hA.log k5 k1, hA.log k5 k2, by omega, by omega, by omega, by omega, k6.trans hA.below⟩
    have := hA.new
    rw [World.size_alloc] at this
    exact this
  · have hlt' : ¬ (e0 : Int) < (e1 : Int) := by omega
    obtain ⟨p80, p81, q80, q81⟩ := box2 ((((Below.refl _ (w6.alloc (.cells #[.string s1, .slice a6 l1.length c6] 31))).alloc (Nat.le_refl _) (.cells #[.pointer (some ⟨w.heap.size + 1, 0, none⟩), .pointer (some ⟨w2.heap.size, 0, none⟩), .int .i64 e0, .bool false] 66)).block w.heap.size (by simp; omega)).trans HF.out.2.2.2.2.1)
    obtain ⟨p90, p91, q90, q91⟩ := box2 ((((Below.refl _ (w6.alloc (.cells #[.string s1, .slice a6 l1.length c6] 31))).alloc (Nat.le_refl _) (.cells #[.pointer (some ⟨w.heap.size + 1, 0, none⟩), .pointer (some ⟨w2.heap.size, 0, none⟩), .int .i64 e0, .bool false] 66)).block w4.heap.size (by simp; omega)).trans HY7.out)
    go_wp2_with fail
    go_region
    go_wp2
    obtain ⟨k1, k2, k3, k4, k5, k6⟩ := HF.out
    have hA := after_mk k5 #[.pointer (some ⟨w.heap.size + 1, 0, none⟩), .pointer (some ⟨w2.heap.size, 0, none⟩), .int .i64 e0, .bool false] 66 (.string s0) (.slice a4 l0.length c4)
    obtain ⟨g0, g1, _, _⟩ := box2 hA.at_
    refine bodyPost_ret (v := .tuple #[.pointer (some ⟨w6.heap.size + 1, 0, none⟩), .agg #[.string s0, .slice a4 l0.length c4], .int .i64 0]) (by simp [results, Try.f13, go_sem, g0, g1]) rfl ?_
    refine ⟨w6.heap.size + 1, w.heap.size + 1, w2.heap.size, _, _, _, .inr ⟨hlt, rfl, ⟨?_⟩, hA.row k5 (row_low k3 (by omega))⟩, hA.log k5 k1, hA.log k5 k2, by omega, by omega, by omega, by omega, k6.trans hA.below⟩
    have := hA.new
    rw [World.size_alloc] at this
    exact this

set_option maxRecDepth 100000 in
theorem vOpen_any (h : Has w b v dn ws) {s : ByteArray} {lds : List ByteArray} (hF : Fnd dn ws y e s lds) :
    Calls Try.prog 13 #[.pointer (some ⟨b, 0, none⟩)] w fun en w' => ∃ vb lb ob tn tm vr, en = .returned (.tuple #[.pointer (some ⟨vb, 0, none⟩), .agg #[.string s, vr], .int .i64 0]) ∧
      VAt w' vb lb ob e false ∧ LogAt w' lb b y tn ∧ LogAt w' ob b (!y) tm ∧ lb ≠ ob ∧ w.heap.size ≤ vb ∧ w.heap.size ≤ lb ∧ w.heap.size ≤ ob ∧ w'.ownsRow w.heap.size 9 1 vr lds.length (textCells lds) ∧ Below w.heap.size w w' := by
  obtain ⟨L, M, f, t, m, hL, hM, hT, hU, hlt⟩ := hF
  cases y with
  | true =>
    refine (vOpen_two h hM hL hU hT).mono ?_
    rintro en w' ⟨vb, lb, ob, t0, t1, vr, ⟨_, he, ha, hr⟩ | ⟨hn, _⟩, k1, k2, k3, k4, k5, k6, k7⟩
    · exact ⟨vb, ob, lb, t1, t0, vr, he, ha, k2, k1, Ne.symm k3, k4, k6, k5, hr, k7⟩
    · exact absurd hlt hn
  | false =>
    refine (vOpen_two h hL hM hT hU).mono ?_
    rintro en w' ⟨vb, lb, ob, t0, t1, vr, ⟨hn, _⟩ | ⟨_, he, ha, hr⟩, k1, k2, k3, k4, k5, k6, k7⟩
    · exact absurd hlt (by simp; omega)
    · exact ⟨vb, lb, ob, t0, t1, vr, he, ha, k1, k2, k3, k4, k5, k6, hr, k7⟩

set_option maxRecDepth 100000 in
/-- Opened anew, on a disk of the law's own. -/
theorem mvOpen {B : Nat} {w0 : World} (h : Mine B w0 w b v dn ws) {s : ByteArray} {lds : List ByteArray} (hF : Fnd dn ws y e s lds) :
    Calls Try.prog 13 #[.pointer (some ⟨b, 0, none⟩)] w fun en w' => ∃ vb lb ob tn tm va vc, en = .returned (.tuple #[.pointer (some ⟨vb, 0, none⟩), .agg #[.string s, .slice va lds.length vc], .int .i64 0]) ∧
      MV B w0 w' vb lb ob b v y tn tm e false dn ws ∧ w'.ownsRow w.heap.size 9 1 (.slice va lds.length vc) lds.length (textCells lds) ∧ Below w.heap.size w w' := by
  refine (vOpen_any h.has hF).mono ?_
  rintro en w' ⟨vb, lb, ob, tn, tm, vr, he, ha, hl, ho, hne, h1, h2, h3, hr, hb⟩
  obtain ⟨va, vc, rfl, _⟩ := texts_of_row hr
  have := h.lo
  exact ⟨vb, lb, ob, tn, tm, va, vc, he, ⟨h.grow hb, ha, hl, ho, hne, by omega, by omega, by omega⟩, hr, hb⟩

end

end Go.Proofs.Ytcofiidibhmhgaa
