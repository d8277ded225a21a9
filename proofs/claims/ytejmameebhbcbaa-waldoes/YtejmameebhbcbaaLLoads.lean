/-
  The walks of the log's All, of the law's own 'loads', and of Lasting.
-/
import Derived.Stop.RegionWithIn
import Derived.Maps.AppendAt
import Derived.Test.YtejmameebhbcbaaLApp
namespace Go.Proofs.Ytejmameebhbcbaa
open Go.RowKit Go.Shelf
attribute [local go_sem] Oper.semAt_some

/-- What All answers: the iterator over these bytes. -/
def Iter (s : ByteArray) (w : World) (e : Ending) (w' : World) : Prop :=
  ∃ k, e = .returned (.func (.func 51) #[] #[.pointer (some ⟨k, 0, none⟩)]) ∧ w.heap.size ≤ k ∧ k < w'.heap.size ∧ w'.cell? ⟨k, 0, none⟩ = some (.string s) ∧ Below w.heap.size w w'

theorem wall_any (s : ByteArray) (w : World) : Calls Try.prog 37 #[.string s] w (Iter s w) := by
  refine (callsIn_wide (n := 3)).1 ((all_in 3 s w).mono ?_)
  rintro e w' ⟨rfl, rfl⟩
  exact ⟨w.heap.size, rfl, Nat.le_refl _, by simp, (laid_one w _ _).1, (Below.refl _ _).alloc (Nat.le_refl _) _⟩

section
variable {w : World} {lb b : Nat} {v : Value} {o tn : Bool} {dn ws : List Ch}

set_option maxHeartbeats 400000 in
theorem logAll_any (hl : LogAt w lb b o tn) (h : Has w b v dn ws) :
    Calls Try.prog 29 #[.pointer (some ⟨lb, 0, none⟩)] w (Iter (txt o (dn ++ ws)) w) := by
  go_enter Try.func29, Try.ntmps29
  go_wp2_with fail
  refine (now_any hl h).mono ?_
  rintro e w1 ⟨rfl, hb1⟩
  go_wp2_with fail
  refine (wall_any _ _).mono ?_
  rintro e w2 ⟨k, rfl, hk, hk2, hc, hb2⟩
  have HC := Hid.mk hc
  clear hc
  go_wp2
  go_ret
  exact ⟨k, rfl, Nat.le_trans hb1.size hk, hk2, HC.out, hb1.trans (hb2.mono hb1.size)⟩

set_option maxHeartbeats 400000 in
theorem logAll_nil (w : World) : Calls Try.prog 29 #[.pointer none] w (Iter ⟨#[]⟩ w) := by
  go_enter Try.func29, Try.ntmps29
  go_wp2_with fail
  refine (now_nil _).mono ?_
  rintro e w1 ⟨rfl, rfl⟩
  go_wp2_with fail
  refine (wall_any _ _).mono ?_
  rintro e w2 ⟨k, rfl, hk, hk2, hc, hb2⟩
  have HC := Hid.mk hc
  clear hc
  go_wp2
  go_ret
  exact ⟨k, rfl, hk, hk2, HC.out, hb2⟩

end

theorem box_cell {W : World} {B : Nat} {v : Value} {t : TypeId} (h : W.heap[B]? = some (.cells #[v] t (0, 0))) : W.cell? ⟨B, 0, none⟩ = some v ∧ W.frozen? ⟨B, 0, none⟩ = false := by
  constructor <;> simp [World.cell?, World.frozen?, h]

/-- What 'out' holds between two rounds. -/
structure OutAt (base B : Nat) (pre : List ByteArray) (W : World) : Prop where
  box : ∃ v, W.heap[B]? = some (.cells #[v] 32 (0, 0)) ∧ W.ownsRow base 9 1 v pre.length (textCells pre)

theorem row_abides {A W : World} {row : Option Nat} {base : Nat} {e : TypeId} {size : Nat} {v : Value} {k : Nat} {xs : List Value} (h : A.ownsRow base e size v k xs) (hg : A.grownBy W row)
    (hr : ∀ r, row = some r → ∃ o : Obj, A.heap[r]? = some o ∧ o.isCells = false) : W.ownsRow base e size v k xs := by
  refine h.kept hg ?_
  rcases h.2 with ⟨rfl, _⟩ | ⟨g, cap, cur, rfl, _, hgb, _⟩
  · exact .inl rfl
  · refine .inr fun e' => ?_
    obtain ⟨o, ho, hw⟩ := hr g (by simpa [Value.ownBlock] using e'.symm)
    rw [hgb] at ho; cases ho; cases hw

theorem OutAt.kept {base B : Nat} {pre : List ByteArray} {A W : World} {row : Option Nat} (h : OutAt base B pre A) (hg : A.grownBy W row) (hr : ∀ r, row = some r → ∃ o : Obj, A.heap[r]? = some o ∧ o.isCells = false) : OutAt base B pre W := by
  obtain ⟨v, hv, hrow⟩ := h.box
  refine ⟨v, ?_, row_abides hrow hg hr⟩
  rw [hg.block B (Array.getElem?_eq_some_iff.1 hv).1 (fun e => ?_)]
  · exact hv
  · obtain ⟨o, ho, hw⟩ := hr B e.symm
    rw [hv] at ho; cases ho; cases hw

theorem row_cells {W : World} {base : Nat} {e : TypeId} {size : Nat} {v : Value} {k : Nat} {xs : List Value} (h : W.ownsRow base e size v k xs) : ∀ (j : Nat) (o : Obj), v.ownBlock = some j → W.heap[j]? = some o → o.isCells = true := by
  intro j o hj ho
  rcases h.2 with ⟨rfl, _⟩ | ⟨g, cap, cur, rfl, _, hgb, _⟩
  · simp [Value.ownBlock] at hj
  · have : g = j := by simpa [Value.ownBlock] using hj
    subst this; rw [hgb] at ho; cases ho; rfl

theorem row_shape {W : World} {base : Nat} {e : TypeId} {size : Nat} {v : Value} {k : Nat} {xs : List Value} (h : W.ownsRow base e size v (k + 1) xs) : ∃ g cap, v = .slice (some ⟨g, 0, none⟩) (k + 1) cap := by
  rcases h.2 with ⟨_, h0⟩ | ⟨g, cap, _, e, _⟩
  · omega
  · exact ⟨g, cap, e⟩

/-- A round: the row has one more, and the box holds it. -/
theorem OutAt.added {base B : Nat} {pre : List ByteArray} {x : ByteArray} {W w3 : World} {v v' : Value} (hv : W.heap[B]? = some (.cells #[v] 32 (0, 0))) (hrow : W.ownsRow base 9 1 v pre.length (textCells pre))
    (hown : w3.ownsRow base 9 1 v' (pre.length + 1) (textCells pre ++ [.string x])) (hg : (W.alloc (.cells #[.string x] 9)).grownBy w3 v.ownBlock) :
    w3.heap[B]? = some (.cells #[v] 32 (0, 0)) ∧ OutAt base B (pre ++ [x]) (w3.setCell ⟨B, 0, none⟩ v') ∧ KeepsOthers W (w3.setCell ⟨B, 0, none⟩ v') := by
  have hBlt := (Array.getElem?_eq_some_iff.1 hv).1
  have hnv : v.ownBlock ≠ some B := fun e => by
    rcases hrow.2 with ⟨rfl, _⟩ | ⟨g, cap, cur, rfl, _, hgb, _⟩
    · simp [Value.ownBlock] at e
    · have : g = B := by simpa [Value.ownBlock] using e
      subst this
      exact ne_block hgb hv (by decide) rfl
  have h3 : w3.heap[B]? = some (.cells #[v] 32 (0, 0)) := by
    rw [hg.block B (by simp; omega) (fun e => hnv e.symm), Below.heap_alloc _ _ _ hBlt]
    exact hv
  refine ⟨h3, ⟨v', ?_, ?_⟩, ((KeepsOthers.alloc W _).trans (KeepsOthers.of_grownBy hg (row_cells (hrow.alloc _)))).trans (KeepsOthers.setCell _ _ _)⟩
  · rw [heap_set _ h3]; simp
  · have hl : (pre ++ [x]).length = pre.length + 1 := by simp
    rw [hl, textCells_append]
    refine ⟨hown.1, ?_⟩
    rcases hown.2 with h0 | ⟨g, cap, cur, e, h0, hg', r⟩
    · exact .inl h0
    · refine .inr ⟨g, cap, cur, e, h0, ?_, r⟩
      rw [Below.heap_setCell _ _ _ _ (ne_block hg' h3 (by decide))]
      exact hg'

set_option maxRecDepth 100000 in
set_option maxHeartbeats 2000000 in
theorem loads_of (p : Value) (s : ByteArray) (L : List ByteArray) (w : World) (hsz : s.size ≤ 50000) (hL : AllOf s.data.toList L)
    (hall : ∀ w1, Below w.heap.size w w1 → Calls Try.prog 29 #[p] w1 (Iter s w1)) :
    Calls Try.prog 15 #[p] w fun e w' => ∃ v, e = .returned v ∧ w'.ownsRow w.heap.size 9 1 v L.length (textCells L) ∧ Below w.heap.size w w' := by
  obtain ⟨i0, hi, hz0, hz1, hz2⟩ := info_parts Try.info9
  have HL := Hid.mk hL
  have HA := Hid.mk hall
  clear hL hall
  refine (callsIn_wide (n := 5)).1 ?_
  refine callsIn_of_wp_marks Try.func15 rfl trivial ?_ rfl
  simp only [Try.ntmps15, List.size_toArray, List.length_cons, List.length_nil, Nat.reduceAdd, Nat.reduceSub, Array.replicate_succ, Array.replicate_zero, List.push_toArray, List.append_toArray, List.nil_append, List.cons_append]
  gi_wp2_with fail
  have hB1 : Below w.heap.size w (w.alloc (.cells #[.slice none 0 0] 32)) := (Below.refl _ w).alloc (Nat.le_refl _) _
  refine ⟨trivial, (callsIn_wide.2 (HA.out _ hB1)).mono ?_⟩
  rintro e w1 ⟨k, rfl, hk, hk2, hc, hb1⟩
  have hB2 : Below w.heap.size w w1 := hB1.trans (hb1.mono (by simp))
  have hout : OutAt w.heap.size w.heap.size [] w1 := ⟨.slice none 0 0, by rw [hb1.block _ (by simp)]; exact heap_alloc_new w _, ⟨rfl, .inl ⟨rfl, rfl⟩⟩⟩
  have hz : w.heap.size < w1.heap.size := by have := hb1.size; simp at this; omega
  clear hB1 hb1
  gi_wp2
  refine wpIn_rangeFunc_ownF rfl (by omega) (gf := 51) (lb := #[.pointer (some ⟨k, 0, none⟩)]) rfl trivial (enters_of Try.func51 (by kernel_rfl) rfl)
    (all_stops 4 (by omega) k s (by omega) _ hk2 hc) (fun _ _ => trivial) (fun _ _ _ _ _ _ _ _ => trivial) (Below.refl _ _) (fun _ => rfl)
    (fun pre W => OutAt w.heap.size w.heap.size pre W ∧ Below w.heap.size w W)
    (fun _ _ _ => False)
    (OwnFrom.and (Own.from (fun (s : List ByteArray) (A B : World) row (hs : OutAt w.heap.size w.heap.size s A) hg hr => hs.kept hg hr) _) (ownFrom_below (Nat.le_refl _) (by omega)))
    (fun _ _ _ _ _ hs _ _ => hs)
    ⟨hout, hB2⟩
    (fun x => { tmps := #[p, undef, .slice none 0 0, .pointer (some ⟨w.heap.size, 0, none⟩), .string x, p, .func (.func 51) #[] #[.pointer (some ⟨k, 0, none⟩)], .string x, undef, undef, undef, undef, undef], defers := [] }) ?assign ?body ?done ?stop
  case assign =>
    intro l x W K hK
    gi_wp2
    exact hK
  case body =>
    rintro l pre x W ⟨⟨v, hv, hrow⟩, hB⟩ hpl
    obtain ⟨hc1, hf1⟩ := box_cell hv
    gi_wp2_with (gi_at_builtin; refine wpListIn_append_own _ rfl _ _ 32 rfl w.heap.size 9 i0 (.string ⟨#[]⟩) 1 16 Try.underlying32 hi hz0 hz1 hz2 rfl (by decide) _ _ _ rfl (hrow.alloc _) ⟨W.heap.size, 0, none⟩ 1 1 [.string x] rfl rfl (cell_one_new _ _ _) (by simp [Value.oneCell']) (by unfold maxLen; omega) (by omega) (by have := hB.size; simp; omega) ?_; intro v' w3 hown' hg3 hnil3; obtain ⟨g', cap', rfl⟩ := row_shape hown'; obtain ⟨hv3, hO, hKO⟩ := OutAt.added hv hrow hown' hg3; obtain ⟨hc3, hf3⟩ := box_cell hv3)
    have hB3 : Below w.heap.size w w3 := (hB.alloc hB.size _).grown hg3 (by have := hB.size; simp; omega) (fun k e => (hrow.lt k e).1)
    exact ⟨hKO, trivial, hO, hB3.setCell (p := ⟨w.heap.size, 0, none⟩) (Nat.le_refl _) _⟩
  case done =>
    rintro D ys W hD hys ⟨⟨v, hv, hrow⟩, hB⟩ hK
    have e := hys.one HL.out
    subst e
    obtain ⟨hc1, hf1⟩ := box_cell hv
    gi_wp2
    refine ⟨by simp, .inl ⟨_, _, rfl, run_takeDeferred hK, ?_⟩⟩
    refine ⟨_, results_tmp rfl _ _ _, v, rfl, ?_, hB.trans (belowK_b (w := w) (Nat.le_refl _) W D _ _ (by omega) hK rfl rfl)⟩
    exact row_abides hrow (grownBy_putObj' W D _) (fun r e => by cases e; exact ⟨_, hK, rfl⟩)
  case stop =>
    rintro D c pre W _ _ h _
    exact h.elim

section
variable {w : World} {lb b : Nat} {v : Value} {o tn : Bool} {dn ws : List Ch}

theorem loads_any (hl : LogAt w lb b o tn) (h : Has w b v dn ws) (L : List ByteArray) (hL : AllOf (txt o (dn ++ ws)).data.toList L) :
    Calls Try.prog 15 #[.pointer (some ⟨lb, 0, none⟩)] w fun e w' => ∃ v, e = .returned v ∧ w'.ownsRow w.heap.size 9 1 v L.length (textCells L) ∧ Below w.heap.size w w' :=
  loads_of _ _ L w (by have := h.fits.all o; omega) hL fun w1 hb => by
    have := logAll_any (hl.grown hb) (h.grown hb)
    exact this

theorem loads_nil (w : World) : Calls Try.prog 15 #[.pointer none] w fun e w' => (∃ a cap, e = .returned (.slice a 0 cap)) ∧ Below w.heap.size w w' :=
  (loads_of (.pointer none) ⟨#[]⟩ [] w (by decide) none_empty fun w1 _ => logAll_nil w1).mono fun e w' ⟨v, he, hrow, hb⟩ => by
    obtain ⟨a, cap, rfl, _⟩ := texts_of_row hrow
    exact ⟨⟨a, cap, he⟩, hb⟩

theorem lasting_nil (w : World) : Calls Try.prog 16 #[.pointer none] w fun e w' => e = .returned (.int .i64 0) ∧ w' = w := by
  refine (callsIn_wide (n := 5)).1 ?_
  refine callsIn_of_wp_marks Try.func16 rfl trivial ?_ rfl
  simp only [Try.ntmps16, List.size_toArray, List.length_cons, List.length_nil, Nat.reduceAdd, Nat.reduceSub, Array.replicate_succ, Array.replicate_zero, List.push_toArray, List.append_toArray, List.nil_append, List.cons_append]
  gi_wp2
  exact ⟨_, results_tmp rfl _ _ _, rfl, rfl⟩

set_option maxRecDepth 100000 in
set_option maxHeartbeats 2000000 in
theorem lasting_any (hl : LogAt w lb b o tn) (h : Has w b v dn ws) (L : List ByteArray) (hL : AllOf (txt o dn).data.toList L) :
    Calls Try.prog 16 #[.pointer (some ⟨lb, 0, none⟩)] w fun e w' => e = .returned (.int .i64 (L.length : Nat)) ∧ Below w.heap.size w w' := by
  have hs := h.fits.take dn.length
  rw [List.take_left' rfl] at hs
  have hsz := hs.all o
  have hwl := hL.whole
  rw [size_list] at hwl
  have hwn := wholeN_len L
  have HL := Hid.mk hL
  have hB1 : Below w.heap.size w (w.alloc (.cells #[.int .i64 0] 3)) := (Below.refl _ w).alloc (Nat.le_refl _) _
  have hl1 := (hl.grown hB1).drew
  have h1 := (h.grown hB1).drew
  have c0 := hl1.c0
  have c1 := hl1.c1
  obtain ⟨T, hT⟩ : ∃ T, T = txt o dn := ⟨_, rfl⟩
  have hsf := safe_yes o h1
  rw [← hT] at hsf hsz
  rw [← hT] at HL
  have HS := Hid.mk hsf
  clear hL hT hsf hs hwl
  refine (callsIn_wide (n := 5)).1 ?_
  refine callsIn_of_wp_marks Try.func16 rfl trivial ?_ rfl
  simp only [Try.ntmps16, List.size_toArray, List.length_cons, List.length_nil, Nat.reduceAdd, Nat.reduceSub, Array.replicate_succ, Array.replicate_zero, List.push_toArray, List.append_toArray, List.nil_append, List.cons_append]
  gi_wp2_with fail
  refine Code.wpIn_mono NoPanic.imp ?_
  gi_region_with ((first
    | (have := m1; refine ⟨trivial, (callsIn_wide.2 (wall_any _ _)).mono ?_⟩; rintro e w2 ⟨k, rfl, hk, hk2, hc, hb2⟩)
    | (refine ⟨trivial, (callsIn_wide.2 HS.out).mono ?_⟩; rintro e w1 ⟨rfl, rfl⟩; have m1 := Hid.mk trivial)))
  all_goals
    refine NoPanic.normal ?_
    have hz : w.heap.size < w2.heap.size := by have := hb2.size; simp at this; omega
    have hn : w2.cell? ⟨w.heap.size, 0, none⟩ = some (.int .i64 0) ∧ w2.frozen? ⟨w.heap.size, 0, none⟩ = false := by
      have hl := laid_one w (.int .i64 0) 3
      exact ⟨(hb2.cell (p := ⟨w.heap.size, 0, none⟩) (by simp)).trans hl.1, (hb2.frozen (p := ⟨w.heap.size, 0, none⟩) (by simp)).trans hl.2⟩
    have hB2 : Below w.heap.size w w2 := hB1.drew.trans (hb2.mono (by simp))
    clear hb2
    gi_wp2
    refine wpIn_rangeFunc_ownF rfl (by omega) (gf := 51) (lb := #[.pointer (some ⟨k, 0, none⟩)]) rfl trivial (enters_of Try.func51 (by kernel_rfl) rfl)
      (all_stops 4 (by omega) k T (by omega) _ hk2 hc) (fun _ _ => trivial) (fun _ _ _ _ _ _ _ _ => trivial) (Below.refl _ _) (fun _ => rfl)
      (fun pre W => (W.cell? ⟨w.heap.size, 0, none⟩ = some (.int .i64 (pre.length : Nat)) ∧ W.frozen? ⟨w.heap.size, 0, none⟩ = false) ∧ Below w.heap.size w W)
      (fun _ _ _ => False)
      (OwnFrom.and (Own.from (fun s A B row hs hg hr => ⟨cell_kept hs.1 hg hr, (frozen_kept hs.1 hg hr).trans hs.2⟩) _) (ownFrom_below (Nat.le_refl _) (by omega)))
      (fun _ _ _ _ _ hs _ _ => hs)
      ⟨hn, hB2⟩
      (fun x => { tmps := #[Value.pointer (some ⟨lb, 0, none⟩), undef, Value.int IntKind.i64 0, Value.pointer (some ⟨w.heap.size, 0, none⟩), Value.pointer (some ⟨lb, 0, none⟩), Value.bool false, Value.pointer (some ⟨lb, 0, none⟩), Value.pointer (some ⟨lb, 0, none⟩), Value.pointer (some ⟨lb, 0, none⟩), Value.pointer (some ⟨b, 0, none⟩), Value.pointer (some ⟨lb, 0, none⟩), Value.pointer (some ⟨lb, 0, none⟩), Value.pointer (some ⟨lb, 1, none⟩), Value.int IntKind.i64 (ar o), Value.string T, Value.func (Fn.func 51) #[] #[Value.pointer (some ⟨k, 0, none⟩)], Value.string x, undef, undef, undef], defers := [] }) ?assign ?body ?done ?stop
    case assign =>
      intro l x W K hK
      gi_wp2
      simpa using hK
    case body =>
      rintro l pre x W ⟨⟨hc, hf⟩, hB⟩ hpl
      gi_wp2
      exact ⟨KeepsOthers.setCell _ _ _, trivial, ⟨by rw [World.cell?_setCell_same' _ _ _ (by rw [hc]; rfl)]; simp, by rw [World.frozen?_setCell]; exact hf⟩, hB.setCell (p := ⟨w.heap.size, 0, none⟩) (Nat.le_refl _) _⟩
    case done =>
      rintro D ys W hD hys ⟨⟨hc, _⟩, hB⟩ hK
      have e := hys.one HL.out
      subst e
      gi_wp2
      refine ⟨by simp, .inl ⟨_, _, rfl, run_takeDeferred hK, ?_⟩⟩
      exact ⟨_, results_tmp rfl _ _ _, rfl, hB.trans (belowK_b (w := w) (Nat.le_refl _) W D _ _ (by omega) hK rfl rfl)⟩
    case stop =>
      rintro D c pre W _ _ h _
      exact h.elim

end

end Go.Proofs.Ytejmameebhbcbaa
