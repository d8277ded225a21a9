/-
  WaferRows: for every list of loads, whatever stands behind their row, and wherever the loop is left, the law returns true: a row is told load by load. No condition.
-/
import Derived.Test.YtedmpbmbeianfaaWhole
namespace Go.Proofs.Ytedmpbmbeianfaa
theorem IsTexts.some_at {w : World} {a : Option Addr} {len cap : Nat} {ts : List ByteArray} (h : IsTexts w a len cap ts) : ∃ g off, (ts ≠ [] → a = some ⟨g, off, none⟩) ∧ ∀ j (h : j < ts.length), w.cell? ⟨g, off + j, none⟩ = some (.string ts[j]) := by
  obtain ⟨hl, ⟨rfl, _⟩ | ⟨g, off, rfl, hat⟩⟩ := h
  · exact ⟨0, 0, fun h => absurd rfl h, fun j h => by simp at h⟩
  · exact ⟨g, off, fun _ => rfl, hat.cell⟩
theorem snoc_is {α : Type} {p l : List α} {x : α} (h : p ++ [x] <+: l) {hl : p.length < l.length} : x = l[p.length] := by
  obtain ⟨r, rfl⟩ := h
  simp
theorem snoc_prefix {α : Type} {p l : List α} (h : p <+: l) (hl : p.length < l.length) : p ++ [l[p.length]] <+: l := by
  have e := List.prefix_iff_eq_take.1 h
  have e2 := List.take_succ_eq_append_getElem hl
  rw [← e] at e2
  rw [← e2]
  exact List.take_prefix _ _
end Go.Proofs.Ytedmpbmbeianfaa

namespace Go.Proofs.Ytedmpbmbeianfaa.waferRows
open Go.ChangeShapes Go.WideShapes Go.ChangeAt Go.RowKit Go.Shelf
open Go.ChangeMaps (open_string shut_string)
attribute [local go_sem] Oper.semAt_some

/-- What the law's own cells hold between two rounds. -/
structure Cells (W : World) (B0 B4 g off : Nat) (stop : Int) (wa : Option Addr) (wc : Nat) (L : List ByteArray) (k : Nat) : Prop where
  ck : W.cell? ⟨B4 + 1, 0, none⟩ = some (.int .i64 (k : Int))
  fk : W.frozen? ⟨B4 + 1, 0, none⟩ = false
  cst : W.cell? ⟨B0, 0, none⟩ = some (.int .i64 stop)
  cre : W.cell? ⟨B0 + 1, 0, none⟩ = some (.bool false)
  fre : W.frozen? ⟨B0 + 1, 0, none⟩ = false
  cwa : W.cell? ⟨B4, 0, none⟩ = some (.slice wa L.length wc)
  ctx : ∀ j (h : j < L.length), W.cell? ⟨g, off + j, none⟩ = some (.string L[j])
  hwa : L ≠ [] → wa = some ⟨g, off, none⟩
  hgb : L ≠ [] → g < B4
  h0b : B0 + 1 < B4

theorem Cells.bump {W : World} {B0 B4 g off : Nat} {stop : Int} {wa : Option Addr} {wc : Nat} {L pre : List ByteArray} {x : ByteArray} (h : Cells W B0 B4 g off stop wa wc L pre.length) :
    Cells (W.setCell ⟨B4 + 1, 0, none⟩ (.int .i64 ((pre.length : Int) + 1))) B0 B4 g off stop wa wc L (pre ++ [x]).length := by
  have h0 := h.h0b
  refine ⟨?_, ?_, ?_, ?_, ?_, ?_, fun j hj => ?_, h.hwa, h.hgb, h.h0b⟩
  · rw [World.cell?_setCell_same' _ _ _ (by rw [h.ck]; rfl)]
    simp
  · rw [World.frozen?_setCell]; exact h.fk
  · rw [World.cell?_setCell_other (w := W) (h := by intro e; injection e; omega)]; exact h.cst
  · rw [World.cell?_setCell_other (w := W) (h := by intro e; injection e; omega)]; exact h.cre
  · rw [World.frozen?_setCell]; exact h.fre
  · rw [World.cell?_setCell_other (w := W) (h := by intro e; injection e; omega)]; exact h.cwa
  · have hg := h.hgb (fun e => by rw [e] at hj; simp at hj)
    rw [World.cell?_setCell_other (w := W) (h := by intro e; injection e; omega)]; exact h.ctx j hj

theorem Cells.kept {W W' : World} {B0 B4 g off : Nat} {stop : Int} {wa : Option Addr} {wc : Nat} {L : List ByteArray} {k : Nat} {row : Option Nat} (h : Cells W B0 B4 g off stop wa wc L k) (hg : W.grownBy W' row)
    (hr : ∀ r, row = some r → ∃ o : Obj, W.heap[r]? = some o ∧ o.isCells = false) : Cells W' B0 B4 g off stop wa wc L k :=
  ⟨cell_kept h.ck hg hr, (frozen_kept h.ck hg hr).trans h.fk, cell_kept h.cst hg hr, cell_kept h.cre hg hr, (frozen_kept h.cre hg hr).trans h.fre, cell_kept h.cwa hg hr, fun j hj => cell_kept (h.ctx j hj) hg hr, h.hwa, h.hgb, h.h0b⟩

set_option maxRecDepth 100000 in
set_option maxHeartbeats 4000000 in
theorem walk (a : Option Addr) (la ca : Nat) (xs : List ByteArray) (m : ByteArray) (stop : Int) (w : World) (ha : IsTexts w a la ca xs) (_hst : (Lit.int .i64 stop).wf = true) :
    Calls Try.prog 5 #[.slice a la ca, .string m, .int .i64 stop] w fun e w' => e = .returned (.bool true) ∧ Below w.heap.size w w' := by
  refine (callsIn_wide (n := 6)).1 ?_
  refine callsIn_of_wp_marks Try.func5 rfl trivial ?_ rfl
  simp only [Try.ntmps5, List.size_toArray, List.length_cons, List.length_nil, Nat.reduceAdd, Nat.reduceSub, Array.replicate_succ, Array.replicate_zero, List.push_toArray, List.append_toArray, List.nil_append, List.cons_append]
  gi_wp2_with fail
  refine ⟨trivial, (callsIn_wide.2 (alive_any _)).mono ?_⟩
  rintro e w1 ⟨rfl, hb1⟩
  obtain ⟨w0, hw0⟩ : ∃ w0, w0 = (w.alloc (.cells #[.int .i64 stop] 3)).alloc (.cells #[.bool false] 4) := ⟨_, rfl⟩
  rw [← hw0] at hb1
  have hz0 : w0.heap.size = w.heap.size + 2 := by rw [hw0]; simp
  have hbw : Below w.heap.size w w0 := by rw [hw0]; exact ((Below.refl _ w).alloc (Nat.le_refl _) _).alloc (by simp) _
  have cs : w0.cell? ⟨w.heap.size, 0, none⟩ = some (.int .i64 stop) := by rw [hw0]; exact cell_on _ (laid_one w _ _).1
  have cr : w0.cell? ⟨w.heap.size + 1, 0, none⟩ = some (.bool false) := by rw [hw0]; have h := (laid_one (w.alloc (.cells #[.int .i64 stop] 3)) (.bool false) 4).1; rw [World.size_alloc] at h; exact h
  have fr : w0.frozen? ⟨w.heap.size + 1, 0, none⟩ = false := by rw [hw0]; have h := (laid_one (w.alloc (.cells #[.int .i64 stop] 3)) (.bool false) 4).2; rw [World.size_alloc] at h; exact h
  have ha1 : IsTexts w1 a la ca xs := (ha.carry hbw).carry hb1
  clear hw0
  gi_wp2_with fail
  refine ⟨trivial, (callsIn_wide.2 (great_any a la ca xs _ ha1)).mono ?_⟩
  have cr1 : w1.cell? ⟨w.heap.size + 1, 0, none⟩ = some (.bool false) := (hb1.cell (p := ⟨w.heap.size + 1, 0, none⟩) (by show w.heap.size + 1 < _; omega)).trans cr
  have fr1 : w1.frozen? ⟨w.heap.size + 1, 0, none⟩ = false := (hb1.frozen (p := ⟨w.heap.size + 1, 0, none⟩) (by show w.heap.size + 1 < _; omega)).trans fr
  have cs1 : w1.cell? ⟨w.heap.size, 0, none⟩ = some (.int .i64 stop) := (hb1.cell (p := ⟨w.heap.size, 0, none⟩) (by show w.heap.size < _; omega)).trans cs
  have hbw1 : Below w.heap.size w w1 := hbw.trans (hb1.mono hbw.size)
  have hz1 : w.heap.size + 2 ≤ w1.heap.size := by have := hb1.size; omega
  clear cr fr cs hb1 hbw hz0
  rintro e w2 ⟨rfl, rfl | ⟨rfl, hla, hsa⟩⟩
  · gi_wp2
    have hc5 := World.cell?_setCell_same' w2 ⟨w.heap.size + 1, 0, none⟩ (.bool true) (by rw [cr1]; rfl)
    refine ⟨.bool true, ?_, rfl, hbw1.setCell (p := ⟨w.heap.size + 1, 0, none⟩) (by show _ ≤ w.heap.size + 1; omega) _⟩
    simp [results, Try.f5, go_sem, hc5]
  by_cases hm : 2048 < m.size
  · gi_wp2
    have hc5 := World.cell?_setCell_same' w2 ⟨w.heap.size + 1, 0, none⟩ (.bool true) (by rw [cr1]; rfl)
    refine ⟨.bool true, ?_, rfl, hbw1.setCell (p := ⟨w.heap.size + 1, 0, none⟩) (by show _ ≤ w.heap.size + 1; omega) _⟩
    simp [results, Try.f5, go_sem, hc5]
  gi_wp2_with fail
  refine ⟨trivial, (callsIn_wide.2 (row_any a la ca xs _ ha1 (by omega) (by omega))).mono ?_⟩
  rintro e w3 ⟨rfl, hb3⟩
  have hrz := rowB_le xs
  rw [ha1.1] at hrz
  obtain ⟨rw_, hrw⟩ : ∃ r : ByteArray, r = ⟨(rowB xs).toArray⟩ := ⟨_, rfl⟩
  have hrs : rw_.size ≤ 2200 := by rw [hrw, str_size]; omega
  rw [← hrw]
  have HRW := Hid.mk hrw
  clear hrw hrz
  have hj : (rw_ ++ m).size = rw_.size + m.size := by simp
  gi_wp2_with fail
  obtain ⟨b, hbb⟩ : ∃ b, b = rw_ ++ m := ⟨_, rfl⟩
  rw [← hbb] at hj
  rw [← hbb]
  clear hbb
  refine ⟨trivial, (callsIn_wide.2 (refAll_any _ b (by omega))).mono ?_⟩
  rintro e w4 ⟨v, L, rfl, hL, hown, hb4⟩
  obtain ⟨wa, wc, rfl, hwt⟩ := texts_of_row hown
  clear hown
  obtain ⟨g, off, hwt2⟩ := hwt.some_at
  have hbw4 : Below w.heap.size w w4 := hbw1.trans ((hb3.trans (hb4.mono hb3.size)).mono (by omega))
  gi_wp2_with fail
  refine ⟨trivial, (all_in _ b _).mono ?_⟩
  rintro e w5 ⟨rfl, rfl⟩
  gi_wp2
  obtain ⟨w6, hw6⟩ : ∃ w6, w6 = ((w4.alloc (.cells #[.slice wa L.length wc] 30)).alloc (.cells #[.int .i64 0] 3)).alloc (.cells #[.string b] 9) := ⟨_, rfl⟩
  have hz6 : w6.heap.size = w4.heap.size + 3 := by rw [hw6]; simp
  have hb46 : Below w4.heap.size w4 w6 := by rw [hw6]; exact (((Below.refl _ w4).alloc (Nat.le_refl _) _).alloc (by simp) _).alloc (by simp; omega) _
  have hb24 : Below w2.heap.size w2 w4 := hb3.trans (hb4.mono hb3.size)
  have hz24 := hb24.size
  have hb26 : Below w2.heap.size w2 w6 := hb24.trans (hb46.mono hz24)
  have l1 := laid_one w4 (.slice wa L.length wc) 30
  have l2 := laid_one (w4.alloc (.cells #[.slice wa L.length wc] 30)) (.int .i64 0) 3
  have l3 := laid_one ((w4.alloc (.cells #[.slice wa L.length wc] 30)).alloc (.cells #[.int .i64 0] 3)) (.string b) 9
  simp only [World.size_alloc] at l2 l3
  have cb6 : w6.cell? ⟨w4.heap.size + 1 + 1, 0, none⟩ = some (.string b) := by rw [hw6]; exact l3.1
  have hcl0 : Cells w6 w.heap.size w4.heap.size g off stop wa wc L 0 := by
    refine ⟨?_, ?_, (hb26.cell (p := ⟨w.heap.size, 0, none⟩) (by show w.heap.size < _; omega)).trans cs1, (hb26.cell (p := ⟨w.heap.size + 1, 0, none⟩) (by show w.heap.size + 1 < _; omega)).trans cr1,
      (hb26.frozen (p := ⟨w.heap.size + 1, 0, none⟩) (by show w.heap.size + 1 < _; omega)).trans fr1, ?_, fun j hj => (hb46.cell (p := ⟨g, off + j, none⟩) (World.block_lt_of_cell? w4 _ (hwt2.2 j hj))).trans (hwt2.2 j hj), hwt2.1, fun h => World.block_lt_of_cell? w4 _ (hwt2.2 0 (List.length_pos_iff.2 h)), by omega⟩
    · rw [hw6]; exact cell_on _ l2.1
    · rw [hw6]; exact free_on _ l2.1 l2.2
    · rw [hw6]; exact cell_on _ (cell_on _ l1.1)
  rw [← hw6]
  clear hw6 l1 l2 l3 hb24 hb26 hb3 hb4 cs1 cr1 fr1 hwt2 hwt
  have hB6 : Below w.heap.size w w6 := hbw4.trans (hb46.mono (by omega))
  have hwl := hL.whole
  rw [size_list] at hwl
  have hwn := wholeN_len L
  have HSM := Hid.mk hL.small
  have HL := Hid.mk hL
  clear hL
  refine wpIn_rangeFunc_ownF rfl (by omega) (gf := 26) (lb := #[.pointer (some ⟨w4.heap.size + 1 + 1, 0, none⟩)]) rfl trivial (enters_of Try.func26 (by kernel_rfl) rfl)
    (all_stops 5 (by omega) (w4.heap.size + 1 + 1) b (by omega) w6 (by omega) cb6) (fun _ _ => trivial) (fun _ _ _ _ _ _ _ _ => trivial) (Below.refl _ _) (fun _ => rfl)
    (fun pre W => (pre <+: L ∧ Cells W w.heap.size w4.heap.size g off stop wa wc L pre.length) ∧ Below w.heap.size w W)
    (fun c pre W => ((c = .ret ∧ ¬ pre <+: L) ∨ (c = .exit 0 ∧ (pre.length : Int) = stop ∧ Cells W w.heap.size w4.heap.size g off stop wa wc L pre.length)) ∧ Below w.heap.size w W)
    (OwnFrom.and (Own.from (fun s A B row hs hg hr => ⟨hs.1, hs.2.kept hg hr⟩) _) (ownFrom_below (Nat.le_refl _) (by omega)))
    (fun c => OwnFrom.and (Own.from (fun s A B row hs hg hr => hs.elim (fun h => .inl h) (fun h => .inr ⟨h.1, h.2.1, h.2.2.kept hg hr⟩)) _) (ownFrom_below (Nat.le_refl _) (by omega)))
    ⟨⟨List.nil_prefix, hcl0⟩, hB6⟩
    (fun x => { tmps := #[Value.slice a la ca, Value.string m, Value.int IntKind.i64 stop, undef, undef, Value.pointer (some ⟨w.heap.size, 0, none⟩), Value.pointer (some ⟨w.heap.size + 1, 0, none⟩), Value.string b, Value.pointer (some ⟨w4.heap.size, 0, none⟩), Value.pointer (some ⟨w4.heap.size + 1, 0, none⟩), Value.int IntKind.i64 0, Value.string x, undef, undef, Value.bool true, Value.bool false, Value.slice a la ca, Value.bool false, Value.bool false, Value.string m, Value.int IntKind.i64 (m.size : Int), Value.bool (decide ((2048 : Int) < (m.size : Int))), Value.bool (decide ((2048 : Int) < (m.size : Int))), Value.slice a la ca, Value.string rw_, Value.string m, Value.string b, Value.string b, Value.slice wa L.length wc, Value.string b, Value.func (Fn.func 26) #[] #[Value.pointer (some ⟨w4.heap.size + 1 + 1, 0, none⟩)], Value.string x, undef, undef, undef, undef, undef, undef, undef, undef, undef, undef, undef, undef, undef, undef, undef, undef, undef, undef, undef, undef, undef, undef, undef, undef, undef, undef, undef, undef, undef, undef, undef, undef, undef, undef, undef, undef, undef, undef, undef, undef, undef, undef, undef, undef, undef, undef, undef, undef, undef, undef, undef], defers := [] }) ?assign ?body ?done ?stop
  case assign =>
    intro l x W K hK
    gi_wp2
    exact hK
  case body =>
    rintro l pre x W ⟨⟨hpre, hcl⟩, hB⟩ hpl
    have hck := hcl.ck
    have hfk := hcl.fk
    have hcst := hcl.cst
    have hcre := hcl.cre
    have hfre := hcl.fre
    have hcwa := hcl.cwa
    have hple := hpre.length_le
    by_cases hlt : pre.length < L.length
    · have hct := hcl.ctx pre.length hlt
      have hwa := hcl.hwa (fun e => by rw [e] at hlt; simp at hlt)
      obtain ⟨t, ht⟩ : ∃ t, t = L[pre.length] := ⟨_, rfl⟩
      rw [← ht] at hct
      rw [hwa] at hcwa
      have HT := Hid.mk ht
      have HC := Hid.mk hcl
      clear ht hcl
      by_cases hxt : x = t
      · subst hxt
        have hpre2 : pre ++ [x] <+: L := by
          rw [HT.out]
          exact snoc_prefix hpre hlt
        by_cases hst : (pre.length : Int) + 1 = stop
        · have hstb : ((pre.length : Int) + 1 == stop) = true := by rw [hst]; simp
          have HST : Hid (((pre ++ [x]).length : Int) = stop) := Hid.mk (by rw [← hst]; simp)
          clear hst
          gi_wp2
          exact ⟨KeepsOthers.setCell _ _ _, .inr ⟨rfl, HST.out, HC.out.bump⟩, hB.setCell (p := ⟨w4.heap.size + 1, 0, none⟩) (by show _ ≤ w4.heap.size + 1; omega) _⟩
        · have hstb : ((pre.length : Int) + 1 == stop) = false := by simpa using hst
          clear hst
          gi_wp2
          exact ⟨KeepsOthers.setCell _ _ _, trivial, ⟨hpre2, HC.out.bump⟩, hB.setCell (p := ⟨w4.heap.size + 1, 0, none⟩) (by show _ ≤ w4.heap.size + 1; omega) _⟩
      · have hxb : (x.toList == t.toList) = false := by
          rw [ByteArray.toList_eq, ByteArray.toList_eq]
          simp
          intro h
          exact hxt (ByteArray.ext h)
        have HN : Hid (¬ pre ++ [x] <+: L) := Hid.mk (fun h => hxt (by rw [HT.out]; exact snoc_is h))
        clear hxt
        gi_wp2
        exact ⟨KeepsOthers.setCell _ _ _, .inl ⟨rfl, HN.out⟩, hB.setCell (p := ⟨w.heap.size + 1, 0, none⟩) (by show _ ≤ w.heap.size + 1; omega) _⟩
    · have hcmp : (L.length : Int) ≤ (pre.length : Int) := by omega
      have HN : Hid (¬ pre ++ [x] <+: L) := Hid.mk (fun h => by have := h.length_le; simp at this; omega)
      gi_wp2
      exact ⟨KeepsOthers.setCell _ _ _, .inl ⟨rfl, HN.out⟩, hB.setCell (p := ⟨w.heap.size + 1, 0, none⟩) (by show _ ≤ w.heap.size + 1; omega) _⟩
  case done =>
    rintro D ys W hD hys ⟨⟨_, hcl⟩, hB⟩ hK
    have e := hys.one HL.out
    obtain ⟨K, hKL⟩ : ∃ K, K = ys.length := ⟨_, rfl⟩
    rw [← hKL] at hcl
    rw [e] at hKL
    have HKL := Hid.mk hKL
    clear hys e hKL
    have hza : L.length ≤ 50000 := by omega
    obtain ⟨ck, fk, cst, cre, fre, cwa, ctx, hwa, hgb, h0b⟩ := hcl
    gi_wp2
    gi_loopw [10, 13, 51] (fun nn _ i wr => ∃ j : Nat, j ≤ L.length ∧ i = .int .i64 j ∧ nn = .int .i64 (wholeN (L.take j) : Nat) ∧ Below W.heap.size W wr) (fun _ _ i _ => L.length - (intOf i).toNat)
    case atStart => exact ⟨0, Nat.zero_le _, rfl, rfl, Below.refl _ _⟩
    case round =>
      obtain ⟨j, hj, rfl, rfl, hbr⟩ := hrel
      by_cases hlt : j < L.length
      · have hstep := wholeN_take_succ L j hlt
        have hle := wholeN_take_le L (j + 1)
        have hsm := HSM.out L[j] (List.getElem_mem hlt)
        have c := ctx j hlt
        obtain ⟨t, ht⟩ : ∃ t, t = L[j] := ⟨_, rfl⟩
        rw [← ht] at hstep hsm c
        rw [hstep] at hle
        have hwv := hwa (fun e => by rw [e] at hlt; simp at hlt)
        rw [hwv]
        have c2 : wr.cell? ⟨g, off + j, none⟩ = some (.string t) := (hbr.cell (p := ⟨g, off + j, none⟩) (World.block_lt_of_cell? W _ c)).trans c
        have HS := Hid.mk hstep
        clear ht hstep c
        gi_wp2_with fail
        refine ⟨trivial, (callsIn_wide.2 (refClose_any _ t (by omega))).mono ?_⟩
        rintro e w8 ⟨rfl, hb8⟩
        obtain ⟨rc, hrc⟩ : ∃ rc : ByteArray, rc = ⟨(recB t.data.toList).toArray⟩ := ⟨_, rfl⟩
        have hrz : rc.size = t.size + 6 := by rw [hrc, str_size, recB_length (by rw [size_list]; omega), size_list]
        rw [← hrc]
        have hb9 := hbr.trans (hb8.mono hbr.size)
        clear hrc hb8 hbr
        gi_wp2
        go_roundw
        case rel => exact ⟨j + 1, by omega, by go_num, by rw [HS.out]; go_num, hb9⟩
        case measure => simp [intOf]; omega
      · have hjl : j = L.length := by omega
        rw [hjl, List.take_length]
        have ha7 : IsTexts wr a la ca xs := ha.carry (hB.trans (hbr.mono hB.size))
        gi_wp2_with fail
        refine ⟨trivial, (callsIn_wide.2 (row_any a la ca xs _ ha7 (by omega) (by omega))).mono ?_⟩
        rintro e w8 ⟨rfl, hb8⟩
        rw [← HRW.out]
        have ha8 := ha7.carry hb8
        have hb9 := hbr.trans (hb8.mono hbr.size)
        clear hb8 ha7 hbr
        gi_wp2_with fail
        refine ⟨trivial, (callsIn_wide.2 (refRow_any a la ca xs _ ha8 (by omega) (by omega))).mono ?_⟩
        rintro e w9 ⟨rfl, hb10⟩
        rw [← HRW.out]
        have hb11 := hb9.trans (hb10.mono hb9.size)
        clear hb10 ha8 hb9
        have ck9 : w9.cell? ⟨w4.heap.size + 1, 0, none⟩ = some (.int .i64 (K : Int)) := (hb11.cell (p := ⟨w4.heap.size + 1, 0, none⟩) (World.block_lt_of_cell? W _ ck)).trans ck
        have cst9 : w9.cell? ⟨w.heap.size, 0, none⟩ = some (.int .i64 stop) := (hb11.cell (p := ⟨w.heap.size, 0, none⟩) (World.block_lt_of_cell? W _ cst)).trans cst
        have cwa9 : w9.cell? ⟨w4.heap.size, 0, none⟩ = some (.slice wa L.length wc) := (hb11.cell (p := ⟨w4.heap.size, 0, none⟩) (World.block_lt_of_cell? W _ cwa)).trans cwa
        have hrl := World.block_lt_of_cell? W _ cre
        have hDl := (Array.getElem?_eq_some_iff.1 hK).1
        by_cases hks : (K : Int) = stop
        · have hkb : ((K : Int) == stop) = true := by rw [hks]; simp
          gi_wp2_with fail
          refine ⟨trivial, (callsIn_wide.2 (whole_any _ b L (by omega) HL.out)).mono ?_⟩
          rintro e w12 ⟨rfl, hb12⟩
          have hb13 := hb11.trans (hb12.mono hb11.size)
          have cre13 : w12.cell? ⟨w.heap.size + 1, 0, none⟩ = some (.bool false) := (hb13.cell (p := ⟨w.heap.size + 1, 0, none⟩) hrl).trans cre
          have fre13 : w12.frozen? ⟨w.heap.size + 1, 0, none⟩ = false := (hb13.frozen (p := ⟨w.heap.size + 1, 0, none⟩) hrl).trans fre
          have hK13 : w12.heap[D]? = some (.deferred (some [])) := (hb13.block D hDl).trans hK
          have hBB := hB.trans (hb13.mono hB.size)
          clear hb12 hb11 hb13
          gi_wp2
          have hK' := (KeepsOthers.setCell w12 ⟨w.heap.size + 1, 0, none⟩ (.bool true)).same D _ hK13 rfl
          refine ⟨by simp, .inl ⟨_, _, rfl, run_takeDeferred hK', ?_⟩⟩
          have hc5 := cell_kept (World.cell?_setCell_same' w12 ⟨w.heap.size + 1, 0, none⟩ (.bool true) (by rw [cre13]; rfl)) (grownBy_putObj' _ D (.deferred none)) (fun r e => by cases e; exact ⟨_, hK', rfl⟩)
          refine ⟨.bool true, ?_, rfl, (hBB.setCell (p := ⟨w.heap.size + 1, 0, none⟩) (by show _ ≤ w.heap.size + 1; omega) _).trans (belowK_b (w := w) (Nat.le_refl _) _ D _ _ (by omega) hK' rfl rfl)⟩
          simp [results, Try.f5, go_sem, hc5]
        · have hkb : ((K : Int) == stop) = false := by simpa using hks
          have hkl : ((K : Int) == (L.length : Int)) = true := by rw [HKL.out]; simp
          gi_wp2_with fail
          refine ⟨trivial, (callsIn_wide.2 (whole_any _ b L (by omega) HL.out)).mono ?_⟩
          rintro e w12 ⟨rfl, hb12⟩
          have hb13 := hb11.trans (hb12.mono hb11.size)
          have cre13 : w12.cell? ⟨w.heap.size + 1, 0, none⟩ = some (.bool false) := (hb13.cell (p := ⟨w.heap.size + 1, 0, none⟩) hrl).trans cre
          have fre13 : w12.frozen? ⟨w.heap.size + 1, 0, none⟩ = false := (hb13.frozen (p := ⟨w.heap.size + 1, 0, none⟩) hrl).trans fre
          have hK13 : w12.heap[D]? = some (.deferred (some [])) := (hb13.block D hDl).trans hK
          have hBB := hB.trans (hb13.mono hB.size)
          clear hb12 hb11 hb13
          gi_wp2
          have hK' := (KeepsOthers.setCell w12 ⟨w.heap.size + 1, 0, none⟩ (.bool true)).same D _ hK13 rfl
          refine ⟨by simp, .inl ⟨_, _, rfl, run_takeDeferred hK', ?_⟩⟩
          have hc5 := cell_kept (World.cell?_setCell_same' w12 ⟨w.heap.size + 1, 0, none⟩ (.bool true) (by rw [cre13]; rfl)) (grownBy_putObj' _ D (.deferred none)) (fun r e => by cases e; exact ⟨_, hK', rfl⟩)
          refine ⟨.bool true, ?_, rfl, (hBB.setCell (p := ⟨w.heap.size + 1, 0, none⟩) (by show _ ≤ w.heap.size + 1; omega) _).trans (belowK_b (w := w) (Nat.le_refl _) _ D _ _ (by omega) hK' rfl rfl)⟩
          simp [results, Try.f5, go_sem, hc5]
  case stop =>
    rintro D c pre W hD hpre ⟨⟨rfl, hn⟩ | ⟨rfl, hKS, hcl⟩, hB⟩ hK
    · obtain ⟨r, hr⟩ := hpre
      exact absurd ⟨r, hr.one HL.out⟩ hn
    obtain ⟨K, hKp⟩ : ∃ K, K = pre.length := ⟨_, rfl⟩
    rw [← hKp] at hcl hKS
    have HKS := Hid.mk hKS
    clear hpre hKS hKp
    have hza : L.length ≤ 50000 := by omega
    obtain ⟨ck, fk, cst, cre, fre, cwa, ctx, hwa, hgb, h0b⟩ := hcl
    gi_wp2
    gi_loopw [10, 13, 51] (fun nn _ i wr => ∃ j : Nat, j ≤ L.length ∧ i = .int .i64 j ∧ nn = .int .i64 (wholeN (L.take j) : Nat) ∧ Below W.heap.size W wr) (fun _ _ i _ => L.length - (intOf i).toNat)
    case atStart => exact ⟨0, Nat.zero_le _, rfl, rfl, Below.refl _ _⟩
    case round =>
      obtain ⟨j, hj, rfl, rfl, hbr⟩ := hrel
      by_cases hlt : j < L.length
      · have hstep := wholeN_take_succ L j hlt
        have hle := wholeN_take_le L (j + 1)
        have hsm := HSM.out L[j] (List.getElem_mem hlt)
        have c := ctx j hlt
        obtain ⟨t, ht⟩ : ∃ t, t = L[j] := ⟨_, rfl⟩
        rw [← ht] at hstep hsm c
        rw [hstep] at hle
        have hwv := hwa (fun e => by rw [e] at hlt; simp at hlt)
        rw [hwv]
        have c2 : wr.cell? ⟨g, off + j, none⟩ = some (.string t) := (hbr.cell (p := ⟨g, off + j, none⟩) (World.block_lt_of_cell? W _ c)).trans c
        have HS := Hid.mk hstep
        clear ht hstep c
        gi_wp2_with fail
        refine ⟨trivial, (callsIn_wide.2 (refClose_any _ t (by omega))).mono ?_⟩
        rintro e w8 ⟨rfl, hb8⟩
        obtain ⟨rc, hrc⟩ : ∃ rc : ByteArray, rc = ⟨(recB t.data.toList).toArray⟩ := ⟨_, rfl⟩
        have hrz : rc.size = t.size + 6 := by rw [hrc, str_size, recB_length (by rw [size_list]; omega), size_list]
        rw [← hrc]
        have hb9 := hbr.trans (hb8.mono hbr.size)
        clear hrc hb8 hbr
        gi_wp2
        go_roundw
        case rel => exact ⟨j + 1, by omega, by go_num, by rw [HS.out]; go_num, hb9⟩
        case measure => simp [intOf]; omega
      · have hjl : j = L.length := by omega
        rw [hjl, List.take_length]
        have ha7 : IsTexts wr a la ca xs := ha.carry (hB.trans (hbr.mono hB.size))
        gi_wp2_with fail
        refine ⟨trivial, (callsIn_wide.2 (row_any a la ca xs _ ha7 (by omega) (by omega))).mono ?_⟩
        rintro e w8 ⟨rfl, hb8⟩
        rw [← HRW.out]
        have ha8 := ha7.carry hb8
        have hb9 := hbr.trans (hb8.mono hbr.size)
        clear hb8 ha7 hbr
        gi_wp2_with fail
        refine ⟨trivial, (callsIn_wide.2 (refRow_any a la ca xs _ ha8 (by omega) (by omega))).mono ?_⟩
        rintro e w9 ⟨rfl, hb10⟩
        rw [← HRW.out]
        have hb11 := hb9.trans (hb10.mono hb9.size)
        clear hb10 ha8 hb9
        have ck9 : w9.cell? ⟨w4.heap.size + 1, 0, none⟩ = some (.int .i64 (K : Int)) := (hb11.cell (p := ⟨w4.heap.size + 1, 0, none⟩) (World.block_lt_of_cell? W _ ck)).trans ck
        have cst9 : w9.cell? ⟨w.heap.size, 0, none⟩ = some (.int .i64 stop) := (hb11.cell (p := ⟨w.heap.size, 0, none⟩) (World.block_lt_of_cell? W _ cst)).trans cst
        have cwa9 : w9.cell? ⟨w4.heap.size, 0, none⟩ = some (.slice wa L.length wc) := (hb11.cell (p := ⟨w4.heap.size, 0, none⟩) (World.block_lt_of_cell? W _ cwa)).trans cwa
        have hrl := World.block_lt_of_cell? W _ cre
        have hDl := (Array.getElem?_eq_some_iff.1 hK).1
        have hkb : ((K : Int) == stop) = true := by rw [HKS.out]; simp
        gi_wp2_with fail
        refine ⟨trivial, (callsIn_wide.2 (whole_any _ b L (by omega) HL.out)).mono ?_⟩
        rintro e w12 ⟨rfl, hb12⟩
        have hb13 := hb11.trans (hb12.mono hb11.size)
        have cre13 : w12.cell? ⟨w.heap.size + 1, 0, none⟩ = some (.bool false) := (hb13.cell (p := ⟨w.heap.size + 1, 0, none⟩) hrl).trans cre
        have fre13 : w12.frozen? ⟨w.heap.size + 1, 0, none⟩ = false := (hb13.frozen (p := ⟨w.heap.size + 1, 0, none⟩) hrl).trans fre
        have hK13 : w12.heap[D]? = some (.deferred (some [])) := (hb13.block D hDl).trans hK
        have hBB := hB.trans (hb13.mono hB.size)
        clear hb12 hb11 hb13
        gi_wp2
        have hK' := (KeepsOthers.setCell w12 ⟨w.heap.size + 1, 0, none⟩ (.bool true)).same D _ hK13 rfl
        refine ⟨by simp, .inl ⟨_, _, rfl, run_takeDeferred hK', ?_⟩⟩
        have hc5 := cell_kept (World.cell?_setCell_same' w12 ⟨w.heap.size + 1, 0, none⟩ (.bool true) (by rw [cre13]; rfl)) (grownBy_putObj' _ D (.deferred none)) (fun r e => by cases e; exact ⟨_, hK', rfl⟩)
        refine ⟨.bool true, ?_, rfl, (hBB.setCell (p := ⟨w.heap.size + 1, 0, none⟩) (by show _ ≤ w.heap.size + 1; omega) _).trans (belowK_b (w := w) (Nat.le_refl _) _ D _ _ (by omega) hK' rfl rfl)⟩
        simp [results, Try.f5, go_sem, hc5]

set_option maxRecDepth 100000 in
theorem lifted (os : Os) (started : os.Started) (H : Type) (enc : TypeId × Value → H) :
    ReturnsInHanded {} Try.checked os 5 .any (Rows.waferRowsSpec.pre6 enc Try.prog Try.f5 Rows.waferRowsRow.domain false) (Rows.waferRowsSpec.post enc Try.prog Try.f5 false true false false) := by
  refine returnsInHanded_of_change (C := Try.checked) own started (by kernel_rfl) Try.func5
    (ChangeSpec.witness6 (enc := enc) (C := Try.checked) false ⟨#[], #[.slice none 0 0, .string .empty, .int .i64 0], []⟩ 8 (by kernel_rfl) (by kernel_rfl) (by kernel_rfl) (by kernel_rfl)) ?_
  intro W base args ds gs before hval0 hW hcnd _
  have hval : ∀ (j : Nat) t v, Try.f5.params[j]? = some t → args[j]? = some v → Value.okWide Try.prog W .any base t v := hval0
  have hW' := hW
  obtain ⟨p, q, hA0, hV, rfl, hfz, hnd⟩ := hW
  have hA : DataW.TrodAll enc Try.prog W 0 (fun _ => true) true Try.f5.params.toList args.toList ds p := hA0
  rw [Try.params5] at hA hval
  obtain ⟨v0, vs0, d0, ds0, p0, q0, hargs, rfl, rfl, h0, r0⟩ := trodAll_cons hA
  obtain ⟨v1, vs1, d1, ds1, p1, q1, rfl, rfl, rfl, h1, r1⟩ := trodAll_cons r0
  obtain ⟨v2, vs2, d2, ds2, p2, q2, rfl, rfl, rfl, h2, r2⟩ := trodAll_cons r1
  obtain ⟨rfl, rfl, rfl⟩ := trodAll_nil r2
  obtain rfl : args = #[v0, v1, v2] := by cases args; simp_all
  obtain ⟨rfl, rfl⟩ := trodVars_none hV
  obtain ⟨a0, len0, cap0, rfl⟩ := okWide_slice Try.underlying30 (hval 0 30 v0 rfl rfl)
  have k0 := h0
  have lt0 : ∀ x ∈ p0, x.block < W.heap.size := by obtain ⟨m, hm⟩ := k0; exact DataW.trod_lt m _ _ _ hm
  obtain ⟨ts0, w0⟩ : ∃ ts, IsTexts W a0 len0 cap0 ts := by
    obtain ⟨fuel, hf⟩ := h0
    exact open_texts hf
  obtain ⟨s1, rfl, rfl, rfl, w1⟩ := open_string Try.underlying9 (hval 1 9 v1 rfl rfl) h1
  obtain ⟨a2, rfl, rfl, rfl, w2⟩ := open_int Try.underlying3 (hval 2 3 v2 rfl rfl) h2
  clear hA0 hval0
  refine (walk a0 len0 cap0 ts0 s1 a2 W w0 w2).mono fun e W' ⟨he, bel⟩ => ?_
  subst he
  exact ⟨_, rfl, _, _, _, [], _, [], hW', trodAll_mk1 (shut_bool Try.underlying4 _), (trodAll_cons_mk (Below.trod laidOut (by kernel_rfl) (of_decide_eq_true (by kernel_rfl)) k0 bel lt0) (trodAll_cons_mk (shut_string Try.underlying9 w1) (trodAll_cons_mk (shut_int Try.underlying3 w2) trodAll_mk0))), rfl, bel.frame _, fun h => by cases h⟩

theorem over : Rows.waferRowsRow.holds Try.pinned (OpenSpec.ofChange Rows.waferRowsSpec) :=
  OpenClaim.holds_of_wide 5 Try.f5 rfl rfl rfl rfl rfl rfl rfl ⟨rfl, rfl, rfl, rfl, rfl⟩ rfl rfl rfl rfl rfl (by kernel_rfl) Try.func5 (by kernel_rfl)
    (of_decide_eq_true (by kernel_rfl)) (by unfold Func.isWrapper; first | (rw [if_pos (by decide +kernel)]; kernel_rfl) | (rw [if_neg (by decide +kernel)]; exact ⟨rfl, rfl⟩))
    (fun os started H enc _ => lifted os started H enc)

end Go.Proofs.Ytedmpbmbeianfaa.waferRows

namespace Go.Proofs.Ytedmpbmbeianfaa
/-- The statement. -/
theorem rows_holds : Rows.WaferRowsSaid := waferRows.over
#print axioms rows_holds
end Go.Proofs.Ytedmpbmbeianfaa
