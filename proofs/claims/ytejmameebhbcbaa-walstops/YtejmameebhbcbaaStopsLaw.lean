/-
  WalStops: for every list of loads, and wherever the loop is left, the law returns true: All may be left at any time, and what was seen up to then is the beginning. No condition.
-/
import Derived.Test.YtejmameebhbcbaaLRow
namespace Go.Proofs.Ytejmameebhbcbaa
theorem IsTexts.some_at {w : World} {a : Option Addr} {len cap : Nat} {ts : List ByteArray} (h : IsTexts w a len cap ts) : ∃ g off, (ts ≠ [] → a = some ⟨g, off, none⟩) ∧ ∀ j (h : j < ts.length), w.cell? ⟨g, off + j, none⟩ = some (.string ts[j]) := by
  obtain ⟨hl, ⟨rfl, _⟩ | ⟨g, off, rfl, hat⟩⟩ := h
  · exact ⟨0, 0, fun h => absurd rfl h, fun j h => by simp at h⟩
  · exact ⟨g, off, fun _ => rfl, hat.cell⟩
theorem snoc_is {α : Type} {p l : List α} {x : α} (h : p ++ [x] <+: l) {hl : p.length < l.length} : x = l[p.length] := by
  obtain ⟨r, rfl⟩ := h
  simp
theorem snoc_prefix {α : Type} {p l : List α} (h : p <+: l) (hl : p.length < l.length) : p ++ [l[p.length]] <+: l := by
  have e := List.prefix_iff_eq_take.1 h
  have e2 := List.take_succ_eq_append_getElem hl
  rw [← e] at e2
  rw [← e2]
  exact List.take_prefix _ _
end Go.Proofs.Ytejmameebhbcbaa

namespace Go.Proofs.Ytejmameebhbcbaa.walStops
open Go.ChangeShapes Go.WideShapes Go.ChangeAt Go.RowKit Go.Shelf
open Go.ChangeMaps (open_string shut_string)
attribute [local go_sem] Oper.semAt_some

/-- What the law's own cells hold between two rounds. -/
structure Cells (W : World) (B0 B4 g off : Nat) (stop : Int) (wa : Option Addr) (wc : Nat) (L : List ByteArray) (k : Nat) : Prop where
  ck : W.cell? ⟨B4 + 1, 0, none⟩ = some (.int .i64 (k : Int))
  fk : W.frozen? ⟨B4 + 1, 0, none⟩ = false
  cst : W.cell? ⟨B0, 0, none⟩ = some (.int .i64 stop)
  cre : W.cell? ⟨B0 + 1, 0, none⟩ = some (.bool false)
  fre : W.frozen? ⟨B0 + 1, 0, none⟩ = false
  cwa : W.cell? ⟨B4, 0, none⟩ = some (.slice wa L.length wc)
  ctx : ∀ j (h : j < L.length), W.cell? ⟨g, off + j, none⟩ = some (.string L[j])
  hwa : L ≠ [] → wa = some ⟨g, off, none⟩
  hgb : L ≠ [] → g < B4
  h0b : B0 + 1 < B4

theorem Cells.bump {W : World} {B0 B4 g off : Nat} {stop : Int} {wa : Option Addr} {wc : Nat} {L pre : List ByteArray} {x : ByteArray} (h : Cells W B0 B4 g off stop wa wc L pre.length) :
    Cells (W.setCell ⟨B4 + 1, 0, none⟩ (.int .i64 ((pre.length : Int) + 1))) B0 B4 g off stop wa wc L (pre ++ [x]).length := by
  have h0 := h.h0b
  refine ⟨?_, ?_, ?_, ?_, ?_, ?_, fun j hj => ?_, h.hwa, h.hgb, h.h0b⟩
  · rw [World.cell?_setCell_same' _ _ _ (by rw [h.ck]; rfl)]
    simp
  · rw [World.frozen?_setCell]; exact h.fk
  · rw [World.cell?_setCell_other (w := W) (h := by intro e; injection e; omega)]; exact h.cst
  · rw [World.cell?_setCell_other (w := W) (h := by intro e; injection e; omega)]; exact h.cre
  · rw [World.frozen?_setCell]; exact h.fre
  · rw [World.cell?_setCell_other (w := W) (h := by intro e; injection e; omega)]; exact h.cwa
  · have hg := h.hgb (fun e => by rw [e] at hj; simp at hj)
    rw [World.cell?_setCell_other (w := W) (h := by intro e; injection e; omega)]; exact h.ctx j hj

theorem Cells.kept {W W' : World} {B0 B4 g off : Nat} {stop : Int} {wa : Option Addr} {wc : Nat} {L : List ByteArray} {k : Nat} {row : Option Nat} (h : Cells W B0 B4 g off stop wa wc L k) (hg : W.grownBy W' row)
    (hr : ∀ r, row = some r → ∃ o : Obj, W.heap[r]? = some o ∧ o.isCells = false) : Cells W' B0 B4 g off stop wa wc L k :=
  ⟨cell_kept h.ck hg hr, (frozen_kept h.ck hg hr).trans h.fk, cell_kept h.cst hg hr, cell_kept h.cre hg hr, (frozen_kept h.cre hg hr).trans h.fre, cell_kept h.cwa hg hr, fun j hj => cell_kept (h.ctx j hj) hg hr, h.hwa, h.hgb, h.h0b⟩


set_option maxRecDepth 100000 in
set_option maxHeartbeats 4000000 in
theorem walk (a : Option Addr) (len cap : Nat) (ts : List ByteArray) (stop : Int) (w : World) (ha : IsTexts w a len cap ts) (_hst : (Lit.int .i64 stop).wf = true) :
    Calls Try.prog 5 #[.slice a len cap, .int .i64 stop] w fun e w' => e = .returned (.bool true) ∧ Below w.heap.size w w' := by
  refine (callsIn_wide (n := 6)).1 ?_
  refine callsIn_of_wp_marks Try.func5 rfl trivial ?_ rfl
  simp only [Try.ntmps5, List.size_toArray, List.length_cons, List.length_nil, Nat.reduceAdd, Nat.reduceSub, Array.replicate_succ, Array.replicate_zero, List.push_toArray, List.append_toArray, List.nil_append, List.cons_append]
  gi_wp2_with fail
  refine ⟨trivial, (callsIn_wide.2 (alive_any _)).mono ?_⟩
  rintro e w1 ⟨rfl, hb1⟩
  obtain ⟨w0, hw0⟩ : ∃ w0, w0 = (w.alloc (.cells #[.int .i64 stop] 3)).alloc (.cells #[.bool false] 4) := ⟨_, rfl⟩
  rw [← hw0] at hb1
  have hz0 : w0.heap.size = w.heap.size + 2 := by rw [hw0]; simp
  have hbw : Below w.heap.size w w0 := by rw [hw0]; exact ((Below.refl _ w).alloc (Nat.le_refl _) _).alloc (by simp) _
  have cs : w0.cell? ⟨w.heap.size, 0, none⟩ = some (.int .i64 stop) := by rw [hw0]; exact cell_on _ (laid_one w _ _).1
  have cr : w0.cell? ⟨w.heap.size + 1, 0, none⟩ = some (.bool false) := by rw [hw0]; have h := (laid_one (w.alloc (.cells #[.int .i64 stop] 3)) (.bool false) 4).1; rw [World.size_alloc] at h; exact h
  have fr : w0.frozen? ⟨w.heap.size + 1, 0, none⟩ = false := by rw [hw0]; have h := (laid_one (w.alloc (.cells #[.int .i64 stop] 3)) (.bool false) 4).2; rw [World.size_alloc] at h; exact h
  have ha0 : IsTexts w0 a len cap ts := ha.carry hbw
  have ha1 : IsTexts w1 a len cap ts := ha0.carry hb1
  clear hw0
  gi_wp2_with fail
  refine ⟨trivial, (callsIn_wide.2 (heavy_any a len cap ts _ ha1)).mono ?_⟩
  rintro e w2 ⟨hw2, rfl | ⟨rfl, hl50, hsum⟩⟩
  · rw [hw2]
    have cr1 : w1.cell? ⟨w.heap.size + 1, 0, none⟩ = some (.bool false) := (hb1.cell (p := ⟨w.heap.size + 1, 0, none⟩) (by show w.heap.size + 1 < _; omega)).trans cr
    have fr1 : w1.frozen? ⟨w.heap.size + 1, 0, none⟩ = false := (hb1.frozen (p := ⟨w.heap.size + 1, 0, none⟩) (by show w.heap.size + 1 < _; omega)).trans fr
    gi_wp2
    have hc5 := World.cell?_setCell_same' w1 ⟨w.heap.size + 1, 0, none⟩ (.bool true) (by rw [cr1]; rfl)
    refine ⟨.bool true, ?_, rfl, (hbw.trans (hb1.mono hbw.size)).setCell (p := ⟨w.heap.size + 1, 0, none⟩) (by show _ ≤ w.heap.size + 1; omega) _⟩
    simp [results, Try.f5, go_sem, hc5]
  rw [hw2]
  clear hw2 w2 ha1
  have h0 := Mine.new hb1 hb1.size
  gi_wp2_with fail
  refine ⟨trivial, (callsIn_wide.2 (new_any w1)).mono ?_⟩
  rintro e w3 ⟨rfl, hw3⟩
  rw [← hw3] at h0
  clear hw3
  gi_wp2_with fail
  refine ⟨trivial, (callsIn_wide.2 (walOpen_yes true h0.has [] none_empty)).mono ?_⟩
  rintro e w6 ⟨rfl, hl6, hb6⟩
  have m6 := h0.opened hl6 hb6
  obtain ⟨tn, htn⟩ : ∃ tn, tn = isTorn (txt true ([] ++ [])) [] := ⟨_, rfl⟩
  rw [← htn] at m6
  clear hl6 hb6 h0 htn hb1
  have HS := Hid.mk hsum
  clear hsum
  gi_wp2
  gi_loopw [8, 23] (fun _ i wr => ∃ (k : Nat) (v : Value) (dn ws : List Ch), k ≤ len ∧ i = .int .i64 k ∧ ML w0.heap.size w0 wr w3.heap.size w1.heap.size v true tn dn ws ∧ ws.length ≤ k) (fun _ i _ => len - (intOf i).toNat)
  case atStart => exact ⟨0, _, _, _, Nat.zero_le _, rfl, m6, Nat.zero_le _⟩
  case round =>
    clear m6
    obtain ⟨k, v, dn, ws, hk, rfl, m, hn⟩ := hrel
    by_cases hlt : k < len
    · obtain ⟨hlen, ⟨rfl, _⟩ | ⟨g, off, rfl, hat⟩⟩ := ha0
      · exact absurd hlen (by simp; omega)
      have hkt : k < ts.length := by omega
      have hatr := hat.carry (m.d.below.block g hat.lt) m.d.below.size
      have c := hatr.cell k hkt
      have hge := sumT_get ts k hkt
      obtain ⟨s, hs⟩ : ∃ s, s = ts[k] := ⟨_, rfl⟩
      rw [← hs] at c hge
      have HK := Hid.mk hlt
      have hsum := HS.out
      clear hs hat hatr
      gi_wp2_with fail
      refine ⟨trivial, (callsIn_wide.2 (logAppend_any s m.l m.d.has (by omega) (by omega))).mono ?_⟩
      rintro e w7 ⟨rfl, v7, h7, hw7⟩
      have m7 := m.step h7 hw7
      have hn7 := stepL_len true tn s dn ws
      have HM := Hid.mk m7
      clear h7 hw7 m m7
      gi_wp2
      go_roundw
      case rel => exact ⟨k + 1, _, _, _, HK.out, by go_num, HM.out, by omega⟩
      case measure =>
        have := HK.out
        simp [intOf]
        omega
    · obtain ⟨T, hT⟩ : ∃ T, T = txt true (dn ++ ws) := ⟨_, rfl⟩
      have hTs : T.size ≤ 16384 := by rw [hT]; exact m.d.has.fits.all true
      obtain ⟨L, hL⟩ := all_exists _ T.data.toList (Nat.le_refl _)
      have hlo := loads_any m.l m.d.has L (by rw [← hT]; exact hL)
      gi_wp2_with fail
      refine ⟨trivial, (callsIn_wide.2 hlo).mono ?_⟩
      rintro e w4 ⟨wv, rfl, rowg, hb4⟩
      have m4 := m.grow hb4
      obtain ⟨wa, wc, rfl, hwt⟩ := texts_of_row rowg
      obtain ⟨g, off, hwt2⟩ := hwt.some_at
      clear hb4 m rowg hlo
      have m5 := (m4.grow ((Below.refl _ _).alloc (Nat.le_refl _) (.cells #[.slice wa L.length wc] 32))).grow ((Below.refl _ _).alloc (Nat.le_refl _) (.cells #[.int .i64 0] 3))
      have hlA := logAll_any m5.l m5.d.has
      rw [← hT] at hlA
      gi_wp2_with fail
      refine ⟨trivial, (callsIn_wide.2 hlA).mono ?_⟩
      rintro e w8 ⟨k0, rfl, hk0, hk2, hc0, hb8⟩
      have hz8 : w4.heap.size + 2 ≤ w8.heap.size := by have := hb8.size; simp at this; omega
      have hb48 : Below w4.heap.size w4 w8 := (((Below.refl _ w4).alloc (Nat.le_refl _) _).alloc (by simp) _).trans (hb8.mono (by simp; omega))
      have hB04 := m4.d.below
      have hz04 := hB04.size
      have hB08 : Below w0.heap.size w0 w8 := hB04.trans (hb48.mono hz04)
      have l1 := laid_one w4 (.slice wa L.length wc) 32
      have l2 := laid_one (w4.alloc (.cells #[.slice wa L.length wc] 32)) (.int .i64 0) 3
      simp only [World.size_alloc] at l2
      have hcl0 : Cells w8 w.heap.size w4.heap.size g off stop wa wc L 0 := by
        refine ⟨?_, ?_, (hB08.cell (p := ⟨w.heap.size, 0, none⟩) (by show w.heap.size < _; omega)).trans cs, (hB08.cell (p := ⟨w.heap.size + 1, 0, none⟩) (by show w.heap.size + 1 < _; omega)).trans cr,
          (hB08.frozen (p := ⟨w.heap.size + 1, 0, none⟩) (by show w.heap.size + 1 < _; omega)).trans fr, ?_, fun j hj => (hb48.cell (p := ⟨g, off + j, none⟩) (World.block_lt_of_cell? w4 _ (hwt2.2 j hj))).trans (hwt2.2 j hj), hwt2.1, fun h => World.block_lt_of_cell? w4 _ (hwt2.2 0 (List.length_pos_iff.2 h)), by omega⟩
        · exact (hb8.cell (p := ⟨w4.heap.size + 1, 0, none⟩) (by simp)).trans l2.1
        · exact (hb8.frozen (p := ⟨w4.heap.size + 1, 0, none⟩) (by simp)).trans l2.2
        · exact (hb8.cell (p := ⟨w4.heap.size, 0, none⟩) (by simp; omega)).trans (cell_on _ l1.1)
      have hB8 : Below w.heap.size w w8 := hbw.trans (hB08.mono hbw.size)
      have hwl := hL.whole
      rw [size_list] at hwl
      have hwn := wholeN_len L
      have HL := Hid.mk hL
      clear hL m4 m5 hlA hwt hwt2 hb8 hB04 l1 l2 hB08 cs cr fr
      gi_wp2
      refine wpIn_rangeFunc_ownF rfl (by omega) (gf := 51) (lb := #[.pointer (some ⟨k0, 0, none⟩)]) rfl trivial (enters_of Try.func51 (by kernel_rfl) rfl)
        (all_stops 5 (by omega) k0 T (by omega) w8 hk2 hc0) (fun _ _ => trivial) (fun _ _ _ _ _ _ _ _ => trivial) (Below.refl _ _) (fun _ => rfl)
        (fun pre W => (pre <+: L ∧ Cells W w.heap.size w4.heap.size g off stop wa wc L pre.length) ∧ Below w.heap.size w W)
        (fun c pre W => ((c = .ret ∧ ¬ pre <+: L) ∨ (c = .exit 2 ∧ (pre.length : Int) = stop ∧ Cells W w.heap.size w4.heap.size g off stop wa wc L pre.length)) ∧ Below w.heap.size w W)
        (OwnFrom.and (Own.from (fun s A B row hs hg hr => ⟨hs.1, hs.2.kept hg hr⟩) _) (ownFrom_below (Nat.le_refl _) (by omega)))
        (fun c => OwnFrom.and (Own.from (fun s A B row hs hg hr => hs.elim (fun h => .inl h) (fun h => .inr ⟨h.1, h.2.1, h.2.2.kept hg hr⟩)) _) (ownFrom_below (Nat.le_refl _) (by omega)))
        ⟨⟨List.nil_prefix, hcl0⟩, hB8⟩
        ?acts ?assign ?body ?done ?stop
      case assign =>
        intro l x W K hK
        gi_wp2
        exact hK
      case body =>
        rintro l pre x W ⟨⟨hpre, hcl⟩, hB⟩ hpl
        have hck := hcl.ck
        have hfk := hcl.fk
        have hcst := hcl.cst
        have hcre := hcl.cre
        have hfre := hcl.fre
        have hcwa := hcl.cwa
        have hple := hpre.length_le
        by_cases hlt : pre.length < L.length
        · have hct := hcl.ctx pre.length hlt
          have hwa := hcl.hwa (fun e => by rw [e] at hlt; simp at hlt)
          obtain ⟨t, ht⟩ : ∃ t, t = L[pre.length] := ⟨_, rfl⟩
          rw [← ht] at hct
          rw [hwa] at hcwa
          have HT := Hid.mk ht
          have HC := Hid.mk hcl
          clear ht hcl
          by_cases hxt : x = t
          · subst hxt
            have hpre2 : pre ++ [x] <+: L := by
              rw [HT.out]
              exact snoc_prefix hpre hlt
            by_cases hst : (pre.length : Int) + 1 = stop
            · have hstb : ((pre.length : Int) + 1 == stop) = true := by rw [hst]; simp
              have HST : Hid (((pre ++ [x]).length : Int) = stop) := Hid.mk (by rw [← hst]; simp)
              clear hst
              gi_wp2
              exact ⟨KeepsOthers.setCell _ _ _, .inr ⟨rfl, HST.out, HC.out.bump⟩, hB.setCell (p := ⟨w4.heap.size + 1, 0, none⟩) (by show _ ≤ w4.heap.size + 1; omega) _⟩
            · have hstb : ((pre.length : Int) + 1 == stop) = false := by simpa using hst
              clear hst
              gi_wp2
              exact ⟨KeepsOthers.setCell _ _ _, trivial, ⟨hpre2, HC.out.bump⟩, hB.setCell (p := ⟨w4.heap.size + 1, 0, none⟩) (by show _ ≤ w4.heap.size + 1; omega) _⟩
          · have hxb : (x.toList == t.toList) = false := by
              rw [ByteArray.toList_eq, ByteArray.toList_eq]
              simp
              intro h
              exact hxt (ByteArray.ext h)
            have HN : Hid (¬ pre ++ [x] <+: L) := Hid.mk (fun h => hxt (by rw [HT.out]; exact snoc_is h))
            clear hxt
            gi_wp2
            exact ⟨KeepsOthers.setCell _ _ _, .inl ⟨rfl, HN.out⟩, hB.setCell (p := ⟨w.heap.size + 1, 0, none⟩) (by show _ ≤ w.heap.size + 1; omega) _⟩
        · have hcmp : (L.length : Int) ≤ (pre.length : Int) := by omega
          have HN : Hid (¬ pre ++ [x] <+: L) := Hid.mk (fun h => by have := h.length_le; simp at this; omega)
          gi_wp2
          exact ⟨KeepsOthers.setCell _ _ _, .inl ⟨rfl, HN.out⟩, hB.setCell (p := ⟨w.heap.size + 1, 0, none⟩) (by show _ ≤ w.heap.size + 1; omega) _⟩
      case done =>
        rintro D ys W hD hys ⟨⟨_, hcl⟩, hB⟩ hK
        have e := hys.one HL.out
        obtain ⟨K, hKL⟩ : ∃ K, K = ys.length := ⟨_, rfl⟩
        rw [← hKL] at hcl
        rw [e] at hKL
        have HKL := Hid.mk hKL
        clear hys e hKL
        obtain ⟨ck, fk, cst, cre, fre, cwa, ctx, hwa, hgb, h0b⟩ := hcl
        have hrl := World.block_lt_of_cell? W _ cre
        by_cases hks : (K : Int) = stop
        · have hkb : ((K : Int) == stop) = true := by rw [hks]; simp
          gi_wp2
          have hK' := (KeepsOthers.setCell W ⟨w.heap.size + 1, 0, none⟩ (.bool true)).same D _ hK rfl
          refine ⟨by simp, .inl ⟨_, _, rfl, run_takeDeferred hK', ?_⟩⟩
          have hc5 := cell_kept (World.cell?_setCell_same' W ⟨w.heap.size + 1, 0, none⟩ (.bool true) (by rw [cre]; rfl)) (grownBy_putObj' _ D (.deferred none)) (fun r e => by cases e; exact ⟨_, hK', rfl⟩)
          refine ⟨.bool true, ?_, rfl, (hB.setCell (p := ⟨w.heap.size + 1, 0, none⟩) (by show _ ≤ w.heap.size + 1; omega) _).trans (belowK_b (w := w) (Nat.le_refl _) _ D _ _ (by omega) hK' rfl rfl)⟩
          simp [results, Try.f5, go_sem, hc5]
        · have hkb : ((K : Int) == stop) = false := by simpa using hks
          have hkl : ((K : Int) == (L.length : Int)) = true := by rw [HKL.out]; simp
          gi_wp2
          have hK' := (KeepsOthers.setCell W ⟨w.heap.size + 1, 0, none⟩ (.bool true)).same D _ hK rfl
          refine ⟨by simp, .inl ⟨_, _, rfl, run_takeDeferred hK', ?_⟩⟩
          have hc5 := cell_kept (World.cell?_setCell_same' W ⟨w.heap.size + 1, 0, none⟩ (.bool true) (by rw [cre]; rfl)) (grownBy_putObj' _ D (.deferred none)) (fun r e => by cases e; exact ⟨_, hK', rfl⟩)
          refine ⟨.bool true, ?_, rfl, (hB.setCell (p := ⟨w.heap.size + 1, 0, none⟩) (by show _ ≤ w.heap.size + 1; omega) _).trans (belowK_b (w := w) (Nat.le_refl _) _ D _ _ (by omega) hK' rfl rfl)⟩
          simp [results, Try.f5, go_sem, hc5]
      case stop =>
        rintro D c pre W hD hpre ⟨⟨rfl, hn⟩ | ⟨rfl, hKS, hcl⟩, hB⟩ hK
        · obtain ⟨r, hr⟩ := hpre
          exact absurd ⟨r, hr.one HL.out⟩ hn
        obtain ⟨K, hKp⟩ : ∃ K, K = pre.length := ⟨_, rfl⟩
        rw [← hKp] at hcl hKS
        have hkb : ((K : Int) == stop) = true := by rw [hKS]; simp
        clear hpre hKS hKp
        obtain ⟨ck, fk, cst, cre, fre, cwa, ctx, hwa, hgb, h0b⟩ := hcl
        have hrl := World.block_lt_of_cell? W _ cre
        gi_wp2
        have hK' := (KeepsOthers.setCell W ⟨w.heap.size + 1, 0, none⟩ (.bool true)).same D _ hK rfl
        refine ⟨by simp, .inl ⟨_, _, rfl, run_takeDeferred hK', ?_⟩⟩
        have hc5 := cell_kept (World.cell?_setCell_same' W ⟨w.heap.size + 1, 0, none⟩ (.bool true) (by rw [cre]; rfl)) (grownBy_putObj' _ D (.deferred none)) (fun r e => by cases e; exact ⟨_, hK', rfl⟩)
        refine ⟨.bool true, ?_, rfl, (hB.setCell (p := ⟨w.heap.size + 1, 0, none⟩) (by show _ ≤ w.heap.size + 1; omega) _).trans (belowK_b (w := w) (Nat.le_refl _) _ D _ _ (by omega) hK' rfl rfl)⟩
        simp [results, Try.f5, go_sem, hc5]

set_option maxRecDepth 100000 in
theorem lifted (os : Os) (started : os.Started) (H : Type) (enc : TypeId × Value → H) :
    ReturnsInHanded {} Try.checked os 5 .any (Rows.walStopsSpec.pre6 enc Try.prog Try.f5 Rows.walStopsRow.domain false) (Rows.walStopsSpec.post enc Try.prog Try.f5 false true false false) := by
  refine returnsInHanded_of_change (C := Try.checked) own started (by kernel_rfl) Try.func5
    (ChangeSpec.witness6 (enc := enc) (C := Try.checked) false ⟨#[], #[.slice none 0 0, .int .i64 0], []⟩ 8 (by kernel_rfl) (by kernel_rfl) (by kernel_rfl) (by kernel_rfl)) ?_
  intro W base args ds gs before hval0 hW hcnd _
  have hval : ∀ (j : Nat) t v, Try.f5.params[j]? = some t → args[j]? = some v → Value.okWide Try.prog W .any base t v := hval0
  have hW' := hW
  obtain ⟨p, q, hA0, hV, rfl, hfz, hnd⟩ := hW
  have hA : DataW.TrodAll enc Try.prog W 0 (fun _ => true) true Try.f5.params.toList args.toList ds p := hA0
  rw [Try.params5] at hA hval
  obtain ⟨v0, vs0, d0, ds0, p0, q0, hargs, rfl, rfl, h0, r0⟩ := trodAll_cons hA
  obtain ⟨v1, vs1, d1, ds1, p1, q1, rfl, rfl, rfl, h1, r1⟩ := trodAll_cons r0
  obtain ⟨rfl, rfl, rfl⟩ := trodAll_nil r1
  obtain rfl : args = #[v0, v1] := by cases args; simp_all
  obtain ⟨rfl, rfl⟩ := trodVars_none hV
  obtain ⟨a0, len0, cap0, rfl⟩ := okWide_slice Try.underlying32 (hval 0 32 v0 rfl rfl)
  have k0 := h0
  have lt0 : ∀ x ∈ p0, x.block < W.heap.size := by obtain ⟨m, hm⟩ := k0; exact DataW.trod_lt m _ _ _ hm
  obtain ⟨ts0, w0⟩ : ∃ ts, IsTexts W a0 len0 cap0 ts := by
    obtain ⟨fuel, hf⟩ := h0
    exact open_texts hf
  obtain ⟨a1, rfl, rfl, rfl, w1⟩ := open_int Try.underlying3 (hval 1 3 v1 rfl rfl) h1
  clear hA0 hval0
  refine (walk a0 len0 cap0 ts0 a1 W w0 w1).mono fun e W' ⟨he, bel⟩ => ?_
  subst he
  exact ⟨_, rfl, _, _, _, [], _, [], hW', trodAll_mk1 (shut_bool Try.underlying4 _), (trodAll_cons_mk (Below.trod laidOut (by kernel_rfl) (of_decide_eq_true (by kernel_rfl)) k0 bel lt0) (trodAll_cons_mk (shut_int Try.underlying3 w1) trodAll_mk0)), rfl, bel.frame _, fun h => by cases h⟩

theorem over : Rows.walStopsRow.holds Try.pinned (OpenSpec.ofChange Rows.walStopsSpec) :=
  OpenClaim.holds_of_wide 5 Try.f5 rfl rfl rfl rfl rfl rfl rfl ⟨rfl, rfl, rfl, rfl, rfl⟩ rfl rfl rfl rfl rfl (by kernel_rfl) Try.func5 (by kernel_rfl)
    (of_decide_eq_true (by kernel_rfl)) (by unfold Func.isWrapper; first | (rw [if_pos (by decide +kernel)]; kernel_rfl) | (rw [if_neg (by decide +kernel)]; exact ⟨rfl, rfl⟩))
    (fun os started H enc _ => lifted os started H enc)

end Go.Proofs.Ytejmameebhbcbaa.walStops

namespace Go.Proofs.Ytejmameebhbcbaa
/-- The statement. -/
theorem walStops_holds : Rows.WalStopsSaid := walStops.over
#print axioms walStops_holds
end Go.Proofs.Ytejmameebhbcbaa
