/-
  The walk of Settle.
-/
import Derived.Test.YtcofiidibhmhgaaVSteps
namespace Go.Proofs.Ytcofiidibhmhgaa
open Go.RowKit

/-- What the disk was told behind k steps: what is done, and what waits. -/
def setK (y : Bool) (r : ByteArray) (dn ws : List Ch) : Nat → List Ch × List Ch
  | 0 => (dn, ws)
  | 1 => (dn, ws ++ [⟨!y, true, ⟨#[]⟩⟩])
  | 2 => (dn ++ (ws ++ [⟨!y, true, ⟨#[]⟩⟩]), [])
  | 3 => (dn ++ (ws ++ [⟨!y, true, ⟨#[]⟩⟩]), [] ++ [⟨!y, false, recOf r⟩])
  | 4 => (dn ++ (ws ++ [⟨!y, true, ⟨#[]⟩⟩]) ++ ([] ++ [⟨!y, false, recOf r⟩]), [])
  | 5 => (dn ++ (ws ++ [⟨!y, true, ⟨#[]⟩⟩]) ++ ([] ++ [⟨!y, false, recOf r⟩]), [] ++ [⟨y, true, ⟨#[]⟩⟩])
  | _ => (dn ++ (ws ++ [⟨!y, true, ⟨#[]⟩⟩]) ++ ([] ++ [⟨!y, false, recOf r⟩]) ++ ([] ++ [⟨y, true, ⟨#[]⟩⟩]), [])

/-- What is done behind Settle. -/
def setD (y : Bool) (r : ByteArray) (dn ws : List Ch) : List Ch := (setK y r dn ws 6).1

theorem txt_reset (o : Bool) (l : List Ch) : txt o (l ++ [⟨o, true, ⟨#[]⟩⟩]) = ⟨#[]⟩ := by rw [txt_one]; simp [Ch.on]

theorem setK_room (y : Bool) (r : ByteArray) (dn ws : List Ch) : txt (!y) ((setK y r dn ws 2).1 ++ []) = ⟨#[]⟩ := by
  rw [List.append_nil]
  show txt (!y) (dn ++ (ws ++ [⟨!y, true, ⟨#[]⟩⟩])) = _
  rw [← List.append_assoc]
  exact txt_reset _ _

theorem setD_young (y : Bool) (r : ByteArray) (dn ws : List Ch) : txt (!y) (setD y r dn ws) = recOf r := by
  show txt (!y) (dn ++ (ws ++ [⟨!y, true, ⟨#[]⟩⟩]) ++ [⟨!y, false, recOf r⟩] ++ [⟨y, true, ⟨#[]⟩⟩]) = _
  rw [txt_one, txt_one, ← List.append_assoc, txt_reset]
  have e : (⟨#[]⟩ : ByteArray) ++ recOf r = recOf r := bytes_ext (by simp)
  cases y <;> simp [Ch.on, e]

theorem setD_old (y : Bool) (r : ByteArray) (dn ws : List Ch) : txt y (setD y r dn ws) = ⟨#[]⟩ := by
  show txt y (dn ++ (ws ++ [⟨!y, true, ⟨#[]⟩⟩]) ++ [⟨!y, false, recOf r⟩] ++ [⟨y, true, ⟨#[]⟩⟩]) = _
  exact txt_reset _ _

section
variable {B : Nat} {w0 w : World} {vb lb ob b : Nat} {v : Value} {y tn tm : Bool} {e : Nat} {st : Bool} {dn ws : List Ch}

set_option maxRecDepth 100000 in
theorem settle_full (h : VAt w vb lb ob 1099511627776 st) (s : ByteArray) :
    Calls Try.prog 18 #[.pointer (some ⟨vb, 0, none⟩), .string s] w fun en w' => en = .returned (.int .i64 6) ∧ w' = w := by
  have c2 := h.c2
  go_enter Try.func18, Try.ntmps18
  go_wp2
  go_ret
  exact ⟨rfl, rfl⟩

set_option maxHeartbeats 800000 in
set_option maxRecDepth 100000 in
theorem settle_long (h : VAt w vb lb ob e st) (s : ByteArray) (he : e < 1099511627776) (hs : s.size ≤ 1099511627776) (hlong : 1024 < (imgB (e + 1) s).size) :
    Calls Try.prog 18 #[.pointer (some ⟨vb, 0, none⟩), .string s] w fun en w' => en = .returned (.int .i64 3) ∧ Below w.heap.size w w' := by
  have c2 := h.c2
  have he2 : ((e : Int) == 1099511627776) = false := by simp; omega
  have hir := imageRecord_any (e + 1) s (by omega) hs
  obtain ⟨r, hr⟩ : ∃ r, r = imgB (e + 1) s := ⟨_, rfl⟩
  rw [← hr] at hir hlong
  have HI := Hid.mk hir
  clear hir hr
  go_enter Try.func18, Try.ntmps18
  go_wp2_with fail
  refine (HI.out w).mono ?_
  rintro en w1 ⟨rfl, hb⟩
  go_wp2
  go_ret
  exact ⟨rfl, hb⟩

theorem MV.settled (h : MV B w0 w vb lb ob b v y tn tm e st dn ws) :
    MV B w0 ((((w.setCell ⟨vb, 0, none⟩ (.pointer (some ⟨ob, 0, none⟩))).setCell ⟨vb, 1, none⟩ (.pointer (some ⟨lb, 0, none⟩))).setCell ⟨vb, 2, none⟩ (.int .i64 ((e : Int) + 1))).setCell ⟨vb, 3, none⟩ (.bool true)).drew vb ob lb b v (!y) tm tn (e + 1) true dn ws ∧
    Keeps w ((((w.setCell ⟨vb, 0, none⟩ (.pointer (some ⟨ob, 0, none⟩))).setCell ⟨vb, 1, none⟩ (.pointer (some ⟨lb, 0, none⟩))).setCell ⟨vb, 2, none⟩ (.int .i64 ((e : Int) + 1))).setCell ⟨vb, 3, none⟩ (.bool true)).drew := by
  obtain ⟨w', hw'⟩ : ∃ w', w' = ((((w.setCell ⟨vb, 0, none⟩ (.pointer (some ⟨ob, 0, none⟩))).setCell ⟨vb, 1, none⟩ (.pointer (some ⟨lb, 0, none⟩))).setCell ⟨vb, 2, none⟩ (.int .i64 ((e : Int) + 1))).setCell ⟨vb, 3, none⟩ (.bool true)).drew := ⟨_, rfl⟩
  have hbl : ∀ k, k ≠ vb → w'.heap[k]? = w.heap[k]? := fun k hk => by
    rw [hw']
    show ((((w.setCell ⟨vb, 0, none⟩ _).setCell ⟨vb, 1, none⟩ _).setCell ⟨vb, 2, none⟩ _).setCell ⟨vb, 3, none⟩ _).heap[k]? = _
    rw [Below.heap_setCell _ _ _ _ hk, Below.heap_setCell _ _ _ _ hk, Below.heap_setCell _ _ _ _ hk, Below.heap_setCell _ _ _ _ hk]
  have hat : w'.heap[vb]? = some (.cells #[.pointer (some ⟨ob, 0, none⟩), .pointer (some ⟨lb, 0, none⟩), .int .i64 ((e : Int) + 1), .bool true] 66 (0, 0)) := by
    rw [hw']
    show ((((w.setCell ⟨vb, 0, none⟩ _).setCell ⟨vb, 1, none⟩ _).setCell ⟨vb, 2, none⟩ _).setCell ⟨vb, 3, none⟩ _).heap[vb]? = _
    rw [heap_set _ (heap_set _ (heap_set _ (heap_set _ h.a.at_)))]
    simp
  have hbel : Below B w w' := by
    rw [hw']
    exact ((((Below.refl B w).setCell (p := ⟨vb, 0, none⟩) h.bv _).setCell (p := ⟨vb, 1, none⟩) h.bv _).setCell (p := ⟨vb, 2, none⟩) h.bv _).setCell (p := ⟨vb, 3, none⟩) h.bv _ |>.drew
  rw [← hw']
  clear hw'
  have hd := h.d.has.not h.a.at_ (by decide) (by decide)
  refine ⟨⟨⟨h.d.has.carry (hbl b (Ne.symm hd.1)) (fun k hk => hbl k (fun e => hd.2 (by rw [← e]; exact hk))), h.d.le, h.d.own, h.d.below.trans hbel⟩, ⟨hat⟩, h.o.carry (hbl ob (ne_block h.o.at_ h.a.at_ (by decide))), ?_, Ne.symm h.ne, h.bv, h.bo, h.bl⟩, hbel.size, fun k cs t m hk _ _ _ h4 => hbl k (ne_block hk h.a.at_ h4)⟩
  rw [Bool.not_not]
  exact h.l.carry (hbl lb (ne_block h.l.at_ h.a.at_ (by decide)))

set_option maxHeartbeats 3200000 in
set_option maxRecDepth 100000 in
theorem settle_ok (h : MV B w0 w vb lb ob b v y tn tm e st dn ws) (s : ByteArray) (he : e < 1099511627776) (hs : s.size ≤ 1099511627776) (hlong : (imgB (e + 1) s).size ≤ 1024) (hn : ws.length ≤ 1000) :
    Calls Try.prog 18 #[.pointer (some ⟨vb, 0, none⟩), .string s] w fun en w' => en = .returned (.int .i64 0) ∧ MV B w0 w' vb ob lb b (.slice none 0 0) (!y) false false (e + 1) true (setD y (imgB (e + 1) s) dn ws) [] ∧ Keeps w w' := by
  have c2 := h.a.c2
  have he2 : ((e : Int) == 1099511627776) = false := by simp; omega
  have hir := imageRecord_any (e + 1) s (by omega) hs
  obtain ⟨r, hr⟩ : ∃ r, r = imgB (e + 1) s := ⟨_, rfl⟩
  rw [← hr] at hir hlong ⊢
  have HI := Hid.mk hir
  clear hir hr
  go_enter Try.func18, Try.ntmps18
  go_wp2_with fail
  refine (HI.out w).mono ?_
  rintro en w1 ⟨rfl, hb1⟩
  have mv1 := h.grow hb1
  clear h c2
  go_wp2_with fail
  refine (steps_any mv1.a r).mono ?_
  rintro en w2 ⟨rfl, hg2, hp2, hq2, hb2⟩
  have mv2 := mv1.grow hb2
  have hkp : Keeps w w2 := (Keeps.below hb1).trans (Keeps.below hb2)
  obtain ⟨g, hgd⟩ : ∃ g, g = w1.heap.size + 1 + 1 := ⟨_, rfl⟩
  rw [← hgd] at hg2 ⊢
  have HG := Hid.mk hg2
  have HP := Hid.mk hp2
  have HQ := Hid.mk hq2
  have HK2 := Hid.mk hkp
  clear hb1 hb2 mv1 hgd hg2 hp2 hq2
  go_wp2
  go_loopw [7, 29] (fun _ i wr => ∃ (k : Nat) (v : Value) (tn tm : Bool), k ≤ 6 ∧ i = .int .i64 k ∧ MV B w0 wr vb lb ob b v y tn tm e st (setK y r dn ws k).1 (setK y r dn ws k).2 ∧ (1 ≤ k → tm = false) ∧ (5 ≤ k → tn = false) ∧ (k = 6 → v = .slice none 0 0) ∧ Keeps w2 wr) (fun _ i _ => 6 - (intOf i).toNat)
  case atStart => exact ⟨0, v, tn, tm, by omega, rfl, mv2, fun h => by omega, fun h => by omega, fun h => by omega, Keeps.refl _⟩
  case round =>
    clear mv2 hkp
    obtain ⟨k, v3, tn3, tm3, hk, rfl, mv, ht1, ht5, hv6, hkr⟩ := hrel
    have hgr := hkr.cell HG.out (by decide) (by decide) (by decide) (by decide)
    have HKR := Hid.mk hkr
    clear hkr
    rcases (by omega : k = 0 ∨ k = 1 ∨ k = 2 ∨ k = 3 ∨ k = 4 ∨ k = 5 ∨ k = 6) with rfl | rfl | rfl | rfl | rfl | rfl | rfl
    · have hc : wr.cell? ⟨g, 0, none⟩ = some (Value.func (.func 51) #[.pointer (some ⟨ob, 0, none⟩)] #[]) := by simp [World.cell?, hgr, stepCells]
      have HM := Hid.mk mv
      have HT := Hid.mk (And.intro ht1 ht5)
      clear mv ht1 ht5 hv6 hgr
      go_wp2_with fail
      refine (clear_any HM.out.o HM.out.d.has (by simpa [setK] using (by omega : ws.length ≤ 1000000))).mono ?_
      rintro en w4 ⟨rfl, v4, h4, hl4, hw4⟩
      have HM4 := Hid.mk (HM.out.stepO h4 hl4 hw4)
      have HK4 := Hid.mk (HKR.out.trans (Keeps.wroteL HM.out.d.has HM.out.o hw4))
      clear h4 hl4 hw4
      go_wp2
      go_roundw
      case rel => exact ⟨1, v4, _, _, by omega, rfl, HM4.out, fun _ => rfl, fun h => by omega, fun h => by omega, HK4.out⟩
      case measure => simp [intOf]
    · have hc : wr.cell? ⟨g, 1, none⟩ = some (Value.func (.func 38) #[.pointer (some ⟨ob, 0, none⟩)] #[]) := by simp [World.cell?, hgr, stepCells]
      have HM := Hid.mk mv
      have HT := Hid.mk (And.intro ht1 ht5)
      clear mv ht1 ht5 hv6 hgr
      go_wp2_with fail
      refine (force_any HM.out.o HM.out.d.has).mono ?_
      rintro en w4 ⟨rfl, h4, hw4⟩
      have HM4 := Hid.mk (HM.out.step h4 hw4)
      have HK4 := Hid.mk (HKR.out.trans (Keeps.wrote HM.out.d.has hw4))
      clear h4 hw4
      go_wp2
      go_roundw
      case rel => exact ⟨2, _, _, _, by omega, rfl, HM4.out, fun _ => HT.out.1 (by omega), fun h => by omega, fun h => by omega, HK4.out⟩
      case measure => simp [intOf]
    · have hc : wr.cell? ⟨g, 2, none⟩ = some (Value.func (.func 52) #[] #[.pointer (some ⟨w1.heap.size, 0, none⟩), .pointer (some ⟨w1.heap.size + 1, 0, none⟩)]) := by simp [World.cell?, hgr, stepCells]
      have HM := Hid.mk mv
      have HT := Hid.mk (And.intro ht1 ht5)
      clear mv ht1 ht5 hv6 hgr
      go_wp2_with fail
      have hp := HKR.out.cell HP.out (by decide) (by decide) (by decide) (by decide)
      have hq := HKR.out.cell HQ.out (by decide) (by decide) (by decide) (by decide)
      have htm := HT.out.1 (by omega)
      subst htm
      have hroom : stepL (!y) false r (setK y r dn ws 2).1 (setK y r dn ws 2).2 = (0, [] ++ [⟨!y, false, recOf r⟩]) := by
        refine stepL_ok (!y) r _ [] hlong ?_
        rw [setK_room]
        show 0 + r.size + 6 ≤ 16384
        omega
      have hcl := clo_any r HM.out.a (box_cell hp).1 (box_cell hq).1 HM.out.o HM.out.d.has hlong (by simp [setK])
      rw [hroom] at hcl
      refine hcl.mono ?_
      rintro en w4 ⟨rfl, v4, h4, hw4⟩
      have HM4 := Hid.mk (HM.out.step h4 hw4)
      have HK4 := Hid.mk (HKR.out.trans (Keeps.wrote HM.out.d.has hw4))
      clear h4 hw4 hroom hcl hp hq
      go_wp2
      go_roundw
      case rel => exact ⟨3, v4, _, _, by omega, rfl, HM4.out, fun _ => rfl, fun h => by omega, fun h => by omega, HK4.out⟩
      case measure => simp [intOf]
    · have hc : wr.cell? ⟨g, 3, none⟩ = some (Value.func (.func 38) #[.pointer (some ⟨ob, 0, none⟩)] #[]) := by simp [World.cell?, hgr, stepCells]
      have HM := Hid.mk mv
      have HT := Hid.mk (And.intro ht1 ht5)
      clear mv ht1 ht5 hv6 hgr
      go_wp2_with fail
      refine (force_any HM.out.o HM.out.d.has).mono ?_
      rintro en w4 ⟨rfl, h4, hw4⟩
      have HM4 := Hid.mk (HM.out.step h4 hw4)
      have HK4 := Hid.mk (HKR.out.trans (Keeps.wrote HM.out.d.has hw4))
      clear h4 hw4
      go_wp2
      go_roundw
      case rel => exact ⟨4, _, _, _, by omega, rfl, HM4.out, fun _ => HT.out.1 (by omega), fun h => by omega, fun h => by omega, HK4.out⟩
      case measure => simp [intOf]
    · have hc : wr.cell? ⟨g, 4, none⟩ = some (Value.func (.func 51) #[.pointer (some ⟨lb, 0, none⟩)] #[]) := by simp [World.cell?, hgr, stepCells]
      have HM := Hid.mk mv
      have HT := Hid.mk (And.intro ht1 ht5)
      clear mv ht1 ht5 hv6 hgr
      go_wp2_with fail
      refine (clear_any HM.out.l HM.out.d.has (by simp [setK])).mono ?_
      rintro en w4 ⟨rfl, v4, h4, hl4, hw4⟩
      have HM4 := Hid.mk (HM.out.stepL h4 hl4 hw4)
      have HK4 := Hid.mk (HKR.out.trans (Keeps.wroteL HM.out.d.has HM.out.l hw4))
      clear h4 hl4 hw4
      go_wp2
      go_roundw
      case rel => exact ⟨5, v4, _, _, by omega, rfl, HM4.out, fun _ => HT.out.1 (by omega), fun _ => rfl, fun h => by omega, HK4.out⟩
      case measure => simp [intOf]
    · have hc : wr.cell? ⟨g, 5, none⟩ = some (Value.func (.func 38) #[.pointer (some ⟨lb, 0, none⟩)] #[]) := by simp [World.cell?, hgr, stepCells]
      have HM := Hid.mk mv
      have HT := Hid.mk (And.intro ht1 ht5)
      clear mv ht1 ht5 hv6 hgr
      go_wp2_with fail
      refine (force_any HM.out.l HM.out.d.has).mono ?_
      rintro en w4 ⟨rfl, h4, hw4⟩
      have HM4 := Hid.mk (HM.out.step h4 hw4)
      have HK4 := Hid.mk (HKR.out.trans (Keeps.wrote HM.out.d.has hw4))
      clear h4 hw4
      go_wp2
      go_roundw
      case rel => exact ⟨6, _, _, _, by omega, rfl, HM4.out, fun _ => HT.out.1 (by omega), fun _ => HT.out.2 (by omega), fun _ => rfl, HK4.out⟩
      case measure => simp [intOf]
    · have hv := hv6 rfl
      have htm := ht1 (by omega)
      have htn := ht5 (by omega)
      subst hv htm htn
      have a0 := mv.a.c0
      have a1 := mv.a.c1
      have a2 := mv.a.c2
      have a3 := mv.a.c3
      have f0 := mv.a.fz 0
      have f1 := mv.a.fz 1
      have f2 := mv.a.fz 2
      have f3 := mv.a.fz 3
      have HM := Hid.mk mv
      clear mv ht1 ht5 hv6 hgr
      go_wp2_with fail
      go_region
      go_wp2
      go_ret
      have h7 := HM.out.settled
      exact ⟨rfl, h7.1, (HK2.out.trans HKR.out).trans h7.2⟩

end

end Go.Proofs.Ytcofiidibhmhgaa
