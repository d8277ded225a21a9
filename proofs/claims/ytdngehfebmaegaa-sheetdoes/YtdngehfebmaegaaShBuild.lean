/-
  'build': a tome of six files, a sheet over it, and the document's.
-/
import Derived.Deep.Cut
import Derived.Laws.Rows
import Derived.Laws.Tables
import Derived.Test.YtdngehfebmaegaaShAlive
namespace Go.Proofs.Ytdngehfebmaegaa.Sht
open Go.RowKit Go.Deep Go.Proofs.Ytdngehfebmaegaa.Cel Go.Proofs.Ytdngehfebmaegaa.Dft Go.Proofs.Ytdngehfebmaegaa.Dft.F
open Tom (CanF TomeAt)
open Cel.F (none6)

/-- Six files by value. -/
def sixA (f : Nat → Fl) : Array Value := #[.bool (f 0).1, .string (f 0).2, .bool (f 1).1, .string (f 1).2, .bool (f 2).1, .string (f 2).2, .bool (f 3).1, .string (f 3).2, .bool (f 4).1, .string (f 4).2, .bool (f 5).1, .string (f 5).2]

theorem sixA_size (f : Nat → Fl) : (sixA f).size = 12 := rfl
theorem sixA_get (f : Nat → Fl) (j : Nat) (h : j < 6) : (sixA f)[j * 2]? = some (.bool (f j).1) ∧ (sixA f)[j * 2 + 1]? = some (.string (f j).2) := by
  rcases below6 h with rfl | rfl | rfl | rfl | rfl | rfl <;> exact ⟨rfl, rfl⟩
set_option maxRecDepth 100000 in
theorem size_six (f : Nat → Fl) : (Try.prog.info? 24).map (·.size) = some (sixA f).size := by rw [sixA_size]; kernel_rfl
set_option maxRecDepth 100000 in
theorem sixA_idx (f : Nat → Fl) (k : Nat) (hk : k < 6) (w : World) : (Instr.index 24 (.agg (sixA f)) (.int .i64 (k : Int))).run Try.prog w = .ok (.agg #[.bool (f k).1, .string (f k).2]) w := by
  rcases below6 hk with rfl | rfl | rfl | rfl | rfl | rfl <;> rfl

/-- The first files of a tome that is built. -/
def bT (f : Nat → Fl) (k : Nat) : List (Fl × Int) := (List.range 6).map fun j => if j < k then (f j, (j : Int)) else (noFile, 0)
/-- The tome that is built. -/
abbrev tomeF (f : Nat → Fl) : List (Fl × Int) := bT f 6
def bF (f : Nat → Fl) (k : Nat) : Nat → Fl := fun j => if j < k then f j else noFile

theorem bT_none (f : Nat → Fl) : bT f 0 = none6 := rfl
theorem bT_set (f : Nat → Fl) (k : Nat) (hk : k < 6) : (bT f k).set k (f k, (k : Int)) = bT f (k + 1) := by
  rcases below6 hk with rfl | rfl | rfl | rfl | rfl | rfl <;> rfl
theorem bF_set (f : Nat → Fl) (k : Nat) : upd (bF f k) k (f k) = bF f (k + 1) := by
  funext j
  unfold upd bF
  by_cases h : j = k
  · rw [if_pos h, if_pos (by omega), h]
  · rw [if_neg h]
    by_cases h1 : j < k
    · rw [if_pos h1, if_pos (by omega)]
    · rw [if_neg h1, if_neg (by omega)]
theorem bF_none (f : Nat → Fl) : bF f 0 = fun _ => noFile := by funext j; unfold bF; rw [if_neg (by omega)]

theorem mdA_ext {ba ba' fa fa' : Nat → Fl} {wr wr' : Nat → Bool} (h1 : ∀ j, j < 6 → ba j = ba' j) (h2 : ∀ j, j < 6 → fa j = fa' j) (h3 : ∀ j, j < 6 → wr j = wr' j) : mdA ba fa wr = mdA ba' fa' wr' := by
  unfold mdA
  rw [h1 0 (by decide), h1 1 (by decide), h1 2 (by decide), h1 3 (by decide), h1 4 (by decide), h1 5 (by decide), h2 0 (by decide), h2 1 (by decide), h2 2 (by decide), h2 3 (by decide), h2 4 (by decide), h2 5 (by decide), h3 0 (by decide), h3 1 (by decide), h3 2 (by decide), h3 3 (by decide), h3 4 (by decide), h3 5 (by decide)]

theorem base_tome (f : Nat → Fl) (j : Nat) (h : j < 6) : base (tomeF f) j = f j := by
  unfold base
  rw [if_pos (by omega), Int.toNat_natCast]
  rcases below6 h with rfl | rfl | rfl | rfl | rfl | rfl <;> rfl
theorem tome_ver (f : Nat → Fl) (j : Nat) (h : j < 6) : (tomeF f)[j]! = (f j, (j : Int)) := by
  rcases below6 h with rfl | rfl | rfl | rfl | rfl | rfl <;> rfl

theorem tome_md {w w' : World} {t b g m : Nat} {T : List (Fl × Int)} {ba fa : Nat → Fl} {wr : Nat → Bool} (h : TomeAt w t b g T) (hm : MD w m ba fa wr) (hb : But [m] w w') : TomeAt w' t b g T := by
  have no : ∀ (k : Nat) (cs : Array Value) (ty : TypeId) (n : Nat × Nat), w.heap[k]? = some (.cells cs ty n) → ty ≠ 42 → w'.heap[k]? = w.heap[k]? := fun k cs ty n hk h1 =>
    hb.block k (Array.getElem?_eq_some_iff.1 hk).1 (fun e => block_ne hk hm h1 (by simpa using e))
  exact h.keep (no _ _ _ _ h.at_ (by decide)) (no _ _ _ _ h.row.at_ (by decide)) (no _ _ _ _ h.row.row (by decide))

/-- A file stored into the document's sheet. -/
theorem but_store (w : World) (m i j : Nat) (x y : Value) : But [m] w ((w.setCell ⟨m, i, none⟩ x).setCell ⟨m, j, none⟩ y).drew :=
  ((((But.refl _ w).set (.inl (by simp)) i x).set (.inl (by simp)) j y)).trans (.of_below (Below.refl _ _).drew)

/-- What build leaves. -/
def Built (f : Nat → Fl) (w : World) (e : Ending) (w' : World) : Prop :=
  (e = .returned (.tuple #[.pointer none, .pointer none, .pointer none, .bool false]) ∧ Below w.heap.size w w' ∧ ¬ ∀ j, j < 6 → CanF (f j)) ∨
  ∃ t b g s d m, e = .returned (.tuple #[.pointer (some ⟨t, 0, none⟩), .pointer (some ⟨s, 0, none⟩), .pointer (some ⟨m, 0, none⟩), .bool true]) ∧ Du w' t b g (tomeF f) s d (.slice none 0 0) [] m ∧ Below w.heap.size w w' ∧
    (w.heap.size ≤ t ∧ w.heap.size ≤ b ∧ w.heap.size ≤ g ∧ w.heap.size ≤ s ∧ w.heap.size ≤ d ∧ w.heap.size ≤ m) ∧ ∀ j, j < 6 → CanF (f j)

set_option maxHeartbeats 8000000 in
set_option maxRecDepth 100000 in
theorem build_any (f : Nat → Fl) (w : World) : Calls Try.prog 8 #[.agg (sixA f)] w (Built f w) := by
  obtain ⟨w0, hw0⟩ : ∃ z, z = w.alloc (.cells (sixA f) 24) := ⟨_, rfl⟩
  have hb0 := (Below.refl w.heap.size w).alloc (Nat.le_refl _) (.cells (sixA f) 24)
  have hn0 := heap_new w (.cells (sixA f) 24)
  rw [← hw0] at hb0 hn0
  have HB0 := Hid.mk hb0
  have HN0 := Hid.mk hn0
  clear hb0 hn0
  go_enter Try.func8, Try.ntmps8
  go_wp2_with fail
  rw [← hw0]
  clear hw0
  refine (Tom.new_any w0).mono ?_
  rintro e w1 ⟨t, b, g, rfl, ht, hb1, ht1, hb1', hg1⟩
  have hz0 := HB0.out.size
  obtain ⟨w2, hw2⟩ : ∃ z, z = w1.alloc (.cells (mdA (fun _ => noFile) (fun _ => noFile) (fun _ => false)) 42) := ⟨_, rfl⟩
  have hb2 : Below w1.heap.size w1 w2 := by rw [hw2]; exact (Below.refl _ _).alloc (Nat.le_refl _) _
  have hm2 : MD w2 w1.heap.size (fun _ => noFile) (fun _ => noFile) (fun _ => false) := by rw [hw2]; exact heap_new _ _
  have hN2 : w2.heap[w.heap.size]? = some (.cells (sixA f) 24 (0, 0)) := (hb2.block _ (by have := hb1.size; have := (Array.getElem?_eq_some_iff.1 HN0.out).1; omega)).trans ((hb1.block _ (Array.getElem?_eq_some_iff.1 HN0.out).1).trans HN0.out)
  have HN2 := Hid.mk hN2
  have HM2 := Hid.mk hm2
  have HT2 := Hid.mk (ht.grown hb2)
  have HBB := Hid.mk ((HB0.out.trans (hb1.mono hz0)).trans (hb2.mono (Nat.le_trans hz0 hb1.size)))
  have HLO : Hid (w.heap.size ≤ t ∧ w.heap.size ≤ b ∧ w.heap.size ≤ g ∧ w.heap.size ≤ w1.heap.size) := ⟨by omega, by omega, by omega, Nat.le_trans hz0 hb1.size⟩
  obtain ⟨m, hm⟩ : ∃ m, m = w1.heap.size := ⟨_, rfl⟩
  rw [← hm] at HM2 HLO
  clear ht hb1 ht1 hb1' hg1 hz0 hb2 hm2 hN2
  go_upto_region 3 with fail
  have hlit : mdA (fun _ => noFile) (fun _ => noFile) (fun _ => false) = #[.bool false, .string ⟨#[]⟩, .bool false, .string ⟨#[]⟩, .bool false, .string ⟨#[]⟩, .bool false, .string ⟨#[]⟩, .bool false, .string ⟨#[]⟩, .bool false, .string ⟨#[]⟩, .bool false, .string ⟨#[]⟩, .bool false, .string ⟨#[]⟩, .bool false, .string ⟨#[]⟩, .bool false, .string ⟨#[]⟩, .bool false, .string ⟨#[]⟩, .bool false, .string ⟨#[]⟩, .bool false, .bool false, .bool false, .bool false, .bool false, .bool false] := rfl
  rw [hlit] at hw2
  rw [← hw2, ← hm]
  clear hlit hw2 hm
  go_wp2_with (refine wpList_load_row rfl 24 _ rfl w.heap.size rfl 24 (sixA f) (0, 0) _ HN2.out Try.underlying24 rfl (size_six f) ?_)
  have HST : Hid (TomeAt w2 t b g (bT f 0) ∧ MD w2 m (bF f 0) (bF f 0) (fun _ => false) ∧ Below w.heap.size w w2) := ⟨by rw [bT_none]; exact HT2.out, by rw [bF_none]; exact HM2.out, HBB.out⟩
  clear HT2 HM2 HBB HN2 HN0 HB0
  go_loopw [8, 9, 14] (fun _ _ idx wr => ∃ k : Nat, k ≤ 6 ∧ idx = .int .i64 k ∧ Hid (TomeAt wr t b g (bT f k) ∧ MD wr m (bF f k) (bF f k) (fun _ => false) ∧ Below w.heap.size w wr) ∧ Hid (∀ j, j < k → CanF (f j))) (fun _ _ idx _ => 6 - (intOf idx).toNat)
  case atStart => exact ⟨0, Nat.zero_le _, rfl, HST, Hid.mk (fun j hj => absurd hj (by omega))⟩
  case round =>
    clear HST
    obtain ⟨k, hk, rfl, HS, HF⟩ := hrel
    by_cases hlt : k < 6
    · have hx := sixA_idx f k hlt
      have hlt2 : (k : Int) < 6 := by omega
      have HSET := Hid.mk (fun (z : World) (hz : TomeAt z t b g (bT f k)) => Tom.set_any hz (k : Int) (f k) (k : Int))
      have hoks : Tom.okS (k : Int) (f k) = Tom.canB (f k) := by unfold Tom.okS; rw [decide_eq_true ⟨by omega, hlt2⟩]; rfl
      rw [hoks] at HSET
      have HL := Hid.mk hlt
      have HBK : Hid (Tom.setR (bT f k) (k : Int) (f k) (k : Int) = if Tom.canB (f k) then bT f (k + 1) else bT f k) := Hid.mk (by
        unfold Tom.setR
        rw [hoks, Int.toNat_natCast, bT_set f k hlt])
      rw [HBK.out] at HSET
      have hFB := bF_set f k
      obtain ⟨⟨q, y⟩, hq⟩ : ∃ q, q = f k := ⟨_, rfl⟩
      rw [← hq] at hx HSET hFB
      have HQ := Hid.mk hq
      have HFB := Hid.mk hFB
      dsimp only at hx HSET
      have hb3 := (Below.refl _ wr).alloc (Nat.le_refl _) (.cells #[.bool q, .string y] 23)
      have hn3 := heap_new wr (.cells #[.bool q, .string y] 23)
      have HN3 := Hid.mk hn3
      have e0 := cell_at (i := 0) hn3 rfl
      have e1 := cell_at (i := 1) hn3 rfl
      have HT3 := Hid.mk (HS.out.1.grown hb3)
      have HM3 := Hid.mk (HS.out.2.1.grown hb3)
      have HB3 := Hid.mk (HS.out.2.2.alloc HS.out.2.2.size (.cells #[.bool q, .string y] 23))
      clear hb3 hn3 hoks hq hFB HS
      go_wp2_with fail
      refine (HSET.out _ HT3.out).mono ?_
      rintro e w4 ⟨rfl, ht4, hb4⟩
      have hm4 : MD w4 m (bF f k) (bF f k) (fun _ => false) := (hb4.block m HM3.out.lt (fun e => block_ne HM3.out HT3.out.row.row (by decide) (by simpa using e))).trans HM3.out
      have hn4 := (hb4.block wr.heap.size (Array.getElem?_eq_some_iff.1 HN3.out).1 (fun e => block_ne HN3.out HT3.out.row.row (by decide) (by simpa using e))).trans HN3.out
      have HB4 := Hid.mk (HB3.out.trans (hb4.below (B := w.heap.size) HB3.out.size (fun x hx => by
        have : x = g := by simpa using hx
        rw [this]; exact HLO.out.2.2.1)))
      clear e0 e1 HSET
      cases hc : Tom.canB (q, y) with
      | true =>
        rw [hc, if_pos rfl] at ht4
        have HT4 := Hid.mk ht4
        have HM4 := Hid.mk hm4
        have HCF : Hid (CanF (f k)) := Hid.mk (by rw [← HQ.out]; exact (Tom.canB_iff (q, y)).1 hc)
        have d0 := cell_at (i := 0) hn4 rfl
        have d1 := cell_at (i := 1) hn4 rfl
        obtain ⟨c0, c1⟩ := hm4.was k HL.out
        have f0 := hm4.fz (k * 2)
        have f1 := hm4.fz (k * 2 + 1)
        obtain ⟨A, hA⟩ : ∃ A, A = wr.heap.size := ⟨_, rfl⟩
        rw [← hA] at d0 d1 ⊢
        clear ht4 hm4 hn4 hb4 hc hA
        go_wp2_with fail
        go_big_region
        all_goals
          have hm5 : MD ((w4.setCell ⟨m, k * 2, none⟩ (.bool q)).setCell ⟨m, k * 2 + 1, none⟩ (.string y)).drew m (bF f (k + 1)) (bF f k) (fun _ => false) := by
            rw [← HFB.out]; exact HM4.out.setB k HL.out (q, y)
          have hbt := but_store w4 m (k * 2) (k * 2 + 1) (.bool q) (.string y)
          have HT5 := Hid.mk (tome_md HT4.out HM4.out hbt)
          have HB5 := Hid.mk (HB4.out.trans (hbt.below (B := w.heap.size) HB4.out.size (fun x hx => by
            have : x = m := by simpa using hx
            rw [this]; exact HLO.out.2.2.2)))
          obtain ⟨z, hz⟩ : ∃ z, z = ((w4.setCell ⟨m, k * 2, none⟩ (.bool q)).setCell ⟨m, k * 2 + 1, none⟩ (.string y)).drew := ⟨_, rfl⟩
          rw [← hz] at hm5 HT5 HB5 ⊢
          obtain ⟨b0, b1⟩ := hm5.was k HL.out
          have hbk : bF f (k + 1) k = (q, y) := by rw [HQ.out]; unfold bF; rw [if_pos (by omega)]
          rw [hbk] at b0 b1
          dsimp only at b0 b1
          obtain ⟨c2, c3⟩ := hm5.files k HL.out
          have f2 := hm5.fz (12 + k * 2)
          have f3 := hm5.fz (12 + k * 2 + 1)
          have HM5 := Hid.mk hm5
          clear hm5 hbt hz hbk d0 d1 c0 c1 f0 f1
          go_wp2_with fail
          go_big_region
          all_goals
            have hm6 : MD ((z.setCell ⟨m, 12 + k * 2, none⟩ (.bool q)).setCell ⟨m, 12 + k * 2 + 1, none⟩ (.string y)).drew m (bF f (k + 1)) (bF f (k + 1)) (fun _ => false) := by
              have h := HM5.out.set k HL.out (q, y)
              rw [HFB.out] at h
              exact h
            have hbt := but_store z m (12 + k * 2) (12 + k * 2 + 1) (.bool q) (.string y)
            have HT6 := Hid.mk (tome_md HT5.out HM5.out hbt)
            have HB6 := Hid.mk (HB5.out.trans (hbt.below (B := w.heap.size) HB5.out.size (fun x hx => by
              have : x = m := by simpa using hx
              rw [this]; exact HLO.out.2.2.2)))
            have HM6 := Hid.mk hm6
            clear hm6 hbt c2 c3 f2 f3 b0 b1
            go_wp2
            go_roundw
            case rel => exact ⟨k + 1, by have := HL.out; omega, by go_num, ⟨HT6.out, HM6.out, HB6.out⟩, Hid.mk (fun j hj => by
              by_cases h : j < k
              · exact HF.out j h
              · rw [show j = k by omega]; exact HCF.out)⟩
            case measure => have := HL.out; simp [intOf]; omega
      | false =>
        have HBAD : Hid (¬ CanF (f k)) := Hid.mk (by
          rw [← HQ.out]
          intro h
          rw [(Tom.canB_iff (q, y)).2 h] at hc
          cases hc)
        clear ht4 hm4 hn4 hb4 hc
        go_wp2
        refine bodyPost_ret (v := .tuple #[.pointer none, .pointer none, .pointer none, .bool false]) ?_ rfl (.inl ⟨rfl, HB4.out, fun h => HBAD.out (h k HL.out)⟩)
        simp [results, Try.f8, go_sem]
    · have hk6 : k = 6 := by omega
      subst hk6
      have HALL := HF
      have HT := Hid.mk HS.out.1
      have HM := Hid.mk HS.out.2.1
      have HB := Hid.mk HS.out.2.2
      clear HS HF
      go_wp2_with fail
      refine (Sht.new_any wr).mono ?_
      rintro e w5 ⟨s, d, rfl, hs, hd, hb5, hs1, hd1⟩
      have hz := HB.out.size
      have hdu : Du w5 t b g (tomeF f) s d (.slice none 0 0) [] m := by
        refine ⟨⟨HT.out.grown hb5, hs, hd, Fits.nil⟩, ?_⟩
        have h := HM.out.grown hb5
        unfold MdAt MD
        have hx : mdA (fun j : Nat => base (tomeF f) j) (fun j : Nat => ovr (tomeF f) [] j) (fun j : Nat => (Dft.look ([] : List (Int × Fl)) j).isSome) = mdA (bF f 6) (bF f 6) (fun _ => false) :=
          mdA_ext (fun j hj => by show base (tomeF f) j = _; rw [base_tome f j hj]; unfold bF; rw [if_pos hj]) (fun j hj => by show base (tomeF f) j = _; rw [base_tome f j hj]; unfold bF; rw [if_pos hj]) (fun _ _ => rfl)
        rw [hx]
        exact h
      have HDU := Hid.mk hdu
      have HB7 := Hid.mk (HB.out.trans (hb5.mono hz))
      have HLE : Hid (w.heap.size ≤ s ∧ w.heap.size ≤ d) := ⟨by omega, by omega⟩
      clear hs hd hb5 hs1 hd1 hz hdu
      go_wp2
      refine bodyPost_ret (v := .tuple #[.pointer (some ⟨t, 0, none⟩), .pointer (some ⟨s, 0, none⟩), .pointer (some ⟨m, 0, none⟩), .bool true]) ?_ rfl
        (.inr ⟨t, b, g, s, d, m, rfl, HDU.out, HB7.out, ⟨HLO.out.1, HLO.out.2.1, HLO.out.2.2.1, HLE.out.1, HLE.out.2, HLO.out.2.2.2⟩, fun j hj => HALL.out j hj⟩)
      simp [results, Try.f8, go_sem]

end Go.Proofs.Ytdngehfebmaegaa.Sht
