/-
  SheetDoes: for all six files and every row of calls, the law returns true: in every row of calls each answer, all files over the tome, and which were written, are the document's; the tome stays as it was; a nil sheet has nothing. No condition.
-/
import Derived.Deep.CutRange
import Derived.Deep.CutBlock
import Derived.Deep.RegionLaw
import Derived.Sort.CutIn
import Derived.Test.YtdngehfebmaegaaShTwo
import Derived.Test.YtdngehfebmaegaaTBytes
namespace Go.Proofs.Ytdngehfebmaegaa.sheetDoes
open Go.ChangeShapes Go.WideShapes Go.ChangeAt Go.RowKit Go.Deep Go.Shelf Go.Proofs.Ytdngehfebmaegaa.Cel Go.Proofs.Ytdngehfebmaegaa.Rng Go.Proofs.Ytdngehfebmaegaa.Dft Go.Proofs.Ytdngehfebmaegaa.Dft.F Go.Proofs.Ytdngehfebmaegaa.Sht
open Tom (CanF TomeAt)
attribute [local go_sem] Oper.semAt_some

/-- The sheets, beside the law's own boxes: what the law answers, and where the document's sheet lies. -/
structure LB (B : Nat) (w W : World) (t b g : Nat) (T : List (Fl × Int)) (s d : Nat) (v : Value) (R : List (Int × Fl)) (m Q P : Nat) : Prop where
  ld : LD B w W t b g T s d v R m
  res : W.heap[Q]? = some (.cells #[.bool false] 4 (0, 0))
  pm : W.heap[P]? = some (.cells #[.pointer (some ⟨m, 0, none⟩)] 29 (0, 0))

section
variable {B t b g s d m Q P : Nat} {w W W' : World} {T : List (Fl × Int)} {v v' : Value} {R R' : List (Int × Fl)}

theorem LB.grown (h : LB B w W t b g T s d v R m Q P) (hb : Below W.heap.size W W') : LB B w W' t b g T s d v R m Q P :=
  ⟨h.ld.grown hb, (hb.block _ (Array.getElem?_eq_some_iff.1 h.res).1).trans h.res, (hb.block _ (Array.getElem?_eq_some_iff.1 h.pm).1).trans h.pm⟩
theorem LB.did (h : LB B w W t b g T s d v R m Q P) (hd : Du W' t b g T s d v' R' m) (hw : Wrote (FD d v m) (FD d v' m) W W') : LB B w W' t b g T s d v' R' m Q P :=
  ⟨h.ld.did hd hw, (hw.block _ (Array.getElem?_eq_some_iff.1 h.res).1 (h.ld.du.not h.res (by decide) (by decide) (by decide))).trans h.res, (hw.block _ (Array.getElem?_eq_some_iff.1 h.pm).1 (h.ld.du.not h.pm (by decide) (by decide) (by decide))).trans h.pm⟩
theorem LB.kept {S : Nat} {row : Option Nat} (h : LB B w W t b g T s d v R m Q P) (hg : W.grownBy W' row) (hr : ∀ r, row = some r → S ≤ r ∧ ∃ o : Obj, W.heap[r]? = some o ∧ o.isCells = false) (hS : B ≤ S) : LB B w W' t b g T s d v R m Q P := by
  have hr2 : ∀ r, row = some r → ∃ o : Obj, W.heap[r]? = some o ∧ o.isCells = false := fun r e => (hr r e).2
  have no : ∀ (k : Nat) (cs : Array Value) (ty : TypeId) (n : Nat × Nat), W.heap[k]? = some (.cells cs ty n) → W'.heap[k]? = W.heap[k]? := fun k cs ty n hk => (block_kept hk hg hr2).trans hk.symm
  refine ⟨⟨h.ld.du.keep (no _ _ _ _ h.ld.du.sh.tome.at_) (no _ _ _ _ h.ld.du.sh.tome.row.at_) (no _ _ _ _ h.ld.du.sh.tome.row.row) (no _ _ _ _ h.ld.du.sh.at_) fun k hk => ?_, h.ld.lo, h.ld.log, h.ld.bel.grown hg h.ld.size fun k e => Nat.le_trans hS (hr k e).1⟩, block_kept h.res hg hr2, block_kept h.pm hg hr2⟩
  rcases hk with (e | ⟨x, hx, e⟩) | e
  · rw [e]; exact no _ _ _ _ h.ld.du.sh.dr.at_
  · simp at hx
    subst hx
    obtain ⟨cs', hc⟩ := own_at h.ld.du.sh.dr.owns e
    exact no _ _ _ _ hc
  · rw [e]; exact no _ _ _ _ h.ld.du.md
theorem LB.cm (h : LB B w W t b g T s d v R m Q P) : W.cell? ⟨P, 0, none⟩ = some (.pointer (some ⟨m, 0, none⟩)) := cell_at h.pm rfl
theorem LB.cr (h : LB B w W t b g T s d v R m Q P) : W.cell? ⟨Q, 0, none⟩ = some (.bool false) := cell_at h.res rfl
theorem LB.fr (h : LB B w W t b g T s d v R m Q P) : W.frozen? ⟨Q, 0, none⟩ = false := free_at h.res
end

/-- .. and how many were met. -/
structure LN (B : Nat) (w W : World) (t b g : Nat) (T : List (Fl × Int)) (s d : Nat) (v : Value) (R : List (Int × Fl)) (m Q P N : Nat) (n : Int) : Prop where
  lb : LB B w W t b g T s d v R m Q P
  bn : W.heap[N]? = some (.cells #[.int .i64 n] 3 (0, 0))
  lo : B ≤ N

section
variable {B t b g s d m Q P N : Nat} {n : Int} {w W W' : World} {T : List (Fl × Int)} {v : Value} {R : List (Int × Fl)}

theorem LN.grown (h : LN B w W t b g T s d v R m Q P N n) (hb : Below W.heap.size W W') : LN B w W' t b g T s d v R m Q P N n := ⟨h.lb.grown hb, (hb.block _ (Array.getElem?_eq_some_iff.1 h.bn).1).trans h.bn, h.lo⟩
theorem LN.kept {S : Nat} {row : Option Nat} (h : LN B w W t b g T s d v R m Q P N n) (hg : W.grownBy W' row) (hr : ∀ r, row = some r → S ≤ r ∧ ∃ o : Obj, W.heap[r]? = some o ∧ o.isCells = false) (hS : B ≤ S) : LN B w W' t b g T s d v R m Q P N n :=
  ⟨h.lb.kept hg hr hS, block_kept h.bn hg fun r e => (hr r e).2, h.lo⟩
theorem LN.number (h : LN B w W t b g T s d v R m Q P N n) (k : Int) : LN B w (W.setCell ⟨N, 0, none⟩ (.int .i64 k)) t b g T s d v R m Q P N k := by
  have no : ∀ (k' : Nat) (cs : Array Value) (ty : TypeId) (q : Nat × Nat), W.heap[k']? = some (.cells cs ty q) → ty ≠ 3 → (W.setCell ⟨N, 0, none⟩ (.int .i64 k)).heap[k']? = W.heap[k']? := fun k' cs ty q hk h1 =>
    Below.heap_setCell _ _ _ _ (fun e => block_ne hk h.bn h1 e)
  refine ⟨⟨⟨h.lb.ld.du.keep (no _ _ _ _ h.lb.ld.du.sh.tome.at_ (by decide)) (no _ _ _ _ h.lb.ld.du.sh.tome.row.at_ (by decide)) (no _ _ _ _ h.lb.ld.du.sh.tome.row.row (by decide)) (no _ _ _ _ h.lb.ld.du.sh.at_ (by decide)) fun q hk => ?_, h.lb.ld.lo, h.lb.ld.log, h.lb.ld.bel.setCell h.lo _⟩, (no _ _ _ _ h.lb.res (by decide)).trans h.lb.res, (no _ _ _ _ h.lb.pm (by decide)).trans h.lb.pm⟩, heap_set _ h.bn, h.lo⟩
  rcases hk with (e | ⟨x, hx, e⟩) | e
  · rw [e]; exact no _ _ _ _ h.lb.ld.du.sh.dr.at_ (by decide)
  · simp at hx
    subst hx
    obtain ⟨cs', hc⟩ := own_at h.lb.ld.du.sh.dr.owns e
    exact no _ _ _ _ hc (by decide)
  · rw [e]; exact no _ _ _ _ h.lb.ld.du.md (by decide)
end

/-- What the document's sheet tells of an entry of the draft. -/
theorem entry_told {T : List (Fl × Int)} {R : List (Int × Fl)} (hf : Fits R) (J : Nat) (hJ : J < R.length) : ∃ Y : Nat, R[J]!.1 = (Y : Int) ∧ Y < 6 ∧ ovr T R Y = R[J]!.2 ∧ (Dft.look R (Y : Int)).isSome = true := by
  have hm := hf.is R[J]! (by rw [getElem!_pos R J hJ]; exact List.getElem_mem _)
  have hl := look_at hf.up J hJ
  obtain ⟨Y, hY⟩ : ∃ Y : Nat, R[J]!.1 = (Y : Int) := ⟨R[J]!.1.toNat, by omega⟩
  rw [hY] at hl
  refine ⟨Y, hY, by omega, ?_, by rw [hl]; rfl⟩
  unfold ovr
  rw [hl]
  rfl

set_option maxRecDepth 100000 in
set_option maxHeartbeats 16000000 in
theorem walk (f : Nat → Fl) (a : Option Addr) (la ca : Nat) (l : List Cl) (w : World) (h1 : IsCls w a la ca l) :
    Calls Try.prog 3 #[.agg (sixA f), .slice a la ca] w fun e w' => e = .returned (.bool true) ∧ Below w.heap.size w w' := by
  have H1 := Hid.mk h1
  have HL := Hid.mk h1.1
  clear h1
  obtain ⟨B, hB⟩ : ∃ B, B = w.heap.size := ⟨_, rfl⟩
  have HB := Hid.mk hB
  obtain ⟨w0, hw0⟩ : ∃ z, z = (w.alloc (.cells (sixA f) 24)).alloc (.cells #[.bool false] 4) := ⟨_, rfl⟩
  have hb0 : Below w.heap.size w w0 := by rw [hw0]; exact ((Below.refl _ w).alloc (Nat.le_refl _) _).alloc (by simp) _
  have k0 : w0.heap[B]? = some (.cells (sixA f) 24 (0, 0)) := by rw [hw0, hB]; exact (Below.heap_alloc _ _ _ (by simp)).trans (heap_new _ _)
  have k1 : w0.heap[B + 1]? = some (.cells #[.bool false] 4 (0, 0)) := by
    have h := heap_new (w.alloc (.cells (sixA f) 24)) (.cells #[.bool false] 4)
    rw [World.size_alloc] at h
    rw [hw0, hB]; exact h
  have HB0 := Hid.mk hb0
  have HK0 := Hid.mk k0
  have HK1 := Hid.mk k1
  clear hb0 k0 k1
  refine (callsIn_wide (n := 20)).1 ?_
  refine callsIn_of_wp_marks Try.func3 rfl trivial ?_ rfl
  simp only [Try.ntmps3, List.size_toArray, List.length_cons, List.length_nil, Nat.reduceAdd, Nat.reduceSub, Array.replicate_succ, Array.replicate_zero, List.push_toArray, List.append_toArray, List.nil_append, List.cons_append]
  gi_wp2_with fail
  rw [← hw0, ← hB]
  clear hw0 hB
  refine ⟨trivial, (callsIn_wide.2 (aliveS w0)).mono ?_⟩
  rintro e w1 ⟨rfl, hb1⟩
  have HK0' := Hid.mk ((hb1.block _ (Array.getElem?_eq_some_iff.1 HK0.out).1).trans HK0.out)
  have HK1' := Hid.mk ((hb1.block _ (Array.getElem?_eq_some_iff.1 HK1.out).1).trans HK1.out)
  have HB1 := Hid.mk (HB0.out.trans (hb1.mono HB0.out.size))
  clear hb1 HK0 HK1 HB0
  have hres1 := HK1'.out
  gi_upto_region 3 with fail
  refine Code.wpIn_mono NoPanic.imp ?_
  refine wpIn_wide.2 ?_
  go_wp2_with (refine wpList_load_row rfl 24 _ rfl B rfl 24 (sixA f) (0, 0) _ HK0'.out Try.underlying24 rfl (size_six f) ?_)
  refine (build_any f w1).mono ?_
  rintro e w2 (⟨rfl, hb2, hbad⟩ | ⟨t, b, g, s, d, m, rfl, hdu, hb2, hlo, hcan⟩)
  · have hb3 := hb2.alloc hb2.size (.cells #[.pointer none] 29)
    have hk3 := (hb3.block _ (Array.getElem?_eq_some_iff.1 HK1'.out).1).trans HK1'.out
    have HB3 := Hid.mk (HB1.out.trans (hb3.mono HB1.out.size))
    clear hb2 hbad hb3 hres1
    go_wp2
    refine NoPanic.normal ?_
    obtain ⟨w3, hw3⟩ : ∃ z, z = w2.alloc (.cells #[.pointer none] 29) := ⟨_, rfl⟩
    rw [← hw3] at hk3 HB3 ⊢
    clear hw3
    have c1 : w3.cell? ⟨B + 1, 0, none⟩ = some (.bool false) := cell_at hk3 rfl
    have f1 : w3.frozen? ⟨B + 1, 0, none⟩ = false := free_at hk3
    clear hk3
    gi_wp2
    have hc5 := World.cell?_setCell_same' w3 ⟨B + 1, 0, none⟩ (.bool true) (by rw [c1]; rfl)
    refine ⟨.bool true, ?_, rfl, ?_⟩
    · simp [results, Try.f3, go_sem, hc5]
    · exact HB3.out.setCell (p := ⟨B + 1, 0, none⟩) (by show w.heap.size ≤ B + 1; have := HB.out; omega) _
  have hb3 := (Below.refl _ w2).alloc (Nat.le_refl _) (.cells #[.pointer (some ⟨m, 0, none⟩)] 29)
  have hld := (LD.start HB1.out.size HB1.out hdu hb2 hlo).grown hb3
  have hk3 := ((hb2.trans (hb3.mono hb2.size)).block _ (Array.getElem?_eq_some_iff.1 HK1'.out).1).trans HK1'.out
  rw [← HB.out] at hld
  have hlb : LB B w (w2.alloc (.cells #[.pointer (some ⟨m, 0, none⟩)] 29)) t b g (tomeF f) s d (.slice none 0 0) [] m (B + 1) w2.heap.size := ⟨hld, hk3, heap_new _ _⟩
  have HLB := Hid.mk hlb
  have HPQ : Hid (B + 1 < w2.heap.size) := Hid.mk (by have := (Array.getElem?_eq_some_iff.1 HK1'.out).1; have := hb2.size; omega)
  clear hdu hb2 hlo hcan hld hk3 hb3 hlb hres1 HK0' HK1' HB1
  go_wp2
  refine NoPanic.normal ?_
  obtain ⟨P, hP⟩ : ∃ P, P = w2.heap.size := ⟨_, rfl⟩
  obtain ⟨w3, hw3⟩ : ∃ z, z = w2.alloc (.cells #[.pointer (some ⟨m, 0, none⟩)] 29) := ⟨_, rfl⟩
  rw [← hw3, ← hP] at HLB
  rw [← hP] at HPQ
  rw [← hw3, ← hP]
  clear hw3 hP
  obtain ⟨T, hT⟩ : ∃ T, T = tomeF f := ⟨_, rfl⟩
  rw [← hT] at HLB
  clear hT
  have fin : ∀ W, Below B w W → Below w.heap.size w (W.setCell ⟨B + 1, 0, none⟩ (.bool true)) := fun W h => by
    rw [← HB.out]; exact h.setCell (p := ⟨B + 1, 0, none⟩) (by show B ≤ B + 1; omega) _
  have FIN := Hid.mk fin
  clear fin
  by_cases hla : 60 < la
  · have hla2 : (60 : Int) < (la : Int) := by omega
    have c1 := HLB.out.cr
    have f1 := HLB.out.fr
    gi_wp2
    have hc5 := World.cell?_setCell_same' w3 ⟨B + 1, 0, none⟩ (.bool true) (by rw [c1]; rfl)
    refine ⟨.bool true, ?_, rfl, ?_⟩
    · simp [results, Try.f3, go_sem, hc5]
    · exact FIN.out _ HLB.out.ld.bel
  have hla2 : ¬ (60 : Int) < (la : Int) := by omega
  have hby := Tom.bytes_yes HLB.out.ld.du.sh.tome
  obtain ⟨BS, hBS⟩ : ∃ z : ByteArray, z = ⟨(Tom.fromB 0 (Tom.filesOf T)).toArray⟩ := ⟨_, rfl⟩
  rw [← hBS] at hby
  have HBS := Hid.mk hBS
  have HBY := Hid.mk hby
  clear hBS hby
  gi_wp2_with fail
  refine ⟨trivial, (callsIn_wide.2 HBY.out).mono ?_⟩
  rintro e w4 ⟨rfl, hb4⟩
  have HL4 := Hid.mk (HLB.out.grown hb4)
  clear hb4 HLB HBY
  gi_wp2
  gi_loopw [41] (fun idx wr => ∃ (k : Nat) (v : Value), k ≤ la ∧ idx = .int .i64 k ∧ Hid (LB B w wr t b g T s d v (stps T [] (l.take k)) m (B + 1) P)) (fun idx _ => la - (intOf idx).toNat)
  case atStart => exact ⟨0, _, Nat.zero_le _, rfl, HL4⟩
  case round =>
    clear HL4
    obtain ⟨k, v, hk, rfl, HS⟩ := hrel
    by_cases hlt : k < la
    · have hkl : k < l.length := by have := HL.out; omega
      have HI := Hid.mk (H1.out.carry (by rw [← HB.out]; exact HS.out.ld.bel))
      obtain ⟨ga, off, e, hat⟩ := HI.out.here (by omega)
      subst e
      obtain ⟨c0, c1, c2, c3⟩ := hat.k k hkl
      have hgl := World.block_lt_of_cell? wr _ c0
      obtain ⟨c, hc⟩ : ∃ c, c = l[k]?.getD ⟨0, 0, 0, 0⟩ := ⟨_, rfl⟩
      rw [← hc] at c0 c1 c2 c3
      have HTK : Hid (stps T [] (l.take (k + 1)) = stp T (stps T [] (l.take k)) c) := Hid.mk (by
        rw [hc, List.getElem?_eq_getElem hkl, Option.getD_some, List.take_succ_eq_append_getElem hkl, stps_snoc])
      have HDO := Hid.mk (fun (z : World) (v : Value) (hz : Du z t b g T s d v (stps T [] (l.take k)) m) => does_any hz c)
      obtain ⟨ck, cx, cy, cz⟩ := c
      dsimp only at c0 c1 c2 c3 HDO
      have hsa := HS.out.grown ((Below.refl _ wr).alloc (Nat.le_refl _) (.cells #[.int .i64 ck, .int .i64 cx, .int .i64 cy, .int .u8 cz.toNat] 34))
      have HSA := Hid.mk hsa
      have cm := hsa.cm
      clear hat hkl HI hc hsa
      gi_wp2_with fail
      refine ⟨trivial, (callsIn_wide.2 (HDO.out _ _ HSA.out.ld.du)).mono ?_⟩
      rintro e w5 ⟨rfl, v5, hd5, hw5⟩
      have hS5 := HSA.out.did hd5 hw5
      rw [← HTK.out] at hS5
      obtain ⟨R, hR⟩ : ∃ R, R = stps T [] (l.take (k + 1)) := ⟨_, rfl⟩
      rw [← hR] at hS5
      have HRR := Hid.mk hR
      have HS5 := Hid.mk hS5
      clear hd5 hw5 hS5 c0 c1 c2 c3 hR cm HSA HTK HDO
      gi_wp2
      gi_loopw [51] (fun idx wr => ∃ j : Nat, j ≤ 6 ∧ idx = .int .i64 j ∧ Hid (LB B w wr t b g T s d v5 R m (B + 1) P)) (fun idx _ => 6 - (intOf idx).toNat)
      case atStart => exact ⟨0, Nat.zero_le _, rfl, HS5⟩
      case round =>
        clear HS5
        obtain ⟨j, hj, rfl, HJ⟩ := hrel
        by_cases hlt6 : j < 6
        · have hlt62 : (j : Int) < 6 := by omega
          have HLT := Hid.mk hlt6
          have hg1 := sget HJ.out.ld.du.sh (j : Int)
          have hm1 := fun (z : World) (hz : MdAt z m T R) => And.intro (MD.files hz j hlt6) (MD.wrote hz j hlt6)
          try dsimp only at hm1
          obtain ⟨⟨q, x⟩, hq⟩ : ∃ q, q = ovr T R j := ⟨_, rfl⟩
          obtain ⟨IS, hIS⟩ : ∃ i, i = (Dft.look R (j : Int)).isSome := ⟨_, rfl⟩
          rw [← hq, ← hIS] at hg1 hm1
          try dsimp only at hg1 hm1
          have HG1 := Hid.mk hg1
          have HM1 := Hid.mk hm1
          have heq := eq_rf (q, x) (q, x)
          rw [decide_eq_true rfl] at heq
          try dsimp only at heq
          clear hg1 hm1 hq hIS
          gi_wp2_with fail
          refine ⟨trivial, (callsIn_wide.2 HG1.out).mono ?_⟩
          rintro e w8 ⟨rfl, hb8⟩
          have hb9 := hb8.alloc hb8.size (.cells #[.bool q, .string x] 23)
          have hl9 := HJ.out.grown hb9
          have HL9 := Hid.mk hl9
          have hn9 := heap_new w8 (.cells #[.bool q, .string x] 23)
          obtain ⟨⟨c0, c1⟩, c2⟩ := HM1.out _ hl9.ld.du.md
          have cm := hl9.cm
          have d0 := cell_at (i := 0) hn9 rfl
          have d1 := cell_at (i := 1) hn9 rfl
          clear hb8 hb9 hl9 hn9 HJ HG1 HM1
          gi_upto_region 16 with fail
          obtain ⟨w9, hw9⟩ : ∃ z, z = w8.alloc (.cells #[.bool q, .string x] 23) := ⟨_, rfl⟩
          rw [← hw9] at HL9 c0 c1 c2 cm d0 d1 ⊢
          obtain ⟨P2, hP2⟩ : ∃ P, P = w8.heap.size := ⟨_, rfl⟩
          rw [← hP2] at d0 d1 ⊢
          clear hw9 hP2
          refine Code.wpIn_mono NoPanic.imp ?_
          refine wpIn_wide.2 ?_
          cases IS with
          | true =>
            go_quiet (fail)
            refine NoPanic.normal ?_
            have hb9 : Below w9.heap.size w9 (w9.drewN nq) := ⟨rfl, rfl, rfl, by rw [heap_drewN]; exact Nat.le_refl _, fun k _ => by rw [heap_drewN]⟩
            have HLC := Hid.mk (HL9.out.grown hb9)
            clear hb9 c0 c1 c2 cm d0 d1 heq HL9
            gi_wp2
            go_roundw
            case rel => exact ⟨j + 1, by have := HLT.out; omega, by go_num, HLC⟩
            case measure => have := HLT.out; simp [intOf]; omega
          | false =>
            go_quiet (fail)
            refine NoPanic.normal ?_
            have hb9 : Below w9.heap.size w9 (w9.drewN nq) := ⟨rfl, rfl, rfl, by rw [heap_drewN]; exact Nat.le_refl _, fun k _ => by rw [heap_drewN]⟩
            have HLC := Hid.mk (HL9.out.grown hb9)
            clear hb9 c0 c1 c2 cm d0 d1 heq HL9
            gi_wp2
            go_roundw
            case rel => exact ⟨j + 1, by have := HLT.out; omega, by go_num, HLC⟩
            case measure => have := HLT.out; simp [intOf]; omega
        · have hge6 : (6 : Int) ≤ (j : Int) := by omega
          gi_wp2
          go_roundw
          case rel => exact ⟨k + 1, v5, by omega, by go_num, by rw [← HRR.out]; exact HJ⟩
          case measure => simp [intOf]; omega
    · have hle : (la : Int) ≤ (k : Int) := by omega
      obtain ⟨R, hR⟩ : ∃ R, R = stps T [] (l.take k) := ⟨_, rfl⟩
      rw [← hR] at HS
      clear hR
      have hbn := (Below.refl _ wr).alloc (Nat.le_refl _) (.cells #[.int .i64 0] 3)
      have hln : LN B w (wr.alloc (.cells #[.int .i64 0] 3)) t b g T s d v R m (B + 1) P wr.heap.size 0 := ⟨HS.out.grown hbn, heap_new _ _, HS.out.ld.size⟩
      obtain ⟨w5, hw5⟩ : ∃ z, z = wr.alloc (.cells #[.int .i64 0] 3) := ⟨_, rfl⟩
      obtain ⟨N, hN⟩ : ∃ N, N = wr.heap.size := ⟨_, rfl⟩
      rw [← hw5, ← hN] at hln
      have HLN := Hid.mk hln
      have HFT := Hid.mk hln.lb.ld.du.sh.fit
      clear hbn hln HS
      gi_wp2_with fail
      rw [← hw5, ← hN]
      clear hw5 hN
      refine ⟨trivial, (callsIn_wide.2 (draft_yes HLN.out.lb.ld.du.sh)).mono ?_⟩
      rintro e w6 ⟨rfl, hw6⟩
      rw [hw6]
      clear hw6 w6
      gi_wp2_with fail
      refine ⟨trivial, (Dft.F.all_in _ _ _).mono ?_⟩
      rintro e wb ⟨rfl, hwb⟩
      obtain ⟨ZS, hZS⟩ : ∃ ZS, ZS = w5.heap.size := ⟨_, rfl⟩
      rw [← hZS]
      have hbb : Below w5.heap.size w5 wb := by rw [hwb]; exact (Below.refl _ _).alloc (Nat.le_refl _) _
      have hcb : wb.cell? ⟨ZS, 0, none⟩ = some (.pointer (some ⟨d, 0, none⟩)) := by rw [hwb, hZS]; exact cell_at (heap_new _ _) rfl
      have HLB := Hid.mk (HLN.out.grown hbb)
      have HCB := Hid.mk hcb
      have HBW : Hid (B ≤ wb.heap.size) := Hid.mk HLB.out.lb.ld.size
      clear hwb hZS hbb hcb HLN
      gi_wp2
      refine range_over2 (gf := 37) (lb := #[.pointer (some ⟨ZS, 0, none⟩)]) rfl (enters_of Try.func37 (by kernel_rfl) rfl)
        (Dft.F.all_gives 19 (by omega) _ d v R wb HCB.out HLB.out.lb.ld.du.sh.dr HLB.out.lb.ld.du.sh.short) (Below.refl _ _) (fun _ _ _ h k => h.trans k) (fun W l r r' hl hr => Dft.F.KT.put hr) (fun _ => rfl)
        (fun (pre : List (Ix R.length)) X => LN B w X t b g T s d v R m (B + 1) P N (pre.length : Nat)) (fun _ _ => False)
        (fun s X Y row hs hg hr => hs.kept hg hr HBW.out) (fun _ _ _ _ h _ _ => h) HLB.out ?round ?done ?stop
      case stop => intro D pre X hD hS hF; exact hF.elim
      case round =>
        intro q pre x X r hl hr hI hgood
        unfold encE
        obtain ⟨J, hJ⟩ : ∃ J, J = pre.length := ⟨_, rfl⟩
        have hxJ : x.1 = J := by rw [hJ]; exact hgood
        have hJR : J < R.length := by rw [← hxJ]; exact x.2
        rw [← hJ] at hI
        rw [hxJ]
        obtain ⟨Y, hY, hY6, hov, hwr⟩ := entry_told (T := T) HFT.out J hJR
        obtain ⟨⟨q1, q2⟩, hq⟩ : ∃ y, y = R[J]!.2 := ⟨_, rfl⟩
        rw [← hq] at hov
        rw [hY, ← hq]
        have HI := Hid.mk hI
        have HJP : Hid (J = pre.length) := Hid.mk hJ
        have HR := Hid.mk hr
        have hl0 : wb.heap.size ≤ q := hl
        have hJ6 : J < 6 := by have := HFT.out.short; omega
        have HX := Hid.mk (Array.getElem?_eq_some_iff.1 hr).1
        have hm1 := fun (z : World) (hz : MdAt z m T R) => And.intro (MD.files hz Y hY6) (MD.wrote hz Y hY6)
        try dsimp only at hm1
        rw [hov, hwr] at hm1
        have HM1 := Hid.mk hm1
        have HISR := Hid.mk (isRef_any (Y : Int))
        rw [show decide (Is (Y : Int)) = true from decide_eq_true ⟨by omega, by omega⟩] at HISR
        have heq := eq_rf (q1, q2) (q1, q2)
        rw [decide_eq_true rfl] at heq
        try dsimp only at heq
        dsimp only
        clear hY hq hgood hI hr hJ hxJ hJR hov hwr hm1
        gi_wp2
        refine ⟨(KeepsOthers.alloc _ _).from _, Dft.F.KT.of_below ((Below.refl _ X).alloc (Nat.le_refl _) _), fun r' => ?_⟩
        have hbx := (Below.refl _ X).alloc (Nat.le_refl _) (.cells #[.bool q1, .string q2] 23)
        have hr2 : (X.alloc (.cells #[.bool q1, .string q2] 23)).heap[q]? = some (.loop r) := (Below.heap_alloc _ _ _ HX.out).trans HR.out
        obtain ⟨Z, hZ⟩ : ∃ Z, Z = (X.alloc (.cells #[.bool q1, .string q2] 23)).putObj q (.loop r') := ⟨_, rfl⟩
        have hg1 : (X.alloc (.cells #[.bool q1, .string q2] 23)).grownBy Z (some q) := by rw [hZ]; exact grownBy_putObj' _ _ _
        have hLZ := (HI.out.grown hbx).kept hg1 (fun p e => by cases e; exact ⟨hl0, _, hr2, rfl⟩) HBW.out
        have hfZ : Z.heap[X.heap.size]? = some (.cells #[.bool q1, .string q2] 23 (0, 0)) := by
          rw [hZ]
          exact (World.putObj_heap_other (Nat.ne_of_gt HX.out)).trans (heap_new _ _)
        have HLZ := Hid.mk hLZ
        rw [← hZ]
        obtain ⟨A, hA⟩ : ∃ P, P = X.heap.size := ⟨_, rfl⟩
        rw [← hA] at hfZ ⊢
        have hne := Wider.some Z.heap.size Z
        have hcells : ∀ g2 : Wider Z.heap.size Z, (g2.z.cell? ⟨P, 0, none⟩ = some (.pointer (some ⟨m, 0, none⟩)) ∧ g2.z.cell? ⟨A, 0, none⟩ = some (.bool q1) ∧ g2.z.cell? ⟨A, 1, none⟩ = some (.string q2)) ∧
            (g2.z.cell? ⟨m, 12 + Y * 2, none⟩ = some (.bool q1) ∧ g2.z.cell? ⟨m, 12 + Y * 2 + 1, none⟩ = some (.string q2)) ∧ g2.z.cell? ⟨m, 24 + Y, none⟩ = some (.bool true) := fun g2 => by
          have h := HLZ.out.grown g2.h
          have hf := (g2.h.block _ (Array.getElem?_eq_some_iff.1 hfZ).1).trans hfZ
          exact ⟨⟨h.lb.cm, cell_at hf rfl, cell_at hf rfl⟩, HM1.out _ h.lb.ld.du.md⟩
        have k0 := fun g2 => (hcells g2).1.1
        have k1 := fun g2 => (hcells g2).1.2.1
        have k2 := fun g2 => (hcells g2).1.2.2
        have k3 := fun g2 => (hcells g2).2.1.1
        have k4 := fun g2 => (hcells g2).2.1.2
        have k5 := fun g2 => (hcells g2).2.2
        have hYlt : (Y : Int) < 6 := by omega
        clear hbx hr2 hg1 hLZ hfZ hZ hA hcells
        gi_wp2_with fail
        refine wpIn_wider_round (B := Z.heap.size) (w0 := Z) _ (by kernel_rfl) (by kernel_rfl) (by kernel_rfl) (Below.refl _ Z) ?_
        repeat (go_big_quiet_step ((go_at_call 14; refine (HISR.out _).mono ?_; rintro e w6 ⟨rfl, hw6⟩; exact ⟨rfl, ⟨w6, by rename_i g2; rw [hw6]; exact g2.h⟩, rfl⟩)))
        refine wpQuiet_nil ?_
        rintro z2 ⟨g2, hg2⟩
        have hz2 : Below Z.heap.size Z z2 := by rw [hg2]; exact g2.h
        have hLz := HLZ.out.grown hz2
        have HLz := Hid.mk hLz
        have hkf := Hid.mk (others_below hz2 wb.heap.size)
        have hkp : Hid (Dft.F.KT Z z2) := Hid.mk (Dft.F.KT.of_below hz2)
        have m0 : z2.cell? ⟨N, 0, none⟩ = some (.int .i64 (J : Nat)) := cell_at hLz.bn rfl
        have m1 : z2.frozen? ⟨N, 0, none⟩ = false := free_at hLz.bn
        have HJ1 : Hid ((pre ++ [x]).length = J + 1) := Hid.mk (by simp; exact HJP.out.symm)
        clear hg2 g2 hz2 hLz k0 k1 k2 k3 k4 k5 hne heq
        gi_wp2
        refine ⟨hkf.out.trans (others_set _ _ _ _), hkp.out.trans (Dft.F.KT.set _ HLz.out.bn (by decide)), ?_⟩
        have h := HLz.out.number ((J + 1 : Nat) : Int)
        dsimp only
        rw [HJ1.out]
        simpa using h
      case done =>
        intro D ys W2 hD hys hI hK2
        have hyl : ys.length = R.length := by have h := congrArg List.length hys; simpa using h
        rw [hyl] at hI
        have HI := Hid.mk hI
        have HD := Hid.mk hD
        have HK2 := Hid.mk hK2
        clear hys hI hyl hD hK2 HLB HCB
        have hg0 := sget_nil HI.out.lb.ld.du.sh.tome 0
        have hm0 := fun (z : World) (hz : MdAt z m T R) => MD.was hz 0 (by decide)
        try dsimp only at hm0
        obtain ⟨⟨q, x⟩, hq⟩ : ∃ q, q = base T 0 := ⟨_, rfl⟩
        rw [← hq] at hg0
        rw [show ((0 : Nat) : Int) = 0 from rfl, ← hq] at hm0
        try dsimp only at hg0 hm0
        have HG0 := Hid.mk hg0
        have HM0 := Hid.mk hm0
        have heq := eq_rf (q, x) (q, x)
        rw [decide_eq_true rfl] at heq
        try dsimp only at heq
        clear hg0 hm0 hq
        gi_wp2_with fail
        refine ⟨trivial, (callsIn_wide.2 HG0.out).mono ?_⟩
        rintro e w7 ⟨rfl, hb7⟩
        have hb8 := hb7.alloc hb7.size (.cells #[.bool q, .string x] 23)
        have hl8 := HI.out.grown hb8
        have HK8 := Hid.mk ((hb8.block _ (Array.getElem?_eq_some_iff.1 HK2.out).1).trans HK2.out)
        have hn8 := heap_new w7 (.cells #[.bool q, .string x] 23)
        obtain ⟨w8, hw8⟩ : ∃ z, z = w7.alloc (.cells #[.bool q, .string x] 23) := ⟨_, rfl⟩
        rw [← hw8] at hl8 HK8 hn8
        have HL8 := Hid.mk hl8
        have HN8 := Hid.mk hn8
        clear hb7 hb8 hl8 hn8 HI HK2 HG0
        gi_upto_region 29 with fail
        rw [← hw8]
        obtain ⟨A, hA⟩ : ∃ P, P = w7.heap.size := ⟨_, rfl⟩
        rw [← hA] at HN8 ⊢
        clear hw8 hA
        have hne := Wider.some w8.heap.size w8
        have hcells : ∀ g2 : Wider w8.heap.size w8, (g2.z.cell? ⟨P, 0, none⟩ = some (.pointer (some ⟨m, 0, none⟩)) ∧ g2.z.cell? ⟨A, 0, none⟩ = some (.bool q) ∧ g2.z.cell? ⟨A, 1, none⟩ = some (.string x)) ∧
            (g2.z.cell? ⟨m, 0, none⟩ = some (.bool q) ∧ g2.z.cell? ⟨m, 1, none⟩ = some (.string x)) ∧ g2.z.cell? ⟨N, 0, none⟩ = some (.int .i64 (R.length : Nat)) := fun g2 => by
          have h := HL8.out.grown g2.h
          have hf := (g2.h.block _ (Array.getElem?_eq_some_iff.1 HN8.out).1).trans HN8.out
          exact ⟨⟨h.lb.cm, cell_at hf rfl, cell_at hf rfl⟩, HM0.out _ h.lb.ld.du.md, cell_at h.bn rfl⟩
        have k0 := fun g2 => (hcells g2).1.1
        have k1 := fun g2 => (hcells g2).1.2.1
        have k2 := fun g2 => (hcells g2).1.2.2
        have k3 := fun g2 => (hcells g2).2.1.1
        have k4 := fun g2 => (hcells g2).2.1.2
        have k5 := fun g2 => (hcells g2).2.2
        have HC1 := Hid.mk (fun (g2 : Wider w8.heap.size w8) => draft_yes (HL8.out.grown g2.h).lb.ld.du.sh)
        have HC2 := Hid.mk (fun (g2 : Wider w8.heap.size w8) => Dft.F.len_yes (HL8.out.grown g2.h).lb.ld.du.sh.dr)
        have hc3 := fun (g2 : Wider w8.heap.size w8) => Tom.bytes_yes (HL8.out.grown g2.h).lb.ld.du.sh.tome
        rw [← HBS.out] at hc3
        have HC3 := Hid.mk hc3
        obtain ⟨LR, hLR⟩ : ∃ n, n = R.length := ⟨_, rfl⟩
        rw [← hLR] at k5 HC2
        clear hcells hc3 hLR
        refine Code.wpIn_mono NoPanic.imp ?_
        refine wpIn_wide.2 ?_
        refine wp_region_wider (B := w8.heap.size) (w0 := w8) (by kernel_rfl) (by kernel_rfl) (Below.refl _ w8) ?_
        repeat (go_big_quiet_step ((first
          | (go_at_call 12; rename_i g2; refine (HC1.out g2).mono ?_; rintro e w9 ⟨rfl, hw9⟩; exact ⟨rfl, ⟨g2.z, g2.h⟩, hw9⟩)
          | (go_at_call 15; rename_i g2; refine (HC2.out g2).mono ?_; rintro e w9 ⟨rfl, hw9⟩; exact ⟨rfl, ⟨g2.z, g2.h⟩, hw9⟩)
          | (go_at_call 9; rename_i g2; refine (HC3.out g2).mono ?_; rintro e w9 ⟨rfl, hb9⟩; exact ⟨rfl, ⟨w9, farther (Nat.le_refl _) g2.h hb9⟩, rfl⟩))))
        refine wpQuiet_nil ?_
        rintro z ⟨g2, hg2⟩
        have hz : Below w8.heap.size w8 z := by rw [hg2]; exact g2.h
        have HTz := Hid.mk (HL8.out.grown hz).lb.ld.du.sh.tome
        have HBz := Hid.mk hz
        clear hg2 g2 hz k0 k1 k2 k3 k4 k5 hne heq HC1 HC2 HC3
        refine NoPanic.normal ?_
        gi_wp2_with fail
        refine ⟨trivial, (callsIn_wide.2 (put_nil HTz.out 0 0 0)).mono ?_⟩
        rintro e y1 ⟨rfl, hby1⟩
        have HTy1 := Hid.mk (HTz.out.grown hby1)
        have HBy1 := Hid.mk (HBz.out.trans (hby1.mono HBz.out.size))
        clear hby1 HTz HBz
        gi_wp2_with fail
        refine ⟨trivial, (callsIn_wide.2 (cut_nil HTy1.out 0 0)).mono ?_⟩
        rintro e y2 ⟨rfl, hby2⟩
        have HTy2 := Hid.mk (HTy1.out.grown hby2)
        have HBy2 := Hid.mk (HBy1.out.trans (hby2.mono HBy1.out.size))
        clear hby2 HTy1 HBy1
        gi_wp2_with fail
        refine ⟨trivial, (callsIn_wide.2 (mk_nil HTy2.out 0)).mono ?_⟩
        rintro e y3 ⟨rfl, hby3⟩
        have HTy3 := Hid.mk (HTy2.out.grown hby3)
        have HBy3 := Hid.mk (HBy2.out.trans (hby3.mono HBy2.out.size))
        clear hby3 HTy2 HBy2
        gi_wp2_with fail
        refine ⟨trivial, (callsIn_wide.2 (remove_nil _ 0 _)).mono ?_⟩
        rintro e y4 ⟨rfl, hby4⟩
        have HTy4 := Hid.mk (HTy3.out.grown hby4)
        have HBy4 := Hid.mk (HBy3.out.trans (hby4.mono HBy3.out.size))
        clear hby4 HTy3 HBy3
        gi_wp2_with fail
        refine ⟨trivial, (callsIn_wide.2 (rename_nil _ 0 1 _)).mono ?_⟩
        rintro e y5 ⟨rfl, hby5⟩
        rw [hby5]
        clear hby5 y5
        gi_wp2_with fail
        refine ⟨trivial, (callsIn_wide.2 (draft_nil _)).mono ?_⟩
        rintro e y6 ⟨rfl, hby6⟩
        rw [hby6]
        clear hby6 y6
        gi_wp2_with fail
        refine ⟨trivial, (callsIn_wide.2 (Sht.copy_nil _)).mono ?_⟩
        rintro e y7 ⟨rfl, hby7⟩
        rw [hby7]
        clear hby7 y7
        gi_wp2_with fail
        refine ⟨trivial, (callsIn_wide.2 (over_nil _ 1 _)).mono ?_⟩
        rintro e y8 ⟨rfl, hby8⟩
        have HTy8 := Hid.mk (HTy4.out.grown hby8)
        have HBy8 := Hid.mk (HBy4.out.trans (hby8.mono HBy4.out.size))
        clear hby8 HTy4 HBy4
        have hl9 := HL8.out.grown HBy8.out
        have hk9 := (HBy8.out.block _ (Array.getElem?_eq_some_iff.1 HK8.out).1).trans HK8.out
        have c1 := hl9.lb.cr
        have f1 := hl9.lb.fr
        have HL9 := Hid.mk hl9
        have HK9 := Hid.mk hk9
        have HC1 := Hid.mk c1
        clear hl9 hk9
        gi_wp2
        have hcz := World.cell?_setCell_same' y8 ⟨B + 1, 0, none⟩ (.bool true) (by rw [HC1.out]; rfl)
        have hK' : (y8.setCell ⟨B + 1, 0, none⟩ (.bool true)).heap[D]? = some (.deferred (some [])) := (KeepsOthers.setCell y8 ⟨B + 1, 0, none⟩ (.bool true)).same D _ HK9.out rfl
        refine ⟨by simp, .inl ⟨_, _, rfl, run_takeDeferred hK', ?_⟩⟩
        have hc5 := cell_kept hcz (grownBy_putObj' _ D (.deferred none)) (fun r e => by cases e; exact ⟨_, hK', rfl⟩)
        have hbz := FIN.out _ HL9.out.lb.ld.bel
        have hwb : w.heap.size ≤ wb.heap.size := by rw [← HB.out]; exact HBW.out
        refine ⟨.bool true, ?_, rfl, hbz.trans (belowK_b (w := w) (Nat.le_refl _) _ D _ (.deferred none) (Nat.le_trans hwb HD.out) hK' rfl rfl)⟩
        simp [results, Try.f3, go_sem, hc5]
set_option maxRecDepth 100000 in
theorem lifted (os : Os) (started : os.Started) (H : Type) (enc : TypeId × Value → H) :
    ReturnsInHanded {} Try.checked os 3 .any (Rows.sheetDoesSpec.pre6 enc Try.prog Try.f3 Rows.sheetDoesRow.domain false) (Rows.sheetDoesSpec.post enc Try.prog Try.f3 false true false false) := by
  refine returnsInHanded_of_change (C := Try.checked) own started (by kernel_rfl) Try.func3
    (ChangeSpec.witness6 (enc := enc) (C := Try.checked) false ⟨#[], #[.agg #[.bool false, .string .empty, .bool false, .string .empty, .bool false, .string .empty, .bool false, .string .empty, .bool false, .string .empty, .bool false, .string .empty], .slice none 0 0], []⟩ 8 (by kernel_rfl) (by kernel_rfl) (by kernel_rfl) (by kernel_rfl)) ?_
  intro W base args ds gs before hval0 hW hcnd _
  have hval : ∀ (j : Nat) t v, Try.f3.params[j]? = some t → args[j]? = some v → Value.okWide Try.prog W .any base t v := hval0
  have hW' := hW
  obtain ⟨p, q, hA0, hV, rfl, hfz, hnd⟩ := hW
  have hA : DataW.TrodAll enc Try.prog W 0 (fun _ => true) true Try.f3.params.toList args.toList ds p := hA0
  rw [Try.params3] at hA hval
  obtain ⟨v0, vs0, d0, ds0, p0, q0, hargs, rfl, rfl, h0, r0⟩ := trodAll_cons hA
  obtain ⟨v1, vs1, d1, ds1, p1, q1, rfl, rfl, rfl, h1, r1⟩ := trodAll_cons r0
  obtain ⟨rfl, rfl, rfl⟩ := trodAll_nil r1
  obtain rfl : args = #[v0, v1] := by cases args; simp_all
  obtain ⟨rfl, rfl⟩ := trodVars_none hV
  obtain ⟨ca0, rfl, hz0⟩ := okWide_arr Try.underlying24 (hval 0 24 v0 rfl rfl)
  have lt0 : ∀ x ∈ p0, x.block < W.heap.size := by obtain ⟨m, hm⟩ := h0; exact DataW.trod_lt m _ _ _ hm
  obtain ⟨fi0, e0⟩ : ∃ fi : Nat → Fl, ca0 = sixA fi := by
    obtain ⟨fuel, hf⟩ := h0
    obtain ⟨c, hc⟩ := open_six hf
    exact ⟨c, by simpa [Value.cells] using congrArg List.toArray hc⟩
  subst e0
  have k0 := h0
  obtain ⟨a1, len1, cap1, rfl⟩ := okWide_slice Try.underlying25 (hval 1 25 v1 rfl rfl)
  have k1 := h1
  have lt1 : ∀ x ∈ p1, x.block < W.heap.size := by obtain ⟨m, hm⟩ := k1; exact DataW.trod_lt m _ _ _ hm
  obtain ⟨ts1, w1⟩ : ∃ ts, IsCls W a1 len1 cap1 ts := by
    obtain ⟨fuel, hf⟩ := h1
    exact open_cls hf
  clear hA0 hval0
  refine (walk fi0 a1 len1 cap1 ts1 W w1).mono fun e W' ⟨he, bel⟩ => ?_
  subst he
  exact ⟨_, rfl, _, _, _, [], _, [], hW', trodAll_mk1 (shut_bool Try.underlying4 _), (trodAll_cons_mk (Below.trod laidOut (by kernel_rfl) (of_decide_eq_true (by kernel_rfl)) k0 bel lt0) (trodAll_cons_mk (Below.trod laidOut (by kernel_rfl) (of_decide_eq_true (by kernel_rfl)) k1 bel lt1) trodAll_mk0)), rfl, bel.frame _, fun h => by cases h⟩

set_option maxRecDepth 100000 in
theorem over : Rows.sheetDoesRow.holds Try.pinned (OpenSpec.ofChange Rows.sheetDoesSpec) :=
  OpenClaim.holds_of_wide 3 Try.f3 rfl rfl rfl rfl rfl rfl rfl ⟨rfl, rfl, rfl, rfl, rfl⟩ rfl rfl rfl rfl rfl (by kernel_rfl) Try.func3 (by kernel_rfl)
    (of_decide_eq_true (by kernel_rfl)) (by unfold Func.isWrapper; first | (rw [if_pos (by decide +kernel)]; kernel_rfl) | (rw [if_neg (by decide +kernel)]; exact ⟨rfl, rfl⟩))
    (fun os started H enc _ => lifted os started H enc)

end Go.Proofs.Ytdngehfebmaegaa.sheetDoes

namespace Go.Proofs.Ytdngehfebmaegaa
/-- The statement. -/
theorem sheetDoes_holds : Rows.SheetDoesSaid := sheetDoes.over
#print axioms sheetDoes_holds
end Go.Proofs.Ytdngehfebmaegaa
