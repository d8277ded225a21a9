/-
  CellApart: for every number of things, every list of sets, every further set and wherever the loop is left, the law returns true: what is set at one number plays no part at another one. No condition.
-/
import Derived.Test.YtmlebbfaafccnaaRNewS
import Derived.Test.YtmlebbfaafccnaaRAllS
import Derived.Test.YtmlebbfaafccnaaRRound
import Derived.Test.YtmlebbfaafccnaaRAlive
namespace Go.Proofs.Ytmlebbfaafccnaa.cellApart
open Go.ChangeShapes Go.WideShapes Go.ChangeAt Go.RowKit Go.Deep Go.Shelf Go.Proofs.Ytmlebbfaafccnaa.Cel Go.Proofs.Ytmlebbfaafccnaa.Cel.S
attribute [local go_sem] Oper.semAt_some

/-- Sets, one behind the other, on a row. -/
def upd (R : List (ByteArray × Int)) (i : Int) (x : ByteArray) (v : Int) : List (ByteArray × Int) := if 0 ≤ i ∧ i < (R.length : Int) then R.set i.toNat (x, v) else R

set_option maxRecDepth 100000 in
theorem set_any {w : World} {b g : Nat} {R : List (ByteArray × Int)} (h : RowAt w b g R) (i : Int) (x : ByteArray) (v : Int) :
    Calls Try.prog 17 #[.pointer (some ⟨b, 0, none⟩), .int .i64 i, (.string (x)), .int .i64 v] w fun e w' => ∃ ok, e = .returned (.bool ok) ∧ RowAt w' b g (upd R i x v) ∧ Only g w w' := by
  by_cases hin : 0 ≤ i ∧ i < (R.length : Int)
  · obtain ⟨j, rfl⟩ : ∃ j : Nat, i = (j : Int) := ⟨i.toNat, by omega⟩
    refine (set_yes h j (by omega) x v).mono fun e w' k => ⟨true, k.1, ?_, k.2.2⟩
    unfold upd
    rw [if_pos hin]
    exact k.2.1
  · refine (set_no h i hin x v).mono fun e w' k => ⟨false, k.1, ?_, ?_⟩
    · unfold upd
      rw [if_neg hin, k.2]
      exact h
    · rw [k.2]
      exact Only.refl _ _

theorem upd_length (R : List (ByteArray × Int)) (i : Int) (x : ByteArray) (v : Int) : (upd R i x v).length = R.length := by unfold upd; split <;> simp

theorem upd_same (R : List (ByteArray × Int)) (j : Nat) (hj : j < R.length) (x : ByteArray) (v : Int) : (upd R (j : Int) x v)[j]! = (x, v) := by
  unfold upd
  rw [if_pos ⟨by omega, by omega⟩, getElem!_pos _ j (by simpa using hj)]
  simp

theorem upd_other (R : List (ByteArray × Int)) (i : Int) (j : Nat) (hj : j < R.length) (hne : ¬ (j : Int) = i) (x : ByteArray) (v : Int) : (upd R i x v)[j]! = R[j]! := by
  unfold upd
  split
  · rw [getElem!_pos _ j (by simpa using hj), getElem!_pos _ j hj]
    rw [List.getElem_set_ne (by omega)]
  · rfl

/-- What the law's own cells hold between two rounds of the range. -/
structure Lw (B P ga gb Kb : Nat) (si sv sver stop : Int) (R Rb : List (ByteArray × Int)) (k : Nat) (W : World) : Prop where
  ra : RowAt W (ga + 1) ga R
  rb : RowAt W (gb + 1) gb Rb
  s : W.heap[B]? = some (.cells #[.int .i64 si, .int .i64 sv, .int .i64 sver] 30 (0, 0))
  t : W.heap[B + 1]? = some (.cells #[.int .i64 stop] 3 (0, 0))
  r : W.heap[B + 1 + 1]? = some (.cells #[.bool false] 4 (0, 0))
  pa : W.heap[P]? = some (.cells #[.pointer (some ⟨ga + 1, 0, none⟩)] 41 (0, 0))
  pb : W.heap[P + 1]? = some (.cells #[.pointer (some ⟨gb + 1, 0, none⟩)] 41 (0, 0))
  k : W.heap[Kb]? = some (.cells #[.int .i64 (k : Int)] 3 (0, 0))

section
variable {W W' : World} {B P ga gb Kb : Nat} {si sv sver stop : Int} {R Rb : List (ByteArray × Int)} {k : Nat}

theorem Lw.kept {row : Option Nat} (h : Lw B P ga gb Kb si sv sver stop R Rb k W) (hg : W.grownBy W' row) (hr : ∀ r, row = some r → ∃ o : Obj, W.heap[r]? = some o ∧ o.isCells = false) : Lw B P ga gb Kb si sv sver stop R Rb k W' := by
  have key : ∀ {q : Nat} {cs : Array Value} {t : TypeId} {m : Nat × Nat}, W.heap[q]? = some (.cells cs t m) → W'.heap[q]? = some (.cells cs t m) := fun hq => (grownBy_keeps_cells hg hr hq rfl).trans hq
  exact ⟨⟨key h.ra.at_, key h.ra.row, h.ra.short⟩, ⟨key h.rb.at_, key h.rb.row, h.rb.short⟩, key h.s, key h.t, key h.r, key h.pa, key h.pb, key h.k⟩

theorem Lw.drewN (h : Lw B P ga gb Kb si sv sver stop R Rb k W) (n : Nat) : Lw B P ga gb Kb si sv sver stop R Rb k (W.drewN n) :=
  ⟨h.ra.drewN n, h.rb.drewN n, by rw [heap_drewN]; exact h.s, by rw [heap_drewN]; exact h.t, by rw [heap_drewN]; exact h.r, by rw [heap_drewN]; exact h.pa, by rw [heap_drewN]; exact h.pb, by rw [heap_drewN]; exact h.k⟩

theorem Lw.bump (h : Lw B P ga gb Kb si sv sver stop R Rb k W) (h1 : B + 1 + 1 < Kb) (h2 : ga + 1 < Kb) (h3 : gb + 1 < Kb) (h4 : P + 1 < Kb) (n : Nat) : Lw B P ga gb Kb si sv sver stop R Rb (k + 1) ((W.drewN n).setCell ⟨Kb, 0, none⟩ (.int .i64 ((k : Int) + 1))) := by
  have key : ∀ {q : Nat}, q ≠ Kb → ((W.drewN n).setCell ⟨Kb, 0, none⟩ (.int .i64 ((k : Int) + 1))).heap[q]? = W.heap[q]? := fun hq => (Below.heap_setCell _ _ _ _ hq).trans (by rw [heap_drewN])
  refine ⟨h.ra.keep (key (by omega)) (key (by omega)), h.rb.keep (key (by omega)) (key (by omega)), (key (by omega)).trans h.s, (key (by omega)).trans h.t, (key (by omega)).trans h.r, (key (by omega)).trans h.pa, (key (by omega)).trans h.pb, ?_⟩
  have hk : (W.drewN n).heap[Kb]? = some (.cells #[.int .i64 (k : Int)] 3 (0, 0)) := by rw [heap_drewN]; exact h.k
  rw [heap_set _ hk]
  simp

end

theorem below_drewN {B : Nat} {w W : World} (h : Below B w W) (n : Nat) : Below B w (W.drewN n) := ⟨h.os, h.tape, h.output, h.size, h.block⟩
theorem others_drewN (W : World) (n : Nat) : KeepsOthers W (W.drewN n) := ⟨Nat.le_refl _, fun _ _ h _ => h⟩

/-- What lies between two sets. -/
structure Inv (w0 wr : World) (ba ga bb gb N : Nat) (R : List (ByteArray × Int)) : Prop where
  a : RowAt wr ba ga R
  b : RowAt wr bb gb R
  len : R.length = N
  but : But [ga, gb] w0 wr

set_option maxRecDepth 100000 in
set_option maxHeartbeats 4000000 in
theorem walk (n : Int) (a : Option Addr) (len cap : Nat) (cs : List St) (s : St) (stop : Int) (w : World) (_hn : (Lit.int .i64 n).wf = true) (hcs : IsSts w a len cap cs) (_hst : (Lit.int .i64 stop).wf = true) :
    Calls Try.prog 4 #[.int .i64 n, .slice a len cap, .agg #[.int .i64 s.i, .int .i64 s.value, .int .i64 s.version], .int .i64 stop] w fun e w' => e = .returned (.bool true) ∧ Below w.heap.size w w' := by
  obtain ⟨si, sv, sver⟩ := s
  dsimp only
  obtain ⟨B, hB⟩ : ∃ B, B = w.heap.size := ⟨_, rfl⟩
  rw [← hB]
  refine (callsIn_wide (n := 6)).1 ?_
  refine callsIn_of_wp_marks Try.func4 rfl trivial ?_ rfl
  simp only [Try.ntmps4, List.size_toArray, List.length_cons, List.length_nil, Nat.reduceAdd, Nat.reduceSub, Array.replicate_succ, Array.replicate_zero, List.push_toArray, List.append_toArray, List.nil_append, List.cons_append]
  gi_wp2_with fail
  refine ⟨trivial, (callsIn_wide.2 (alive_any _)).mono ?_⟩
  rintro e w1 ⟨rfl, hb1⟩
  obtain ⟨w0, hw0⟩ : ∃ w0, w0 = ((w.alloc (.cells #[.int .i64 si, .int .i64 sv, .int .i64 sver] 30)).alloc (.cells #[.int .i64 stop] 3)).alloc (.cells #[.bool false] 4) := ⟨_, rfl⟩
  rw [← hw0] at hb1
  have hz0 : w0.heap.size = B + 3 := by rw [hw0, hB]; simp
  have hbw : Below B w w0 := by rw [hw0, hB]; exact (((Below.refl _ w).alloc (Nat.le_refl _) _).alloc (by simp) _).alloc (by simp; omega) _
  have ks : w0.heap[B]? = some (.cells #[.int .i64 si, .int .i64 sv, .int .i64 sver] 30 (0, 0)) := by
    rw [hw0, hB, Below.heap_alloc _ _ _ (by simp; omega), Below.heap_alloc _ _ _ (by simp), heap_new]
  have kt : w0.heap[B + 1]? = some (.cells #[.int .i64 stop] 3 (0, 0)) := by
    rw [hw0, hB, Below.heap_alloc _ _ _ (by simp)]
    have h := heap_new (w.alloc (.cells #[.int .i64 si, .int .i64 sv, .int .i64 sver] 30)) (.cells #[.int .i64 stop] 3)
    rw [World.size_alloc] at h
    exact h
  have kr : w0.heap[B + 1 + 1]? = some (.cells #[.bool false] 4 (0, 0)) := by
    have h := heap_new ((w.alloc (.cells #[.int .i64 si, .int .i64 sv, .int .i64 sver] 30)).alloc (.cells #[.int .i64 stop] 3)) (.cells #[.bool false] 4)
    rw [World.size_alloc, World.size_alloc] at h
    rw [hw0, hB]
    exact h
  have ks1 := (hb1.block B (by omega)).trans ks
  have kt1 := (hb1.block (B + 1) (by omega)).trans kt
  have kr1 := (hb1.block (B + 1 + 1) (by omega)).trans kr
  have hbw1 : Below B w w1 := hbw.trans (hb1.mono (by omega))
  have hz1 : B + 3 ≤ w1.heap.size := by have := hb1.size; omega
  rw [← hB]
  have HBe := Hid.mk hB
  clear hw0 ks kt kr hb1 hbw hz0 hB w0
  have cr1 : w1.cell? ⟨B + 1 + 1, 0, none⟩ = some (.bool false) := cell_at kr1 rfl
  have fr1 : w1.frozen? ⟨B + 1 + 1, 0, none⟩ = false := free_at kr1
  by_cases hn : 64 < n
  · gi_wp2
    have hc5 := World.cell?_setCell_same' w1 ⟨B + 1 + 1, 0, none⟩ (.bool true) (by rw [cr1]; rfl)
    refine ⟨.bool true, ?_, rfl, hbw1.setCell (p := ⟨B + 1 + 1, 0, none⟩) (by show _ ≤ B + 1 + 1; omega) _⟩
    simp [results, Try.f4, go_sem, hc5]
  by_cases hl : 100 < len
  · have hl1 : (100 : Int) < (len : Int) := by omega
    gi_wp2
    have hc5 := World.cell?_setCell_same' w1 ⟨B + 1 + 1, 0, none⟩ (.bool true) (by rw [cr1]; rfl)
    refine ⟨.bool true, ?_, rfl, hbw1.setCell (p := ⟨B + 1 + 1, 0, none⟩) (by show _ ≤ B + 1 + 1; omega) _⟩
    simp [results, Try.f4, go_sem, hc5]
  have hl1 : ¬ (100 : Int) < (len : Int) := by omega
  clear cr1 fr1
  gi_wp2_with fail
  refine ⟨trivial, (callsIn_wide.2 (new_any n ⟨#[120]⟩ w1)).mono ?_⟩
  rintro e w2 ⟨rfl, hr2, hb2, hz2⟩
  have HR2 := Hid.mk hr2
  have HB2 := Hid.mk hb2
  have HZ2 := Hid.mk hz2
  clear hr2 hb2 hz2
  gi_wp2_with fail
  refine ⟨trivial, (callsIn_wide.2 (new_any n ⟨#[120]⟩ w2)).mono ?_⟩
  rintro e w3 ⟨rfl, hr3, hb3, hz3⟩
  have HR3 := Hid.mk hr3
  have HB3 := Hid.mk hb3
  have HZ3 := Hid.mk hz3
  clear hr3 hb3 hz3
  gi_wp2
  obtain ⟨w4, hw4⟩ : ∃ w4, w4 = (w3.alloc (.cells #[.pointer (some ⟨w1.heap.size + 1, 0, none⟩)] 41)).alloc (.cells #[.pointer (some ⟨w2.heap.size + 1, 0, none⟩)] 41) := ⟨_, rfl⟩
  rw [← hw4]
  obtain ⟨ga, hga⟩ : ∃ ga, ga = w1.heap.size := ⟨_, rfl⟩
  obtain ⟨gb, hgb⟩ : ∃ gb, gb = w2.heap.size := ⟨_, rfl⟩
  obtain ⟨P, hP⟩ : ∃ P, P = w3.heap.size := ⟨_, rfl⟩
  have hz2 := HZ2.out
  have hz3 := HZ3.out
  have hz4 : w4.heap.size = P + 2 := by rw [hw4, hP]; simp
  have hb4 : Below w3.heap.size w3 w4 := by rw [hw4]; exact ((Below.refl _ _).alloc (Nat.le_refl _) _).alloc (by simp) _
  have hbw4 : Below B w w4 := ((hbw1.trans (HB2.out.mono (by omega))).trans (HB3.out.mono (by omega))).trans (hb4.mono (by omega))
  have kb3 := hb4.block
  have HI4 : Hid (Inv w4 w4 (ga + 1) ga (gb + 1) gb (made n) (List.replicate (made n) (⟨#[120]⟩, 0))) := by
    refine Hid.mk ⟨?_, ?_, by simp, But.refl _ _⟩
    · rw [hga]
      have h := (HR2.out.grown (w' := w3) HB3.out).grown hb4
      exact h
    · rw [hgb]
      exact HR3.out.grown hb4
  have kpa : w4.heap[P]? = some (.cells #[.pointer (some ⟨ga + 1, 0, none⟩)] 41 (0, 0)) := by
    rw [hw4, hP, hga, Below.heap_alloc _ _ _ (by simp), heap_new]
  have kpb : w4.heap[P + 1]? = some (.cells #[.pointer (some ⟨gb + 1, 0, none⟩)] 41 (0, 0)) := by
    have h := heap_new (w3.alloc (.cells #[.pointer (some ⟨w1.heap.size + 1, 0, none⟩)] 41)) (.cells #[.pointer (some ⟨w2.heap.size + 1, 0, none⟩)] 41)
    rw [World.size_alloc, ← hw4, ← hP, ← hgb] at h
    exact h
  have toks : ∀ k, k < w1.heap.size → w4.heap[k]? = w1.heap[k]? := fun k hk => ((kb3 k (by omega)).trans (HB3.out.block k (by omega))).trans (HB2.out.block k hk)
  have ks4 := (toks B (by omega)).trans ks1
  have kt4 := (toks (B + 1) (by omega)).trans kt1
  have kr4 := (toks (B + 1 + 1) (by omega)).trans kr1
  rw [← hga, ← hgb, ← hP]
  have HO : Hid (B + 3 ≤ ga ∧ gb = ga + 2 ∧ P = ga + 4) := Hid.mk ⟨by omega, by omega, by omega⟩
  have HZ4 := Hid.mk hz4
  have HW4 := Hid.mk hbw4
  have KS := Hid.mk ks4
  have KT := Hid.mk kt4
  have KR := Hid.mk kr4
  have KA := Hid.mk kpa
  have KB := Hid.mk kpb
  clear hw4 hga hgb hP hz2 hz3 hz4 hb4 hbw4 kb3 kpa kpb toks ks4 kt4 kr4 ks1 kt1 kr1 hbw1 hz1 HR2 HR3 HB2 HB3 HZ2 HZ3 w2 w3
  gi_loopw [12, 33] (fun _ idx wr => ∃ (k : Nat) (R : List (ByteArray × Int)), k ≤ len ∧ idx = .int .i64 k ∧ Inv w4 wr (ga + 1) ga (gb + 1) gb (made n) R) (fun _ idx _ => len - (intOf idx).toNat)
  case atStart => exact ⟨0, _, Nat.zero_le _, rfl, HI4.out⟩
  case round =>
    obtain ⟨k, R, hk, rfl, hI⟩ := hrel
    clear HI4
    have ho := HO.out
    have hz4 := HZ4.out
    have hzr := hI.but.size
    have hbr : Below B w wr := HW4.out.trans (hI.but.below (by omega) (fun g hg => by simp at hg; omega))
    by_cases hlt : k < len
    · obtain ⟨gg, off, rfl, hat⟩ := (hcs.carry (HBe.out ▸ hbr)).at_ (by omega)
      have hkl : k < cs.length := by rw [hcs.1]; exact hlt
      have c0 := hat.i k hkl
      have c1 := hat.value k hkl
      have c2 := hat.version k hkl
      obtain ⟨x, hx⟩ : ∃ x, x = cs[k]! := ⟨_, rfl⟩
      rw [← hx] at c0 c1 c2
      obtain ⟨i, val, ver⟩ := x
      dsimp only at c0 c1 c2
      obtain ⟨w5, hw5⟩ : ∃ w5, w5 = wr.alloc (.cells #[.int .i64 i, .int .i64 val, .int .i64 ver] 30) := ⟨_, rfl⟩
      have hb5 : Below wr.heap.size wr w5 := by rw [hw5]; exact (Below.refl wr.heap.size wr).alloc (Nat.le_refl _) _
      have HA5 := Hid.mk (hI.a.grown hb5)
      have HB5 := Hid.mk (hI.b.grown hb5)
      have HU5 : Hid (But [ga, gb] w4 w5) := Hid.mk (hI.but.trans (.of_below hb5))
      have HS5 : Hid (w5.heap[wr.heap.size]? = some (.cells #[.int .i64 i, .int .i64 val, .int .i64 ver] 30 (0, 0))) := Hid.mk (by rw [hw5]; exact heap_new _ _)
      have da5 : w5.cell? ⟨P, 0, none⟩ = some (.pointer (some ⟨ga + 1, 0, none⟩)) := cell_at ((HU5.out.block P (by omega) (by simp; omega)).trans KA.out) rfl
      rw [hw5] at da5
      have HW5 := Hid.mk hw5
      have HBR := Hid.mk hbr
      have HI := Hid.mk hI
      clear hw5 hbr hI ho hz4 hzr hb5 hat hx
      by_cases hin : 0 ≤ i ∧ i < (R.length : Int)
      · obtain ⟨j, rfl⟩ : ∃ j : Nat, i = (j : Int) := ⟨i.toNat, by omega⟩
        have hj : j < R.length := by omega
        have HJ := Hid.mk hj
        clear hin hj
        gi_wp2_with fail
        obtain ⟨t, ht⟩ : ∃ t, t = Utf8.encode (wrap32 (wrap64 (97 + bits BinOp.and IntKind.i64 val 15))) := ⟨_, rfl⟩
        rw [← ht, ← HW5.out]
        refine ⟨trivial, (callsIn_wide.2 (set_yes HA5.out j HJ.out t ver)).mono ?_⟩
        rintro e w6 ⟨rfl, hr6, ho6⟩
        have ho := HO.out
        have hz4 := HZ4.out
        have hzr := HI.out.but.size
        have hz5 : w5.heap.size = wr.heap.size + 1 := by rw [HW5.out]; simp
        have ks6 : w6.heap[wr.heap.size]? = some (.cells #[.int .i64 (j : Int), .int .i64 val, .int .i64 ver] 30 (0, 0)) := (ho6.block _ (by omega)).trans HS5.out
        have s60 : w6.cell? ⟨wr.heap.size, 0, none⟩ = some (.int .i64 (j : Int)) := cell_at ks6 rfl
        have s61 : w6.cell? ⟨wr.heap.size, 1, none⟩ = some (.int .i64 val) := cell_at ks6 rfl
        have s62 : w6.cell? ⟨wr.heap.size, 2, none⟩ = some (.int .i64 ver) := cell_at ks6 rfl
        have db6 : w6.cell? ⟨P + 1, 0, none⟩ = some (.pointer (some ⟨gb + 1, 0, none⟩)) := cell_at ((ho6.block (P + 1) (by omega)).trans ((HU5.out.block (P + 1) (by omega) (by simp; omega)).trans KB.out)) rfl
        have HB6 : Hid (RowAt w6 (gb + 1) gb R) := Hid.mk (HB5.out.keep (ho6.block _ (by omega)) (ho6.block _ (by omega)))
        have HA6 := Hid.mk hr6
        have HU6 : Hid (But [ga, gb] w4 w6) := Hid.mk (HU5.out.trans (.of_only (by simp) ho6))
        have HT := Hid.mk ht
        clear hr6 ho6 ho hz4 hzr hz5 ks6 HA5 HB5 HU5 HS5 HW5 ht
        gi_wp2_with fail
        rw [← HT.out]
        refine ⟨trivial, (callsIn_wide.2 (set_yes HB6.out j HJ.out t ver)).mono ?_⟩
        rintro e w7 ⟨rfl, hr7, ho7⟩
        have HI7 : Hid (Inv w4 w7 (ga + 1) ga (gb + 1) gb (made n) (R.set j (t, ver))) := by
          have ho := HO.out
          exact Hid.mk ⟨HA6.out.keep (ho7.block _ (by omega)) (ho7.block _ (by omega)), hr7, by rw [List.length_set]; exact HI.out.len, HU6.out.trans (.of_only (by simp) ho7)⟩
        clear hr7 ho7
        gi_wp2
        go_roundw
        case rel => exact ⟨k + 1, _, by omega, by go_num, HI7.out⟩
        case measure => simp [intOf]; omega
      · have HIN := Hid.mk hin
        clear hin
        gi_wp2_with fail
        obtain ⟨t, ht⟩ : ∃ t, t = Utf8.encode (wrap32 (wrap64 (97 + bits BinOp.and IntKind.i64 val 15))) := ⟨_, rfl⟩
        rw [← ht, ← HW5.out]
        refine ⟨trivial, (callsIn_wide.2 (set_no HA5.out i HIN.out t ver)).mono ?_⟩
        rintro e w6 ⟨rfl, hw6⟩
        rw [hw6]
        clear hw6 w6
        have ho := HO.out
        have hz4 := HZ4.out
        have hzr := HI.out.but.size
        have s60 : w5.cell? ⟨wr.heap.size, 0, none⟩ = some (.int .i64 i) := cell_at HS5.out rfl
        have s61 : w5.cell? ⟨wr.heap.size, 1, none⟩ = some (.int .i64 val) := cell_at HS5.out rfl
        have s62 : w5.cell? ⟨wr.heap.size, 2, none⟩ = some (.int .i64 ver) := cell_at HS5.out rfl
        have db6 : w5.cell? ⟨P + 1, 0, none⟩ = some (.pointer (some ⟨gb + 1, 0, none⟩)) := cell_at ((HU5.out.block (P + 1) (by omega) (by simp; omega)).trans KB.out) rfl
        have HT := Hid.mk ht
        have HI7 : Hid (Inv w4 w5 (ga + 1) ga (gb + 1) gb (made n) R) := Hid.mk ⟨HA5.out, HB5.out, HI.out.len, HU5.out⟩
        clear ho hz4 hzr HS5 HW5 ht
        gi_wp2_with fail
        rw [← HT.out]
        refine ⟨trivial, (callsIn_wide.2 (set_no HB5.out i HIN.out t ver)).mono ?_⟩
        rintro e w7 ⟨rfl, hw7⟩
        rw [hw7]
        clear hw7 w7
        gi_wp2
        go_roundw
        case rel => exact ⟨k + 1, _, by omega, by go_num, HI7.out⟩
        case measure => simp [intOf]; omega
    · have hkK : (len : Int) ≤ (k : Int) := by omega
      have HI := Hid.mk hI
      have HBR := Hid.mk hbr
      have HUr := Hid.mk hI.but
      have k1 : wr.cell? ⟨P + 1, 0, none⟩ = some (.pointer (some ⟨gb + 1, 0, none⟩)) := cell_at ((hI.but.block (P + 1) (by omega) (by simp; omega)).trans KB.out) rfl
      have k2 := (hI.but.block B (by omega) (by simp; omega)).trans KS.out
      have k20 : wr.cell? ⟨B, 0, none⟩ = some (.int .i64 si) := cell_at k2 rfl
      have k22 : wr.cell? ⟨B, 2, none⟩ = some (.int .i64 sver) := cell_at k2 rfl
      clear hI hbr ho hz4 hzr k2
      gi_wp2_with fail
      refine ⟨trivial, (callsIn_wide.2 (set_any HI.out.b si ⟨#[111, 116, 104, 101, 114]⟩ sver)).mono ?_⟩
      rintro e w5 ⟨ok, rfl, hr5, ho5⟩
      obtain ⟨Rb, hRb⟩ : ∃ Rb, Rb = upd R si ⟨#[111, 116, 104, 101, 114]⟩ sver := ⟨_, rfl⟩
      rw [← hRb] at hr5
      have ho := HO.out
      have hz4 := HZ4.out
      have hU5 : But [ga, gb] w4 w5 := HUr.out.trans (.of_only (by simp) ho5)
      have hz5 := hU5.size
      have hbw5 : Below B w w5 := HW4.out.trans (hU5.below (by omega) (fun g hg => by simp at hg; omega))
      obtain ⟨Kb, hKb⟩ : ∃ Kb, Kb = w5.heap.size := ⟨_, rfl⟩
      have hRl : Rb.length = made n := by rw [hRb, upd_length, HI.out.len]
      have b0 : Below w5.heap.size w5 (w5.alloc (.cells #[.int .i64 0] 3)) := (Below.refl _ _).alloc (Nat.le_refl _) _
      have LW : Hid (Lw B P ga gb Kb si sv sver stop R Rb 0 (w5.alloc (.cells #[.int .i64 0] 3))) := by
        have key : ∀ {q : Nat}, q < w4.heap.size → q ≠ ga → q ≠ gb → (w5.alloc (.cells #[.int .i64 0] 3)).heap[q]? = w4.heap[q]? := fun {q} h1 h2 h3 => (b0.block q (by omega)).trans (hU5.block q h1 (by simp; omega))
        refine Hid.mk ⟨?_, hr5.grown b0, (key (by omega) (by omega) (by omega)).trans KS.out, (key (by omega) (by omega) (by omega)).trans KT.out, (key (by omega) (by omega) (by omega)).trans KR.out, (key (by omega) (by omega) (by omega)).trans KA.out, (key (by omega) (by omega) (by omega)).trans KB.out, ?_⟩
        · exact (HI.out.a.keep (ho5.block _ (by omega)) (ho5.block _ (by omega))).grown b0
        · rw [hKb]
          exact heap_new _ _
      have pb5 : (w5.alloc (.cells #[.int .i64 0] 3)).cell? ⟨P + 1, 0, none⟩ = some (.pointer (some ⟨gb + 1, 0, none⟩)) := cell_at LW.out.pb rfl
      have HBW := Hid.mk (hbw5.trans (b0.mono (by omega)))
      have HN2 : Hid (B + 1 + 1 < Kb ∧ ga + 1 < Kb ∧ gb + 1 < Kb ∧ P + 1 < Kb ∧ B ≤ Kb) := Hid.mk ⟨by omega, by omega, by omega, by omega, by omega⟩
      have HKb := Hid.mk hKb
      have HRB := Hid.mk hRb
      have HRL := Hid.mk hRl
      have HRA : Hid (R.length = made n) := Hid.mk HI.out.len
      clear hr5 ho5 ho hz4 hU5 hz5 hbw5 hKb hRl hRb b0 k1 k20 k22 HI HUr HBR KS KT KR KA KB
      gi_wp2_with fail
      refine ⟨trivial, (all_in _ _ _).mono ?_⟩
      rintro e w7 ⟨rfl, hw7⟩
      rw [hw7]
      have hz6 : (w5.alloc (.cells #[.int .i64 0] 3)).heap.size = Kb + 1 := by rw [HKb.out]; simp
      obtain ⟨w6, hw6⟩ : ∃ w6, w6 = w5.alloc (.cells #[.int .i64 0] 3) := ⟨_, rfl⟩
      rw [← hw6] at LW HBW pb5 hz6 ⊢
      rw [hz6, ← HKb.out]
      clear hw7 hw6 w7
      have b8 : Below w6.heap.size w6 (w6.alloc (.cells #[.pointer (some ⟨gb + 1, 0, none⟩)] 41)) := (Below.refl _ _).alloc (Nat.le_refl _) _
      have LW8 : Hid (Lw B P ga gb Kb si sv sver stop R Rb 0 (w6.alloc (.cells #[.pointer (some ⟨gb + 1, 0, none⟩)] 41))) := Hid.mk (LW.out.kept (World.grownBy_alloc _ _ none) (fun r e => by cases e))
      have px8 : (w6.alloc (.cells #[.pointer (some ⟨gb + 1, 0, none⟩)] 41)).cell? ⟨Kb + 1, 0, none⟩ = some (.pointer (some ⟨gb + 1, 0, none⟩)) := by
        have h := heap_new w6 (.cells #[.pointer (some ⟨gb + 1, 0, none⟩)] 41)
        rw [hz6] at h
        exact cell_at h rfl
      have hz8 : (w6.alloc (.cells #[.pointer (some ⟨gb + 1, 0, none⟩)] 41)).heap.size = Kb + 2 := by simp; omega
      have HBW8 := Hid.mk (HBW.out.trans (b8.mono (by have := HN2.out; omega)))
      obtain ⟨w8, hw8⟩ : ∃ w8, w8 = w6.alloc (.cells #[.pointer (some ⟨gb + 1, 0, none⟩)] 41) := ⟨_, rfl⟩
      rw [← hw8] at LW8 px8 hz8 HBW8 ⊢
      have HPX := Hid.mk px8
      have HZ8 := Hid.mk hz8
      clear hw8 b8 px8 hz6 hz8 LW HBW pb5 w6 HKb w5
      obtain ⟨fx, HFX⟩ : ∃ fx : Nat → ByteArray, Hid (∀ j, fx j = Rb[j]!.1) := ⟨_, Hid.mk fun _ => rfl⟩
      gi_wp2
      refine wpIn_rangeFunc_ownF rfl (by omega) (gf := 24) (lb := #[.pointer (some ⟨Kb + 1, 0, none⟩)]) rfl trivial (enters_of Try.func24 (by kernel_rfl) rfl)
        (all_stops 5 (by omega) (Kb + 1) (gb + 1) gb (made n) fx Rb w8 (by have := HZ8.out; omega) HPX.out LW8.out.rb HRL.out (fun j _ => (HFX.out j).symm)) (fun h k => h.trans k) (fun W l o o' hl _ _ _ => Stay.put W o' (by have := HZ8.out; omega) (by have := HZ8.out; have := HN2.out; omega) (by have := HZ8.out; have := HN2.out; omega)) (Below.refl _ _) (fun _ => rfl)
        (fun pre W => Lw B P ga gb Kb si sv sver stop R Rb pre.length W ∧ Below B w W)
        (fun c pre W => (c = .exit 2 ∧ (pre.length : Int) = stop ∧ Lw B P ga gb Kb si sv sver stop R Rb pre.length W) ∧ Below B w W)
        (OwnFrom.and (Own.from (fun s A B row hs hg hr => hs.kept hg hr) _) (ownFrom_below (HBe.out ▸ Nat.le_refl _) (by have := HZ8.out; have := HN2.out; omega)))
        (fun c => OwnFrom.and (Own.from (fun s A B row hs hg hr => ⟨hs.1, hs.2.1, hs.2.2.kept hg hr⟩) _) (ownFrom_below (HBe.out ▸ Nat.le_refl _) (by have := HZ8.out; have := HN2.out; omega)))
        ⟨LW8.out, HBW8.out⟩
        ?acts ?assign ?body ?done ?stop
      case assign =>
        intro l x W K hK
        gi_wp2
        exact hK
      case body =>
        rintro l pre ⟨j, hjN⟩ W ⟨hL, hB⟩ hpl
        have hjR : j < R.length := by have := HRA.out; omega
        have hjb : j < Rb.length := by have := HRL.out; omega
        have a1 : W.cell? ⟨P, 0, none⟩ = some (.pointer (some ⟨ga + 1, 0, none⟩)) := cell_at hL.pa rfl
        have HL := Hid.mk hL
        have HB := Hid.mk hB
        clear hL hB
        dsimp only
        obtain ⟨X0, hX0⟩ : ∃ X0, X0 = fx j := ⟨_, rfl⟩
        rw [← hX0]
        have HX0 : Hid (X0 = Rb[j]!.1) := Hid.mk (by rw [hX0, HFX.out])
        clear hX0
        gi_wp2_with fail
        refine ⟨trivial, (callsIn_wide.2 (get_yes HL.out.ra j hjR)).mono ?_⟩
        rintro e W2 ⟨rfl, n1, hW2⟩
        have HL2 : Hid (Lw B P ga gb Kb si sv sver stop R Rb pre.length W2) := Hid.mk (by rw [hW2]; exact HL.out.drewN n1)
        have HK2 : Hid (KeepsOthers W W2) := Hid.mk (by rw [hW2]; exact others_drewN _ _)
        have HS2 : Hid (Stay (Kb + 1) (gb + 1) gb W W2) := Hid.mk (by rw [hW2]; exact ⟨by rw [heap_drewN], by rw [heap_drewN], by rw [heap_drewN]⟩)
        have HB2 : Hid (Below B w W2) := Hid.mk (by rw [hW2]; exact below_drewN HB.out _)
        have c1 : W2.cell? ⟨B, 0, none⟩ = some (.int .i64 si) := cell_at HL2.out.s rfl
        have c2 : W2.cell? ⟨B, 2, none⟩ = some (.int .i64 sver) := cell_at HL2.out.s rfl
        have c3 : W2.cell? ⟨P + 1, 0, none⟩ = some (.pointer (some ⟨gb + 1, 0, none⟩)) := cell_at HL2.out.pb rfl
        have c4 : W2.cell? ⟨Kb, 0, none⟩ = some (.int .i64 (pre.length : Int)) := cell_at HL2.out.k rfl
        have c5 : W2.frozen? ⟨Kb, 0, none⟩ = false := free_at HL2.out.k
        have c6 : W2.cell? ⟨B + 1, 0, none⟩ = some (.int .i64 stop) := cell_at HL2.out.t rfl
        have hlen1 : pre.length < 1024 := by have := HL2.out.rb.short; have := HRL.out; omega
        obtain ⟨K, hK⟩ : ∃ K, K = pre.length := ⟨_, rfl⟩
        have HKe := Hid.mk hK
        rw [← hK] at HL2 c4 hlen1
        clear hW2 a1 HL HB hK
        have hkk1 : Kb ≠ B + 1 := by have := HN2.out; omega
        have hsame := upd_same R j hjR ⟨#[111, 116, 104, 101, 114]⟩ sver
        have hoth := upd_other R si j hjR (x := ⟨#[111, 116, 104, 101, 114]⟩) (v := sver)
        by_cases hjs : (j : Int) = si
        · have e1 : ((j : Int) == si) = true := by rw [hjs]; simp
          have e2 : ((j : Int) != si) = false := by rw [hjs]; simp
          have HV : Hid (∀ m, Calls Try.prog 20 #[.pointer (some ⟨gb + 1, 0, none⟩), .int .i64 (j : Int)] (W2.drewN m) fun e w' => e = .returned (.int .i64 sver) ∧ w' = W2.drewN m) := Hid.mk (fun m => by
            have h := version_yes (HL2.out.rb.drewN m) j hjb
            rw [HRB.out, ← hjs, hsame] at h
            exact h)
          have eX : X0 = ⟨#[111, 116, 104, 101, 114]⟩ := by rw [HX0.out, HRB.out, ← hjs, hsame]
          rw [eX]
          obtain ⟨X, hX⟩ : ∃ X, X = R[j]!.1 := ⟨_, rfl⟩
          obtain ⟨Y, hY⟩ : ∃ Y, Y = R[j]!.2 := ⟨_, rfl⟩
          rw [← hX, ← hY]
          clear HX0 hX hY eX hsame hoth hjs hjR hjb
          gi_wp2_with fail
          refine wpIn_quiet_round _ rfl (by kernel_rfl) (by kernel_rfl) (by kernel_rfl) ?_
          iterate 10 (gi_big_quiet_step (fail))
          refine BigFrame.wpQuietIn_want (fun _ _ _ _ => trivial) rfl ?_
          intro K hK
          gi_big_quiet_op
          gi_big_quiet_call ((gi_at_call 20; exact CallsIn.quiet_of_same (callsIn_wide.2 (HV.out _))))
          iterate 17 (gi_big_quiet_step (fail))
          refine wpQuietIn_step (fun _ _ _ _ => trivial) (fun K hK => ?_)
          go_simp
          refine hK _ ?_
          clear hK K
          repeat (gi_big_quiet_step (fail))
          refine wpQuietIn_nil ?_
          rintro _ ⟨nq, rfl⟩
          have HLB : Hid (Lw B P ga gb Kb si sv sver stop R Rb (K + 1) ((W2.drewN nq).setCell ⟨Kb, 0, none⟩ (.int .i64 ((K : Int) + 1)))) := Hid.mk (HL2.out.bump HN2.out.1 HN2.out.2.1 HN2.out.2.2.1 HN2.out.2.2.2.1 nq)
          have HKB : Hid (KeepsOthers W ((W2.drewN nq).setCell ⟨Kb, 0, none⟩ (.int .i64 ((K : Int) + 1)))) := Hid.mk ((HK2.out.trans (others_drewN _ _)).trans (KeepsOthers.setCell _ _ _))
          have HBB : Hid (Below B w ((W2.drewN nq).setCell ⟨Kb, 0, none⟩ (.int .i64 ((K : Int) + 1)))) := Hid.mk ((below_drewN HB2.out nq).setCell (p := ⟨Kb, 0, none⟩) HN2.out.2.2.2.2 _)
          have HSB : Hid (Stay (Kb + 1) (gb + 1) gb W ((W2.drewN nq).setCell ⟨Kb, 0, none⟩ (.int .i64 ((K : Int) + 1)))) := Hid.mk (by
            have hn := HN2.out
            have key : ∀ q, q ≠ Kb → ((W2.drewN nq).setCell ⟨Kb, 0, none⟩ (.int .i64 ((K : Int) + 1))).heap[q]? = W2.heap[q]? := fun q hq => (Below.heap_setCell _ _ _ _ hq).trans (by rw [heap_drewN])
            exact HS2.out.trans ⟨key _ (by omega), key _ (by omega), key _ (by omega)⟩)
          have hpk : (pre ++ [(⟨j, hjN⟩ : Ix (made n))]).length = K + 1 := by simp [HKe.out]
          have HPK := Hid.mk hpk
          clear hpk HL2 HK2 HB2 HS2
          by_cases hst : (K : Int) + 1 = stop
          · have hstb : ((K : Int) + 1 == stop) = true := by rw [hst]; simp
            have HST := Hid.mk hst
            clear hst
            gi_wp2
            exact ⟨HKB.out, ⟨rfl, by have := HST.out; rw [HPK.out]; omega, by rw [HPK.out]; exact HLB.out⟩, HBB.out⟩
          · have hstb : ((K : Int) + 1 == stop) = false := by simpa using hst
            clear hst
            gi_wp2
            exact ⟨HKB.out, HSB.out, by rw [HPK.out]; exact HLB.out, HBB.out⟩
        · have e1 : ((j : Int) == si) = false := by simpa using hjs
          have e2 : ((j : Int) != si) = true := by simpa using hjs
          have hoj := hoth hjs
          have HV : Hid (∀ m, Calls Try.prog 20 #[.pointer (some ⟨gb + 1, 0, none⟩), .int .i64 (j : Int)] (W2.drewN m) fun e w' => e = .returned (.int .i64 R[j]!.2) ∧ w' = W2.drewN m) := Hid.mk (fun m => by
            have h := version_yes (HL2.out.rb.drewN m) j hjb
            rw [HRB.out, hoj] at h
            exact h)
          have eX : X0 = R[j]!.1 := by rw [HX0.out, HRB.out, hoj]
          rw [eX]
          obtain ⟨X, hX⟩ : ∃ X, X = R[j]!.1 := ⟨_, rfl⟩
          obtain ⟨Y, hY⟩ : ∃ Y, Y = R[j]!.2 := ⟨_, rfl⟩
          rw [← hY] at HV
          rw [← hX, ← hY]
          clear HX0 hX hY eX hsame hoth hoj hjs hjR hjb
          gi_wp2_with fail
          refine wpIn_quiet_round _ rfl (by kernel_rfl) (by kernel_rfl) (by kernel_rfl) ?_
          iterate 10 (gi_big_quiet_step (fail))
          refine wpQuietIn_step (fun _ _ _ _ => trivial) (fun K hK => ?_)
          go_simp
          refine hK _ ?_
          clear hK K
          iterate 17 (gi_big_quiet_step (fail))
          refine BigFrame.wpQuietIn_want (fun _ _ _ _ => trivial) rfl ?_
          intro K hK
          gi_big_quiet_op
          gi_big_quiet_call ((gi_at_call 20; exact CallsIn.quiet_of_same (callsIn_wide.2 (HV.out _))))
          repeat (gi_big_quiet_step (fail))
          refine wpQuietIn_nil ?_
          rintro _ ⟨nq, rfl⟩
          have HLB : Hid (Lw B P ga gb Kb si sv sver stop R Rb (K + 1) ((W2.drewN nq).setCell ⟨Kb, 0, none⟩ (.int .i64 ((K : Int) + 1)))) := Hid.mk (HL2.out.bump HN2.out.1 HN2.out.2.1 HN2.out.2.2.1 HN2.out.2.2.2.1 nq)
          have HKB : Hid (KeepsOthers W ((W2.drewN nq).setCell ⟨Kb, 0, none⟩ (.int .i64 ((K : Int) + 1)))) := Hid.mk ((HK2.out.trans (others_drewN _ _)).trans (KeepsOthers.setCell _ _ _))
          have HBB : Hid (Below B w ((W2.drewN nq).setCell ⟨Kb, 0, none⟩ (.int .i64 ((K : Int) + 1)))) := Hid.mk ((below_drewN HB2.out nq).setCell (p := ⟨Kb, 0, none⟩) HN2.out.2.2.2.2 _)
          have HSB : Hid (Stay (Kb + 1) (gb + 1) gb W ((W2.drewN nq).setCell ⟨Kb, 0, none⟩ (.int .i64 ((K : Int) + 1)))) := Hid.mk (by
            have hn := HN2.out
            have key : ∀ q, q ≠ Kb → ((W2.drewN nq).setCell ⟨Kb, 0, none⟩ (.int .i64 ((K : Int) + 1))).heap[q]? = W2.heap[q]? := fun q hq => (Below.heap_setCell _ _ _ _ hq).trans (by rw [heap_drewN])
            exact HS2.out.trans ⟨key _ (by omega), key _ (by omega), key _ (by omega)⟩)
          have hpk : (pre ++ [(⟨j, hjN⟩ : Ix (made n))]).length = K + 1 := by simp [HKe.out]
          have HPK := Hid.mk hpk
          clear hpk HL2 HK2 HB2 HS2
          by_cases hst : (K : Int) + 1 = stop
          · have hstb : ((K : Int) + 1 == stop) = true := by rw [hst]; simp
            have HST := Hid.mk hst
            clear hst
            gi_wp2
            exact ⟨HKB.out, ⟨rfl, by have := HST.out; rw [HPK.out]; omega, by rw [HPK.out]; exact HLB.out⟩, HBB.out⟩
          · have hstb : ((K : Int) + 1 == stop) = false := by simpa using hst
            clear hst
            gi_wp2
            exact ⟨HKB.out, HSB.out, by rw [HPK.out]; exact HLB.out, HBB.out⟩
      case done =>
        rintro D ys W hD hys ⟨hL, hB⟩ hK
        have hyl : ys.length = made n := by
          have h := congrArg List.length hys
          simpa using h
        rw [hyl] at hL
        have hMx : (if n < 0 then 0 else n) = ((made n : Nat) : Int) := by
          unfold made
          split <;> omega
        have hMy : (if (0 : Int) < n then n else 0) = ((made n : Nat) : Int) := by
          unfold made
          split <;> omega
        obtain ⟨Kp, hKp⟩ : ∃ Kp, Kp = made n := ⟨_, rfl⟩
        rw [← hKp] at hL hMx hMy
        have ck : W.cell? ⟨Kb, 0, none⟩ = some (.int .i64 (Kp : Int)) := cell_at hL.k rfl
        have cst : W.cell? ⟨B + 1, 0, none⟩ = some (.int .i64 stop) := cell_at hL.t rfl
        have cre : W.cell? ⟨B + 1 + 1, 0, none⟩ = some (.bool false) := cell_at hL.r rfl
        have fre : W.frozen? ⟨B + 1 + 1, 0, none⟩ = false := free_at hL.r
        clear hys hyl hKp hL
        by_cases hks : (Kp : Int) = stop
        · have hkb : ((Kp : Int) == stop) = true := by rw [hks]; simp
          clear hks
          gi_wp2
          have hK' := (KeepsOthers.setCell W ⟨B + 1 + 1, 0, none⟩ (.bool true)).same D _ hK rfl
          refine ⟨by simp, .inl ⟨_, _, rfl, run_takeDeferred hK', ?_⟩⟩
          have hc5 := cell_kept (World.cell?_setCell_same' W ⟨B + 1 + 1, 0, none⟩ (.bool true) (by rw [cre]; rfl)) (grownBy_putObj' _ D (.deferred none)) (fun r e => by cases e; exact ⟨_, hK', rfl⟩)
          refine ⟨.bool true, ?_, rfl, (hB.setCell (p := ⟨B + 1 + 1, 0, none⟩) (by show B ≤ B + 1 + 1; omega) _).trans (belowK_b (w := w8) (by have := HZ8.out; have := HN2.out; omega) _ D _ _ hD hK' rfl rfl)⟩
          simp [results, Try.f4, go_sem, hc5]
        · have hkb : ((Kp : Int) == stop) = false := by simpa using hks
          clear hks
          gi_wp2
          have hK' := (KeepsOthers.setCell W ⟨B + 1 + 1, 0, none⟩ (.bool true)).same D _ hK rfl
          refine ⟨by simp, .inl ⟨_, _, rfl, run_takeDeferred hK', ?_⟩⟩
          have hc5 := cell_kept (World.cell?_setCell_same' W ⟨B + 1 + 1, 0, none⟩ (.bool true) (by rw [cre]; rfl)) (grownBy_putObj' _ D (.deferred none)) (fun r e => by cases e; exact ⟨_, hK', rfl⟩)
          refine ⟨.bool true, ?_, rfl, (hB.setCell (p := ⟨B + 1 + 1, 0, none⟩) (by show B ≤ B + 1 + 1; omega) _).trans (belowK_b (w := w8) (by have := HZ8.out; have := HN2.out; omega) _ D _ _ hD hK' rfl rfl)⟩
          simp [results, Try.f4, go_sem, hc5]
      case stop =>
        rintro D c pre W hD hpre ⟨⟨rfl, hKS, hL⟩, hB⟩ hK
        have hkb : ((pre.length : Int) == stop) = true := by rw [hKS]; simp
        obtain ⟨Kp, hKp⟩ : ∃ Kp, Kp = pre.length := ⟨_, rfl⟩
        rw [← hKp] at hL hkb
        have ck : W.cell? ⟨Kb, 0, none⟩ = some (.int .i64 (Kp : Int)) := cell_at hL.k rfl
        have cst : W.cell? ⟨B + 1, 0, none⟩ = some (.int .i64 stop) := cell_at hL.t rfl
        have cre : W.cell? ⟨B + 1 + 1, 0, none⟩ = some (.bool false) := cell_at hL.r rfl
        have fre : W.frozen? ⟨B + 1 + 1, 0, none⟩ = false := free_at hL.r
        clear hpre hKS hKp hL
        gi_wp2
        have hK' := (KeepsOthers.setCell W ⟨B + 1 + 1, 0, none⟩ (.bool true)).same D _ hK rfl
        refine ⟨by simp, .inl ⟨_, _, rfl, run_takeDeferred hK', ?_⟩⟩
        have hc5 := cell_kept (World.cell?_setCell_same' W ⟨B + 1 + 1, 0, none⟩ (.bool true) (by rw [cre]; rfl)) (grownBy_putObj' _ D (.deferred none)) (fun r e => by cases e; exact ⟨_, hK', rfl⟩)
        refine ⟨.bool true, ?_, rfl, (hB.setCell (p := ⟨B + 1 + 1, 0, none⟩) (by show B ≤ B + 1 + 1; omega) _).trans (belowK_b (w := w8) (by have := HZ8.out; have := HN2.out; omega) _ D _ _ hD hK' rfl rfl)⟩
        simp [results, Try.f4, go_sem, hc5]
set_option maxRecDepth 100000 in
theorem lifted (os : Os) (started : os.Started) (H : Type) (enc : TypeId × Value → H) :
    ReturnsInHanded {} Try.checked os 4 .any (Rows.cellApartSpec.pre6 enc Try.prog Try.f4 Rows.cellApartRow.domain false) (Rows.cellApartSpec.post enc Try.prog Try.f4 false true false false) := by
  refine returnsInHanded_of_change (C := Try.checked) own started (by kernel_rfl) Try.func4
    (ChangeSpec.witness6 (enc := enc) (C := Try.checked) false ⟨#[], #[.int .i64 0, .slice none 0 0, .agg #[.int .i64 0, .int .i64 0, .int .i64 0], .int .i64 0], []⟩ 8 (by kernel_rfl) (by kernel_rfl) (by kernel_rfl) (by kernel_rfl)) ?_
  intro W base args ds gs before hval0 hW hcnd _
  have hval : ∀ (j : Nat) t v, Try.f4.params[j]? = some t → args[j]? = some v → Value.okWide Try.prog W .any base t v := hval0
  have hW' := hW
  obtain ⟨p, q, hA0, hV, rfl, hfz, hnd⟩ := hW
  have hA : DataW.TrodAll enc Try.prog W 0 (fun _ => true) true Try.f4.params.toList args.toList ds p := hA0
  rw [Try.params4] at hA hval
  obtain ⟨v0, vs0, d0, ds0, p0, q0, hargs, rfl, rfl, h0, r0⟩ := trodAll_cons hA
  obtain ⟨v1, vs1, d1, ds1, p1, q1, rfl, rfl, rfl, h1, r1⟩ := trodAll_cons r0
  obtain ⟨v2, vs2, d2, ds2, p2, q2, rfl, rfl, rfl, h2, r2⟩ := trodAll_cons r1
  obtain ⟨v3, vs3, d3, ds3, p3, q3, rfl, rfl, rfl, h3, r3⟩ := trodAll_cons r2
  obtain ⟨rfl, rfl, rfl⟩ := trodAll_nil r3
  obtain rfl : args = #[v0, v1, v2, v3] := by cases args; simp_all
  obtain ⟨rfl, rfl⟩ := trodVars_none hV
  obtain ⟨a0, rfl, rfl, rfl, w0⟩ := open_int Try.underlying3 (hval 0 3 v0 rfl rfl) h0
  obtain ⟨a1, len1, cap1, rfl⟩ := okWide_slice Try.underlying22 (hval 1 22 v1 rfl rfl)
  have k1 := h1
  have lt1 : ∀ x ∈ p1, x.block < W.heap.size := by obtain ⟨m, hm⟩ := k1; exact DataW.trod_lt m _ _ _ hm
  obtain ⟨ts1, w1⟩ : ∃ ts, IsSts W a1 len1 cap1 ts := by
    obtain ⟨fuel, hf⟩ := h1
    exact open_sts hf
  obtain ⟨ca2, rfl, hz2⟩ := okWide_struct Try.underlying30 (hval 2 30 v2 rfl rfl)
  have lt2 : ∀ x ∈ p2, x.block < W.heap.size := by obtain ⟨m, hm⟩ := h2; exact DataW.trod_lt m _ _ _ hm
  obtain ⟨st2, e2⟩ : ∃ st : St, ca2 = #[.int .i64 st.i, .int .i64 st.value, .int .i64 st.version] := by
    obtain ⟨fuel, hf⟩ := h2
    obtain ⟨c, hc⟩ := open_st hf
    exact ⟨c, by simpa [Value.cells] using congrArg List.toArray hc⟩
  subst e2
  have k2 := h2
  obtain ⟨a3, rfl, rfl, rfl, w3⟩ := open_int Try.underlying3 (hval 3 3 v3 rfl rfl) h3
  clear hA0 hval0
  refine (walk a0 a1 len1 cap1 ts1 st2 a3 W w0 w1 w3).mono fun e W' ⟨he, bel⟩ => ?_
  subst he
  exact ⟨_, rfl, _, _, _, [], _, [], hW', trodAll_mk1 (shut_bool Try.underlying4 _), (trodAll_cons_mk (shut_int Try.underlying3 w0) (trodAll_cons_mk (Below.trod laidOut (by kernel_rfl) (of_decide_eq_true (by kernel_rfl)) k1 bel lt1) (trodAll_cons_mk (Below.trod laidOut (by kernel_rfl) (of_decide_eq_true (by kernel_rfl)) k2 bel lt2) (trodAll_cons_mk (shut_int Try.underlying3 w3) trodAll_mk0)))), rfl, bel.frame _, fun h => by cases h⟩

set_option maxRecDepth 100000 in
theorem over : Rows.cellApartRow.holds Try.pinned (OpenSpec.ofChange Rows.cellApartSpec) :=
  OpenClaim.holds_of_wide 4 Try.f4 rfl rfl rfl rfl rfl rfl rfl ⟨rfl, rfl, rfl, rfl, rfl⟩ rfl rfl rfl rfl rfl (by kernel_rfl) Try.func4 (by kernel_rfl)
    (of_decide_eq_true (by kernel_rfl)) (by unfold Func.isWrapper; first | (rw [if_pos (by decide +kernel)]; kernel_rfl) | (rw [if_neg (by decide +kernel)]; exact ⟨rfl, rfl⟩))
    (fun os started H enc _ => lifted os started H enc)

end Go.Proofs.Ytmlebbfaafccnaa.cellApart

namespace Go.Proofs.Ytmlebbfaafccnaa
/-- The statement. -/
theorem cellApart_holds : Rows.CellApartSaid := cellApart.over
#print axioms cellApart_holds
end Go.Proofs.Ytmlebbfaafccnaa
