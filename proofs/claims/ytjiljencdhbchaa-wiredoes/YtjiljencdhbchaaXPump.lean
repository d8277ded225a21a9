/-
  The walks of Pump and Take.
-/
import Derived.Test.YtjiljencdhbchaaXReads
namespace Go.Proofs.Ytjiljencdhbchaa
open Go.RowKit

section
variable {w : World} {b : Nat} {vs : Nat → Value} {f : Nat → Wy}

theorem Wrote.self (b : Nat) (vs : Nat → Value) (w : World) (i : Nat) (x : Value) (w' : World) (hw : w' = (w.setCell ⟨b, i, none⟩ x).drew) : Wrote b vs w vs w' := by
  rw [hw]
  exact ((Wrote.refl b vs w).set _ _).drew

theorem Wir.drewN (h : Wir w b vs f) (n : Nat) : Wir (w.drewN n) b vs f := h.keep fun _ _ => rfl
theorem Wrote.drewN {vs' : Nat → Value} {w1 : World} (h : Wrote b vs w vs' w1) (n : Nat) : Wrote b vs w vs' (w1.drewN n) :=
  ⟨h.os, h.tape, h.output, h.size, h.block, h.own⟩

set_option maxHeartbeats 800000 in
set_option maxRecDepth 100000 in
theorem pump_yes (i : Nat) (hi : i < 3) (h : Wir w b vs f) (hsz : (f i).bs.length ≤ 4398046511104) :
    Calls Try.prog 14 #[.pointer (some ⟨b, 0, none⟩), .int .i64 i] w fun e w' => e = .returned (.int .i64 (((f i).pump.gone - (f i).gone : Nat) : Int)) ∧ Wir w' b vs (upd f i (f i).pump) ∧ Wrote b vs w vs w' := by
  have cv := h.cv i hi
  have cc := h.cc i hi
  have cg := h.cg i hi
  have fg := h.fz (i * 3 + 2)
  have hg := (h.good i hi).pump
  have h1 := (h.good i hi).le
  have h2 := (h.good i hi).len
  have h3 := (h.good i hi).room
  obtain ⟨G, hG⟩ : ∃ G, G = (f i).pump.gone := ⟨_, rfl⟩
  obtain ⟨C, hC⟩ : ∃ C, C = (f i).came := ⟨_, rfl⟩
  obtain ⟨g0, hg0⟩ : ∃ g0, g0 = (f i).gone := ⟨_, rfl⟩
  obtain ⟨L, hL⟩ : ∃ L, L = (f i).bs.length := ⟨_, rfl⟩
  have hGv : G = min (C + 8) L := by rw [hG, hC, hL]; rfl
  have R : Wir (w.setCell ⟨b, i * 3 + 2, none⟩ (.int .i64 G)) b vs (upd f i (f i).pump) := by
    have := h.setG i hi G
    rw [hG] at this ⊢
    exact ⟨this, good_upd h.good i hg⟩
  have HR := Hid.mk R
  rw [← hC] at cc h1 h3
  rw [← hL] at h2
  rw [← hg0] at cg h1 h2 h3
  rw [← hG, ← hg0]
  have hLm : L ≤ 4398046511104 := by rw [hL]; exact hsz
  have hkind : (vs i = .slice none 0 0 ∧ L = 0) ∨ ∃ g cap, vs i = .slice (some ⟨g, 0, none⟩) L cap := by
    rcases h.kind i hi with ⟨hv, hb, _⟩ | ⟨g, cap, hv, hcap, hm⟩
    · exact .inl ⟨hv, by rw [hL, hb]; rfl⟩
    · rw [hL]
      exact .inr ⟨g, cap, hv⟩
  obtain ⟨P, hP⟩ : ∃ P : Int, P = (C : Int) + 8 := ⟨_, rfl⟩
  have e1 : IntKind.i64.wrap ((C : Int) + 8) = P := by rw [IntKind.wrap_i64]; omega
  have m1 : (if (L : Int) < P then (L : Int) else P) = (G : Int) := by split <;> omega
  obtain ⟨D, hD⟩ : ∃ D, D = G - g0 := ⟨_, rfl⟩
  rw [← hD]
  have e2 : IntKind.i64.wrap ((G : Int) - (g0 : Int)) = (D : Int) := by rw [IntKind.wrap_i64]; omega
  clear R h hg h1 h2 h3 hG hC hg0 hL hGv hLm hP hD hsz
  rcases hkind with ⟨hv, hL0⟩ | ⟨g, cap, hv⟩
  · rw [hv] at cv
    subst hL0
    have m2 : (if (0 : Int) < P then (0 : Int) else P) = (G : Int) := m1
    clear m1
    go_enter Try.func14, Try.ntmps14
    go_wp2_with fail
    refine (way_yes b i hi _).mono ?_
    rintro e w1 ⟨rfl, rfl⟩
    go_wp2_with fail
    go_region
    all_goals
      go_wp2
      go_ret
      exact ⟨rfl, HR.out.drew, Wrote.self _ _ _ _ _ _ rfl⟩
  · rw [hv] at cv
    go_enter Try.func14, Try.ntmps14
    go_wp2_with fail
    refine (way_yes b i hi _).mono ?_
    rintro e w1 ⟨rfl, rfl⟩
    go_wp2_with fail
    go_region
    all_goals
      go_wp2
      go_ret
      exact ⟨rfl, HR.out.drew, Wrote.self _ _ _ _ _ _ rfl⟩

set_option maxHeartbeats 1600000 in
set_option maxRecDepth 100000 in
theorem take_yes (i : Nat) (hi : i < 3) (n : Int) (h : Wir w b vs f) (hsz : (f i).bs.length ≤ 4398046511104) :
    Calls Try.prog 16 #[.pointer (some ⟨b, 0, none⟩), .int .i64 i, .int .i64 n] w fun e w' => e = .returned (.string ((f i).part (f i).came ((f i).take n).came)) ∧ Wir w' b vs (upd f i ((f i).take n)) ∧ Wrote b vs w vs w' := by
  have cv := h.cv i hi
  have cc := h.cc i hi
  have cg := h.cg i hi
  have fc := h.fz (i * 3 + 1)
  have hg := (h.good i hi).take n
  have h1 := (h.good i hi).le
  have h2 := (h.good i hi).len
  obtain ⟨E, hE⟩ : ∃ E, E = ((f i).take n).came := ⟨_, rfl⟩
  obtain ⟨C, hC⟩ : ∃ C, C = (f i).came := ⟨_, rfl⟩
  obtain ⟨G, hG⟩ : ∃ G, G = (f i).gone := ⟨_, rfl⟩
  obtain ⟨L, hL⟩ : ∃ L, L = (f i).bs.length := ⟨_, rfl⟩
  have hEv : E = C + min n.toNat (G - C) := by rw [hE, hC, hG]; rfl
  have R : Wir (w.setCell ⟨b, i * 3 + 1, none⟩ (.int .i64 E)) b vs (upd f i ((f i).take n)) := by
    have := h.setC i hi E
    rw [hE] at this ⊢
    exact ⟨this, good_upd h.good i hg⟩
  have hR := R.drew
  have HW := Hid.mk (Wrote.self b vs w (i * 3 + 1) (.int .i64 E) _ rfl)
  obtain ⟨w2, hw2⟩ : ∃ w2, w2 = (w.setCell ⟨b, i * 3 + 1, none⟩ (.int .i64 E)).drew := ⟨_, rfl⟩
  rw [← hw2] at hR HW
  have HE2 := Hid.mk hw2
  clear hw2
  have cv2 := hR.cv i hi
  have cc2 := hR.cc i hi
  rw [upd_same, ← hE] at cc2
  have hcs : ∀ g cap, vs i = .slice (some ⟨g, 0, none⟩) L cap → ∀ j (hj : j < (f i).bs.length), w2.cell? ⟨g, j, none⟩ = some (.int .u8 ((f i).bs[j].toNat : Int)) := fun g cap hv j hj => by
    have hb : (upd f i ((f i).take n) i).bs = (f i).bs := by rw [upd_same]; rfl
    have hj2 : j < (upd f i ((f i).take n) i).bs.length := by rw [hb]; exact hj
    have := hR.cells i hi (g := g) (n := L) (cap := cap) hv j hj2
    rw [this]
    simp only [hb]
  have HR := Hid.mk hR
  have hLm : L ≤ 4398046511104 := by rw [hL]; exact hsz
  have hkind : (vs i = .slice none 0 0 ∧ L = 0 ∧ (f i).bs = []) ∨ ∃ g cap, vs i = .slice (some ⟨g, 0, none⟩) L cap ∧ L ≤ cap := by
    rcases h.kind i hi with ⟨hv, hb, _⟩ | ⟨g, cap, hv, hcap, hm⟩
    · exact .inl ⟨hv, by rw [hL, hb]; rfl, hb⟩
    · rw [hL]
      exact .inr ⟨g, cap, hv, hcap⟩
  rw [← hC] at cc h1
  rw [← hL] at h2
  rw [← hG] at cg h1 h2
  rw [← hE, ← hC]
  obtain ⟨M, hM⟩ : ∃ M : Int, (if n < 0 then 0 else n) = M := ⟨_, rfl⟩
  obtain ⟨D, hD⟩ : ∃ D : Nat, D = G - C := ⟨_, rfl⟩
  have e1 : IntKind.i64.wrap ((G : Int) - (C : Int)) = (D : Int) := by rw [IntKind.wrap_i64]; omega
  obtain ⟨K, hK⟩ : ∃ K : Nat, K = min n.toNat D := ⟨_, rfl⟩
  have m2 : (if (D : Int) < M then (D : Int) else M) = (K : Int) := by
    rw [← hM, hK]
    split <;> split <;> omega
  have hKD : K ≤ D := by rw [hK]; exact Nat.min_le_right _ _
  rw [← hD, ← hK] at hEv
  have e2 : IntKind.i64.wrap ((C : Int) + (K : Int)) = (E : Int) := by clear hM m2 hK; rw [IntKind.wrap_i64]; omega
  have hCE : C ≤ E := by clear hM m2 hK; omega
  have hEL : E ≤ L := by clear hM m2 hK; omega
  clear R hR h hg h1 hG hE hC hEv hD hK hLm hsz hKD
  rcases hkind with ⟨hv, hL0, hb⟩ | ⟨g, cap, hv, hcap⟩
  · rw [hv] at cv cv2
    have hC0 : C = 0 := by omega
    have hE0 : E = 0 := by omega
    have hp : (f i).part C E = ⟨#[]⟩ := by unfold Wy.part; rw [hb]; simp
    rw [hp]
    clear hp hcs hv hL hL0 hb hCE hEL h2
    have HC := Hid.mk hC0
    have HE0 := Hid.mk hE0
    clear hC0 hE0
    have cn := fun n => conv_nil (w2.drewN n)
    go_enter Try.func16, Try.ntmps16
    go_wp2_with fail
    refine (way_yes b i hi _).mono ?_
    rintro e w1 ⟨rfl, rfl⟩
    go_wp2_with fail
    go_region
    all_goals
      rw [← HE2.out]
      clear HE2 cv cc cg fc e1 e2 m2 hM
      rw [HC.out]
      rw [HE0.out] at cc2
      go_wp2_with fail
      go_quiet (fail)
      go_wp2
      go_ret
      exact ⟨rfl, HR.out.drewN _, HW.out.drewN _⟩
  · rw [hv] at cv cv2
    have hcs2 := hcs g cap hv
    clear hcs
    have hl : (((f i).bs.take E).drop C).length = E - C := by simp; omega
    obtain ⟨O, hO⟩ : ∃ O, O = (if cap = C then 0 else C) := ⟨_, rfl⟩
    have o1 : (if cap = C then (some ⟨g, 0, none⟩ : Option Addr) else some ⟨g, C, none⟩) = some ⟨g, O, none⟩ := by
      rw [hO]
      split <;> rfl
    have cn := fun n => conv_bytes (w := w2.drewN n) (g := g) (off := O) (cap := cap - C) (((f i).bs.take E).drop C) (E - C) hl fun j hj => by
      have hj2 : j < E - C := by rw [← hl]; exact hj
      have hO2 : O = C := by rw [hO, if_neg (by omega)]
      rw [hO2, List.getElem_drop, List.getElem_take]
      exact hcs2 (C + j) (by omega)
    show Calls _ _ _ _ fun e w' => e = .returned (.string ⟨(((f i).bs.take E).drop C).toArray⟩) ∧ _
    obtain ⟨s, hs⟩ : ∃ s : ByteArray, s = ⟨(((f i).bs.take E).drop C).toArray⟩ := ⟨_, rfl⟩
    rw [← hs] at cn ⊢
    have q0 : (0 : Int) ≤ (C : Int) := Int.natCast_nonneg _
    have q1 : (C : Int) ≤ (E : Int) := by omega
    have q2 : (E : Int) ≤ (cap : Int) := by omega
    clear hcs2 hl hs hL hO hv hCE hEL h2 hcap
    go_enter Try.func16, Try.ntmps16
    go_wp2_with fail
    refine (way_yes b i hi _).mono ?_
    rintro e w1 ⟨rfl, rfl⟩
    go_wp2_with fail
    go_region
    all_goals
      rw [← HE2.out]
      clear HE2 cv cc cg fc e1 e2 m2 hM
      go_wp2_with fail
      go_quiet (fail)
      go_wp2
      go_ret
      exact ⟨rfl, HR.out.drewN _, HW.out.drewN _⟩

end

end Go.Proofs.Ytjiljencdhbchaa
