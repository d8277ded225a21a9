/-
  What the laws call: does, good, outs, opens, alive; four numbers held against four, a byte and an open against another.
-/
import Derived.Test.YtnjmnbclbjebbaaAcRefF
import Derived.Laws.StructEq
import Derived.BigQuiet
namespace Go.Proofs.Ytnjmnbclbjebbaa.Ac
open Go.RowKit Go.Deep Go.Proofs.Ytnjmnbclbjebbaa.Cel Go.Proofs.Ytnjmnbclbjebbaa.Dft

def aA (x : A3) : Array Value := #[.int .i64 x.1, .int .i64 x.2.1, .int .i64 x.2.2]

set_option maxRecDepth 100000 in
theorem eq_outD (p q : Pr) (w : World) : (Op.equalIn 10000 59 (.agg #[.int .i64 p.1, .int .u8 p.2]) (.agg #[.int .i64 q.1, .int .u8 q.2])).run Try.prog w = .ok (decide (p = q)) w := by
  obtain ⟨a, b⟩ := p
  obtain ⟨c, d⟩ := q
  by_cases ha : a = c
  · subst ha
    by_cases hb : b = d
    · subst hb
      rw [decide_eq_true rfl]
      simp [go_sem]
    · have hd : ¬ (a, b) = (a, d) := fun h => hb (congrArg Prod.snd h)
      rw [decide_eq_false hd]
      simp [go_sem, hb]
  · have hd : ¬ (a, b) = (c, d) := fun h => ha (congrArg Prod.fst h)
    rw [decide_eq_false hd]
    simp [go_sem, ha]
set_option maxRecDepth 100000 in
theorem eq_openD (p q : Pr) (w : World) : (Op.equalIn 10000 56 (.agg #[.int .i64 p.1, .int .i64 p.2]) (.agg #[.int .i64 q.1, .int .i64 q.2])).run Try.prog w = .ok (decide (p = q)) w := by
  obtain ⟨a, b⟩ := p
  obtain ⟨c, d⟩ := q
  by_cases ha : a = c
  · subst ha
    by_cases hb : b = d
    · subst hb
      rw [decide_eq_true rfl]
      simp [go_sem]
    · have hd : ¬ (a, b) = (a, d) := fun h => hb (congrArg Prod.snd h)
      rw [decide_eq_false hd]
      simp [go_sem, hb]
  · have hd : ¬ (a, b) = (c, d) := fun h => ha (congrArg Prod.fst h)
    rw [decide_eq_false hd]
    simp [go_sem, ha]

set_option maxRecDepth 100000 in
theorem eq_numI (d : Nat) (a b : Int) (w : World) : (Op.equalIn (d + 1) 3 (.int .i64 a) (.int .i64 b)).run Try.prog w = .ok (decide (a = b)) w := by
  by_cases h : a = b
  · subst h
    rw [decide_eq_true rfl]
    simp [go_sem]
  · rw [decide_eq_false h]
    simp [go_sem, h]
set_option maxRecDepth 100000 in
theorem part_four (f : Nat → Int) (w : World) :
    (part 3 (mA f) 0).run Try.prog w = .ok (.int .i64 (f 0)) w ∧ (part 3 (mA f) 1).run Try.prog w = .ok (.int .i64 (f 1)) w ∧ (part 3 (mA f) 2).run Try.prog w = .ok (.int .i64 (f 2)) w ∧ (part 3 (mA f) 3).run Try.prog w = .ok (.int .i64 (f 3)) w := ⟨rfl, rfl, rfl, rfl⟩
set_option maxRecDepth 100000 in
theorem size_numI (w : World) : (sizeOf 3).run Try.prog w = .ok 1 w := rfl

set_option maxRecDepth 100000 in
theorem eq_markD (D : Nat) (f g : Nat → Int) (w : World) : (Op.equalIn (D + 1 + 1) 42 (.agg (mA f)) (.agg (mA g))).run Try.prog w = .ok (decide (f 0 = g 0 ∧ f 1 = g 1 ∧ f 2 = g 2 ∧ f 3 = g 3)) w := by
  obtain ⟨p0, p1, p2, p3⟩ := part_four f w
  obtain ⟨q0, q1, q2, q3⟩ := part_four g w
  generalize mA f = xs at *
  generalize mA g = ys at *
  rw [Op.equalIn]
  simp only [Sem.run_bind, run_underlying Try.underlying42, Result.andThen_ok, size_numI]
  have hE : ∀ (a b : Int), (Op.equalIn (D + 1) 3 (.int .i64 a) (.int .i64 b)).run Try.prog w = .ok (decide (a = b)) w := fun a b => eq_numI D a b w
  have hr : List.range' 0 4 1 = [0, 1, 2, 3] := rfl
  have hs : ([:4] : Std.Legacy.Range).start = 0 := rfl
  have hz : ([:4] : Std.Legacy.Range).size = 4 := rfl
  have ht : ([:4] : Std.Legacy.Range).step = 1 := rfl
  rw [Std.Legacy.Range.forIn_eq_forIn_range', hs, hz, ht, hr]
  by_cases h0 : f 0 = g 0
  · rw [h0] at p0
    by_cases h1 : f 1 = g 1
    · rw [h1] at p1
      by_cases h2 : f 2 = g 2
      · rw [h2] at p2
        by_cases h3 : f 3 = g 3
        · rw [h3] at p3
          simp [List.forIn_cons, List.forIn_nil, Sem.run_bind, Sem.run_pure, Sem.run_ite, p0, p1, p2, p3, q0, q1, q2, q3, hE, h0, h1, h2, h3]
        · simp [List.forIn_cons, Sem.run_bind, Sem.run_pure, Sem.run_ite, p0, q0, p1, q1, p2, q2, p3, q3, hE, h0, h1, h2, h3]
      · simp [List.forIn_cons, Sem.run_bind, Sem.run_pure, Sem.run_ite, p0, q0, p1, q1, p2, q2, hE, h0, h1, h2]
    · simp [List.forIn_cons, Sem.run_bind, Sem.run_pure, Sem.run_ite, p0, q0, p1, q1, hE, h0, h1]
  · simp [List.forIn_cons, Sem.run_bind, Sem.run_pure, Sem.run_ite, p0, q0, hE, h0]
set_option maxRecDepth 100000 in
theorem eq_fourD (D : Nat) (f g : Nat → Int) (w : World) : (Op.equalIn (D + 1 + 1) 33 (.agg (mA f)) (.agg (mA g))).run Try.prog w = .ok (decide (f 0 = g 0 ∧ f 1 = g 1 ∧ f 2 = g 2 ∧ f 3 = g 3)) w := by
  obtain ⟨p0, p1, p2, p3⟩ := part_four f w
  obtain ⟨q0, q1, q2, q3⟩ := part_four g w
  generalize mA f = xs at *
  generalize mA g = ys at *
  rw [Op.equalIn]
  simp only [Sem.run_bind, run_underlying Try.underlying33, Result.andThen_ok, size_numI]
  have hE : ∀ (a b : Int), (Op.equalIn (D + 1) 3 (.int .i64 a) (.int .i64 b)).run Try.prog w = .ok (decide (a = b)) w := fun a b => eq_numI D a b w
  have hr : List.range' 0 4 1 = [0, 1, 2, 3] := rfl
  have hs : ([:4] : Std.Legacy.Range).start = 0 := rfl
  have hz : ([:4] : Std.Legacy.Range).size = 4 := rfl
  have ht : ([:4] : Std.Legacy.Range).step = 1 := rfl
  rw [Std.Legacy.Range.forIn_eq_forIn_range', hs, hz, ht, hr]
  by_cases h0 : f 0 = g 0
  · rw [h0] at p0
    by_cases h1 : f 1 = g 1
    · rw [h1] at p1
      by_cases h2 : f 2 = g 2
      · rw [h2] at p2
        by_cases h3 : f 3 = g 3
        · rw [h3] at p3
          simp [List.forIn_cons, List.forIn_nil, Sem.run_bind, Sem.run_pure, Sem.run_ite, p0, p1, p2, p3, q0, q1, q2, q3, hE, h0, h1, h2, h3]
        · simp [List.forIn_cons, Sem.run_bind, Sem.run_pure, Sem.run_ite, p0, q0, p1, q1, p2, q2, p3, q3, hE, h0, h1, h2, h3]
      · simp [List.forIn_cons, Sem.run_bind, Sem.run_pure, Sem.run_ite, p0, q0, p1, q1, p2, q2, hE, h0, h1, h2]
    · simp [List.forIn_cons, Sem.run_bind, Sem.run_pure, Sem.run_ite, p0, q0, p1, q1, hE, h0, h1]
  · simp [List.forIn_cons, Sem.run_bind, Sem.run_pure, Sem.run_ite, p0, q0, hE, h0]

section
variable {w w' : World} {b : Nat} {vs : Vs} {T : AS}

set_option maxHeartbeats 4000000 in
set_option maxRecDepth 100000 in
theorem doesA (h : AcAt w b vs T) (hT : T.Le 1000000) (x : A3) :
    Calls Try.prog 7 #[.pointer (some ⟨b, 0, none⟩), .agg #[.int .i64 x.1, .int .i64 x.2.1, .int .i64 x.2.2]] w fun e w' => e = .returned (.bool (ans x)) ∧ ∃ vs', AcAt w' b vs' (T.add x) ∧ Wrote (Ft b vs) (Ft b vs') w w' := by
  obtain ⟨k, a, y⟩ := x
  have h1 := h.grown ((Below.refl w.heap.size w).alloc (Nat.le_refl _) (.cells #[.int .i64 k, .int .i64 a, .int .i64 y] 32))
  unfold ans AS.add
  simp only
  by_cases e0 : k = 0
  · subst e0
    have HC := Hid.mk (send_any h1 hT a (u8I y))
    clear h h1
    go_enter Try.func7, Try.ntmps7
    go_wp2_with fail
    refine HC.out.mono ?_
    rintro e w1 ⟨rfl, vs', ha, hw⟩
    have HA := Hid.mk ha
    have HW := Hid.mk hw
    clear ha hw
    go_wp2
    go_ret
    exact ⟨rfl, vs', HA.out, wrote_alloc HW.out⟩
  · by_cases e1 : k = 1
    · subst e1
      have HC := Hid.mk (later_any h1 hT a (u8I y))
      clear h h1 e0
      go_enter Try.func7, Try.ntmps7
      go_wp2_with fail
      refine HC.out.mono ?_
      rintro e w1 ⟨rfl, vs', ha, hw⟩
      have HA := Hid.mk ha
      have HW := Hid.mk hw
      clear ha hw
      go_wp2
      go_ret
      exact ⟨rfl, vs', HA.out, wrote_alloc HW.out⟩
    · by_cases e2 : k = 2
      · subst e2
        have HC := Hid.mk (note_yes h1 hT a)
        clear h h1 e0 e1
        go_enter Try.func7, Try.ntmps7
        go_wp2_with fail
        refine HC.out.mono ?_
        rintro e w1 ⟨rfl, vs', ha, hw⟩
        have HA := Hid.mk ha
        have HW := Hid.mk hw
        clear ha hw
        go_wp2
        go_ret
        exact ⟨rfl, vs', HA.out, wrote_alloc HW.out⟩
      · have HC := Hid.mk (opened_any h1 hT a y)
        have hor : ¬ (k = 0 ∨ k = 1) := fun h => h.elim e0 e1
        rw [if_neg hor, if_neg e2, if_neg e0, if_neg e1, if_neg e2]
        clear h h1 hor
        go_enter Try.func7, Try.ntmps7
        go_wp2_with fail
        refine HC.out.mono ?_
        rintro e w1 ⟨rfl, vs', ha, hw⟩
        have HA := Hid.mk ha
        have HW := Hid.mk hw
        clear ha hw
        go_wp2
        go_ret
        exact ⟨rfl, vs', HA.out, wrote_alloc HW.out⟩

end

end Go.Proofs.Ytnjmnbclbjebbaa.Ac
