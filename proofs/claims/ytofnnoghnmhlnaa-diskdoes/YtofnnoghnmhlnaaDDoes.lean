/-
  What a call makes of a disk; the walks of the law's own 'does' and 'alive'.
-/
import Derived.Test.YtofnnoghnmhlnaaDScript
namespace Go.Proofs.Ytofnnoghnmhlnaa
open Go.RowKit

/-- The error that a call answers, and what is done, and waits, behind it. -/
structure Res where
  e : Int
  dn : List Ch
  ws : List Ch

def stepA (area : Int) (s : ByteArray) (dn ws : List Ch) : Res :=
  if area = 0 ∨ area = 1 then
    (if 16384 < (txt (decide (area = 1)) (dn ++ ws)).size + s.size then ⟨6, dn, ws⟩ else ⟨0, dn, ws ++ [⟨decide (area = 1), false, s⟩]⟩)
  else ⟨1, dn, ws⟩

def stepR (area : Int) (dn ws : List Ch) : Res :=
  if area = 0 ∨ area = 1 then ⟨0, dn, ws ++ [⟨decide (area = 1), true, ⟨#[]⟩⟩]⟩ else ⟨1, dn, ws⟩

def step (c : Cl) (dn ws : List Ch) : Res :=
  if c.kind = 0 then stepA c.area c.s dn ws
  else if c.kind = 1 then stepR c.area dn ws
  else if c.kind = 2 then ⟨0, dn ++ ws, []⟩
  else if c.kind = 3 then ⟨0, dn ++ kept ws c.keep c.part, []⟩
  else ⟨0, dn, ws⟩

theorem step_ws (c : Cl) (dn ws : List Ch) : (step c dn ws).ws.length ≤ ws.length + 1 := by
  unfold step stepA stepR
  split
  · split
    · split <;> simp
    · simp
  split
  · split <;> simp
  split
  · simp
  split <;> simp

theorem ar_area {a : Int} (h : a = 0 ∨ a = 1) : a = ar (decide (a = 1)) := by
  rcases h with rfl | rfl <;> rfl

section
variable {w : World} {b : Nat} {v : Value} {dn ws : List Ch}

theorem appendA (area : Int) (s : ByteArray) (h : Has w b v dn ws) (hs : s.size ≤ 1099511627776) (hl : ws.length ≤ 1000000) :
    Calls Try.prog 22 #[.pointer (some ⟨b, 0, none⟩), .int .i64 area, .string s] w fun e w' => e = .returned (.int .i64 (stepA area s dn ws).e) ∧
      ∃ v', Has w' b v' (stepA area s dn ws).dn (stepA area s dn ws).ws ∧ Wrote b v w v' w' := by
  unfold stepA
  by_cases ha : area = 0 ∨ area = 1
  · rw [if_pos ha]
    obtain ⟨o, ho⟩ : ∃ o, o = decide (area = 1) := ⟨_, rfl⟩
    have hao := ar_area ha
    rw [← ho] at hao ⊢
    rw [hao]
    by_cases hf : 16384 < (txt o (dn ++ ws)).size + s.size
    · rw [if_pos hf]
      exact (append_full o s h hs hf).mono fun e w' ⟨he, hw⟩ => ⟨he, v, by rw [hw]; exact h, by rw [hw]; exact Wrote.refl _ _ _⟩
    · rw [if_neg hf]
      have hR := append_yes o s h (by omega) hl
      exact hR
  · rw [if_neg ha]
    exact (append_no area s (fun e => ha (.inl e)) (fun e => ha (.inr e)) _).mono fun e w' ⟨he, hw⟩ => ⟨he, v, by rw [hw]; exact h, by rw [hw]; exact Wrote.refl _ _ _⟩

theorem resetA (area : Int) (h : Has w b v dn ws) (hl : ws.length ≤ 1000000) :
    Calls Try.prog 23 #[.pointer (some ⟨b, 0, none⟩), .int .i64 area] w fun e w' => e = .returned (.int .i64 (stepR area dn ws).e) ∧
      ∃ v', Has w' b v' (stepR area dn ws).dn (stepR area dn ws).ws ∧ Wrote b v w v' w' := by
  unfold stepR
  by_cases ha : area = 0 ∨ area = 1
  · rw [if_pos ha]
    obtain ⟨o, ho⟩ : ∃ o, o = decide (area = 1) := ⟨_, rfl⟩
    have hao := ar_area ha
    rw [← ho] at hao ⊢
    rw [hao]
    exact reset_yes o h hl
  · rw [if_neg ha]
    exact (reset_no area (fun e => ha (.inl e)) (fun e => ha (.inr e)) _).mono fun e w' ⟨he, hw⟩ => ⟨he, v, by rw [hw]; exact h, by rw [hw]; exact Wrote.refl _ _ _⟩

set_option maxHeartbeats 800000 in
theorem does_any (c : Cl) (h : Has w b v dn ws) (hs : c.s.size ≤ 1099511627776) (hl : ws.length ≤ 1000000) :
    Calls Try.prog 15 #[.pointer (some ⟨b, 0, none⟩), .agg #[.int .i64 c.kind, .int .i64 c.area, .string c.s, .int .i64 c.keep, .int .i64 c.part]] w fun e w' => e = .returned (.int .i64 (step c dn ws).e) ∧
      ∃ v', Has w' b v' (step c dn ws).dn (step c dn ws).ws ∧ Wrote b v w v' w' := by
  obtain ⟨q, a, s, k, p⟩ := c
  dsimp only at hs ⊢
  unfold step
  dsimp only
  have hA := h.alloc (.cells #[.int .i64 q, .int .i64 a, .string s, .int .i64 k, .int .i64 p] 32)
  by_cases q0 : q = 0
  · subst q0
    rw [if_pos rfl]
    go_enter Try.func15, Try.ntmps15
    go_wp2_with fail
    refine (appendA a s hA hs hl).mono ?_
    rintro e w1 ⟨rfl, v1, h1, hw1⟩
    have H1 := Hid.mk h1
    have HW := Hid.mk hw1.behind_alloc
    clear h1 hw1
    go_wp2
    go_ret
    exact ⟨rfl, v1, H1.out, HW.out⟩
  rw [if_neg q0]
  by_cases q1 : q = 1
  · subst q1
    rw [if_pos rfl]
    go_enter Try.func15, Try.ntmps15
    go_wp2_with fail
    refine (resetA a hA hl).mono ?_
    rintro e w1 ⟨rfl, v1, h1, hw1⟩
    have H1 := Hid.mk h1
    have HW := Hid.mk hw1.behind_alloc
    clear h1 hw1
    go_wp2
    go_ret
    exact ⟨rfl, v1, H1.out, HW.out⟩
  rw [if_neg q1]
  by_cases q2 : q = 2
  · subst q2
    rw [if_pos rfl]
    go_enter Try.func15, Try.ntmps15
    go_wp2_with fail
    refine (sync_any hA).mono ?_
    rintro e w1 ⟨rfl, h1, hw1⟩
    have H1 := Hid.mk h1
    have HW := Hid.mk hw1.behind_alloc
    clear h1 hw1
    go_wp2
    go_ret
    exact ⟨rfl, _, H1.out, HW.out⟩
  rw [if_neg q2]
  by_cases q3 : q = 3
  · subst q3
    rw [if_pos rfl]
    go_enter Try.func15, Try.ntmps15
    go_wp2_with fail
    refine (crash_any hA hl k p).mono ?_
    rintro e w1 ⟨rfl, h1, hw1⟩
    have H1 := Hid.mk h1
    have HW := Hid.mk hw1.behind_alloc
    clear h1 hw1
    go_wp2
    go_ret
    exact ⟨rfl, _, H1.out, HW.out⟩
  rw [if_neg q3]
  have z0 : (q == 0) = false := by simp [q0]
  have z1 : (q == 1) = false := by simp [q1]
  have z2 : (q == 2) = false := by simp [q2]
  have z3 : (q == 3) = false := by simp [q3]
  go_enter Try.func15, Try.ntmps15
  go_wp2
  go_ret
  exact ⟨rfl, v, hA, Wrote.of_below ((Below.refl _ _).alloc (Nat.le_refl _) _)⟩

end

set_option maxHeartbeats 400000 in
theorem alive_any (w : World) : Calls Try.prog 9 #[] w fun e w' => e = .returned (.bool true) ∧ Below w.heap.size w w' := by
  have h0 := Has.new w
  go_enter Try.func9, Try.ntmps9
  go_wp2_with fail
  refine (new_any w).mono ?_
  rintro e w1 ⟨rfl, rfl⟩
  go_wp2_with fail
  refine (append_yes false _ h0 (by decide) (by decide)).mono ?_
  rintro e w2 ⟨rfl, v2, h2, hw2⟩
  have hb2 := (((Below.refl w.heap.size w).alloc (Nat.le_refl _) (.cells #[.string ⟨#[]⟩, .string ⟨#[]⟩, .string ⟨#[]⟩, .string ⟨#[]⟩, .slice none 0 0] 52))).trans (hw2.below (by simp) (Nat.le_refl _) (by simp [Value.ownBlock]))
  have ho2 := hw2.own_from (B := w.heap.size) (by simp) (by simp [Value.ownBlock])
  clear hw2 h0
  go_wp2_with fail
  refine (crash_any h2 (by decide) 0 2).mono ?_
  rintro e w3 ⟨rfl, h3, hw3⟩
  have hb3 := hb2.trans (hw3.below hb2.size (Nat.le_refl _) ho2)
  clear hw3 h2 hb2
  go_wp2_with fail
  refine (read_yes false h3).mono ?_
  rintro e w4 ⟨rfl, rfl⟩
  have e4 : (txt false ([] ++ kept ([] ++ [⟨false, false, ⟨#[97, 98, 99]⟩⟩]) 0 2 ++ [])) = ⟨#[97, 98]⟩ := by decide +kernel
  rw [e4]
  go_wp2_with fail
  refine (waits_any h3).mono ?_
  rintro e w5 ⟨rfl, rfl⟩
  go_wp2
  go_ret
  exact ⟨rfl, hb3⟩

end Go.Proofs.Ytofnnoghnmhlnaa
