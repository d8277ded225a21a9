/-
  The walk of the law's own 'does': a call on both logs; the answers are the same, and both are alike behind it.
-/
import Derived.Test.YtejmameebhbcbaaLBoth
namespace Go.Proofs.Ytejmameebhbcbaa
open Go.RowKit

theorem kept_len (ws : List Ch) (k p : Int) : (kept ws k p).length ≤ ws.length := by
  unfold kept
  rw [List.length_append, List.length_take]
  cases hc : ws[near k ws.length]? with
  | none => simp; omega
  | some c =>
    have hl := (List.getElem?_eq_some_iff.1 hc).1
    have : (torn c p).length ≤ 1 := by unfold torn; split <;> simp
    simp only
    omega

/-- The document's disk is synced. -/
theorem Ref.sync4 {w : World} {m : Nat} {v : Value} {dn ws : List Ch} (h : Ref w m v (dn ++ ws) dn.length) : Ref (w.setCell ⟨m, 1, none⟩ (.int .i64 ((dn ++ ws).length : Nat))) m v ((dn ++ ws) ++ []) (dn ++ ws).length := by
  refine ⟨?_, h.apart, ?_, by simp⟩
  · rw [heap_set _ h.at_]; simp
  · rw [List.append_nil]
    exact ownsRow_carry h.owns fun k hk => Below.heap_setCell _ _ _ _ (fun e => h.apart (by rw [show m = k from e.symm]; exact hk))

/-- What waits behind bytes that are put there otherwise. -/
def stepS (o : Bool) (s : ByteArray) (dn ws : List Ch) : List Ch := if 16384 < (txt o (dn ++ ws)).size + s.size then ws else ws ++ [⟨o, false, s⟩]

theorem stepS_len (o : Bool) (s : ByteArray) (dn ws : List Ch) : (stepS o s dn ws).length ≤ ws.length + 1 := by
  unfold stepS
  split <;> simp

theorem appendS {w : World} {b : Nat} {v : Value} {dn ws : List Ch} (o : Bool) (s : ByteArray) (hs : s.size ≤ 8192) (h : Has w b v dn ws) (hn : ws.length ≤ 1000000) :
    Calls Try.prog 30 #[.pointer (some ⟨b, 0, none⟩), .int .i64 (ar o), .string s] w fun e w' => ∃ x v', e = .returned (.int .i64 x) ∧ Has w' b v' dn (stepS o s dn ws) ∧ Wrote b v w v' w' := by
  unfold stepS
  by_cases hf : 16384 < (txt o (dn ++ ws)).size + s.size
  · rw [if_pos hf]
    exact (append_full o _ h (by omega) hf).mono fun e w' ⟨he, hw⟩ => ⟨6, v, he, by rw [hw]; exact h, by rw [hw]; exact Wrote.refl _ _ _⟩
  · rw [if_neg hf]
    exact (append_yes o _ h (by omega) hn).mono fun e w' ⟨he, v', h1, h2⟩ => ⟨0, v', he, h1, h2⟩

theorem rappendS {w : World} {m : Nat} {v : Value} {dn ws : List Ch} (o : Bool) (s : ByteArray) (hs : s.size ≤ 8192) (h : Ref w m v (dn ++ ws) dn.length) (hf : Fits (dn ++ ws)) (hn : (dn ++ ws).length ≤ 1000000) :
    Calls Try.prog 43 #[.pointer (some ⟨m, 0, none⟩), .int .i64 (ar o), .string s] w fun e w' => ∃ x v', e = .returned (.int .i64 x) ∧ Ref w' m v' (dn ++ stepS o s dn ws) dn.length ∧ Wrote m v w v' w' := by
  unfold stepS
  by_cases hfu : 16384 < (txt o (dn ++ ws)).size + s.size
  · rw [if_pos hfu]
    exact (refAppend_full o _ h hf (by omega) hfu hn).mono fun e w' ⟨he, hw⟩ => ⟨6, v, he, by rw [hw]; exact h, by rw [hw]; exact Wrote.refl _ _ _⟩
  · rw [if_neg hfu]
    have hR := refAppend_raw o (ar o) (ar_cases o) s h hf (by omega) hn
    rw [List.append_assoc] at hR
    exact hR.mono fun e w' ⟨he, v', h1, h2⟩ => ⟨0, v', he, h1, h2⟩

/-- What a call leaves: both logs are alike. -/
def Alike (w : World) (bb b m : Nat) (o : Bool) (n : Nat) (w' : World) : Prop :=
  ∃ (lb rl : Nat) (v vm : Value) (tn : Bool) (dn ws : List Ch), Two w w' bb b lb m rl v vm o tn dn ws tn dn ws ∧ (dn ++ ws).length ≤ n

set_option maxHeartbeats 800000 in
theorem does_0 {w wr : World} {bb b lb m rl : Nat} {v vm : Value} {o tn : Bool} {dn ws : List Ch} (c : Cl) (h : Two w wr bb b lb m rl v vm o tn dn ws tn dn ws) (hlen : (dn ++ ws).length ≤ 1000) (hsz : c.s.size ≤ 8192) (q0 : c.kind = 0) :
    Calls Try.prog 21 #[.pointer (some ⟨bb, 0, none⟩), .agg #[.int .i64 c.kind, .string c.s, .int .i64 c.keep, .int .i64 c.part]] wr fun e w' => e = .returned (.bool true) ∧ Alike w bb b m o ((dn ++ ws).length + 1) w' := by
  obtain ⟨q, s, kp, pt⟩ := c
  dsimp only at hsz ⊢
  have hA := h.grow ((Below.refl _ _).alloc (Nat.le_refl _) (.cells #[.int .i64 q, .string s, .int .i64 kp, .int .i64 pt] 38))
  have u0 := hA.x0
  have u1 := hA.x1
  have u2 := hA.x2
  have ug := hA.g.c1
  have cb : (wr.alloc (.cells #[.int .i64 q, .string s, .int .i64 kp, .int .i64 pt] 38)).heap[wr.heap.size]? = some (.cells #[.int .i64 q, .string s, .int .i64 kp, .int .i64 pt] 38 (0, 0)) := heap_alloc_new wr _
  obtain ⟨C, hC⟩ : ∃ C, C = wr.heap.size := ⟨_, rfl⟩
  rw [← hC] at cb
  have hdl : dn.length ≤ 1000 ∧ ws.length ≤ 1000 := by rw [List.length_append] at hlen; omega
  obtain ⟨hdn, hwn⟩ := hdl
  have HC := Hid.mk hC
  clear hC
  obtain ⟨wA, hwA⟩ : ∃ wA, wA = wr.alloc (.cells #[.int .i64 q, .string s, .int .i64 kp, .int .i64 pt] 38) := ⟨_, rfl⟩
  rw [← hwA] at hA cb
  have HWA := Hid.mk hwA
  clear hwA h
  have z0 : (q == 0) = true := by simp [show q = 0 from q0]
  clear q0
  obtain ⟨st, hst⟩ : ∃ st, st = stepL o tn s dn ws := ⟨_, rfl⟩
  have hP := logAppend_any s hA.drew.l.l hA.drew.l.d.has (by omega) (by omega)
  rw [← hst] at hP
  have HP := Hid.mk hP
  have HA := Hid.mk hA.drew
  have hf := hA.l.d.has.fits
  have HST := Hid.mk hst
  have hsl := stepL_len o tn s dn ws
  rw [← hst] at hsl
  clear hP hst
  go_enter Try.func21, Try.ntmps21
  go_wp2_with fail
  rw [← HWA.out, ← HC.out]
  clear u0 u1 u2 ug
  have x0 := hA.x0
  have x1 := hA.x1
  have x2 := hA.x2
  have g1 := hA.g.c1
  have k0 : wA.cell? ⟨C, 0, none⟩ = some (.int .i64 q) := by simp [World.cell?, cb]
  have k1 : wA.cell? ⟨C, 1, none⟩ = some (.string s) := by simp [World.cell?, cb]
  have k2 : wA.cell? ⟨C, 2, none⟩ = some (.int .i64 kp) := by simp [World.cell?, cb]
  have k3 : wA.cell? ⟨C, 3, none⟩ = some (.int .i64 pt) := by simp [World.cell?, cb]
  go_region_held3 (fun wx => (wx.cell? ⟨bb, 1, none⟩ = some (.pointer (some ⟨lb, 0, none⟩)) ∧ wx.cell? ⟨bb, 2, none⟩ = some (.pointer (some ⟨rl, 0, none⟩))) ∧ wx.cell? ⟨C, 1, none⟩ = some (.string s))
    (first
      | exact ⟨⟨x1, x2⟩, k1⟩
      | exact hS2
      | exact hS1)
    ((first
      | (have := m1; go_at_call 40; refine hR.mono ?_; rintro e w2 ⟨rfl, vm2, hr2, hwr2⟩; have t2 := t1.doc hr2 (t1.g.disk t1.r hwr2) (hwr2.log rl); have cb2 := (hwr2.otherR t1.r cb1 (by decide) (by decide)).trans cb1; have hS2 := And.intro (And.intro t2.x1 t2.x2) (show w2.cell? ⟨C, 1, none⟩ = some (.string s) by simp [World.cell?, cb2]); clear hr2 hwr2 cb2)
      | (go_at_call 14; refine HP.out.mono ?_; rintro e w1 ⟨rfl, v1, hh1, hw1⟩; have t1 := HA.out.prog hh1 (HA.out.l.l.disk HA.out.l.d.has hw1) (hw1.log lb); have cb1 := (hw1.other HA.out.l.d.has (show wA.drew.heap[C]? = _ from cb) (by decide) (by decide)).trans cb; have hS1 := And.intro (And.intro t1.x1 t1.x2) (show w1.cell? ⟨C, 1, none⟩ = some (.string s) by simp [World.cell?, cb1]); have hR := refAppend4_any s t1.g t1.r hf (by omega) (by omega); rw [← HST.out] at hR; have m1 := Hid.mk trivial; clear hh1 hw1)))
  have HT := Hid.mk t2
  clear t2 t1 hS1 hS2 hR m1 cb1 HA HP
  go_wp2
  go_ret
  exact ⟨ret_bool (by simp), _, _, _, _, _, _, _, HT.out, by rw [List.length_append, List.length_append]; omega⟩

set_option maxHeartbeats 800000 in
theorem does_1 {w wr : World} {bb b lb m rl : Nat} {v vm : Value} {o tn : Bool} {dn ws : List Ch} (c : Cl) (h : Two w wr bb b lb m rl v vm o tn dn ws tn dn ws) (hlen : (dn ++ ws).length ≤ 1000) (hsz : c.s.size ≤ 8192) (q1 : c.kind = 1) :
    Calls Try.prog 21 #[.pointer (some ⟨bb, 0, none⟩), .agg #[.int .i64 c.kind, .string c.s, .int .i64 c.keep, .int .i64 c.part]] wr fun e w' => e = .returned (.bool true) ∧ Alike w bb b m o ((dn ++ ws).length + 1) w' := by
  obtain ⟨q, s, kp, pt⟩ := c
  dsimp only at hsz ⊢
  have hA := h.grow ((Below.refl _ _).alloc (Nat.le_refl _) (.cells #[.int .i64 q, .string s, .int .i64 kp, .int .i64 pt] 38))
  have u0 := hA.x0
  have u1 := hA.x1
  have u2 := hA.x2
  have ug := hA.g.c1
  have cb : (wr.alloc (.cells #[.int .i64 q, .string s, .int .i64 kp, .int .i64 pt] 38)).heap[wr.heap.size]? = some (.cells #[.int .i64 q, .string s, .int .i64 kp, .int .i64 pt] 38 (0, 0)) := heap_alloc_new wr _
  obtain ⟨C, hC⟩ : ∃ C, C = wr.heap.size := ⟨_, rfl⟩
  rw [← hC] at cb
  have hdl : dn.length ≤ 1000 ∧ ws.length ≤ 1000 := by rw [List.length_append] at hlen; omega
  obtain ⟨hdn, hwn⟩ := hdl
  have HC := Hid.mk hC
  clear hC
  obtain ⟨wA, hwA⟩ : ∃ wA, wA = wr.alloc (.cells #[.int .i64 q, .string s, .int .i64 kp, .int .i64 pt] 38) := ⟨_, rfl⟩
  rw [← hwA] at hA cb
  have HWA := Hid.mk hwA
  clear hwA h
  have q1' : q = 1 := q1
  have z0 : (q == 0) = false := by simp [q1']
  have z1 : (q == 1) = true := by simp [q1']
  have z9 : ¬ 2 < q := by omega
  clear q1 q1'
  go_enter Try.func21, Try.ntmps21
  go_wp2_with fail
  rw [← HWA.out, ← HC.out]
  clear u0 u1 u2 ug
  have x0 := hA.x0
  have x1 := hA.x1
  have x2 := hA.x2
  have g1 := hA.g.c1
  have k0 : wA.cell? ⟨C, 0, none⟩ = some (.int .i64 q) := by simp [World.cell?, cb]
  have k1 : wA.cell? ⟨C, 1, none⟩ = some (.string s) := by simp [World.cell?, cb]
  have k2 : wA.cell? ⟨C, 2, none⟩ = some (.int .i64 kp) := by simp [World.cell?, cb]
  have k3 : wA.cell? ⟨C, 3, none⟩ = some (.int .i64 pt) := by simp [World.cell?, cb]
  refine (force_any hA.l.l hA.l.d.has).mono ?_
  rintro e w1 ⟨rfl, hh1, hw1⟩
  have t1 := hA.prog hh1 (hA.l.l.disk hA.l.d.has hw1) (hw1.log lb)
  have cb1 := (hw1.other hA.l.d.has cb (by decide) (by decide)).trans cb
  have y2 := t1.x2
  have y3 := t1.g.c0
  have y4 := t1.r.c0
  have y5 := t1.r.c1
  have f5 := t1.r.fz 1
  obtain ⟨va, vc, rfl⟩ := t1.r.slice
  have hCm : C ≠ m := ne_block cb1 t1.r.at_ (by decide)
  have t2 := (t1.doc t1.r.sync4 (t1.g.carry (Below.heap_setCell _ _ _ _ (ne_block t1.g.at_ t1.r.at_ (by decide)))) (((Wrote.refl _ _ _).set 1 _).log rl)).drew
  have cb2 := (Below.heap_setCell w1 ⟨m, 1, none⟩ (.int .i64 ((dn ++ ws).length : Nat)) C hCm).trans cb1
  have k8 : w1.cell? ⟨C, 0, none⟩ = some (.int .i64 q) := by simp only [World.cell?, cb1]; rfl
  have k9 : (w1.setCell ⟨m, 1, none⟩ (.int .i64 ((dn ++ ws).length : Nat))).cell? ⟨C, 0, none⟩ = some (.int .i64 q) := by simp only [World.cell?, cb2]; rfl
  have k10 : (w1.setCell ⟨m, 1, none⟩ (.int .i64 ((dn ++ ws).length : Nat))).drew.cell? ⟨C, 0, none⟩ = some (.int .i64 q) := k9
  obtain ⟨N, hN⟩ : ∃ N, N = (dn ++ ws).length := ⟨_, rfl⟩
  rw [← hN] at y4 t2 k9 k10
  have HT := Hid.mk t2
  have HN := Hid.mk hN
  clear t1 t2 cb2 hh1 hw1 hA x0 x1 x2 g1 k0 k1 k2 k3 hN hlen
  go_wp2_with fail
  go_region
  all_goals
    go_wp2
    go_ret
    exact ⟨rfl, _, _, _, _, _, _, _, HT.out, by rw [List.append_nil, ← HN.out]; omega⟩

end Go.Proofs.Ytejmameebhbcbaa
