/-
  The walk of the law's own 'does': the other calls.
-/
import Derived.Test.YtejmameebhbcbaaLDoesA
namespace Go.Proofs.Ytejmameebhbcbaa
open Go.RowKit

set_option maxHeartbeats 800000 in
theorem does_4 {w wr : World} {bb b lb m rl : Nat} {v vm : Value} {o tn : Bool} {dn ws : List Ch} (c : Cl) (h : Two w wr bb b lb m rl v vm o tn dn ws tn dn ws) (hlen : (dn ++ ws).length ≤ 1000) (hsz : c.s.size ≤ 8192) (q4 : c.kind = 4) :
    Calls Try.prog 21 #[.pointer (some ⟨bb, 0, none⟩), .agg #[.int .i64 c.kind, .string c.s, .int .i64 c.keep, .int .i64 c.part]] wr fun e w' => e = .returned (.bool true) ∧ Alike w bb b m o ((dn ++ ws).length + 1) w' := by
  obtain ⟨q, s, kp, pt⟩ := c
  dsimp only at hsz ⊢
  have hA := h.grow ((Below.refl _ _).alloc (Nat.le_refl _) (.cells #[.int .i64 q, .string s, .int .i64 kp, .int .i64 pt] 38))
  have u0 := hA.x0
  have u1 := hA.x1
  have u2 := hA.x2
  have ug := hA.g.c1
  have cb : (wr.alloc (.cells #[.int .i64 q, .string s, .int .i64 kp, .int .i64 pt] 38)).heap[wr.heap.size]? = some (.cells #[.int .i64 q, .string s, .int .i64 kp, .int .i64 pt] 38 (0, 0)) := heap_alloc_new wr _
  obtain ⟨C, hC⟩ : ∃ C, C = wr.heap.size := ⟨_, rfl⟩
  rw [← hC] at cb
  have hdl : dn.length ≤ 1000 ∧ ws.length ≤ 1000 := by rw [List.length_append] at hlen; omega
  obtain ⟨hdn, hwn⟩ := hdl
  have HC := Hid.mk hC
  clear hC
  obtain ⟨wA, hwA⟩ : ∃ wA, wA = wr.alloc (.cells #[.int .i64 q, .string s, .int .i64 kp, .int .i64 pt] 38) := ⟨_, rfl⟩
  rw [← hwA] at hA cb
  have HWA := Hid.mk hwA
  clear hwA h
  have q4' : q = 4 := q4
  have z0 : (q == 0) = false := by simp [q4']
  have z1 : (q == 1) = false := by simp [q4']
  have z2 : (q == 2) = false := by simp [q4']
  have z3 : (q == 3) = false := by simp [q4']
  have z4 : (q == 4) = true := by simp [q4']
  have z9 : 2 < q := by omega
  clear q4 q4'
  have hP := appendS o s hsz hA.drew.l.d.has (by omega)
  have hf := hA.l.d.has.fits
  obtain ⟨W, hW⟩ : ∃ W, W = stepS o s dn ws := ⟨_, rfl⟩
  have hWl := stepS_len o s dn ws
  rw [← hW] at hP hWl
  have HW := Hid.mk hW
  have HP := Hid.mk hP
  have HA := Hid.mk hA.drew
  clear hP hW
  go_enter Try.func21, Try.ntmps21
  go_wp2_with fail
  rw [← HWA.out, ← HC.out]
  clear u0 u1 u2 ug
  have x0 := hA.x0
  have x1 := hA.x1
  have x2 := hA.x2
  have g1 := hA.g.c1
  have k0 : wA.cell? ⟨C, 0, none⟩ = some (.int .i64 q) := by simp [World.cell?, cb]
  have k1 : wA.cell? ⟨C, 1, none⟩ = some (.string s) := by simp [World.cell?, cb]
  have k2 : wA.cell? ⟨C, 2, none⟩ = some (.int .i64 kp) := by simp [World.cell?, cb]
  have k3 : wA.cell? ⟨C, 3, none⟩ = some (.int .i64 pt) := by simp [World.cell?, cb]
  go_region_held3 (fun wx => wx.cell? ⟨bb, 0, none⟩ = some (.pointer (some ⟨b, 0, none⟩)) ∧ wx.cell? ⟨C, 1, none⟩ = some (.string s))
    (first
      | exact ⟨x0, k1⟩
      | exact hS1)
    ((go_at_call 30; refine HP.out.mono ?_; rintro e w1 ⟨e1, v1, rfl, hh1, hw1⟩; have t1 := HA.out.prog hh1 (HA.out.l.l.disk HA.out.l.d.has hw1) (hw1.log lb); have cb1 := (hw1.other HA.out.l.d.has (show wA.drew.heap[C]? = _ from cb) (by decide) (by decide)).trans cb; have hS1 := And.intro t1.x0 (show w1.cell? ⟨C, 1, none⟩ = some (.string s) by simp [World.cell?, cb1]); clear hh1 hw1))
  have hQ := rappendS o s hsz t1.drew.r hf (by omega)
  rw [← HW.out] at hQ
  have HQ := Hid.mk hQ
  have HT1 := Hid.mk t1.drew
  have y0 := hS1.2
  have y2 := t1.x2
  have y3 := t1.g.c0
  clear hS1 hQ t1 HP HA hA x0 x1 x2 g1 k0 k1 k2 k3
  go_wp2_with fail
  go_region_held3 (fun wx => (wx.cell? ⟨bb, 2, none⟩ = some (.pointer (some ⟨rl, 0, none⟩)) ∧ wx.cell? ⟨rl, 0, none⟩ = some (.pointer (some ⟨m, 0, none⟩))) ∧ wx.cell? ⟨C, 1, none⟩ = some (.string s))
    (first
      | exact ⟨⟨y2, y3⟩, y0⟩
      | exact hS2)
    ((go_at_call 43; refine HQ.out.mono ?_; rintro e w2 ⟨e2, vm2, rfl, hr2, hwr2⟩; have t2 := HT1.out.doc hr2 (HT1.out.g.disk HT1.out.r hwr2) (hwr2.log rl); have cb2 := (hwr2.otherR HT1.out.r (show w1.drew.heap[C]? = _ from cb1) (by decide) (by decide)).trans cb1; have hS2 := And.intro (And.intro t2.x2 t2.g.c0) (show w2.cell? ⟨C, 1, none⟩ = some (.string s) by simp [World.cell?, cb2]); clear hr2 hwr2))
  have k9 : w2.cell? ⟨C, 0, none⟩ = some (.int .i64 q) := by simp only [World.cell?, cb2]; rfl
  have hE : (dn ++ W).length ≤ 1001 := by rw [List.length_append]; rw [List.length_append] at hlen; omega
  have hE2 : (dn ++ W).length ≤ (dn ++ ws).length + 1 := by rw [List.length_append, List.length_append]; omega
  clear hS2 HT1 HQ y0 y2 y3 cb1 cb2 cb
  obtain ⟨L, hL⟩ := all_exists _ (txt o (dn ++ W)).data.toList (Nat.le_refl _)
  have y0 := t2.x0
  go_wp2_with fail
  refine (walOpen_yes o t2.l.d.has L hL).mono ?_
  rintro e w7 ⟨rfl, hl7, hb7⟩
  have t7 := t2.grow hb7
  have y1 := t7.x1
  have f1 := t7.fz 1
  have t8 := t2.relog hl7 hb7
  have y2 := t7.x2
  have y3 := t8.x2
  have y4 := t8.g.c0
  have y5 := t7.g.c0
  clear hl7 hb7 t7 t2 y0
  go_wp2_with fail
  refine (refOpen4_any o t8.r t8.l.d.has.fits (by omega) L hL).mono ?_
  rintro e w9 ⟨rfl, hg9, hb9⟩
  have t9 := t8.grow hb9
  have y6 := t9.x2
  have f6 := t9.fz 2
  have t10 := t8.redoc hg9 hb9
  have hsz7 : (w7.setCell ⟨bb, 1, none⟩ (.pointer (some ⟨w2.heap.size, 0, none⟩))).heap.size = w7.heap.size := by simp [World.setCell]
  rw [hsz7] at t10
  clear hsz7
  have HT := Hid.mk t10
  clear hg9 hb9 t9 t10 t8 y1 f1 y2 y3 y4 y5 hL
  go_wp2
  go_ret
  exact ⟨rfl, _, _, _, _, _, _, _, HT.out, by omega⟩

set_option maxHeartbeats 800000 in
theorem does_5 {w wr : World} {bb b lb m rl : Nat} {v vm : Value} {o tn : Bool} {dn ws : List Ch} (c : Cl) (h : Two w wr bb b lb m rl v vm o tn dn ws tn dn ws) (hlen : (dn ++ ws).length ≤ 1000) (hsz : c.s.size ≤ 8192) (q5 : 4 < c.kind) :
    Calls Try.prog 21 #[.pointer (some ⟨bb, 0, none⟩), .agg #[.int .i64 c.kind, .string c.s, .int .i64 c.keep, .int .i64 c.part]] wr fun e w' => e = .returned (.bool true) ∧ Alike w bb b m o ((dn ++ ws).length + 1) w' := by
  obtain ⟨q, s, kp, pt⟩ := c
  dsimp only at hsz ⊢
  have hA := h.grow ((Below.refl _ _).alloc (Nat.le_refl _) (.cells #[.int .i64 q, .string s, .int .i64 kp, .int .i64 pt] 38))
  have u0 := hA.x0
  have u1 := hA.x1
  have u2 := hA.x2
  have ug := hA.g.c1
  have cb : (wr.alloc (.cells #[.int .i64 q, .string s, .int .i64 kp, .int .i64 pt] 38)).heap[wr.heap.size]? = some (.cells #[.int .i64 q, .string s, .int .i64 kp, .int .i64 pt] 38 (0, 0)) := heap_alloc_new wr _
  obtain ⟨C, hC⟩ : ∃ C, C = wr.heap.size := ⟨_, rfl⟩
  rw [← hC] at cb
  have hdl : dn.length ≤ 1000 ∧ ws.length ≤ 1000 := by rw [List.length_append] at hlen; omega
  obtain ⟨hdn, hwn⟩ := hdl
  have HC := Hid.mk hC
  clear hC
  obtain ⟨wA, hwA⟩ : ∃ wA, wA = wr.alloc (.cells #[.int .i64 q, .string s, .int .i64 kp, .int .i64 pt] 38) := ⟨_, rfl⟩
  rw [← hwA] at hA cb
  have HWA := Hid.mk hwA
  clear hwA h
  have q5' : 4 < q := q5
  have z0 : (q == 0) = false := by simp; omega
  have z1 : (q == 1) = false := by simp; omega
  have z2 : (q == 2) = false := by simp; omega
  have z3 : (q == 3) = false := by simp; omega
  have z4 : (q == 4) = false := by simp; omega
  have z9 : 2 < q := by omega
  clear q5
  have hE2 : (dn ++ ws).length ≤ (dn ++ ws).length + 1 := by omega
  obtain ⟨L, hL⟩ := all_exists _ (txt o (dn ++ ws)).data.toList (Nat.le_refl _)
  go_enter Try.func21, Try.ntmps21
  go_wp2_with fail
  rw [← HWA.out, ← HC.out]
  clear u0 u1 u2 ug
  have x0 := hA.x0
  have x1 := hA.x1
  have x2 := hA.x2
  have g1 := hA.g.c1
  have k0 : wA.cell? ⟨C, 0, none⟩ = some (.int .i64 q) := by simp [World.cell?, cb]
  have k1 : wA.cell? ⟨C, 1, none⟩ = some (.string s) := by simp [World.cell?, cb]
  have k2 : wA.cell? ⟨C, 2, none⟩ = some (.int .i64 kp) := by simp [World.cell?, cb]
  have k3 : wA.cell? ⟨C, 3, none⟩ = some (.int .i64 pt) := by simp [World.cell?, cb]
  have y0 := hA.x0
  refine (walOpen_yes o hA.l.d.has L hL).mono ?_
  rintro e w7 ⟨rfl, hl7, hb7⟩
  have t7 := hA.grow hb7
  have y1 := t7.x1
  have f1 := t7.fz 1
  have t8 := hA.relog hl7 hb7
  have y2 := t7.x2
  have y3 := t8.x2
  have y4 := t8.g.c0
  have y5 := t7.g.c0
  clear hl7 hb7 t7 hA y0
  go_wp2_with fail
  refine (refOpen4_any o t8.r t8.l.d.has.fits (by omega) L hL).mono ?_
  rintro e w9 ⟨rfl, hg9, hb9⟩
  have t9 := t8.grow hb9
  have y6 := t9.x2
  have f6 := t9.fz 2
  have t10 := t8.redoc hg9 hb9
  have hsz7 : (w7.setCell ⟨bb, 1, none⟩ (.pointer (some ⟨wA.heap.size, 0, none⟩))).heap.size = w7.heap.size := by simp [World.setCell]
  rw [hsz7] at t10
  clear hsz7
  have HT := Hid.mk t10
  clear hg9 hb9 t9 t10 t8 y1 f1 y2 y3 y4 y5 hL
  go_wp2
  go_ret
  exact ⟨rfl, _, _, _, _, _, _, _, HT.out, by omega⟩

set_option maxHeartbeats 800000 in
theorem does_6 {w wr : World} {bb b lb m rl : Nat} {v vm : Value} {o tn : Bool} {dn ws : List Ch} (c : Cl) (h : Two w wr bb b lb m rl v vm o tn dn ws tn dn ws) (hlen : (dn ++ ws).length ≤ 1000) (hsz : c.s.size ≤ 8192) (q6 : c.kind < 0) :
    Calls Try.prog 21 #[.pointer (some ⟨bb, 0, none⟩), .agg #[.int .i64 c.kind, .string c.s, .int .i64 c.keep, .int .i64 c.part]] wr fun e w' => e = .returned (.bool true) ∧ Alike w bb b m o ((dn ++ ws).length + 1) w' := by
  obtain ⟨q, s, kp, pt⟩ := c
  dsimp only at hsz ⊢
  have hA := h.grow ((Below.refl _ _).alloc (Nat.le_refl _) (.cells #[.int .i64 q, .string s, .int .i64 kp, .int .i64 pt] 38))
  have u0 := hA.x0
  have u1 := hA.x1
  have u2 := hA.x2
  have ug := hA.g.c1
  have cb : (wr.alloc (.cells #[.int .i64 q, .string s, .int .i64 kp, .int .i64 pt] 38)).heap[wr.heap.size]? = some (.cells #[.int .i64 q, .string s, .int .i64 kp, .int .i64 pt] 38 (0, 0)) := heap_alloc_new wr _
  obtain ⟨C, hC⟩ : ∃ C, C = wr.heap.size := ⟨_, rfl⟩
  rw [← hC] at cb
  have hdl : dn.length ≤ 1000 ∧ ws.length ≤ 1000 := by rw [List.length_append] at hlen; omega
  obtain ⟨hdn, hwn⟩ := hdl
  have HC := Hid.mk hC
  clear hC
  obtain ⟨wA, hwA⟩ : ∃ wA, wA = wr.alloc (.cells #[.int .i64 q, .string s, .int .i64 kp, .int .i64 pt] 38) := ⟨_, rfl⟩
  rw [← hwA] at hA cb
  have HWA := Hid.mk hwA
  clear hwA h
  have q6' : q < 0 := q6
  have z0 : (q == 0) = false := by simp; omega
  have z1 : (q == 1) = false := by simp; omega
  have z2 : (q == 2) = false := by simp; omega
  have z3 : (q == 3) = false := by simp; omega
  have z4 : (q == 4) = false := by simp; omega
  have z9 : ¬ 2 < q := by omega
  clear q6
  rw [HWA.out] at hA
  have HT := Hid.mk hA
  clear hA
  go_enter Try.func21, Try.ntmps21
  go_wp2
  go_ret
  exact ⟨rfl, _, _, _, _, _, _, _, HT.out, by first | exact Nat.le_succ _ | (rw [List.length_append]; omega)⟩

end Go.Proofs.Ytejmameebhbcbaa
