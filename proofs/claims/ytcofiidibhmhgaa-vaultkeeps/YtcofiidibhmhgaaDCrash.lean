/-
  The walk of Crash.
-/
import Derived.Test.YtcofiidibhmhgaaDChange
namespace Go.Proofs.Ytcofiidibhmhgaa
open Go.RowKit

set_option maxHeartbeats 400000 in
set_option maxRecDepth 100000 in
theorem crash_nil {w : World} {b : Nat} {dn : List Ch} (h : Has w b (.slice none 0 0) dn []) (k p : Int) :
    Calls Try.prog 23 #[.pointer (some ⟨b, 0, none⟩), .int .i64 k, .int .i64 p] w fun e w' => e = .returned (.tuple #[]) ∧ Has w' b (.slice none 0 0) dn [] ∧ Wrote b (.slice none 0 0) w (.slice none 0 0) w' := by
  have e0 : near k 0 = 0 := by unfold near; omega
  have c0 := h.dsk.c0
  have c1 := h.dsk.c1
  have c2 := h.dsk.c2
  have c3 := h.dsk.c3
  have c4 := h.dsk.c4
  have f0 := h.dsk.fz 0
  have f1 := h.dsk.fz 1
  have f4 := h.dsk.fz 4
  go_enter Try.func23, Try.ntmps23
  go_wp2_with fail
  refine (nearest_any k 0 _).mono ?_
  rintro e w1 ⟨rfl, rfl⟩
  rw [e0]
  clear e0
  go_wp2
  go_loop [25] (fun i => i = .int .i64 0) (fun _ => 0)
  case atStart => rfl
  case round =>
    subst hrel
    go_wp2
    go_end0
    refine ⟨rfl, ⟨⟨?_, by simp [Value.ownBlock], World.ownsRow_nil _ _ _ _⟩, by simpa using h.fits⟩, ((((Wrote.refl b _ w1).set _ _).set _ _).set _ _).turn (by simp [Value.ownBlock])⟩
    rw [heap_set _ (heap_set _ (heap_set _ h.dsk.at_))]
    simp

theorem Dsk.at_ch {w : World} {b g n cap : Nat} {n0 n1 s0 s1 : ByteArray} {ws : List Ch} (h : Dsk w b (.slice (some ⟨g, 0, none⟩) n cap) n0 n1 s0 s1 ws) (j : Nat) (hj : j < ws.length) :
    w.cell? ⟨g, j * 3, none⟩ = some (.int .i64 (ar ws[j].one)) ∧ w.cell? ⟨g, j * 3 + 1, none⟩ = some (.bool ws[j].reset) ∧ w.cell? ⟨g, j * 3 + 2, none⟩ = some (.string ws[j].bytes) := by
  have hn : n = ws.length := by
    have := h.owns.2
    rcases this with ⟨e, _⟩ | ⟨g', cap', cur, e, _⟩
    · cases e
    · cases e; rfl
  subst hn
  obtain ⟨e0, e1, e2⟩ := chC_at ws j hj
  have hadd : ∀ i, (⟨g, 0, none⟩ : Addr).add i = ⟨g, i, none⟩ := fun i => by unfold Addr.add; split <;> simp_all
  have k0 := h.owns.cells (g := g) rfl _ _ e0
  have k1 := h.owns.cells (g := g) rfl _ _ e1
  have k2 := h.owns.cells (g := g) rfl _ _ e2
  rw [hadd] at k0 k1 k2
  exact ⟨k0, k1, k2⟩

theorem on_if (o r : Bool) (bs s0 s1 : ByteArray) : (if o then s0 else (if r then ⟨#[]⟩ else (if o then s1 else s0) ++ bs)) = (⟨o, r, bs⟩ : Ch).on false s0 ∧ (if o then (if r then ⟨#[]⟩ else (if o then s1 else s0) ++ bs) else s1) = (⟨o, r, bs⟩ : Ch).on true s1 := by
  cases o <;> cases r <;> exact ⟨rfl, rfl⟩

set_option maxHeartbeats 1600000 in
set_option maxRecDepth 100000 in
theorem crash_some {w : World} {b g cap : Nat} {dn ws : List Ch} (h : Has w b (.slice (some ⟨g, 0, none⟩) ws.length cap) dn ws) (hsm : ws.length ≤ 1000000) (k p : Int) :
    Calls Try.prog 23 #[.pointer (some ⟨b, 0, none⟩), .int .i64 k, .int .i64 p] w fun e w' => e = .returned (.tuple #[]) ∧
      Has w' b (.slice none 0 0) (dn ++ kept ws k p) [] ∧ Wrote b (.slice (some ⟨g, 0, none⟩) ws.length cap) w (.slice none 0 0) w' := by
  have c4 := h.dsk.c4
  obtain ⟨K, hK⟩ : ∃ K, K = near k ws.length := ⟨_, rfl⟩
  have hKn : K ≤ ws.length := by rw [hK]; exact near_le _ _
  have hcap : ws.length ≤ cap := by
    rcases h.dsk.owns.2 with ⟨e, _⟩ | ⟨g', cap', cur, e, _, _, r, _⟩
    · cases e
    · cases e; exact r
  have hKc : K ≤ cap := by omega
  have q0 : (0 : Int) ≤ (K : Int) := Int.natCast_nonneg _
  have q1 : (K : Int) ≤ (cap : Int) := by omega
  go_enter Try.func23, Try.ntmps23
  go_wp2_with fail
  refine (nearest_any k ws.length _).mono ?_
  rintro e w1 ⟨rfl, rfl⟩
  rw [← hK]
  have HK := Hid.mk hK
  clear hK
  have H := Hid.mk h
  obtain ⟨v, hv⟩ : ∃ v : Value, v = .slice (some ⟨g, 0, none⟩) ws.length cap := ⟨_, rfl⟩
  have HV := Hid.mk hv
  clear hv
  go_wp2
  go_loopw [7, 25] (fun _ i wr => ∃ (j : Nat), j ≤ K ∧ i = .int .i64 j ∧ Dsk wr b (.slice (some ⟨g, 0, none⟩) ws.length cap) (txt false (dn ++ ws)) (txt true (dn ++ ws)) (txt false (dn ++ ws.take j)) (txt true (dn ++ ws.take j)) ws ∧ Wrote b v w1 v wr) (fun _ i _ => K - (intOf i).toNat)
  case atStart => exact ⟨0, Nat.zero_le _, rfl, by simpa using h.dsk, Wrote.refl _ _ _⟩
  case round =>
    obtain ⟨j, hj, rfl, hd, hwr⟩ := hrel
    by_cases hlt : j < K
    · have hjn : j < ws.length := by omega
      obtain ⟨x0, x1, x2⟩ := hd.at_ch j hjn
      have t0 := txt_take_succ false dn ws j hjn
      have t1 := txt_take_succ true dn ws j hjn
      have z0 := (h.fits.mid j).all false
      have z1 := (h.fits.mid j).all true
      have z2 : ws[j].reset = false → ws[j].bytes.size ≤ 16384 := by
        have := h.fits.bytes (dn.length + j) (by simp; omega)
        simpa using this
      obtain ⟨c, hc⟩ : ∃ c, c = ws[j] := ⟨_, rfl⟩
      rw [← hc] at x0 x1 x2 t0 t1 z2
      obtain ⟨o, r, bs⟩ := c
      obtain ⟨s0, hs0⟩ : ∃ s0, s0 = txt false (dn ++ ws.take j) := ⟨_, rfl⟩
      obtain ⟨s1, hs1⟩ : ∃ s1, s1 = txt true (dn ++ ws.take j) := ⟨_, rfl⟩
      rw [← hs0] at t0 z0 hd
      rw [← hs1] at t1 z1 hd
      dsimp only at x0 x1 x2 z2
      have HT0 := Hid.mk t0
      have HT1 := Hid.mk t1
      have HZ2 := Hid.mk z2
      have HWR := Hid.mk hwr
      have hD := (hd.alloc (.cells #[.int .i64 (ar o), .bool r, .string bs] 59)).drew
      have HL := Hid.mk hlt
      clear hc t0 t1 hs0 hs1 z2 hwr h c4
      go_wp2_with fail
      go_region_with ((go_at_call 40; refine (do_any _ b 2 o r bs s0 s1 hD.c2 hD.c3 (hD.fz 2) (hD.fz 3) z0 z1 HZ2.out).mono ?_; rintro e w2 ⟨rfl, hset⟩))
      have hD1 := hD.set2 o hset
      rw [(on_if o r bs s0 s1).1, (on_if o r bs s0 s1).2, ← HT0.out, ← HT1.out] at hD1
      have hw2 : Wrote b v w1 v w2 := HWR.out.trans ((Wrote.of_below (((Below.refl _ _).alloc (Nat.le_refl _) _).drew)).trans hset.wrote)
      have HD1 := Hid.mk hD1
      have HW2 := Hid.mk hw2
      clear hD1 hw2 hset hD hd HWR x0 x1 x2 HT0 HT1
      go_wp2
      go_roundw
      case rel => exact ⟨j + 1, HL.out, by go_num, HD1.out, HW2.out⟩
      case measure =>
        have := HL.out
        simp [intOf]
        omega
    · have hjK : j = K := by omega
      subst hjK
      have HF := Hid.mk h.fits
      have z0 := (h.fits.mid j).all false
      have z1 := (h.fits.mid j).all true
      have c0 := hd.c0
      have c1 := hd.c1
      have c2 := hd.c2
      have c3 := hd.c3
      have c4 := hd.c4
      have f0 := hd.fz 0
      have f1 := hd.fz 1
      have f4 := hd.fz 4
      have HDD := Hid.mk hd
      have HWR := Hid.mk hwr
      clear hd hwr h H
      by_cases hlt2 : j < ws.length
      · obtain ⟨x0, x1, x2⟩ := HDD.out.at_ch j hlt2
        cases hr : ws[j].reset with
        | true =>
          rw [hr] at x1
          have HE := Hid.mk (kept_reset (p := p) HK.out hlt2 hr)
          clear hr x0 x2
          go_wp2
          go_end0
          rw [HV.out] at HWR
          rw [HE.out]
          refine ⟨rfl, ⟨⟨?_, by simp [Value.ownBlock], World.ownsRow_nil _ _ _ _⟩, by simpa using HF.out.mid j⟩, (((HWR.out.set _ _).set _ _).set _ _).turn (by simp [Value.ownBlock])⟩
          rw [heap_set _ (heap_set _ (heap_set _ HDD.out.at_))]
          simp
        | false =>
          rw [hr] at x1
          have HE := Hid.mk (kept_torn (p := p) HK.out hlt2 hr)
          have HF2 := Hid.mk (HF.out.kept k p)
          have z2 := HF.out.bytes (dn.length + j) (by simp; omega) (by simpa using hr)
          simp at z2
          obtain ⟨c, hc⟩ : ∃ c, c = ws[j] := ⟨_, rfl⟩
          rw [← hc] at x0 x2 HE z2
          obtain ⟨o, r, bs⟩ := c
          dsimp only at x0 x2 HE z2
          obtain ⟨P, hP⟩ : ∃ P, P = near p bs.size := ⟨_, rfl⟩
          rw [← hP] at HE
          have N : ∀ wx, Calls Try.prog 39 #[.int .i64 p, .int .i64 (bs.size : Nat)] wx fun e w' => e = .returned (.int .i64 (P : Nat)) ∧ w' = wx := by
            rw [hP]
            exact nearest_any p bs.size
          have hPb : P ≤ bs.size := by rw [hP]; exact near_le _ _
          have q2 : (0 : Int) ≤ (P : Int) := Int.natCast_nonneg _
          have q3 : (P : Int) ≤ (bs.size : Int) := by omega
          have HN := Hid.mk N
          clear hr hc hP N
          go_wp2_with fail
          go_region_with ((go_at_call 39; refine (HN.out _).mono ?_; rintro e w3 ⟨rfl, rfl⟩))
          all_goals
            have hD := ((HDD.out.alloc (.cells #[.int .i64 (ar o), .bool false, .string (bs.extract 0 P)] 59)).drew).drew
            have z3 : (bs.extract 0 P).size ≤ 16384 := by simp; omega
            clear c0 c1 c2 c3 c4 f0 f1 f4 x0 x1 x2
            go_wp2_with fail
            go_region_with ((go_at_call 40; refine (do_any _ b 2 o false (bs.extract 0 P) _ _ hD.c2 hD.c3 (hD.fz 2) (hD.fz 3) z0 z1 (fun _ => z3)).mono ?_; rintro e w4 ⟨rfl, hset⟩))
            have hD1 := hD.set2 o hset
            rw [(on_if o false _ _ _).1, (on_if o false _ _ _).2, ← txt_one, ← txt_one] at hD1
            have hw4 : Wrote b v w1 v w4 := HWR.out.trans ((Wrote.of_below ((((Below.refl _ _).alloc (Nat.le_refl _) _).drew).drew)).trans hset.wrote)
            have c0 := hD1.c0
            have c1 := hD1.c1
            have c2 := hD1.c2
            have c3 := hD1.c3
            have c4 := hD1.c4
            have f0 := hD1.fz 0
            have f1 := hD1.fz 1
            have f4 := hD1.fz 4
            have HD1 := Hid.mk hD1
            have HW4 := Hid.mk hw4
            clear hD1 hw4 hset hD HWR HDD
            go_wp2
            go_end0
            rw [HV.out] at HW4
            rw [HE.out] at HF2 ⊢
            refine ⟨rfl, ⟨⟨?_, by simp [Value.ownBlock], World.ownsRow_nil _ _ _ _⟩, by simpa using HF2.out⟩, (((HW4.out.set _ _).set _ _).set _ _).turn (by simp [Value.ownBlock])⟩
            rw [heap_set _ (heap_set _ (heap_set _ HD1.out.at_))]
            simp
      · have hjn : j = ws.length := by omega
        have e1 : kept ws k p = ws := kept_all (by rw [← HK.out, hjn])
        rw [hjn, List.take_length] at c2 c3 HDD
        have HJ := Hid.mk hjn
        have HE := Hid.mk e1
        clear hjn e1
        go_wp2
        go_end0
        rw [HV.out] at HWR
        rw [HE.out]
        refine ⟨rfl, ⟨⟨?_, by simp [Value.ownBlock], World.ownsRow_nil _ _ _ _⟩, by simpa using HF.out⟩, (((HWR.out.set _ _).set _ _).set _ _).turn (by simp [Value.ownBlock])⟩
        rw [heap_set _ (heap_set _ (heap_set _ HDD.out.at_))]
        simp

set_option maxRecDepth 100000 in
theorem crash_any {w : World} {b : Nat} {v : Value} {dn ws : List Ch} (h : Has w b v dn ws) (hsm : ws.length ≤ 1000000) (k p : Int) :
    Calls Try.prog 23 #[.pointer (some ⟨b, 0, none⟩), .int .i64 k, .int .i64 p] w fun e w' => e = .returned (.tuple #[]) ∧
      Has w' b (.slice none 0 0) (dn ++ kept ws k p) [] ∧ Wrote b v w (.slice none 0 0) w' := by
  rcases h.dsk.owns.2 with ⟨rfl, h0⟩ | ⟨g, cap, cur, rfl, _⟩
  · have e : ws = [] := List.length_eq_zero_iff.1 h0
    subst e
    have e1 : kept [] k p = [] := kept_all (by unfold near; simp)
    rw [e1, List.append_nil]
    exact crash_nil h k p
  · exact crash_some h hsm k p

end Go.Proofs.Ytcofiidibhmhgaa
