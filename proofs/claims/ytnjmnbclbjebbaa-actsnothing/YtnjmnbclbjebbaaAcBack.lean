/-
  The walk of Back.
-/
import Derived.Test.YtnjmnbclbjebbaaAcCalls
import Derived.Test.YtnjmnbclbjebbaaAcReg
namespace Go.Proofs.Ytnjmnbclbjebbaa.Ac
open Go.RowKit Go.Deep Go.Proofs.Ytnjmnbclbjebbaa.Cel Go.Proofs.Ytnjmnbclbjebbaa.Dft

section
variable {α : Type} {enc : α → List Value} {s : Nat}

/-- What lies behind the first ones. -/
def dropA (a : Option Addr) (k cap s : Nat) : Option Addr := if cap = k then a else a.map (·.add (k * s))

theorem View.drop {w : World} {a : Option Addr} {len cap : Nat} {l : List α} (h : View w enc s a len cap l) (k : Nat) (hk : k ≤ len) : View w enc s (dropA a k cap s) (len - k) (cap - k) (l.drop k) := by
  obtain ⟨hl, hc, ⟨rfl, hn⟩ | ⟨g, off, rfl, hat⟩⟩ := h
  · simp at hl
    refine ⟨by simp; omega, by omega, .inl ⟨by simp, fun e => ?_⟩⟩
    unfold dropA at e
    split at e
    · have := hn e; omega
    · rw [Option.map_eq_none_iff] at e
      have := hn e
      omega
  · refine ⟨by rw [List.length_drop]; omega, by omega, .inr ?_⟩
    unfold dropA
    split
    · rename_i hck
      refine ⟨g, off, rfl, hat.lt, fun j hj => ?_⟩
      rw [List.length_drop] at hj
      omega
    · refine ⟨g, off + k * s, by rw [Option.map_some, Cel.add_plain], hat.lt, fun j hj r v hv => ?_⟩
      rw [List.length_drop] at hj
      rw [List.getElem_drop] at hv
      have := hat.c (k + j) (by omega) r v hv
      rwa [show off + (k + j) * s + r = off + k * s + j * s + r by rw [Nat.add_mul]; omega] at this

end

theorem take_stays {α : Type} (m : Int) (l : List α) : l.take (stays m l.length) = l.take m.toNat := by
  unfold stays
  rcases Nat.le_total m.toNat l.length with h | h
  · rw [Nat.min_eq_left h]
  · rw [Nat.min_eq_right h, List.take_length, List.take_of_length_le h]
theorem drop_stays {α : Type} (m : Int) (l : List α) : l.drop (stays m l.length) = l.drop m.toNat := by
  unfold stays
  rcases Nat.le_total m.toNat l.length with h | h
  · rw [Nat.min_eq_left h]
  · rw [Nat.min_eq_right h, List.drop_length, List.drop_eq_nil_of_le h]

def cutV (v : Value) (k : Nat) : Value := match v with | .slice a _ _ => .slice a k k | v => v
/-- The slices behind Back. -/
def bvs (vs : Vs) (T : AS) (m : Nat → Int) : Vs := fun i => cutV (vs i) (stays (m i) (rowN T i))

section
variable {w w' : World} {b : Nat} {vs : Vs} {T : AS}

theorem back_n (T : AS) (m : Nat → Int) (i : Nat) (hi : i < 4) : rowN (T.back m) i = stays (m i) (rowN T i) := by
  rcases below4 hi with rfl | rfl | rfl | rfl <;> simp [rowN, AS.back, stays]
theorem back_c (T : AS) (m : Nat → Int) (i : Nat) (hi : i < 4) : rowC (T.back m) i = (rowC T i).take (stays (m i) (rowN T i) * sz i) := by
  rcases below4 hi with rfl | rfl | rfl | rfl
  · show flat eO (T.out.take _) = (flat eO T.out).take (stays (m 0) T.out.length * 2)
    rw [flat_take eO_len _ _ (stays_le _ _), take_stays]
  · show flat eO (T.beh.take _) = (flat eO T.beh).take (stays (m 1) T.beh.length * 2)
    rw [flat_take eO_len _ _ (stays_le _ _), take_stays]
  · show flat eI (T.notes.take _) = (flat eI T.notes).take (stays (m 2) T.notes.length * 1)
    rw [flat_take eI_len _ _ (stays_le _ _), take_stays]
  · show flat eP (T.ops.take _) = (flat eP T.ops).take (stays (m 3) T.ops.length * 2)
    rw [flat_take eP_len _ _ (stays_le _ _), take_stays]

theorem cut_own {v : Value} {k g : Nat} (h : (cutV v k).ownBlock = some g) : v.ownBlock = some g := by
  unfold cutV at h
  split at h
  · rename_i a _ _
    cases a with
    | none => cases h
    | some p => exact h
  · exact h

/-- Block b alone was written: the four slices are cut. -/
theorem AcAt.backed (h : AcAt w b vs T) (m : Nat → Int) (hb : w'.heap[b]? = some (.cells (vA (bvs vs T m)) 29 (0, 0))) (ho : Only b w w') :
    AcAt w' b (bvs vs T m) (T.back m) ∧ Wrote (Ft b vs) (Ft b (bvs vs T m)) w w' := by
  have hne : ∀ i, i < 4 → ∀ k, (vs i).ownBlock = some k → k ≠ b := fun i hi k hk e => by
    subst e
    obtain ⟨cs, hc⟩ := (h.row i hi).block hk
    rw [h.at_] at hc
    injection hc with hc
    injection hc with _ hc _
    exact ty_ne i hi 29 (by decide) (by decide) (by decide) hc.symm
  refine ⟨⟨hb, fun i hi => ?_, fun i j hi hj hij k hk => ?_⟩, ⟨ho.os, ho.tape, ho.output, Nat.le_of_eq ho.size.symm, fun k _ hf => ho.block k (fun e => hf (.inl e)), fun k hk => ?_⟩⟩
  · obtain ⟨a, cap, e, _⟩ := h.shape i hi
    have hr := h.row i hi
    rw [back_n T m i hi, back_c T m i hi]
    unfold bvs
    rw [e] at hr ⊢
    refine (Held.cut hr _ (stays_le _ _)).carry fun k hk => ho.block k ?_
    exact hne i hi k (by rw [e]; exact cut_own (v := .slice a (rowN T i) cap) hk)
  · exact fun e => h.apart i j hi hj hij k (cut_own hk) (cut_own e)
  · rcases hk with rfl | ⟨i, hi, e⟩
    · exact .inl (.inl rfl)
    · exact .inl (.inr ⟨i, hi, cut_own e⟩)

set_option maxHeartbeats 400000 in
set_option maxRecDepth 100000 in
theorem back_nil (m : Nat → Int) (w : World) :
    Calls Try.prog 11 #[.pointer none, .agg (mA m)] w fun e w' => e = .returned (.slice none 0 0) ∧ Below w.heap.size w w' := by
  have HB := Hid.mk ((Below.refl w.heap.size w).alloc (Nat.le_refl _) (.cells (mA m) 42))
  unfold mA at HB ⊢
  go_enter Try.func11, Try.ntmps11
  go_wp2
  go_ret
  exact ⟨rfl, HB.out⟩

/-- What the region's world meets: the mark's cells, and, as long as nothing is stored, those of the acts. -/
structure Bc (b : Nat) (x0 x1 x2 : Value) (w : World) : Prop where
  b0 : w.cell? ⟨b, 0, none⟩ = some x0
  b1 : w.cell? ⟨b, 1, none⟩ = some x1
  b2 : w.cell? ⟨b, 2, none⟩ = some x2
structure Ic (M : Nat) (m : Nat → Int) (b : Nat) (x0 x1 x2 : Value) (l : Array Bool) (w : World) : Prop where
  m0 : w.cell? ⟨M, 0, none⟩ = some (.int .i64 (m 0))
  m1 : w.cell? ⟨M, 1, none⟩ = some (.int .i64 (m 1))
  m2 : w.cell? ⟨M, 2, none⟩ = some (.int .i64 (m 2))
  b : Reg.fresh [28, 31, 34, 37] l → Bc b x0 x1 x2 w

theorem Ic.same {M : Nat} {m : Nat → Int} {b : Nat} {x0 x1 x2 : Value} (i : Nat) (hi : i ∉ [28, 31, 34, 37]) (l : Array Bool) (w : World) : Ic M m b x0 x1 x2 (l.setIfInBounds i true) w ↔ Ic M m b x0 x1 x2 l w := by
  have e : Reg.fresh [28, 31, 34, 37] (l.setIfInBounds i true) ↔ Reg.fresh [28, 31, 34, 37] l := ⟨Reg.fresh_le, fun h k hk => by
    rw [getD_set_ne true (fun e => hi (by rw [e]; exact hk))]
    exact h k hk⟩
  exact ⟨fun h => ⟨h.m0, h.m1, h.m2, fun f => h.b (e.2 f)⟩, fun h => ⟨h.m0, h.m1, h.m2, fun f => h.b (e.1 f)⟩⟩
theorem Ic.store {M : Nat} {m : Nat → Int} {b : Nat} {x0 x1 x2 : Value} {l : Array Bool} {w : World} (h : Ic M m b x0 x1 x2 l w) (hne : b ≠ M) {i : Nat} (hi : i ∈ [28, 31, 34, 37]) {j : Nat} {v : Value} : Ic M m b x0 x1 x2 (l.setIfInBounds i true) (w.setCell ⟨b, j, none⟩ v) :=
  ⟨(World.cell?_setCell_far _ _ _ _ hne).trans h.m0, (World.cell?_setCell_far _ _ _ _ hne).trans h.m1, (World.cell?_setCell_far _ _ _ _ hne).trans h.m2, fun f => absurd f (Reg.not_fresh hi)⟩

theorem back_end (h : AcAt w b vs T) {W1 w2 : World} (hB1 : Below w.heap.size w W1) (hB : Below W1.heap.size W1.drew w2) {a0 a1 a2 a3 : Option Addr} {k0 k1 k2 k3 k : Nat} {m : Nat → Int} {v : Value}
    (e0 : vs 0 = .slice a0 T.out.length k0) (e1 : vs 1 = .slice a1 T.beh.length k1) (e2 : vs 2 = .slice a2 T.notes.length k2) (e3 : vs 3 = .slice a3 T.ops.length k3) (hk : k = stays (m 3) T.ops.length)
    {n : Nat} (ho : w2.ownsRow W1.heap.size 56 2 v n (flat eP (amendsL (T.ops.drop k)))) (hn : n = (T.ops.drop k).length) :
    ((((w2.setCell ⟨b, 0, none⟩ (.slice a0 (stays (m 0) T.out.length) (stays (m 0) T.out.length))).setCell ⟨b, 1, none⟩ (.slice a1 (stays (m 1) T.beh.length) (stays (m 1) T.beh.length))).setCell ⟨b, 2, none⟩ (.slice a2 (stays (m 2) T.notes.length) (stays (m 2) T.notes.length))).setCell ⟨b, 3, none⟩ (.slice a3 k k)).drew.ownsRow w.heap.size 56 2 v (T.ops.drop (m 3).toNat).length (flat eP (amendsL (T.ops.drop (m 3).toNat))) ∧
    AcAt ((((w2.setCell ⟨b, 0, none⟩ (.slice a0 (stays (m 0) T.out.length) (stays (m 0) T.out.length))).setCell ⟨b, 1, none⟩ (.slice a1 (stays (m 1) T.beh.length) (stays (m 1) T.beh.length))).setCell ⟨b, 2, none⟩ (.slice a2 (stays (m 2) T.notes.length) (stays (m 2) T.notes.length))).setCell ⟨b, 3, none⟩ (.slice a3 k k)).drew b (bvs vs T m) (T.back m) ∧
    Wrote (Ft b vs) (Ft b (bvs vs T m)) w ((((w2.setCell ⟨b, 0, none⟩ (.slice a0 (stays (m 0) T.out.length) (stays (m 0) T.out.length))).setCell ⟨b, 1, none⟩ (.slice a1 (stays (m 1) T.beh.length) (stays (m 1) T.beh.length))).setCell ⟨b, 2, none⟩ (.slice a2 (stays (m 2) T.notes.length) (stays (m 2) T.notes.length))).setCell ⟨b, 3, none⟩ (.slice a3 k k)).drew := by
  subst hk hn
  have h2 : AcAt w2 b vs T := (h.grown hB1).drew.grown hB
  have hv : vA (bvs vs T m) = #[.slice a0 (stays (m 0) T.out.length) (stays (m 0) T.out.length), .slice a1 (stays (m 1) T.beh.length) (stays (m 1) T.beh.length), .slice a2 (stays (m 2) T.notes.length) (stays (m 2) T.notes.length), .slice a3 (stays (m 3) T.ops.length) (stays (m 3) T.ops.length)] := by
    unfold vA bvs
    rw [e0, e1, e2, e3]
    rfl
  have hat := heap_set (i := 3) (.slice a3 (stays (m 3) T.ops.length) (stays (m 3) T.ops.length)) (heap_set (i := 2) (.slice a2 (stays (m 2) T.notes.length) (stays (m 2) T.notes.length)) (heap_set (i := 1) (.slice a1 (stays (m 1) T.beh.length) (stays (m 1) T.beh.length)) (heap_set (i := 0) (.slice a0 (stays (m 0) T.out.length) (stays (m 0) T.out.length)) h2.at_)))
  have hon : Only b w2 ((((w2.setCell ⟨b, 0, none⟩ (.slice a0 (stays (m 0) T.out.length) (stays (m 0) T.out.length))).setCell ⟨b, 1, none⟩ (.slice a1 (stays (m 1) T.beh.length) (stays (m 1) T.beh.length))).setCell ⟨b, 2, none⟩ (.slice a2 (stays (m 2) T.notes.length) (stays (m 2) T.notes.length))).setCell ⟨b, 3, none⟩ (.slice a3 (stays (m 3) T.ops.length) (stays (m 3) T.ops.length))) := ((((Only.refl b w2).set 0 _).set 1 _).set 2 _).set 3 _
  obtain ⟨W, hW⟩ : ∃ W, W = ((((w2.setCell ⟨b, 0, none⟩ (.slice a0 (stays (m 0) T.out.length) (stays (m 0) T.out.length))).setCell ⟨b, 1, none⟩ (.slice a1 (stays (m 1) T.beh.length) (stays (m 1) T.beh.length))).setCell ⟨b, 2, none⟩ (.slice a2 (stays (m 2) T.notes.length) (stays (m 2) T.notes.length))).setCell ⟨b, 3, none⟩ (.slice a3 (stays (m 3) T.ops.length) (stays (m 3) T.ops.length))) := ⟨_, rfl⟩
  rw [← hW] at hat hon ⊢
  have hon2 : Only b w2 W.drew := ⟨hon.os, hon.tape, hon.output, hon.size, hon.block⟩
  have hb := h2.backed (w' := W.drew) m (by rw [hv]; exact hat) hon2
  have hlt := h.lt
  have hs1 := hB1.size
  refine ⟨?_, hb.1, (Wrote.of_below hB1.drew).trans ((Wrote.of_below hB).trans hb.2)⟩
  rw [drop_stays] at ho
  exact own_low (ownsRow_carry ho fun g hg => hon2.block g (fun e => by have := (ho.lt g hg).1; omega)) hs1

set_option maxHeartbeats 4000000 in
set_option maxRecDepth 100000 in
theorem back_any (h : AcAt w b vs T) (hT : T.Le 1000000) (m : Nat → Int) :
    Calls Try.prog 11 #[.pointer (some ⟨b, 0, none⟩), .agg (mA m)] w fun e w' => (∃ v n, e = .returned v ∧ w'.ownsRow w.heap.size 56 2 v n (flat eP (amendsL (T.ops.drop (m 3).toNat))) ∧ n = (T.ops.drop (m 3).toNat).length) ∧ ∃ vs', AcAt w' b vs' (T.back m) ∧ Wrote (Ft b vs) (Ft b vs') w w' := by
  obtain ⟨a0, k0, e0', n0', hk0', _⟩ := h.shape 0 (by decide)
  obtain ⟨a1, k1, e1', n1', hk1', _⟩ := h.shape 1 (by decide)
  obtain ⟨a2, k2, e2', n2', hk2', _⟩ := h.shape 2 (by decide)
  obtain ⟨a3, k3, e3, hv3, hm3⟩ := h.view3
  obtain ⟨x3, y3, e3', n3', hk3', _⟩ := h.shape 3 (by decide)
  rw [e3] at e3'
  injection e3' with ea eb ec
  clear eb
  subst ea ec
  have e0 : vs 0 = .slice a0 T.out.length k0 := e0'
  have e1 : vs 1 = .slice a1 T.beh.length k1 := e1'
  have e2 : vs 2 = .slice a2 T.notes.length k2 := e2'
  have HF0 := Hid.mk (firstO_any a0 T.out.length k0 n0' hk0' (m 0))
  have HF1 := Hid.mk (firstO_any a1 T.beh.length k1 n1' hk1' (m 1))
  have HF2 := Hid.mk (firstI_any a2 T.notes.length k2 n2' hk2' (m 2))
  have n3 : a3 = none → T.ops.length = 0 ∧ k3 = 0 := n3'
  have hk3 : T.ops.length ≤ k3 := hk3'
  clear e0' e1' e2' n0' n1' n2' n3' hk0' hk1' hk2' hk3'
  obtain ⟨M, hM⟩ : ∃ M, M = w.heap.size := ⟨_, rfl⟩
  obtain ⟨W1, hW1⟩ : ∃ W1, W1 = w.alloc (.cells (mA m) 42) := ⟨_, rfl⟩
  have hB1 : Below w.heap.size w W1 := by rw [hW1]; exact (Below.refl w.heap.size w).alloc (Nat.le_refl _) _
  have h1 := h.grown hB1
  have hmc : W1.heap[M]? = some (.cells (mA m) 42 (0, 0)) := by rw [hW1, hM]; exact heap_new _ _
  have c0 := h1.cell 0 (by decide)
  have c1 := h1.cell 1 (by decide)
  have c2 := h1.cell 2 (by decide)
  have c3 := h1.cell 3 (by decide)
  rw [e0] at c0
  rw [e1] at c1
  rw [e2] at c2
  rw [e3] at c3
  have q0 : W1.cell? ⟨M, 0, none⟩ = some (.int .i64 (m 0)) := cell_at hmc rfl
  have q1 : W1.cell? ⟨M, 1, none⟩ = some (.int .i64 (m 1)) := cell_at hmc rfl
  have q2 : W1.cell? ⟨M, 2, none⟩ = some (.int .i64 (m 2)) := cell_at hmc rfl
  have q3 : W1.cell? ⟨M, 3, none⟩ = some (.int .i64 (m 3)) := cell_at hmc rfl
  obtain ⟨k, hk⟩ : ∃ k, k = stays (m 3) T.ops.length := ⟨_, rfl⟩
  have hkn : k ≤ T.ops.length := by rw [hk]; exact stays_le _ _
  have HF3 := Hid.mk (firstP_any a3 T.ops.length k3 n3 hk3 (m 3))
  rw [← hk] at HF3
  have HC1 := Hid.mk (fun (hck : ¬ k3 = k) (wx : World) (hx : View wx eP 2 a3 T.ops.length k3 T.ops) => by
    have h := amends_any (hx.drop k hkn) (by have := hT.ops; omega)
    unfold dropA at h
    rw [if_neg hck] at h
    exact h)
  have HC2 := Hid.mk (fun (hck : k3 = k) (wx : World) (hx : View wx eP 2 a3 T.ops.length k3 T.ops) => by
    have h := amends_any (hx.drop k hkn) (by have := hT.ops; omega)
    unfold dropA at h
    rw [if_pos hck, show k3 - k = 0 by omega] at h
    exact h)
  have hkc : (k : Int) ≤ (T.ops.length : Int) := by omega
  have hkd : (0 : Int) ≤ (k : Int) := by omega
  unfold mA
  go_enter Try.func11, Try.ntmps11
  go_wp2_with fail
  rw [← hM]
  have e9 : w.alloc (.cells #[.int .i64 (m 0), .int .i64 (m 1), .int .i64 (m 2), .int .i64 (m 3)] 42) = W1 := hW1.symm
  rw [e9]
  have HM := Hid.mk hM
  have HW1 := Hid.mk hW1
  have HE0 := Hid.mk e0
  have HE1 := Hid.mk e1
  have HE2 := Hid.mk e2
  have HE3 := Hid.mk e3
  have HK := Hid.mk hk
  have HB1 := Hid.mk hB1
  have H1 := Hid.mk h1
  have HV3 := Hid.mk (hv3.grown hB1)
  have HMC := Hid.mk hmc
  have H0 := Hid.mk h
  have HNE : Hid (b ≠ M) := Hid.mk (by have := h.lt; omega)
  clear hM hW1 e9 e0 e1 e2 e3 hk hB1 h1 hv3 hmc h hm3 n3
  go_region_held3 (fun wx => wx.cell? ⟨b, 3, none⟩ = some (.slice a3 T.ops.length k3) ∧ wx.cell? ⟨M, 3, none⟩ = some (.int .i64 (m 3)))
    (exact ⟨c3, q3⟩)
    (first | (go_at_call 25; refine (HF3.out _).mono ?_; rintro e w1 ⟨rfl, hw1⟩; rw [hw1]; clear hw1 w1))
  go_wp2_with fail
  all_goals
    first
      | (have hck : ¬ k3 = k := by assumption
         refine (HC1.out hck _ HV3.out.drew).mono ?_)
      | (have hck : k3 = k := by assumption
         refine (HC2.out hck _ HV3.out.drew).mono ?_)
    rintro e w2 ⟨v, rfl, ho, hb⟩
    obtain ⟨va, vc, rfl⟩ := row_shape ho
    have HO := Hid.mk ho
    have HB := Hid.mk hb
    clear ho hb
    have H2 := (H1.out.drew.grown HB.out).drew
    have d0 := H2.cell 0 (by decide)
    have d1 := H2.cell 1 (by decide)
    have d2 := H2.cell 2 (by decide)
    have d3 := H2.cell 3 (by decide)
    rw [HE0.out] at d0
    rw [HE1.out] at d1
    rw [HE2.out] at d2
    rw [HE3.out] at d3
    have z0 := H2.fz 0
    have z1 := H2.fz 1
    have z2 := H2.fz 2
    have z3 := H2.fz 3
    have p0 : w2.drew.cell? ⟨M, 0, none⟩ = _ := on_cell (w := W1.drew) HB.out.drew q0
    have p1 : w2.drew.cell? ⟨M, 1, none⟩ = _ := on_cell (w := W1.drew) HB.out.drew q1
    have p2 : w2.drew.cell? ⟨M, 2, none⟩ = _ := on_cell (w := W1.drew) HB.out.drew q2
    have y1 : w2.cell? ⟨b, 1, none⟩ = _ := d1
    have y2 : w2.cell? ⟨b, 2, none⟩ = _ := d2
    have y3 : w2.cell? ⟨b, 3, none⟩ = _ := d3
    have f1 : w2.frozen? ⟨b, 1, none⟩ = _ := z1
    have f2 : w2.frozen? ⟨b, 2, none⟩ = _ := z2
    have f3 : w2.frozen? ⟨b, 3, none⟩ = _ := z3
    have H2 := Hid.mk H2
    have HI := Hid.mk (Ic.same (M := M) (m := m) (b := b) (x0 := .slice a0 T.out.length k0) (x1 := .slice a1 T.beh.length k1) (x2 := .slice a2 T.notes.length k2))
    clear hck c0 c1 c2 c3 q0 q1 q2 q3 hkc hkd HC1 HC2
    go_wp2_with fail
    refine Reg.start (I := Ic M m b (.slice a0 T.out.length k0) (.slice a1 T.beh.length k1) (.slice a2 T.notes.length k2)) (by kernel_rfl) ⟨p0, p1, p2, fun _ => ⟨d0, d1, d2⟩⟩ (fun hS => ?_)
    refine Reg.take (fun _ => True) [] HI.out hS (fun _ _ _ _ => trivial) (i := 0) (v := ?_) rfl (by kernel_rfl) (by kernel_rfl) (by kernel_rfl) (by kernel_rfl) (by kernel_rfl) rfl (fun _ _ _ h => h) (Or.inl ⟨by rfl, ?h0⟩) (fun hS2 => ?_)
    case h0 =>
      intro wx hR
      try dsimp only at hR
      go_simp
      try with_reducible rfl
    clear hS
    have hS := hS2
    clear hS2
    simp only [Act.put]
    refine Reg.take (fun _ => True) [] HI.out hS (fun _ _ _ _ => trivial) (i := 1) (v := ?_) rfl (by kernel_rfl) (by kernel_rfl) (by kernel_rfl) (by kernel_rfl) (by kernel_rfl) rfl (fun _ _ _ h => h) (Or.inl ⟨by rfl, ?h1⟩) (fun hS2 => ?_)
    case h1 =>
      intro wx hR
      try dsimp only at hR
      go_simp
      try with_reducible rfl
    clear hS
    have hS := hS2
    clear hS2
    simp only [Act.put]
    refine Reg.take (fun _ => True) [] HI.out hS (fun _ _ _ _ => trivial) (i := 2) (v := ?_) rfl (by kernel_rfl) (by kernel_rfl) (by kernel_rfl) (by kernel_rfl) (by kernel_rfl) rfl (fun _ _ _ h => h) (Or.inl ⟨by rfl, ?h2⟩) (fun hS2 => ?_)
    case h2 =>
      intro wx hR
      try dsimp only at hR
      go_simp
      try with_reducible rfl
    clear hS
    have hS := hS2
    clear hS2
    simp only [Act.put]
    refine Reg.take (fun _ => True) [] HI.out hS (fun _ _ _ _ => trivial) (i := 3) (v := ?_) rfl (by kernel_rfl) (by kernel_rfl) (by kernel_rfl) (by kernel_rfl) (by kernel_rfl) rfl (fun _ _ _ h => h) (Or.inl ⟨by rfl, ?h3⟩) (fun hS2 => ?_)
    case h3 =>
      intro wx hR
      try dsimp only at hR
      go_simp
      try with_reducible rfl
    clear hS
    have hS := hS2
    clear hS2
    simp only [Act.put]
    refine Reg.take (fun _ => True) [] HI.out hS (fun _ _ _ _ => trivial) (i := 4) (v := ?_) rfl (by kernel_rfl) (by kernel_rfl) (by kernel_rfl) (by kernel_rfl) (by kernel_rfl) rfl (fun _ _ _ h => h) (Or.inl ⟨by rfl, ?h4⟩) (fun hS2 => ?_)
    case h4 =>
      intro wx hR
      try dsimp only at hR
      go_simp
      try with_reducible rfl
    clear hS
    have hS := hS2
    clear hS2
    simp only [Act.put]
    refine Reg.take (fun _ => True) [] HI.out hS (fun _ _ _ _ => trivial) (i := 5) (v := ?_) rfl (by kernel_rfl) (by kernel_rfl) (by kernel_rfl) (by kernel_rfl) (by kernel_rfl) rfl (fun _ _ _ h => h) (Or.inl ⟨by rfl, ?h5⟩) (fun hS2 => ?_)
    case h5 =>
      intro wx hR
      try dsimp only at hR
      go_simp
      try with_reducible rfl
    clear hS
    have hS := hS2
    clear hS2
    simp only [Act.put]
    refine Reg.take (fun _ => True) [] HI.out hS (fun _ _ _ _ => trivial) (i := 6) (v := ?_) rfl (by kernel_rfl) (by kernel_rfl) (by kernel_rfl) (by kernel_rfl) (by kernel_rfl) rfl (fun _ _ _ h => h) (Or.inl ⟨by rfl, ?h6⟩) (fun hS2 => ?_)
    case h6 =>
      intro wx hR
      try dsimp only at hR
      go_simp
      try with_reducible rfl
    clear hS
    have hS := hS2
    clear hS2
    simp only [Act.put]
    refine Reg.take (fun wx => wx.cell? ⟨b, 0, none⟩ = some (.slice a0 T.out.length k0)) [10, 17, 24, 28, 31, 34, 37] HI.out hS (fun _ _ h f => (h.b (Reg.fresh_sub f (by decide))).b0) (i := 7) (v := ?_) rfl (by kernel_rfl) (by kernel_rfl) (by kernel_rfl) (by kernel_rfl) (by kernel_rfl) rfl (fun _ _ _ h => h) (Or.inl ⟨by rfl, ?h7⟩) (fun hS2 => ?_)
    case h7 =>
      intro wx hR
      try dsimp only at hR
      go_simp
      try with_reducible rfl
    clear hS
    have hS := hS2
    clear hS2
    simp only [Act.put]
    refine Reg.take (fun _ => True) [] HI.out hS (fun _ _ _ _ => trivial) (i := 8) (v := ?_) rfl (by kernel_rfl) (by kernel_rfl) (by kernel_rfl) (by kernel_rfl) (by kernel_rfl) rfl (fun _ _ _ h => h) (Or.inl ⟨by rfl, ?h8⟩) (fun hS2 => ?_)
    case h8 =>
      intro wx hR
      try dsimp only at hR
      go_simp
      try with_reducible rfl
    clear hS
    have hS := hS2
    clear hS2
    simp only [Act.put]
    refine Reg.take (fun wx => wx.cell? ⟨M, 0, none⟩ = some (.int .i64 (m 0))) [] HI.out hS (fun _ _ h _ => h.m0) (i := 9) (v := ?_) rfl (by kernel_rfl) (by kernel_rfl) (by kernel_rfl) (by kernel_rfl) (by kernel_rfl) rfl (fun _ _ _ h => h) (Or.inl ⟨by rfl, ?h9⟩) (fun hS2 => ?_)
    case h9 =>
      intro wx hR
      try dsimp only at hR
      go_simp
      try with_reducible rfl
    clear hS
    have hS := hS2
    clear hS2
    simp only [Act.put]
    refine Reg.take (fun _ => True) [] HI.out hS (fun _ _ _ _ => trivial) (i := 11) (v := ?_) rfl (by kernel_rfl) (by kernel_rfl) (by kernel_rfl) (by kernel_rfl) (by kernel_rfl) rfl (fun _ _ _ h => h) (Or.inl ⟨by rfl, ?h11⟩) (fun hS2 => ?_)
    case h11 =>
      intro wx hR
      try dsimp only at hR
      go_simp
      try with_reducible rfl
    clear hS
    have hS := hS2
    clear hS2
    simp only [Act.put]
    refine Reg.take (fun _ => True) [] HI.out hS (fun _ _ _ _ => trivial) (i := 12) (v := ?_) rfl (by kernel_rfl) (by kernel_rfl) (by kernel_rfl) (by kernel_rfl) (by kernel_rfl) rfl (fun _ _ _ h => h) (Or.inl ⟨by rfl, ?h12⟩) (fun hS2 => ?_)
    case h12 =>
      intro wx hR
      try dsimp only at hR
      go_simp
      try with_reducible rfl
    clear hS
    have hS := hS2
    clear hS2
    simp only [Act.put]
    refine Reg.take (fun _ => True) [] HI.out hS (fun _ _ _ _ => trivial) (i := 13) (v := ?_) rfl (by kernel_rfl) (by kernel_rfl) (by kernel_rfl) (by kernel_rfl) (by kernel_rfl) rfl (fun _ _ _ h => h) (Or.inl ⟨by rfl, ?h13⟩) (fun hS2 => ?_)
    case h13 =>
      intro wx hR
      try dsimp only at hR
      go_simp
      try with_reducible rfl
    clear hS
    have hS := hS2
    clear hS2
    simp only [Act.put]
    refine Reg.take (fun wx => wx.cell? ⟨b, 1, none⟩ = some (.slice a1 T.beh.length k1)) [17, 24, 28, 31, 34, 37] HI.out hS (fun _ _ h f => (h.b (Reg.fresh_sub f (by decide))).b1) (i := 14) (v := ?_) rfl (by kernel_rfl) (by kernel_rfl) (by kernel_rfl) (by kernel_rfl) (by kernel_rfl) rfl (fun _ _ _ h => h) (Or.inl ⟨by rfl, ?h14⟩) (fun hS2 => ?_)
    case h14 =>
      intro wx hR
      try dsimp only at hR
      go_simp
      try with_reducible rfl
    clear hS
    have hS := hS2
    clear hS2
    simp only [Act.put]
    refine Reg.take (fun _ => True) [] HI.out hS (fun _ _ _ _ => trivial) (i := 15) (v := ?_) rfl (by kernel_rfl) (by kernel_rfl) (by kernel_rfl) (by kernel_rfl) (by kernel_rfl) rfl (fun _ _ _ h => h) (Or.inl ⟨by rfl, ?h15⟩) (fun hS2 => ?_)
    case h15 =>
      intro wx hR
      try dsimp only at hR
      go_simp
      try with_reducible rfl
    clear hS
    have hS := hS2
    clear hS2
    simp only [Act.put]
    refine Reg.take (fun wx => wx.cell? ⟨M, 1, none⟩ = some (.int .i64 (m 1))) [] HI.out hS (fun _ _ h _ => h.m1) (i := 16) (v := ?_) rfl (by kernel_rfl) (by kernel_rfl) (by kernel_rfl) (by kernel_rfl) (by kernel_rfl) rfl (fun _ _ _ h => h) (Or.inl ⟨by rfl, ?h16⟩) (fun hS2 => ?_)
    case h16 =>
      intro wx hR
      try dsimp only at hR
      go_simp
      try with_reducible rfl
    clear hS
    have hS := hS2
    clear hS2
    simp only [Act.put]
    refine Reg.take (fun _ => True) [] HI.out hS (fun _ _ _ _ => trivial) (i := 18) (v := ?_) rfl (by kernel_rfl) (by kernel_rfl) (by kernel_rfl) (by kernel_rfl) (by kernel_rfl) rfl (fun _ _ _ h => h) (Or.inl ⟨by rfl, ?h18⟩) (fun hS2 => ?_)
    case h18 =>
      intro wx hR
      try dsimp only at hR
      go_simp
      try with_reducible rfl
    clear hS
    have hS := hS2
    clear hS2
    simp only [Act.put]
    refine Reg.take (fun _ => True) [] HI.out hS (fun _ _ _ _ => trivial) (i := 19) (v := ?_) rfl (by kernel_rfl) (by kernel_rfl) (by kernel_rfl) (by kernel_rfl) (by kernel_rfl) rfl (fun _ _ _ h => h) (Or.inl ⟨by rfl, ?h19⟩) (fun hS2 => ?_)
    case h19 =>
      intro wx hR
      try dsimp only at hR
      go_simp
      try with_reducible rfl
    clear hS
    have hS := hS2
    clear hS2
    simp only [Act.put]
    refine Reg.take (fun _ => True) [] HI.out hS (fun _ _ _ _ => trivial) (i := 20) (v := ?_) rfl (by kernel_rfl) (by kernel_rfl) (by kernel_rfl) (by kernel_rfl) (by kernel_rfl) rfl (fun _ _ _ h => h) (Or.inl ⟨by rfl, ?h20⟩) (fun hS2 => ?_)
    case h20 =>
      intro wx hR
      try dsimp only at hR
      go_simp
      try with_reducible rfl
    clear hS
    have hS := hS2
    clear hS2
    simp only [Act.put]
    refine Reg.take (fun wx => wx.cell? ⟨b, 2, none⟩ = some (.slice a2 T.notes.length k2)) [24, 28, 31, 34, 37] HI.out hS (fun _ _ h f => (h.b (Reg.fresh_sub f (by decide))).b2) (i := 21) (v := ?_) rfl (by kernel_rfl) (by kernel_rfl) (by kernel_rfl) (by kernel_rfl) (by kernel_rfl) rfl (fun _ _ _ h => h) (Or.inl ⟨by rfl, ?h21⟩) (fun hS2 => ?_)
    case h21 =>
      intro wx hR
      try dsimp only at hR
      go_simp
      try with_reducible rfl
    clear hS
    have hS := hS2
    clear hS2
    simp only [Act.put]
    refine Reg.take (fun _ => True) [] HI.out hS (fun _ _ _ _ => trivial) (i := 22) (v := ?_) rfl (by kernel_rfl) (by kernel_rfl) (by kernel_rfl) (by kernel_rfl) (by kernel_rfl) rfl (fun _ _ _ h => h) (Or.inl ⟨by rfl, ?h22⟩) (fun hS2 => ?_)
    case h22 =>
      intro wx hR
      try dsimp only at hR
      go_simp
      try with_reducible rfl
    clear hS
    have hS := hS2
    clear hS2
    simp only [Act.put]
    refine Reg.take (fun wx => wx.cell? ⟨M, 2, none⟩ = some (.int .i64 (m 2))) [] HI.out hS (fun _ _ h _ => h.m2) (i := 23) (v := ?_) rfl (by kernel_rfl) (by kernel_rfl) (by kernel_rfl) (by kernel_rfl) (by kernel_rfl) rfl (fun _ _ _ h => h) (Or.inl ⟨by rfl, ?h23⟩) (fun hS2 => ?_)
    case h23 =>
      intro wx hR
      try dsimp only at hR
      go_simp
      try with_reducible rfl
    clear hS
    have hS := hS2
    clear hS2
    simp only [Act.put]
    refine Reg.take (fun _ => True) [] HI.out hS (fun _ _ _ _ => trivial) (i := 25) (v := ?_) rfl (by kernel_rfl) (by kernel_rfl) (by kernel_rfl) (by kernel_rfl) (by kernel_rfl) rfl (fun _ _ _ h => h) (Or.inl ⟨by rfl, ?h25⟩) (fun hS2 => ?_)
    case h25 =>
      intro wx hR
      try dsimp only at hR
      go_simp
      try with_reducible rfl
    clear hS
    have hS := hS2
    clear hS2
    simp only [Act.put]
    refine Reg.one (i := 10) (by kernel_rfl) rfl (fun K hK => ?_)
    go_simp
    refine (HF0.out _).mono ?_
    rintro e w9 ⟨rfl, hw9⟩
    rw [hw9]
    clear hw9 w9
    refine hK.out _ _ ((HI.out 10 (by decide) _ _).2 hS) (fun hS2 => ?_)
    clear hK K hS
    have hS := hS2
    clear hS2
    refine Reg.one (i := 17) (by kernel_rfl) rfl (fun K hK => ?_)
    go_simp
    refine (HF1.out _).mono ?_
    rintro e w9 ⟨rfl, hw9⟩
    rw [hw9]
    clear hw9 w9
    refine hK.out _ _ ((HI.out 17 (by decide) _ _).2 hS) (fun hS2 => ?_)
    clear hK K hS
    have hS := hS2
    clear hS2
    refine Reg.one (i := 24) (by kernel_rfl) rfl (fun K hK => ?_)
    go_simp
    refine (HF2.out _).mono ?_
    rintro e w9 ⟨rfl, hw9⟩
    rw [hw9]
    clear hw9 w9
    refine hK.out _ _ ((HI.out 24 (by decide) _ _).2 hS) (fun hS2 => ?_)
    clear hK K hS
    have hS := hS2
    clear hS2
    refine Reg.take (fun _ => True) [] HI.out hS (fun _ _ _ _ => trivial) (i := 26) (v := ?_) rfl (by kernel_rfl) (by kernel_rfl) (by kernel_rfl) (by kernel_rfl) (by kernel_rfl) rfl (fun _ _ _ h => h) (Or.inl ⟨by rfl, ?h26⟩) (fun hS2 => ?_)
    case h26 =>
      intro wx hR
      try dsimp only at hR
      go_simp
      try with_reducible rfl
    clear hS
    have hS := hS2
    clear hS2
    simp only [Act.put]
    refine Reg.take (fun _ => True) [] HI.out hS (fun _ _ _ _ => trivial) (i := 27) (v := ?_) rfl (by kernel_rfl) (by kernel_rfl) (by kernel_rfl) (by kernel_rfl) (by kernel_rfl) rfl (fun _ _ _ h => h) (Or.inl ⟨by rfl, ?h27⟩) (fun hS2 => ?_)
    case h27 =>
      intro wx hR
      try dsimp only at hR
      go_simp
      try with_reducible rfl
    clear hS
    have hS := hS2
    clear hS2
    simp only [Act.put]
    refine Reg.one (i := 28) (by kernel_rfl) rfl (fun K hK => ?_)
    go_simp
    refine hK.out _ _ (hS.store HNE.out (by decide)) (fun hS2 => ?_)
    clear hK K hS
    have hS := hS2
    clear hS2
    refine Reg.take (fun _ => True) [] HI.out hS (fun _ _ _ _ => trivial) (i := 29) (v := ?_) rfl (by kernel_rfl) (by kernel_rfl) (by kernel_rfl) (by kernel_rfl) (by kernel_rfl) rfl (fun _ _ _ h => h) (Or.inl ⟨by rfl, ?h29⟩) (fun hS2 => ?_)
    case h29 =>
      intro wx hR
      try dsimp only at hR
      go_simp
      try with_reducible rfl
    clear hS
    have hS := hS2
    clear hS2
    simp only [Act.put]
    refine Reg.take (fun _ => True) [] HI.out hS (fun _ _ _ _ => trivial) (i := 30) (v := ?_) rfl (by kernel_rfl) (by kernel_rfl) (by kernel_rfl) (by kernel_rfl) (by kernel_rfl) rfl (fun _ _ _ h => h) (Or.inl ⟨by rfl, ?h30⟩) (fun hS2 => ?_)
    case h30 =>
      intro wx hR
      try dsimp only at hR
      go_simp
      try with_reducible rfl
    clear hS
    have hS := hS2
    clear hS2
    simp only [Act.put]
    refine Reg.one (i := 31) (by kernel_rfl) rfl (fun K hK => ?_)
    go_simp
    refine hK.out _ _ (hS.store HNE.out (by decide)) (fun hS2 => ?_)
    clear hK K hS
    have hS := hS2
    clear hS2
    refine Reg.take (fun _ => True) [] HI.out hS (fun _ _ _ _ => trivial) (i := 32) (v := ?_) rfl (by kernel_rfl) (by kernel_rfl) (by kernel_rfl) (by kernel_rfl) (by kernel_rfl) rfl (fun _ _ _ h => h) (Or.inl ⟨by rfl, ?h32⟩) (fun hS2 => ?_)
    case h32 =>
      intro wx hR
      try dsimp only at hR
      go_simp
      try with_reducible rfl
    clear hS
    have hS := hS2
    clear hS2
    simp only [Act.put]
    refine Reg.take (fun _ => True) [] HI.out hS (fun _ _ _ _ => trivial) (i := 33) (v := ?_) rfl (by kernel_rfl) (by kernel_rfl) (by kernel_rfl) (by kernel_rfl) (by kernel_rfl) rfl (fun _ _ _ h => h) (Or.inl ⟨by rfl, ?h33⟩) (fun hS2 => ?_)
    case h33 =>
      intro wx hR
      try dsimp only at hR
      go_simp
      try with_reducible rfl
    clear hS
    have hS := hS2
    clear hS2
    simp only [Act.put]
    refine Reg.one (i := 34) (by kernel_rfl) rfl (fun K hK => ?_)
    go_simp
    refine hK.out _ _ (hS.store HNE.out (by decide)) (fun hS2 => ?_)
    clear hK K hS
    have hS := hS2
    clear hS2
    refine Reg.take (fun _ => True) [] HI.out hS (fun _ _ _ _ => trivial) (i := 35) (v := ?_) rfl (by kernel_rfl) (by kernel_rfl) (by kernel_rfl) (by kernel_rfl) (by kernel_rfl) rfl (fun _ _ _ h => h) (Or.inl ⟨by rfl, ?h35⟩) (fun hS2 => ?_)
    case h35 =>
      intro wx hR
      try dsimp only at hR
      go_simp
      try with_reducible rfl
    clear hS
    have hS := hS2
    clear hS2
    simp only [Act.put]
    refine Reg.take (fun _ => True) [] HI.out hS (fun _ _ _ _ => trivial) (i := 36) (v := ?_) rfl (by kernel_rfl) (by kernel_rfl) (by kernel_rfl) (by kernel_rfl) (by kernel_rfl) rfl (fun _ _ _ h => h) (Or.inl ⟨by rfl, ?h36⟩) (fun hS2 => ?_)
    case h36 =>
      intro wx hR
      try dsimp only at hR
      go_simp
      try with_reducible rfl
    clear hS
    have hS := hS2
    clear hS2
    simp only [Act.put]
    refine Reg.one (i := 37) (by kernel_rfl) rfl (fun K hK => ?_)
    go_simp
    refine hK.out _ _ (hS.store HNE.out (by decide)) (fun hS2 => ?_)
    clear hK K hS
    have hS := hS2
    clear hS2
    refine Reg.done (by kernel_rfl) ?_ _
    clear y1 y2 y3 f1 f2 f3 z0 z1 z2 z3 hS d0 d1 d2 d3
    go_wp2
    go_ret
    have HO2 := HO.out
    rw [List.length_drop] at HO2
    obtain ⟨g1, g2, g3⟩ := back_end H0.out HB1.out HB.out HE0.out HE1.out HE2.out HE3.out HK.out HO2 (by simp)
    exact ⟨⟨_, _, rfl, g1, rfl⟩, _, g2, g3⟩

end

end Go.Proofs.Ytnjmnbclbjebbaa.Ac
