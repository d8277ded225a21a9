/-
  The walks of New and Arrive: bytes behind all others.
-/
import Derived.Lib.AppendStr
import Derived.Deep.RegionLaw
import Derived.Test.YtmgimohnednlgaaECalls
namespace Go.Proofs.Ytmgimohnednlgaa.Fee
open Go.RowKit Go.Proofs.Ytmgimohnednlgaa.Cel

set_option maxHeartbeats 400000 in
set_option maxRecDepth 100000 in
theorem new_any (w : World) :
    Calls Try.prog 7 #[] w fun e w' => e = .returned (.pointer (some ⟨w.heap.size + 2, 0, none⟩)) ∧ FeedAt w' ⟨w.heap.size + 2, w.heap.size + 1, w.heap.size, nils⟩ nones ∧ Below w.heap.size w w' := by
  go_enter Try.func7, Try.ntmps7
  go_wp2_with fail
  refine (I.new_any 3 0 w).mono ?_
  rintro e w1 ⟨rfl, hr, hb, hs⟩
  have F := FeedAt.new hr
  have HB := Hid.mk (hb.alloc (B := w.heap.size) hb.size (.cells #[.slice none 0 0, .slice none 0 0, .slice none 0 0, .pointer (some ⟨w.heap.size + 1, 0, none⟩)] 50))
  rw [hs] at F
  have HF := Hid.mk F
  have HS := Hid.mk hs
  clear F hr hb hs
  go_wp2
  go_ret
  exact ⟨by rw [← HS.out]; rfl, HF.out, HB.out⟩

set_option maxRecDepth 100000 in
theorem Try.info5 : (Try.prog.info? 5).map (fun i => (i.zero, i.size, i.bytes)) = some (some (.int .u8 0), 1, 1) := by kernel_rfl

/-- 'append(b, s...)', b owned: and where what comes of it lies. -/
theorem append_string_at {P : Program} (w : World) (t u ty e : TypeId) (i : TypeInfo) (ht : P.underlying t = some (.slice e)) (hu : P.underlying u = some .string) (hi : P.info? e = some i) (hz : i.zero = some (.int .u8 0))
    (hsize : i.size = 1) (hby : i.bytes = 1) (v : Value) (n : Nat) (xs : List Value) (hown : w.ownsRow 0 e 1 v n xs) (s : ByteArray) (hb : n + s.size ≤ 140737488355328) :
    ∃ v' w', (Builtin.append_ #[t, u] ty #[v, .string s]).run P w = .ok v' w' ∧ w'.ownsRow 0 e 1 v' (n + s.size) (xs ++ Lib.strCells s) ∧ w.grownBy w' v.ownBlock ∧
      (∀ k, v'.ownBlock = some k → v.ownBlock = some k ∨ w.heap.size ≤ k) := by
  obtain ⟨v', w', hr, h2, h3, h4⟩ := Lib.run_append_own_string (P := P) w 0 t u ty e i ht hu hi hz hsize hby v n xs hown s (by unfold maxLen; omega) hb (Nat.zero_le _)
  refine ⟨v', w', hr, h2, h3, fun k hk => ?_⟩
  rcases hown.2 with ⟨rfl, rfl⟩ | ⟨g, cap, cur, rfl, _, hg, hnc, hcm, hcs, htake⟩
  · by_cases hm : s.size = 0
    · rw [h4.2 ⟨rfl, hm⟩] at hk
      exact .inl hk
    · have hr' := run_append_nil_string (P := P) w t u ty e i (.int .u8 0) ht hu hi hz s (by omega) (by omega) (by rw [hby]; omega)
      rw [hr] at hr'
      cases hr'
      simp [Value.ownBlock] at hk
      right; omega
  · by_cases hroom : n + s.size ≤ cap
    · have hr' := Lib.run_append_room_string (P := P) w t u ty e i ht hu hi hsize g n cap cur hg s hroom (by omega)
      rw [hr] at hr'
      cases hr'
      exact .inl hk
    · have hxl : xs.length = n := by simpa using hown.1
      have hr' := Lib.run_append_grow_string (P := P) w t u ty e i (.int .u8 0) ht hu hi hz ⟨g, 0, none⟩ n cap xs (by rw [hsize]; simpa using hxl) (hown.cells (g := g) rfl) s (by omega) (by omega) (by rw [hby]; exact growslice_fits (by omega) (by omega))
      rw [hr] at hr'
      cases hr'
      simp [Value.ownBlock] at hk
      right; omega

/-- The same at a step of a region that draws its order. -/
theorem step_append_string_at {P : Program} {ops : Array Oper} {o : Oper} {a : Act} {w : World} {K : Act → World → Prop} {Q : Exit → Act → World → Prop} {E : Prop} (hgd : o.guard = none) (sl x : Operand) (t u : TypeId)
    (ho : o.op = .call { callee := .builtin .append, args := #[sl, x], argTypes := #[t, u] }) (e : TypeId) (i : TypeInfo)
    (ht : P.underlying t = some (.slice e)) (hu : P.underlying u = some .string) (hi : P.info? e = some i) (hz : i.zero = some (.int .u8 0)) (hsize : i.size = 1) (hby : i.bytes = 1)
    (v : Value) (n : Nat) (xs : List Value) (hs : a.eval sl = v) (hown : w.ownsRow 0 e 1 v n xs) (s : ByteArray) (hx : a.eval x = .string s) (hb : n + s.size ≤ 140737488355328)
    (h : ∀ v' w', w'.ownsRow 0 e 1 v' (n + s.size) (xs ++ Lib.strCells s) → w.grownBy w' v.ownBlock → (∀ k, v'.ownBlock = some k → v.ownBlock = some k ∨ w.heap.size ≤ k) → K (a.put o.dst v') w') :
    if Region.wanted o (yielded ops a.tmps) = true then Oper.wp P o a w K Q else E := by
  have hw : Region.wanted o (yielded ops a.tmps) = true := by simp [Region.wanted, hgd]
  rw [if_pos hw]
  obtain ⟨v', w', hr, h2, h3, h4⟩ := append_string_at (P := P) w t u o.type e i ht hu hi hz hsize hby v n xs hown s hb
  unfold Oper.wp execOp
  simp only [ho, resolve, invoke, builtin, Sem.run_bind, Sem.run_pure, Result.andThen_ok, List.map_toArray, List.map_cons, List.map_nil, hs, hx, hr]
  exact h v' w' h2 h3 h4

/-- What owns a row is a slice. -/
theorem slice_of {w : World} {base : Nat} {e : TypeId} {size : Nat} {v : Value} {n : Nat} {xs : List Value} (h : w.ownsRow base e size v n xs) : ∃ a m c, v = .slice a m c := by
  rcases h.2 with ⟨e, _⟩ | ⟨g, cap, cur, e, _⟩
  · exact ⟨_, _, _, e⟩
  · exact ⟨_, _, _, e⟩

theorem strCells_eq (s : ByteArray) : Lib.strCells s = bcells s.data.toList := rfl

section
variable {w : World} {A : Lie} {f : Nat → Sk}

set_option maxHeartbeats 1600000 in
set_option maxRecDepth 100000 in
theorem arrive_yes (i : Nat) (hi : i < 3) (s : ByteArray) (h : FeedAt w A f) (hl : (f i).bs.length + s.size ≤ 64) :
    Calls Try.prog 8 #[.pointer (some ⟨A.b, 0, none⟩), .int .i64 i, .string s] w fun e w' => e = .returned (.int .i64 0) ∧
      ∃ A', A'.b = A.b ∧ FeedAt w' A' (upd f i ((f i).more s.data.toList)) ∧ Wrote A w A' w' := by
  obtain ⟨i0, hi0, hz0, hz1, hz2⟩ := info_parts Try.info5
  have cv := h.cv i hi
  have fv := h.fz i
  have hlt := h.lt
  have hap : (A.vs i).ownBlock ≠ some A.b := fun e => h.own_b hi A.b e rfl
  have hown := h.owns i hi
  obtain ⟨a, cap, hv⟩ := h.sl i hi
  obtain ⟨L, hL⟩ : ∃ L, L = (f i).bs.length := ⟨_, rfl⟩
  obtain ⟨b, hb⟩ : ∃ b, b = A.b := ⟨_, rfl⟩
  rw [← hL] at hv hl hown
  rw [hv] at cv hap hown
  rw [← hb] at cv fv hlt hap
  rw [← hb]
  have HB := Hid.mk hb
  have HV := Hid.mk hv
  have HL := Hid.mk hL
  have H := Hid.mk h
  have q0 : ¬ (i : Int) < 0 := by omega
  have q1 : (i : Int) < 3 := by omega
  have e1 : IntKind.i64.wrap ((L : Int) + (s.size : Int)) = (L : Int) + (s.size : Int) := by rw [IntKind.wrap_i64]; omega
  have q2 : ¬ (64 : Int) < (L : Int) + (s.size : Int) := by omega
  have q3 : L + s.size ≤ 64 := hl
  have q4 : ¬ 64 < L + s.size := by omega
  clear hb hv hL h
  go_enter Try.func8, Try.ntmps8
  go_wp2_with fail
  refine (there_yes i hi _).mono ?_
  rintro e w1 ⟨rfl, hw1⟩
  rw [hw1]
  clear hw1 w1
  go_wp2_with fail
  go_region_law
    ((refine step_append_string_at (by rfl) _ _ _ _ (by rfl) 5 i0 Try.underlying47 Try.underlying9 hi0 hz0 hz1 hz2 (.slice a L cap) L (bcells (f i).bs) (by rfl) hown s (by rfl) (by omega) ?_; intro v1 w2 hown1 hgrow hat; obtain ⟨a1, n1, m1, rfl⟩ := slice_of hown1; have c2 : w2.cell? ⟨b, i, none⟩ = some (.slice a L cap) := (hgrow.cell_far ⟨b, i, none⟩ hlt (Ne.symm hap)).trans cv; have f2 : w2.frozen? ⟨b, i, none⟩ = false := (hgrow.frozen_far ⟨b, i, none⟩ hlt (Ne.symm hap)).trans fv))
  all_goals
    have hz : s.data.toList.length = s.size := by simp
    have hown' : w2.ownsRow 0 5 1 (.slice a1 n1 m1) ((f i).more s.data.toList).bs.length (bcells ((f i).more s.data.toList).bs) := by
      show w2.ownsRow 0 5 1 (.slice a1 n1 m1) ((f i).bs ++ s.data.toList).length (bcells ((f i).bs ++ s.data.toList))
      rw [List.length_append, bcells_append, ← strCells_eq, hz, ← HL.out]
      exact hown1
    have R := H.out.drew.setV (s := s.data.toList) i hi (.slice a1 n1 m1) (by rw [hz, ← HL.out]; exact hl) hown' (by rw [HV.out]; exact hgrow) (by rw [HV.out]; exact hat)
    have W0 : Wrote A w A w.drew := (Wrote.refl A w).drewN 1
    rw [← HB.out] at R
    have HR := Hid.mk R
    have HW := Hid.mk W0
    clear R W0 hown' hz hown1 hgrow hat hown c2 f2 cv fv hap hl H
    go_wp2
    go_ret
    exact ⟨rfl, A.turn i (.slice a1 n1 m1), HB.out.symm, HR.out.1, HW.out.trans HR.out.2⟩

set_option maxHeartbeats 400000 in
set_option maxRecDepth 100000 in
theorem arrive_full (i : Nat) (hi : i < 3) (s : ByteArray) (h : FeedAt w A f) (hl : 64 < (f i).bs.length + s.size) (hs : s.size ≤ 4398046511104) :
    Calls Try.prog 8 #[.pointer (some ⟨A.b, 0, none⟩), .int .i64 i, .string s] w fun e w' => e = .returned (.int .i64 6) ∧ w' = w := by
  have cv := h.cv i hi
  have hr := (h.good i hi).room
  obtain ⟨a, cap, hv⟩ := h.sl i hi
  obtain ⟨L, hL⟩ : ∃ L, L = (f i).bs.length := ⟨_, rfl⟩
  obtain ⟨b, hb⟩ : ∃ b, b = A.b := ⟨_, rfl⟩
  rw [← hL] at hv hl hr
  rw [hv, ← hb] at cv
  rw [← hb]
  have q0 : ¬ (i : Int) < 0 := by omega
  have q1 : (i : Int) < 3 := by omega
  have e1 : IntKind.i64.wrap ((L : Int) + (s.size : Int)) = (L : Int) + (s.size : Int) := by rw [IntKind.wrap_i64]; omega
  have q2 : (64 : Int) < (L : Int) + (s.size : Int) := by omega
  have q4 : 64 < L + s.size := hl
  clear hb hv hL h hr hs hl
  go_enter Try.func8, Try.ntmps8
  go_wp2_with fail
  refine (there_yes i hi _).mono ?_
  rintro e w1 ⟨rfl, rfl⟩
  go_wp2
  go_ret
  exact ⟨rfl, rfl⟩

set_option maxHeartbeats 400000 in
set_option maxRecDepth 100000 in
theorem arrive_no (a : Addr) (t : Int) (ht : Not3 t) (s : ByteArray) (w : World) :
    Calls Try.prog 8 #[.pointer (some a), .int .i64 t, .string s] w fun e w' => e = .returned (.int .i64 1) ∧ w' = w := by
  go_enter Try.func8, Try.ntmps8
  go_wp2_with fail
  refine (there_no t ht _).mono ?_
  rintro e w1 ⟨rfl, rfl⟩
  go_wp2
  go_ret
  exact ⟨rfl, rfl⟩

set_option maxHeartbeats 400000 in
set_option maxRecDepth 100000 in
theorem arrive_nil (t : Int) (s : ByteArray) (w : World) :
    Calls Try.prog 8 #[.pointer none, .int .i64 t, .string s] w fun e w' => e = .returned (.int .i64 2) ∧ w' = w := by
  go_enter Try.func8, Try.ntmps8
  go_wp2
  go_ret
  exact ⟨rfl, rfl⟩

end

end Go.Proofs.Ytmgimohnednlgaa.Fee
