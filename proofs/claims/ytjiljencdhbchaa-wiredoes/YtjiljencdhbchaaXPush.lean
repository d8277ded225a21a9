/-
  The walk of Push: bytes behind all others.
-/
import Derived.Lib.AppendStr
import Derived.Test.YtjiljencdhbchaaXPump
namespace Go.Proofs.Ytjiljencdhbchaa
open Go.RowKit

set_option maxRecDepth 100000 in
theorem Try.info5 : (Try.prog.info? 5).map (fun i => (i.zero, i.size, i.bytes)) = some (some (.int .u8 0), 1, 1) := by kernel_rfl

/-- 'append(b, s...)', b owned: and where what comes of it lies. -/
theorem append_string_at {P : Program} (w : World) (t u ty e : TypeId) (i : TypeInfo) (ht : P.underlying t = some (.slice e)) (hu : P.underlying u = some .string) (hi : P.info? e = some i) (hz : i.zero = some (.int .u8 0))
    (hsize : i.size = 1) (hby : i.bytes = 1) (v : Value) (n : Nat) (xs : List Value) (hown : w.ownsRow 0 e 1 v n xs) (s : ByteArray) (hb : n + s.size ≤ 140737488355328) :
    ∃ v' w', (Builtin.append_ #[t, u] ty #[v, .string s]).run P w = .ok v' w' ∧ w'.ownsRow 0 e 1 v' (n + s.size) (xs ++ Lib.strCells s) ∧ w.grownBy w' v.ownBlock ∧
      (∀ k, v'.ownBlock = some k → v.ownBlock = some k ∨ w.heap.size ≤ k) := by
  obtain ⟨v', w', hr, h2, h3, h4⟩ := Lib.run_append_own_string (P := P) w 0 t u ty e i ht hu hi hz hsize hby v n xs hown s (by unfold maxLen; omega) hb (Nat.zero_le _)
  refine ⟨v', w', hr, h2, h3, fun k hk => ?_⟩
  rcases hown.2 with ⟨rfl, rfl⟩ | ⟨g, cap, cur, rfl, _, hg, hnc, hcm, hcs, htake⟩
  · by_cases hm : s.size = 0
    · rw [h4.2 ⟨rfl, hm⟩] at hk
      exact .inl hk
    · have hr' := run_append_nil_string (P := P) w t u ty e i (.int .u8 0) ht hu hi hz s (by omega) (by omega) (by rw [hby]; omega)
      rw [hr] at hr'
      cases hr'
      simp [Value.ownBlock] at hk
      right; omega
  · by_cases hroom : n + s.size ≤ cap
    · have hr' := Lib.run_append_room_string (P := P) w t u ty e i ht hu hi hsize g n cap cur hg s hroom (by omega)
      rw [hr] at hr'
      cases hr'
      exact .inl hk
    · have hxl : xs.length = n := by simpa using hown.1
      have hr' := Lib.run_append_grow_string (P := P) w t u ty e i (.int .u8 0) ht hu hi hz ⟨g, 0, none⟩ n cap xs (by rw [hsize]; simpa using hxl) (hown.cells (g := g) rfl) s (by omega) (by omega) (by rw [hby]; exact growslice_fits (by omega) (by omega))
      rw [hr] at hr'
      cases hr'
      simp [Value.ownBlock] at hk
      right; omega

/-- The same at the operation. -/
theorem wpList_append_string_at {P : Program} {ops : Array Oper} {rest : List Oper} {o : Oper} {a : Act} {Q : Exit → Act → World → Prop} (w : World) (hgd : o.guard = none) (sl x : Operand) (t u : TypeId)
    (ho : o.op = .call { callee := .builtin .append, args := #[sl, x], argTypes := #[t, u] }) (e : TypeId) (i : TypeInfo)
    (ht : P.underlying t = some (.slice e)) (hu : P.underlying u = some .string) (hi : P.info? e = some i) (hz : i.zero = some (.int .u8 0)) (hsize : i.size = 1) (hby : i.bytes = 1)
    (v : Value) (n : Nat) (xs : List Value) (hs : a.eval sl = v) (hown : w.ownsRow 0 e 1 v n xs) (s : ByteArray) (hx : a.eval x = .string s) (hb : n + s.size ≤ 140737488355328)
    (h : ∀ v' w', w'.ownsRow 0 e 1 v' (n + s.size) (xs ++ Lib.strCells s) → w.grownBy w' v.ownBlock → (∀ k, v'.ownBlock = some k → v.ownBlock = some k ∨ w.heap.size ≤ k) → wpList P ops Q rest (a.put o.dst v') w') :
    wpList P ops Q (o :: rest) a w := by
  obtain ⟨v', w', hr, h2, h3, h4⟩ := append_string_at (P := P) w t u o.type e i ht hu hi hz hsize hby v n xs hown s hb
  refine wpList_plain hgd fun K hK => ?_
  unfold Oper.wp execOp
  simp only [ho, resolve, invoke, builtin, Sem.run_bind, Sem.run_pure, Result.andThen_ok, List.map_toArray, List.map_cons, List.map_nil, hs, hx, hr]
  exact hK _ _ (h v' w' h2 h3 h4)

theorem strCells_eq (s : ByteArray) : Lib.strCells s = bcells s.data.toList := rfl

section
variable {w : World} {b : Nat} {vs : Nat → Value} {f : Nat → Wy}

set_option maxHeartbeats 800000 in
set_option maxRecDepth 100000 in
theorem push_yes (i : Nat) (hi : i < 3) (s : ByteArray) (h : Wir w b vs f) (hl : (f i).bs.length + s.size ≤ 4398046511104) :
    Calls Try.prog 12 #[.pointer (some ⟨b, 0, none⟩), .int .i64 i, .string s] w fun e w' => e = .returned (.bool true) ∧
      ∃ vs', Wir w' b vs' (upd f i ((f i).push s.data.toList)) ∧ Wrote b vs w vs' w' := by
  obtain ⟨i0, hi0, hz0, hz1, hz2⟩ := info_parts Try.info5
  have cv := h.cv i hi
  have fv := h.fz (i * 3)
  have hlt := h.lt
  have hap := h.apart i hi
  obtain ⟨v, hv⟩ : ∃ v, v = vs i := ⟨_, rfl⟩
  have hown := h.owns i hi
  rw [← hv] at cv hap hown
  have HV := Hid.mk hv
  have H := Hid.mk h
  clear hv h
  go_enter Try.func12, Try.ntmps12
  go_wp2_with fail
  refine (way_yes b i hi _).mono ?_
  rintro e w1 ⟨rfl, rfl⟩
  go_wp2_with (at_builtin; refine wpList_append_string_at _ rfl (.tmp 17) (.tmp 18) 43 9 rfl 5 i0 Try.underlying43 Try.underlying9 hi0 hz0 hz1 hz2 v (f i).bs.length (bcells (f i).bs) rfl hown s rfl (by omega) ?_)
  intro v1 w2 hown1 hgrow hat
  have c2 : w2.cell? ⟨b, i * 3, none⟩ = some v := (hgrow.cell_far ⟨b, i * 3, none⟩ hlt (Ne.symm hap)).trans cv
  have f2 : w2.frozen? ⟨b, i * 3, none⟩ = false := (hgrow.frozen_far ⟨b, i * 3, none⟩ hlt (Ne.symm hap)).trans fv
  have hown' : w2.ownsRow 0 5 1 v1 ((f i).push s.data.toList).bs.length (bcells ((f i).push s.data.toList).bs) := by
    show w2.ownsRow 0 5 1 v1 ((f i).bs ++ s.data.toList).length (bcells ((f i).bs ++ s.data.toList))
    rw [List.length_append, bcells_append, ← strCells_eq]
    have hz : s.data.toList.length = s.size := by simp
    rw [hz]
    exact hown1
  have R := H.out.toRaw.setV i hi v1 ((f i).push s.data.toList) rfl rfl hown' (by rw [← HV.out]; exact hgrow) (by rw [← HV.out]; exact hat)
  have HR := Hid.mk R
  clear R hown' hgrow hat hown cv fv hap hl
  rcases hown1.2 with ⟨rfl, _⟩ | ⟨g, cap, cur, rfl, _⟩
  · clear hown1
    go_wp2
    go_ret
    exact ⟨rfl, _, ⟨HR.out.1, good_upd H.out.good i ((H.out.good i hi).push _)⟩, HR.out.2⟩
  · clear hown1
    go_wp2
    go_ret
    exact ⟨rfl, _, ⟨HR.out.1, good_upd H.out.good i ((H.out.good i hi).push _)⟩, HR.out.2⟩

end

end Go.Proofs.Ytjiljencdhbchaa
