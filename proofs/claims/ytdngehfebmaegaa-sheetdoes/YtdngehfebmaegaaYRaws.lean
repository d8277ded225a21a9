/-
  The walks of (*Stylus).Raw and (*Stylus).Text: bytes alone; texts, one behind the other.
-/
import Derived.Lib.AppendStr
import Derived.Test.YtdngehfebmaegaaYRead
namespace Go.Proofs.Ytdngehfebmaegaa.Sty
open Go.RowKit

/-- 'append(b, s...)', b owned: and where what comes of it lies. -/
theorem append_string_at {P : Program} (w : World) (t u ty e : TypeId) (i : TypeInfo) (ht : P.underlying t = some (.slice e)) (hu : P.underlying u = some .string) (hi : P.info? e = some i) (hz : i.zero = some (.int .u8 0))
    (hsize : i.size = 1) (hby : i.bytes = 1) (v : Value) (n : Nat) (xs : List Value) (hown : w.ownsRow 0 e 1 v n xs) (s : ByteArray) (hb : n + s.size ≤ 140737488355328) :
    ∃ v' w', (Builtin.append_ #[t, u] ty #[v, .string s]).run P w = .ok v' w' ∧ w'.ownsRow 0 e 1 v' (n + s.size) (xs ++ Lib.strCells s) ∧ w.grownBy w' v.ownBlock ∧
      (∀ k, v'.ownBlock = some k → v.ownBlock = some k ∨ w.heap.size ≤ k) := by
  obtain ⟨v', w', hr, h2, h3, h4⟩ := Lib.run_append_own_string (P := P) w 0 t u ty e i ht hu hi hz hsize hby v n xs hown s (by unfold maxLen; omega) hb (Nat.zero_le _)
  refine ⟨v', w', hr, h2, h3, fun k hk => ?_⟩
  rcases hown.2 with ⟨rfl, rfl⟩ | ⟨g, cap, cur, rfl, _, hg, hnc, hcm, hcs, htake⟩
  · by_cases hm : s.size = 0
    · rw [h4.2 ⟨rfl, hm⟩] at hk
      exact .inl hk
    · have hr' := run_append_nil_string (P := P) w t u ty e i (.int .u8 0) ht hu hi hz s (by omega) (by omega) (by rw [hby]; omega)
      rw [hr] at hr'
      cases hr'
      simp [Value.ownBlock] at hk
      right; omega
  · by_cases hroom : n + s.size ≤ cap
    · have hr' := Lib.run_append_room_string (P := P) w t u ty e i ht hu hi hsize g n cap cur hg s hroom (by omega)
      rw [hr] at hr'
      cases hr'
      exact .inl hk
    · have hxl : xs.length = n := by simpa using hown.1
      have hr' := Lib.run_append_grow_string (P := P) w t u ty e i (.int .u8 0) ht hu hi hz ⟨g, 0, none⟩ n cap xs (by rw [hsize]; simpa using hxl) (hown.cells (g := g) rfl) s (by omega) (by omega) (by rw [hby]; exact growslice_fits (by omega) (by omega))
      rw [hr] at hr'
      cases hr'
      simp [Value.ownBlock] at hk
      right; omega

/-- The same at the operation. -/
theorem wpList_append_string_at {P : Program} {ops : Array Oper} {rest : List Oper} {o : Oper} {a : Act} {Q : Exit → Act → World → Prop} (w : World) (hgd : o.guard = none) (sl x : Operand) (t u : TypeId)
    (ho : o.op = .call { callee := .builtin .append, args := #[sl, x], argTypes := #[t, u] }) (e : TypeId) (i : TypeInfo)
    (ht : P.underlying t = some (.slice e)) (hu : P.underlying u = some .string) (hi : P.info? e = some i) (hz : i.zero = some (.int .u8 0)) (hsize : i.size = 1) (hby : i.bytes = 1)
    (v : Value) (n : Nat) (xs : List Value) (hs : a.eval sl = v) (hown : w.ownsRow 0 e 1 v n xs) (s : ByteArray) (hx : a.eval x = .string s) (hb : n + s.size ≤ 140737488355328)
    (h : ∀ v' w', w'.ownsRow 0 e 1 v' (n + s.size) (xs ++ Lib.strCells s) → w.grownBy w' v.ownBlock → (∀ k, v'.ownBlock = some k → v.ownBlock = some k ∨ w.heap.size ≤ k) → wpList P ops Q rest (a.put o.dst v') w') :
    wpList P ops Q (o :: rest) a w := by
  obtain ⟨v', w', hr, h2, h3, h4⟩ := append_string_at (P := P) w t u o.type e i ht hu hi hz hsize hby v n xs hown s hb
  refine wpList_plain hgd fun K hK => ?_
  unfold Oper.wp execOp
  simp only [ho, resolve, invoke, builtin, Sem.run_bind, Sem.run_pure, Result.andThen_ok, List.map_toArray, List.map_cons, List.map_nil, hs, hx, hr]
  exact hK _ _ (h v' w' h2 h3 h4)

theorem strCells_eq (s : ByteArray) : Lib.strCells s = bcells s.data.toList := rfl

/-- What an append of bytes and the store into the field leave. -/
theorem Pen.wroteV {w w1 : World} {b : Nat} {v v1 : Value} {bs add : List UInt8} (h : Pen w b v bs) (hown : w1.ownsRow 0 5 1 v1 (bs ++ add).length (bcells (bs ++ add)))
    (hgrow : w.grownBy w1 v.ownBlock) (hat : ∀ k, v1.ownBlock = some k → v.ownBlock = some k ∨ w.heap.size ≤ k) :
    Pen (w1.setCell ⟨b, 0, none⟩ v1) b v1 (bs ++ add) ∧ Wrote b v w v1 (w1.setCell ⟨b, 0, none⟩ v1) := by
  have hlt := h.lt
  have hne : ∀ k, v1.ownBlock = some k → k ≠ b := fun k hk e => by
    subst e
    rcases hat k hk with e | e
    · exact h.apart e
    · omega
  have hb1 : w1.heap[b]? = some (.cells #[v] 65 (0, 0)) := by
    rw [hgrow.block b hlt (fun e => h.apart e.symm)]
    exact h.at_
  refine ⟨⟨?_, fun e => hne b e rfl, hown.1, ?_⟩, hgrow.os, hgrow.tape, hgrow.output, ?_, fun k hk hkb hkv => ?_, hat⟩
  · simp [World.setCell, Array.getElem?_modify, hb1]
  · rcases hown.2 with e | ⟨g, cap, cur, e, h0, hg, r⟩
    · exact .inl e
    · refine .inr ⟨g, cap, cur, e, h0, ?_, r⟩
      rw [Below.heap_setCell _ _ _ _ (hne g (by rw [e]; rfl))]
      exact hg
  · have := hgrow.size
    simpa [World.setCell] using this
  · rw [Below.heap_setCell _ _ _ _ hkb, hgrow.block k hk (fun e => hkv e.symm)]

theorem Pen.in_grownV {w w1 : World} {b : Nat} {v : Value} {bs : List UInt8} (h : Pen w b v bs) (hgrow : w.grownBy w1 v.ownBlock) : w1.cell? ⟨b, 0, none⟩ = some v ∧ w1.frozen? ⟨b, 0, none⟩ = false := by
  have hb1 : w1.heap[b]? = some (.cells #[v] 65 (0, 0)) := by
    rw [hgrow.block b h.lt (fun e => h.apart e.symm)]
    exact h.at_
  exact ⟨by simp [World.cell?, hb1], by simp [World.frozen?, hb1]⟩

set_option maxHeartbeats 400000 in
set_option maxRecDepth 100000 in
theorem raw_any (w : World) (b : Nat) (v : Value) (bs : List UInt8) (s : ByteArray) (hp : Pen w b v bs) (hl : bs.length + s.size ≤ 4398046511104) :
    Calls Try.prog 53 #[.pointer (some ⟨b, 0, none⟩), .string s] w fun e w' =>
      e = .returned (.tuple #[]) ∧ ∃ v', Pen w' b v' (bs ++ s.data.toList) ∧ Wrote b v w v' w' := by
  obtain ⟨i0, hi, hz0, hz1, hz2⟩ := info_parts Try.info5
  have hc := hp.cell
  have hf := hp.frozen
  go_enter Try.func53, Try.ntmps53
  go_wp2_with (at_builtin; refine wpList_append_string_at _ rfl (.tmp 10) (.tmp 11) 63 9 rfl 5 i0 Try.underlying63 Try.underlying9 hi hz0 hz1 hz2 v bs.length (bcells bs) rfl hp.owns s rfl (by omega) ?_)
  intro v1 w1 hown hgrow hat
  obtain ⟨c1, f1⟩ := hp.in_grownV hgrow
  have hz : s.data.toList.length = s.size := by simp
  have hown' : w1.ownsRow 0 5 1 v1 (bs ++ s.data.toList).length (bcells (bs ++ s.data.toList)) := by
    rw [List.length_append, hz, bcells_append, ← strCells_eq]
    exact hown
  have R := Hid.mk (hp.wroteV hown' hgrow hat)
  clear hown' hgrow hat hz
  rcases hown.2 with ⟨rfl, _⟩ | ⟨g, cap, cur, rfl, _⟩
  · clear hown
    go_wp2
    go_end0
    exact ⟨rfl, _, R.out⟩
  · clear hown
    go_wp2
    go_end0
    exact ⟨rfl, _, R.out⟩

end Go.Proofs.Ytdngehfebmaegaa.Sty
