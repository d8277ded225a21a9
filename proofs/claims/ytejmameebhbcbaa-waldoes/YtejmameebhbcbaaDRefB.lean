/-
  The walks of the document's Append and Reset.
-/
import Derived.Test.YtejmameebhbcbaaDRefA
namespace Go.Proofs.Ytejmameebhbcbaa
open Go.RowKit

/-- 'append(own, changes...)'. -/
theorem wpList_append_chs {ops : Array Oper} {rest : List Oper} {o : Oper} {act : Act} {Q : Exit → Act → World → Prop} (w : World) (hgd : o.guard = none) (s x : Operand)
    (ho : o.op = .call { callee := .builtin .append, args := #[s, x], argTypes := #[49, 49] }) (base : Nat)
    (v : Value) (n : Nat) (xs : List Value) (hs : act.eval s = v) (hown : w.ownsRow base 80 3 v n xs) (vx : Value) (l : List Ch) (hx : act.eval x = vx) (hit : w.ownsRow 0 80 3 vx l.length (chC l))
    (hn : n + l.length ≤ 10000000) (hbase : base ≤ w.heap.size)
    (h : ∀ v' w', w'.ownsRow base 80 3 v' (n + l.length) (xs ++ chC l) → w.grownBy w' v.ownBlock → (v' = .slice none 0 0 → v = .slice none 0 0) → wpList Try.prog ops Q rest (act.put o.dst v') w') : wpList Try.prog ops Q (o :: rest) act w := by
  obtain ⟨i0, hi, hz0, hz1, hz2⟩ := info_parts Try.info80
  rcases hit.2 with ⟨rfl, h0⟩ | ⟨g, cap, cur, rfl, _⟩
  · have e : l = [] := List.length_eq_zero_iff.1 h0
    subst e
    refine wpList_append_own_none hgd s x 49 ho base 80 i0 3 Try.underlying49 hi v n xs hs hown hx ?_
    exact h v w (by simpa [chC] using hown) ⟨rfl, rfl, rfl, Nat.le_refl _, fun _ _ _ => rfl⟩ id
  · exact wpList_append_own w hgd s x 49 ho base 80 i0 _ 3 32 Try.underlying49 hi hz0 hz1 hz2 rfl (by decide) v n xs hs hown ⟨g, 0, none⟩ l.length cap (chC l) hx (chC_length l) (ownsRow_cells hit) (chC_one l) (by unfold maxLen; omega) (by omega) hbase
      (fun v' w' h1 h2 h3 => h v' w' h1 h2 fun e => (h3.1 e).1)

section
variable {w : World} {m : Nat} {v : Value} {all : List Ch} {sf : Nat}

theorem Ref.slice (h : Ref w m v all sf) : ∃ va cap, v = .slice va all.length cap := by
  rcases h.owns.2 with ⟨rfl, h0⟩ | ⟨g, cap, cur, rfl, _⟩
  · exact ⟨none, 0, by rw [h0]⟩
  · exact ⟨_, _, rfl⟩

/-- A slice of one change, just made. -/
theorem made_one (w : World) (o r : Bool) (bs : ByteArray) : (w.alloc (.cells #[.int .i64 (ar o), .bool r, .string bs] 80)).ownsRow 0 80 3 (.slice (some ⟨w.heap.size, 0, none⟩) 1 1) [(⟨o, r, bs⟩ : Ch)].length (chC [⟨o, r, bs⟩]) :=
  ⟨rfl, .inr ⟨w.heap.size, 1, _, rfl, Nat.zero_le _, heap_alloc_new w _, Nat.le_refl _, by unfold maxLen; omega, rfl, rfl⟩⟩

/-- What the two appends, and the store, leave. -/
theorem Ref.added {w1 w2 : World} {v1 v2 : Value} {c : Ch} {ob : Obj} (h : Ref w m v all sf) (hb1 : Below w.heap.size w w1) (hown1 : w1.ownsRow w.heap.size 80 3 v1 all.length (chC all)) (hnn1 : v1 = .slice none 0 0 → False)
    (hown2 : w2.ownsRow w.heap.size 80 3 v2 (all.length + [c].length) (chC all ++ chC [c])) (hg2 : (w1.alloc ob).grownBy w2 v1.ownBlock) (hnn2 : v2 = .slice none 0 0 → v1 = .slice none 0 0) :
    ∃ g cap, v2 = .slice (some ⟨g, 0, none⟩) (all.length + 1) cap ∧ w2.cell? ⟨m, 0, none⟩ = some v ∧ w2.frozen? ⟨m, 0, none⟩ = false ∧ Ref (w2.setCell ⟨m, 0, none⟩ v2) m v2 (all ++ [c]) sf ∧ Wrote m v w v2 (w2.setCell ⟨m, 0, none⟩ v2) := by
  have hb2 : Below w.heap.size w w2 := (hb1.alloc hb1.size ob).grown hg2 (by have := hb1.size; simp; omega) (fun k hk => (hown1.lt k hk).1)
  rcases hown2.2 with ⟨e, _⟩ | ⟨g, cap, cur, rfl, _⟩
  · exact (hnn1 (hnn2 e)).elim
  have hl := h.le
  refine ⟨g, cap, rfl, (hb2.cell (p := ⟨m, 0, none⟩) h.lt).trans h.c0, (hb2.frozen (p := ⟨m, 0, none⟩) h.lt).trans (h.fz 0), h.laid (by rw [chC_append]; exact hown2) (by simp) (by simp; omega) hb2⟩

set_option maxHeartbeats 1600000 in
theorem refReset_raw (o : Bool) (z : Int) (zs : (z = 0 ∧ o = false) ∨ (z = 1 ∧ o = true)) (h : Ref w m v all sf) (hl : all.length ≤ 1000000) :
    Calls Try.prog 54 #[.pointer (some ⟨m, 0, none⟩), .int .i64 z] w fun e w' => e = .returned (.int .i64 0) ∧
      ∃ v', Ref w' m v' (all ++ [⟨o, true, ⟨#[]⟩⟩]) sf ∧ Wrote m v w v' w' := by
  have c0 := h.c0
  have f0 := h.fz 0
  have hlt := h.lt
  have H := Hid.mk h
  obtain ⟨c, hc⟩ : ∃ c : Ch, c = ⟨o, true, ⟨#[]⟩⟩ := ⟨_, rfl⟩
  rw [← hc]
  have HC := Hid.mk hc
  clear h hc
  rcases zs with ⟨rfl, rfl⟩ | ⟨rfl, rfl⟩ <;>
  · go_enter Try.func54, Try.ntmps54
    go_wp2_with (at_builtin; refine wpList_append_chs _ rfl (.tmp 12) (.tmp 16) rfl w.heap.size (.slice (some ⟨w.heap.size, 0, none⟩) 0 0) 0 [] rfl ?o1 v all rfl ?i1 (by omega) (by simp) ?_)
    case o1 => exact World.ownsRow_made w #[] 0 (Nat.le_refl _) (Nat.zero_le _) rfl
    case i1 => exact H.out.owns.alloc _
    intro v1 w1 hown1 hg1 hnn1
    have hb1 : Below w.heap.size w w1 := ((Below.refl _ _).alloc (Nat.le_refl _) _).grown hg1 (by simp) (fun k hk => by simp [Value.ownBlock] at hk; omega)
    have hsz := hb1.size
    have hown1' : w1.ownsRow w.heap.size 80 3 v1 all.length (chC all) := by simpa using hown1
    have hnn1' : v1 = .slice none 0 0 → False := fun e => by have := hnn1 e; simp at this
    clear hg1 hown1 hnn1 c0 f0
    go_wp2_with (at_builtin; refine wpList_append_chs _ rfl (.tmp 17) (.tmp 20) rfl w.heap.size v1 all.length (chC all) rfl (hown1'.alloc _) (.slice (some ⟨w1.heap.size, 0, none⟩) 1 1) [c] rfl ?i2 (by simp; omega) (by simp; omega) ?_)
    case i2 =>
      rw [HC.out]
      exact made_one w1 _ true ⟨#[]⟩
    intro v2 w2 hown2 hg2 hnn2
    obtain ⟨g, cap, rfl, d0, f0, R⟩ := H.out.added hb1 hown1' hnn1' hown2 hg2 hnn2
    have HR := Hid.mk R
    clear R hown2 hg2 hnn2 hown1' hnn1' hb1
    go_wp2
    go_ret
    exact ⟨rfl, _, HR.out⟩

set_option maxHeartbeats 1600000 in
theorem refAppend_raw (o : Bool) (z : Int) (zs : (z = 0 ∧ o = false) ∨ (z = 1 ∧ o = true)) (s : ByteArray) (h : Ref w m v all sf) (hf : Fits all) (hfit : (txt o all).size + s.size ≤ 16384) (hl : all.length ≤ 1000000) :
    Calls Try.prog 43 #[.pointer (some ⟨m, 0, none⟩), .int .i64 z, .string s] w fun e w' => e = .returned (.int .i64 0) ∧
      ∃ v', Ref w' m v' (all ++ [⟨o, false, s⟩]) sf ∧ Wrote m v w v' w' := by
  obtain ⟨va, vcap, rfl⟩ := h.slice
  have c0 := h.c0
  have f0 := h.fz 0
  have hlt := h.lt
  have H := Hid.mk h
  obtain ⟨c, hc⟩ : ∃ c : Ch, c = ⟨o, false, s⟩ := ⟨_, rfl⟩
  rw [← hc]
  have HC := Hid.mk hc
  have hzo : ar o = z := by rcases zs with ⟨rfl, rfl⟩ | ⟨rfl, rfl⟩ <;> rfl
  have ht := text_any (sf := sf) o all.length h hf (Nat.le_refl _) hl
  rw [hzo, List.take_length] at ht
  obtain ⟨tx, htx⟩ : ∃ tx, tx = txt o all := ⟨_, rfl⟩
  rw [← htx] at ht hfit
  have HT := Hid.mk ht
  clear hzo ht htx
  clear h hc
  rcases zs with ⟨rfl, rfl⟩ | ⟨rfl, rfl⟩ <;>
  · go_enter Try.func43, Try.ntmps43
    go_wp2_with fail
    refine HT.out.mono ?_
    rintro e wt ⟨rfl, hwt⟩
    rw [hwt]
    clear hwt wt
    go_wp2_with (at_builtin; refine wpList_append_chs _ rfl (.tmp 27) (.tmp 31) rfl w.heap.size (.slice (some ⟨w.heap.size, 0, none⟩) 0 0) 0 [] rfl ?o1 (.slice va all.length vcap) all rfl ?i1 (by omega) (by simp) ?_)
    case o1 => exact World.ownsRow_made w #[] 0 (Nat.le_refl _) (Nat.zero_le _) rfl
    case i1 => exact H.out.owns.alloc _
    intro v1 w1 hown1 hg1 hnn1
    have hb1 : Below w.heap.size w w1 := ((Below.refl _ _).alloc (Nat.le_refl _) _).grown hg1 (by simp) (fun k hk => by simp [Value.ownBlock] at hk; omega)
    have hsz := hb1.size
    have hown1' : w1.ownsRow w.heap.size 80 3 v1 all.length (chC all) := by simpa using hown1
    have hnn1' : v1 = .slice none 0 0 → False := fun e => by have := hnn1 e; simp at this
    clear hg1 hown1 hnn1 c0 f0
    go_wp2_with (at_builtin; refine wpList_append_chs _ rfl (.tmp 32) (.tmp 36) rfl w.heap.size v1 all.length (chC all) rfl (hown1'.alloc _) (.slice (some ⟨w1.heap.size, 0, none⟩) 1 1) [c] rfl ?i2 (by simp; omega) (by simp; omega) ?_)
    case i2 =>
      rw [HC.out]
      exact made_one w1 _ false s
    intro v2 w2 hown2 hg2 hnn2
    obtain ⟨g, cap, rfl, d0, f0, R⟩ := H.out.added hb1 hown1' hnn1' hown2 hg2 hnn2
    have HR := Hid.mk R
    clear R hown2 hg2 hnn2 hown1' hnn1' hb1
    go_wp2
    go_ret
    exact ⟨rfl, _, HR.out⟩

set_option maxHeartbeats 400000 in
theorem refAppend_full (o : Bool) (s : ByteArray) (h : Ref w m v all sf) (hf : Fits all) (hs : s.size ≤ 1099511627776) (hfull : 16384 < (txt o all).size + s.size) (hl : all.length ≤ 1000000) :
    Calls Try.prog 43 #[.pointer (some ⟨m, 0, none⟩), .int .i64 (ar o), .string s] w fun e w' => e = .returned (.int .i64 6) ∧ w' = w := by
  obtain ⟨va, vcap, rfl⟩ := h.slice
  have c0 := h.c0
  have ht := text_any (sf := sf) o all.length h hf (Nat.le_refl _) hl
  have z0 := hf.all o
  rw [List.take_length] at ht
  obtain ⟨tx, htx⟩ : ∃ tx, tx = txt o all := ⟨_, rfl⟩
  rw [← htx] at ht hfull z0
  have HT := Hid.mk ht
  clear ht htx
  cases o <;>
  · unfold ar
    simp only [↓reduceIte, Bool.false_eq_true]
    go_enter Try.func43, Try.ntmps43
    go_wp2_with fail
    refine HT.out.mono ?_
    rintro e wt ⟨rfl, rfl⟩
    go_wp2
    go_ret
    exact ⟨rfl, rfl⟩

set_option maxHeartbeats 400000 in
theorem refAppend_no (a : Int) (s : ByteArray) (h0 : a ≠ 0) (h1 : a ≠ 1) (p : Addr) :
    Calls Try.prog 43 #[.pointer (some p), .int .i64 a, .string s] w fun e w' => e = .returned (.int .i64 1) ∧ w' = w := by
  have z0 : (a != 0) = true := by simp [h0]
  have z1 : (a != 1) = true := by simp [h1]
  go_enter Try.func43, Try.ntmps43
  go_wp2
  go_ret
  exact ⟨rfl, rfl⟩

set_option maxHeartbeats 400000 in
theorem refReset_no (a : Int) (h0 : a ≠ 0) (h1 : a ≠ 1) (p : Addr) :
    Calls Try.prog 54 #[.pointer (some p), .int .i64 a] w fun e w' => e = .returned (.int .i64 1) ∧ w' = w := by
  have z0 : (a != 0) = true := by simp [h0]
  have z1 : (a != 1) = true := by simp [h1]
  go_enter Try.func54, Try.ntmps54
  go_wp2
  go_ret
  exact ⟨rfl, rfl⟩

theorem ar_cases (o : Bool) : (ar o = 0 ∧ o = false) ∨ (ar o = 1 ∧ o = true) := by cases o <;> simp [ar]

end

end Go.Proofs.Ytejmameebhbcbaa
