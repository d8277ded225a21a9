/-
  The walks of list, Copy and All of a draft (things: int).
-/
import Derived.Test.YtocdnlnhjfigjaaDfPutI
import Derived.Test.YtocdnlnhjfigjaaDfRange
import Derived.Lib.SliceRun
namespace Go.Proofs.Ytocdnlnhjfigjaa.Dft.I
open Go.RowKit Go.Shelf Go.Proofs.Ytocdnlnhjfigjaa.Cel Go.Proofs.Ytocdnlnhjfigjaa.Rng
attribute [local go_sem] Oper.semAt_some

theorem owns_zero {w : World} {B e size : Nat} {v : Value} {n : Nat} {xs : List Value} (h : w.ownsRow B e size v n xs) : w.ownsRow 0 e size v n xs := by
  refine ⟨h.1, ?_⟩
  rcases h.2 with e | ⟨g, cap, cur, e, _, r⟩
  · exact .inl e
  · exact .inr ⟨g, cap, cur, e, Nat.zero_le _, r⟩

/-- Blocks of entries are as they were. -/
def KT (w w' : World) : Prop := ∀ (k : Nat) (cs : Array Value) (m : Nat × Nat), w.heap[k]? = some (Obj.cells cs 51 m) → w'.heap[k]? = w.heap[k]?

theorem KT.refl (w : World) : KT w w := fun _ _ _ _ => rfl
theorem KT.trans {a b c : World} (h : KT a b) (k : KT b c) : KT a c := fun i cs m hi => (k i cs m ((h i cs m hi).trans hi)).trans (h i cs m hi)
theorem KT.of_below {w w' : World} (h : Below w.heap.size w w') : KT w w' := fun k _ _ hk => h.block k (Array.getElem?_eq_some_iff.1 hk).1
theorem KT.put {w : World} {l : Nat} {r r' : Loop} (hl : w.heap[l]? = some (.loop r)) : KT w (w.putObj l (.loop r')) := fun k cs m hk => by
  have hne : k ≠ l := fun e => by rw [e, hl] at hk; cases hk
  simp only [World.putObj]
  exact Array.getElem?_setIfInBounds_ne (Ne.symm hne)
theorem KT.set {w : World} {b i : Nat} {cs : Array Value} {t : TypeId} {m : Nat × Nat} (x : Value) (hb : w.heap[b]? = some (.cells cs t m)) (ht : t ≠ 51) : KT w (w.setCell ⟨b, i, none⟩ x) := fun k cs' m' hk =>
  Below.heap_setCell _ _ _ _ (fun e => by
    have e' : k = b := e
    rw [e', hb] at hk
    injection hk with hk
    injection hk with _ hk _
    exact ht hk)
theorem KT.owns {w w' : World} (h : KT w w') {B size n : Nat} {v : Value} {xs : List Value} (k : w.ownsRow B 51 size v n xs) : w'.ownsRow B 51 size v n xs :=
  ownsRow_carry k fun j hj => by
    obtain ⟨cs, hc⟩ := own_at k hj
    exact h j cs _ hc

section
variable {w w' : World} {b : Nat} {v : Value} {R : List (Int × Int)}

/-- What list leaves: a row of its own. -/
def Own (R : List (Int × Int)) (w : World) (e : Ending) (w' : World) : Prop :=
  ∃ v', e = .returned v' ∧ w'.ownsRow w.heap.size 51 2 v' R.length (enC R) ∧ Below w.heap.size w w'

set_option maxHeartbeats 2000000 in
set_option maxRecDepth 100000 in
theorem clone_any (h : w.ownsRow 0 51 2 v R.length (enC R)) (hs : R.length ≤ 1000000) :
    Calls Try.prog 27 #[v] w (Own R w) := by
  obtain ⟨i0, hi, hz0, hz1, hz2⟩ := info_parts Try.infoT
  rcases h.2 with ⟨rfl, h0⟩ | ⟨g, cap, cur, rfl, _, hg, hnc, hcm, hcs, htake⟩
  · have hR : R = [] := List.eq_nil_of_length_eq_zero h0
    subst hR
    clear h
    have q : ∀ W : World, (binOp .eql 25 (.slice none 0 0) (.slice none 0 0)).run Try.prog W = .ok (.bool true) W := fun W => Lib.run_eql_slice_nil W _ _ none 0 0 0 0 Try.underlying25
    go_enter Try.func27, Try.ntmps27
    go_wp2
    go_ret
    exact ⟨_, rfl, World.ownsRow_nil _ _ _ _, Below.refl _ _⟩
  · have hcl : ∀ j u, (enC R)[j]? = some u → (w.alloc (.cells #[] 51)).cell? ((⟨g, 0, none⟩ : Addr).add j) = some u := fun j u hu => by
      have e1 := h.cells (g := g) rfl j u hu
      rw [add_plain] at e1 ⊢
      exact (((Below.refl _ w).alloc (Nat.le_refl _) _).cell (p := ⟨g, 0 + j, none⟩) (Array.getElem?_eq_some_iff.1 hg).1).trans e1
    have HCL := Hid.mk hcl
    obtain ⟨N, hN⟩ : ∃ N, N = R.length := ⟨_, rfl⟩
    have hl : (enC R).length = N * 2 := by rw [enC_length, hN]
    have HN := Hid.mk hN
    have HL := Hid.mk hl
    rw [← hN] at hnc hs ⊢
    have hown : (w.alloc (.cells #[] 51)).ownsRow w.heap.size 51 2 (.slice (some ⟨w.heap.size, 0, none⟩) 0 0) 0 [] :=
      ⟨rfl, .inr ⟨w.heap.size, 0, #[], rfl, Nat.le_refl _, heap_alloc_new w _, Nat.le_refl _, Nat.zero_le _, rfl, rfl⟩⟩
    have HO := Hid.mk hown
    have q : ∀ W : World, (binOp .eql 25 (.slice (some ⟨g, 0, none⟩) N cap) (.slice none 0 0)).run Try.prog W = .ok (.bool false) W := fun W => Lib.run_eql_slice_nil W _ _ _ _ _ _ _ Try.underlying25
    clear h hown hcl hg hcs htake hN hl
    go_enter Try.func27, Try.ntmps27
    go_wp2_with (at_builtin; refine wpList_append_own _ rfl _ _ _ rfl w.heap.size 51 i0 _ 2 16 Try.underlying25 hi hz0 hz1 hz2 rfl (by decide) (.slice (some ⟨w.heap.size, 0, none⟩) 0 0) 0 [] rfl HO.out ⟨g, 0, none⟩ N cap (enC R) rfl HL.out HCL.out (enC_one R) (by unfold maxLen; omega) (by omega) (by simp) ?_; intro v' w5 hown1 hgrow _)
    go_ret
    refine ⟨v', rfl, ?_, ?_⟩
    · rw [Nat.zero_add, List.nil_append, HN.out] at hown1
      exact hown1
    · refine ⟨hgrow.os, hgrow.tape, hgrow.output, by have := hgrow.size; simp at this; omega, fun k hk => ?_⟩
      rw [hgrow.block k (by rw [World.size_alloc]; omega) (fun e => by
        have e' : k = w.heap.size := Option.some.inj e
        omega)]
      exact ((Below.refl _ w).alloc (Nat.le_refl _) _).block k hk

set_option maxHeartbeats 400000 in
set_option maxRecDepth 100000 in
theorem list_yes (h : DraftAt w b v R) (hs : R.length ≤ 1000000) : Calls Try.prog 20 #[.pointer (some ⟨b, 0, none⟩)] w (Own R w) := by
  have c0 := h.c0
  have HO := Hid.mk h.owns
  clear h
  go_enter Try.func20, Try.ntmps20
  go_wp2_with fail
  refine (clone_any HO.out hs).mono ?_
  rintro e w1 ⟨v', rfl, h1, h2⟩
  go_wp2
  go_ret
  exact ⟨v', rfl, h1, h2⟩

set_option maxHeartbeats 400000 in
set_option maxRecDepth 100000 in
theorem list_nil (w : World) : Calls Try.prog 20 #[.pointer none] w fun e w' => e = .returned (.slice none 0 0) ∧ w' = w := by
  go_enter Try.func20, Try.ntmps20
  go_wp2
  go_ret
  exact ⟨rfl, rfl⟩

set_option maxHeartbeats 400000 in
set_option maxRecDepth 100000 in
/-- Copy: another draft, in blocks of its own. -/
theorem copy_yes (h : DraftAt w b v R) (hs : R.length ≤ 1000000) : Calls Try.prog 13 #[.pointer (some ⟨b, 0, none⟩)] w fun e w' =>
    ∃ c u, e = .returned (.pointer (some ⟨c, 0, none⟩)) ∧ DraftAt w' c u R ∧ (∀ k, Foot c [u] k → w.heap.size ≤ k) ∧ Below w.heap.size w w' := by
  have HD := Hid.mk h
  clear h
  go_enter Try.func13, Try.ntmps13
  go_wp2_with fail
  refine (list_yes HD.out hs).mono ?_
  rintro e w1 ⟨v', rfl, h1, h2⟩
  obtain ⟨va, vc, rfl⟩ := row_shape h1
  have H1 := Hid.mk h1
  have H2 := Hid.mk h2
  clear h1 h2
  go_wp2
  go_ret
  refine ⟨w1.heap.size, _, rfl, ⟨heap_new _ _, owns_zero (H1.out.alloc _), HD.out.up⟩, fun k hk => ?_, H2.out.alloc (by have := H2.out.size; omega) _⟩
  rcases hk with e | ⟨x, hx, e⟩
  · have := H2.out.size; omega
  · simp at hx; subst hx; exact (H1.out.lt k e).1

set_option maxHeartbeats 400000 in
set_option maxRecDepth 100000 in
theorem copy_nil (w : World) : Calls Try.prog 13 #[.pointer none] w fun e w' => e = .returned (.pointer none) ∧ w' = w := by
  go_enter Try.func13, Try.ntmps13
  go_wp2
  go_ret
  exact ⟨rfl, rfl⟩

/-! ### All -/

/-- The place of an entry that there is. -/
abbrev Ix (N : Nat) := { j : Nat // j < N }

/-- What a round is handed. -/
def encE (R : List (Int × Int)) (j : Nat) : Array Value := #[.int .i64 R[j]!.1, (.int .i64 (R[j]!.2))]

set_option maxHeartbeats 1000000 in
set_option maxRecDepth 100000 in
theorem all_in (n : Nat) (p : Option Addr) (w : World) :
    CallsIn Fence.wide n Try.prog 11 #[.pointer p] w fun e w' => e = .returned (.func (.func 19) #[] #[.pointer (some ⟨w.heap.size, 0, none⟩)]) ∧ w' = w.alloc (.cells #[.pointer p] 24) := by
  refine callsIn_of_wp Try.func11 rfl trivial ?_ rfl
  simp only [Try.ntmps11, List.size_toArray, List.length_cons, List.length_nil, Nat.reduceAdd, Nat.reduceSub, Array.replicate_succ, Array.replicate_zero, List.push_toArray, List.append_toArray, List.nil_append, List.cons_append]
  gi_wp2
  go_ret
  exact ⟨rfl, rfl⟩

set_option maxHeartbeats 4000000 in
set_option maxRecDepth 100000 in
theorem all_gives (n : Nat) (hn : 1 ≤ n) (Bx b : Nat) (v : Value) (R : List (Int × Int)) (w : World) (hc : w.cell? ⟨Bx, 0, none⟩ = some (.pointer (some ⟨b, 0, none⟩))) (hD : DraftAt w b v R) (hs : R.length ≤ 1000000) :
    Gives2 n Try.prog 19 #[.pointer (some ⟨Bx, 0, none⟩)] (fun x : Ix R.length => encE R x.1) KT (fun pre x => x.1 = pre.length) (fun ys => ys.map (·.1) = List.range R.length) (fun pre => ∃ k, k ≤ R.length ∧ pre.map (·.1) = List.range k) w := fun l J Jx W hW hJ hJx hY h0 => by
  have hBx : Bx < w.heap.size := World.block_lt_of_cell? w ⟨Bx, 0, none⟩ hc
  have HD := Hid.mk (hD.grown hW)
  have hc0 := (hW.cell (p := ⟨Bx, 0, none⟩) hBx).trans hc
  clear hc hD
  refine callsIn_of_wp Try.func19 rfl trivial ?_ rfl
  simp only [Try.ntmps19, List.size_toArray, List.length_cons, List.length_nil, Nat.reduceAdd, Nat.reduceSub, Array.replicate_succ, Array.replicate_zero, List.push_toArray, List.append_toArray, List.nil_append, List.cons_append]
  gi_wp2_with fail
  refine ⟨trivial, (callsIn_wide.2 (list_yes HD.out hs)).mono ?_⟩
  rintro e w1 ⟨v', rfl, hown, hbl⟩
  obtain ⟨va, vc, rfl⟩ := row_shape hown
  have hJ1 := hJ _ W w1 none h0 ⟨hbl.os, hbl.tape, hbl.output, hbl.size, fun k hk _ => hbl.block k hk⟩ (fun _ e => by cases e)
  obtain ⟨N, hN⟩ : ∃ N, N = R.length := ⟨_, rfl⟩
  have HO : Hid (w1.ownsRow 0 51 2 (.slice va R.length vc) R.length (enC R)) := owns_zero hown
  have HN := Hid.mk hN
  rw [← hN] at hs ⊢
  have HJ1 := Hid.mk hJ1
  clear hown hbl hJ1 hN hW
  gi_wp2
  gi_loopw [4, 8] (fun _ idx wr => ∃ (k : Nat) (pre : List (Ix R.length)), k ≤ N ∧ idx = .int .i64 k ∧ Hid (wr.ownsRow 0 51 2 (.slice va R.length vc) R.length (enC R)) ∧ Hid (J pre wr) ∧ pre.map (·.1) = List.range k) (fun _ idx _ => N - (intOf idx).toNat)
  case atStart => exact ⟨0, [], Nat.zero_le _, rfl, HO, HJ1, rfl⟩
  case round =>
    obtain ⟨k, pre, hk, rfl, hr2, hJs, hpre⟩ := hrel
    have hpl : pre.length = k := by have := congrArg List.length hpre; simpa using this
    by_cases hlt : k < N
    · have hkE : k < R.length := by have := HN.out; omega
      obtain ⟨g, cap, e⟩ := row_full hr2.out (by omega)
      injection e with e1 _ e3
      subst e1 e3
      obtain ⟨x0, x1⟩ := row_en hr2.out k hkE
      have HP : Hid ((pre ++ [(⟨k, hkE⟩ : Ix R.length)]).map (·.1) = List.range (k + 1)) := Hid.mk (by rw [List.map_append, hpre, List.range_succ]; rfl)
      have hJ2 := hJ.alloc (.cells #[.int .i64 R[k]!.1, (.int .i64 (R[k]!.2))] 51) hJs.out
      have HR2 : Hid ((wr.alloc (.cells #[.int .i64 R[k]!.1, (.int .i64 (R[k]!.2))] 51)).ownsRow 0 51 2 (.slice (some ⟨g, 0, none⟩) R.length vc) R.length (enC R)) := hr2.out.alloc _
      obtain ⟨fn, tmps, assign, body, hy, hRd⟩ := hY pre ⟨k, hkE⟩ _ hJ2 hpl.symm
      unfold encE at hy
      dsimp only at hy
      obtain ⟨y0, hy0⟩ : ∃ y, y = R[k]!.1 := ⟨_, rfl⟩
      obtain ⟨y1, hy1⟩ : ∃ y, y = R[k]!.2 := ⟨_, rfl⟩
      rw [← hy0, ← hy1] at hy HR2 hRd
      rw [← hy0] at x0
      rw [← hy1] at x1
      clear hr2 hpre hpl hJs hJ2 hy0 hy1 HO HJ1
      gi_wp2
      refine hRd.mono ?_
      rintro e W3 (⟨rfl, hJ3, hk3, _⟩ | ⟨rfl, hJx3⟩)
      · have HK3 : Hid (W3.ownsRow 0 51 2 (.slice (some ⟨g, 0, none⟩) R.length vc) R.length (enC R)) := hk3.owns HR2.out
        have HJ3 := Hid.mk hJ3
        clear hk3 hJ3
        gi_wp2
        go_roundw
        case rel => exact ⟨k + 1, _, by omega, by go_num, HK3, HJ3, HP.out⟩
        case measure => simp [intOf]; omega
      · gi_wp2
        refine bodyPost_ret (results_none rfl _ _ _) rfl ?_
        exact ⟨⟨_, rfl⟩, .inr ⟨_, ⟨k + 1, by have := HN.out; omega, HP.out⟩, hJx3⟩⟩
    · have HP : Hid (pre.map (·.1) = List.range R.length) := Hid.mk (by rw [hpre, show k = R.length by have := HN.out; omega])
      have hle : (N : Int) ≤ (k : Int) := by omega
      clear hr2 hpre hpl
      gi_wp2
      refine bodyPost_end (results_none rfl _ _ _) rfl ?_
      exact ⟨⟨_, rfl⟩, .inl ⟨_, HP.out, hJs.out⟩⟩

set_option maxHeartbeats 1000000 in
set_option maxRecDepth 100000 in
/-- Of a nil draft nothing. -/
theorem nil_gives (n : Nat) (Bx : Nat) (w : World) (hc : w.cell? ⟨Bx, 0, none⟩ = some (.pointer none)) :
    Gives2 n Try.prog 19 #[.pointer (some ⟨Bx, 0, none⟩)] (fun _ : Unit => #[.int .i64 0, (.int .i64 0)]) (fun _ _ => True) (fun _ _ => False) (fun ys => ys = []) (fun _ => False) w := fun l J Jx W hW hJ _ hY h0 => by
  have hBx : Bx < w.heap.size := World.block_lt_of_cell? w ⟨Bx, 0, none⟩ hc
  have hc0 := (hW.cell (p := ⟨Bx, 0, none⟩) hBx).trans hc
  clear hc hY
  refine callsIn_of_wp Try.func19 rfl trivial ?_ rfl
  simp only [Try.ntmps19, List.size_toArray, List.length_cons, List.length_nil, Nat.reduceAdd, Nat.reduceSub, Array.replicate_succ, Array.replicate_zero, List.push_toArray, List.append_toArray, List.nil_append, List.cons_append]
  gi_wp2_with fail
  refine ⟨trivial, (fun h => by cases h), (callsIn_wide.2 (list_nil W)).mono ?_⟩
  rintro e w1 ⟨rfl, rfl⟩
  gi_wp2
  gi_loopw [4, 8] (fun _ idx wr => idx = .int .i64 0 ∧ wr = w1) (fun _ _ _ => 0)
  case atStart => exact ⟨rfl, rfl⟩
  case round =>
    obtain ⟨rfl, rfl⟩ := hrel
    gi_wp2
    refine bodyPost_end (results_none rfl _ _ _) rfl ?_
    exact ⟨⟨_, rfl⟩, .inl ⟨[], rfl, h0⟩⟩

end

end Go.Proofs.Ytocdnlnhjfigjaa.Dft.I
