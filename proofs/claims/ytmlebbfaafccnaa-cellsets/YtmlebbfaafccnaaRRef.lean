/-
  The document's row in memory: all that was set, the last one first; the walks of its Is and Get.
-/
import Derived.Test.YtmlebbfaafccnaaRRowI
namespace Go.Proofs.Ytmlebbfaafccnaa.Cel
open Go.RowKit

/-- Sets as cells. -/
def stC : List St → List Value
  | [] => []
  | c :: r => .int .i64 c.i :: .int .i64 c.value :: .int .i64 c.version :: stC r

theorem stC_length (l : List St) : (stC l).length = l.length * 3 := by
  induction l with
  | nil => rfl
  | cons c r ih => simp [stC, ih]; omega

theorem stC_append (a b : List St) : stC (a ++ b) = stC a ++ stC b := by
  induction a with
  | nil => rfl
  | cons c r ih => simp [stC, ih]

theorem stC_get (l : List St) : ∀ j, j < l.length → (stC l)[j * 3]? = some (.int .i64 l[j]!.i) ∧ (stC l)[j * 3 + 1]? = some (.int .i64 l[j]!.value) ∧ (stC l)[j * 3 + 2]? = some (.int .i64 l[j]!.version) := by
  induction l with
  | nil => intro j hj; simp at hj
  | cons c r ih =>
    intro j hj
    cases j with
    | zero => exact ⟨rfl, rfl, rfl⟩
    | succ j =>
      have h := ih j (by simpa using hj)
      have e0 : (j + 1) * 3 = j * 3 + 3 := by omega
      rw [e0]
      have g : (c :: r)[j + 1]! = r[j]! := by simp
      rw [g]
      exact h

/-- What a thing is behind sets, one behind the other: the last one of its number, or the first thing. -/
def lookS (first : Int) (l : List St) (i : Int) : Int × Int := l.foldl (fun a s => if s.i = i then (s.value, s.version) else a) (first, 0)

theorem lookS_take (first : Int) (l : List St) (i : Int) (k : Nat) (hk : k < l.length) : lookS first (l.take (k + 1)) i = if l[k]!.i = i then (l[k]!.value, l[k]!.version) else lookS first (l.take k) i := by
  rw [List.take_succ_eq_append_getElem hk, getElem!_pos l k hk]
  unfold lookS
  rw [List.foldl_append]
  rfl

theorem lookS_one (first : Int) (l : List St) (s : St) (i : Int) : lookS first (l ++ [s]) i = if s.i = i then (s.value, s.version) else lookS first l i := by
  unfold lookS
  rw [List.foldl_append]
  rfl

/-- What Get answers. -/
def gv (first : Int) (N : Nat) (l : List St) (i : Int) : Int × Int := if 0 ≤ i ∧ i < (N : Int) then lookS first l i else (0, 0)

/-- The document's row in block m. -/
structure RefAt (w : World) (B m N : Nat) (first : Int) (v : Value) (l : List St) : Prop where
  at_ : w.heap[m]? = some (.cells #[.int .i64 (N : Int), .int .i64 first, v] 28 (0, 0))
  apart : v.ownBlock ≠ some m
  owns : w.ownsRow B 30 3 v l.length (stC l)

theorem ownsRow_carryB {w w' : World} {B e size : Nat} {v : Value} {n : Nat} {xs : List Value} (h : w.ownsRow B e size v n xs) (hv : ∀ k, v.ownBlock = some k → w'.heap[k]? = w.heap[k]?) : w'.ownsRow B e size v n xs := by
  refine ⟨h.1, ?_⟩
  rcases h.2 with e | ⟨g, cap, cur, e, h0, hg, r⟩
  · exact .inl e
  · exact .inr ⟨g, cap, cur, e, h0, by rw [hv g (by rw [e]; rfl)]; exact hg, r⟩

section
variable {w w' : World} {B m N : Nat} {first : Int} {v : Value} {l : List St}

theorem RefAt.lt (h : RefAt w B m N first v l) : m < w.heap.size := (Array.getElem?_eq_some_iff.1 h.at_).1
theorem RefAt.own_lt (h : RefAt w B m N first v l) : ∀ k, v.ownBlock = some k → B ≤ k ∧ k < w.heap.size := fun k hk => h.owns.lt k hk
theorem RefAt.c0 (h : RefAt w B m N first v l) : w.cell? ⟨m, 0, none⟩ = some (.int .i64 (N : Int)) := cell_at h.at_ rfl
theorem RefAt.c1 (h : RefAt w B m N first v l) : w.cell? ⟨m, 1, none⟩ = some (.int .i64 first) := cell_at h.at_ rfl
theorem RefAt.c2 (h : RefAt w B m N first v l) : w.cell? ⟨m, 2, none⟩ = some v := cell_at h.at_ rfl
theorem RefAt.fz (h : RefAt w B m N first v l) (i : Nat) : w.frozen? ⟨m, i, none⟩ = false := free_at h.at_
theorem RefAt.carry (h : RefAt w B m N first v l) (hb : w'.heap[m]? = w.heap[m]?) (hv : ∀ k, v.ownBlock = some k → w'.heap[k]? = w.heap[k]?) : RefAt w' B m N first v l :=
  ⟨hb.trans h.at_, h.apart, ownsRow_carryB h.owns hv⟩
theorem RefAt.drewN (h : RefAt w B m N first v l) (n : Nat) : RefAt (w.drewN n) B m N first v l := h.carry (by rw [heap_drewN]) (fun k _ => by rw [heap_drewN])

theorem RefAt.slice (h : RefAt w B m N first v l) : ∃ va cap, v = .slice va l.length cap := by
  rcases h.owns.2 with ⟨rfl, h0⟩ | ⟨g, cap, cur, rfl, _⟩
  · exact ⟨none, 0, by rw [h0]⟩
  · exact ⟨_, _, rfl⟩

theorem RefAt.shape (h : RefAt w B m N first v l) (hp : 0 < l.length) : ∃ g cap, v = .slice (some ⟨g, 0, none⟩) l.length cap := by
  rcases h.owns.2 with ⟨rfl, h0⟩ | ⟨g, cap, cur, rfl, _⟩
  · omega
  · exact ⟨g, cap, rfl⟩

theorem RefAt.st {g cap : Nat} (h : RefAt w B m N first (.slice (some ⟨g, 0, none⟩) l.length cap) l) (j : Nat) (hj : j < l.length) :
    w.cell? ⟨g, j * 3, none⟩ = some (.int .i64 l[j]!.i) ∧ w.cell? ⟨g, j * 3 + 1, none⟩ = some (.int .i64 l[j]!.value) ∧ w.cell? ⟨g, j * 3 + 2, none⟩ = some (.int .i64 l[j]!.version) := by
  obtain ⟨e0, e1, e2⟩ := stC_get l j hj
  have hadd : ∀ i, (⟨g, 0, none⟩ : Addr).add i = ⟨g, i, none⟩ := fun i => by unfold Addr.add; split <;> simp_all
  have k0 := h.owns.cells (g := g) rfl _ _ e0
  have k1 := h.owns.cells (g := g) rfl _ _ e1
  have k2 := h.owns.cells (g := g) rfl _ _ e2
  rw [hadd] at k0 k1 k2
  exact ⟨k0, k1, k2⟩

set_option maxHeartbeats 800000 in
set_option maxRecDepth 100000 in
theorem refIs_yes (h : RefAt w B m N first v l) (j : Nat) (hj : j < N) :
    Calls Try.prog 8 #[.pointer (some ⟨m, 0, none⟩), .int .i64 (j : Int)] w fun e w' => e = .returned (.bool true) ∧ w' = w := by
  have c0 := h.c0
  have hi : (j : Int) < (N : Int) := by omega
  clear h
  go_enter Try.func8, Try.ntmps8
  go_wp2
  go_ret
  exact ⟨rfl, rfl⟩

set_option maxHeartbeats 800000 in
set_option maxRecDepth 100000 in
theorem refIs_no (h : RefAt w B m N first v l) (i : Int) (hi : ¬ (0 ≤ i ∧ i < (N : Int))) :
    Calls Try.prog 8 #[.pointer (some ⟨m, 0, none⟩), .int .i64 i] w fun e w' => e = .returned (.bool false) ∧ w' = w := by
  have c0 := h.c0
  by_cases h0 : 0 ≤ i
  · have h1 : (N : Int) ≤ i := by omega
    clear hi h
    go_enter Try.func8, Try.ntmps8
    go_wp2
    go_ret
    exact ⟨by simp; omega, rfl⟩
  · clear hi h
    go_enter Try.func8, Try.ntmps8
    go_wp2
    go_ret
    exact ⟨rfl, rfl⟩

set_option maxHeartbeats 800000 in
set_option maxRecDepth 100000 in
theorem refGet_no (h : RefAt w B m N first v l) (i : Int) (hi : ¬ (0 ≤ i ∧ i < (N : Int))) :
    Calls Try.prog 11 #[.pointer (some ⟨m, 0, none⟩), .int .i64 i] w fun e w' => e = .returned (.tuple #[.int .i64 0, .int .i64 0]) ∧ w' = w := by
  have HI := Hid.mk hi
  clear hi
  go_enter Try.func11, Try.ntmps11
  go_wp2_with fail
  refine (refIs_no h i HI.out).mono ?_
  rintro e w1 ⟨rfl, rfl⟩
  go_wp2
  go_ret2
  exact ⟨rfl, rfl⟩

set_option maxHeartbeats 1600000 in
set_option maxRecDepth 100000 in
theorem refGet_yes (h : RefAt w B m N first v l) (hl : l.length ≤ 1000000) (j : Nat) (hj : j < N) :
    Calls Try.prog 11 #[.pointer (some ⟨m, 0, none⟩), .int .i64 (j : Int)] w fun e w' => e = .returned (.tuple #[.int .i64 (lookS first l (j : Int)).1, .int .i64 (lookS first l (j : Int)).2]) ∧ ∃ n, w' = w.drewN n := by
  obtain ⟨va, vc, rfl⟩ := h.slice
  have c2 := h.c2
  have H := Hid.mk h
  have HJ := Hid.mk hj
  obtain ⟨A, hA⟩ : ∃ A, A = lookS first l (j : Int) := ⟨_, rfl⟩
  rw [← hA]
  have HA := Hid.mk hA
  clear h hj hA
  go_enter Try.func11, Try.ntmps11
  go_wp2_with fail
  refine (refIs_yes H.out j HJ.out).mono ?_
  rintro e w1 ⟨rfl, hw1⟩
  rw [hw1]
  clear hw1 w1
  go_wp2
  go_loop [6] (fun i => ∃ k : Nat, k ≤ l.length ∧ i = .int .i64 ((k : Int) - 1) ∧ lookS first (l.take k) (j : Int) = A) (fun i => (intOf i + 1).toNat)
  case atStart => exact ⟨l.length, Nat.le_refl _, rfl, by rw [List.take_length, ← HA.out]⟩
  case round =>
    obtain ⟨k, hk, rfl, hlk⟩ := hrel
    cases k with
    | zero =>
      have c1 := H.out.c1
      have E := Hid.mk (show A = (first, 0) from hlk.symm)
      clear hlk HA
      go_wp2
      go_ret2
      exact ⟨by rw [E.out]; rfl, 0, rfl⟩
    | succ q =>
      have hql : q < l.length := by omega
      have eq1 : (((q + 1 : Nat) : Int) - 1) = (q : Int) := by omega
      rw [eq1]
      obtain ⟨g, cap, hsh⟩ := H.out.shape (by omega)
      injection hsh with e1 _ e3
      subst e1 e3
      obtain ⟨x0, x1, x2⟩ := H.out.st q hql
      have i0 : (0 : Int) ≤ (q : Int) := Int.natCast_nonneg _
      have i1 : (q : Int) < (l.length : Int) := by omega
      rw [lookS_take first l (j : Int) q hql] at hlk
      obtain ⟨s, hs⟩ : ∃ s, s = l[q]! := ⟨_, rfl⟩
      rw [← hs] at x0 x1 x2 hlk
      obtain ⟨si, sv, sver⟩ := s
      dsimp only at x0 x1 x2 hlk
      by_cases hij : si = (j : Int)
      · rw [if_pos hij] at hlk
        have eb : (si == (j : Int)) = true := by simpa using hij
        have E := Hid.mk hlk
        clear hlk hs HA eq1 hij
        go_wp2_with fail
        go_quiet (fail)
        go_wp2
        go_ret2
        exact ⟨by rw [← E.out]; rfl, _, rfl⟩
      · rw [if_neg hij] at hlk
        have eb : (si == (j : Int)) = false := by simpa using hij
        have HLK := Hid.mk hlk
        clear hlk hs HA eq1 hij
        go_wp2
        go_round
        case rel => exact ⟨q, by omega, rfl, HLK.out⟩
        case measure => simp [intOf]
set_option maxRecDepth 100000 in
theorem refGet_any (h : RefAt w B m N first v l) (hl : l.length ≤ 1000000) (i : Int) :
    Calls Try.prog 11 #[.pointer (some ⟨m, 0, none⟩), .int .i64 i] w fun e w' => e = .returned (.tuple #[.int .i64 (gv first N l i).1, .int .i64 (gv first N l i).2]) ∧ ∃ n, w' = w.drewN n := by
  by_cases hi : 0 ≤ i ∧ i < (N : Int)
  · obtain ⟨j, rfl⟩ : ∃ j : Nat, i = (j : Int) := ⟨i.toNat, by omega⟩
    unfold gv
    rw [if_pos hi]
    exact refGet_yes h hl j (by omega)
  · unfold gv
    rw [if_neg hi]
    exact (refGet_no h i hi).mono fun e w' k => ⟨k.1, 0, k.2⟩

set_option maxRecDepth 100000 in
theorem refIs_any (h : RefAt w B m N first v l) (i : Int) :
    Calls Try.prog 8 #[.pointer (some ⟨m, 0, none⟩), .int .i64 i] w fun e w' => e = .returned (.bool (decide (0 ≤ i ∧ i < (N : Int)))) ∧ w' = w := by
  by_cases hi : 0 ≤ i ∧ i < (N : Int)
  · obtain ⟨j, rfl⟩ : ∃ j : Nat, i = (j : Int) := ⟨i.toNat, by omega⟩
    rw [decide_eq_true hi]
    exact refIs_yes h j (by omega)
  · rw [decide_eq_false hi]
    exact refIs_no h i hi
end

end Go.Proofs.Ytmlebbfaafccnaa.Cel
