/-
  Acts in memory: four rows; the walks of the calls that add one, of Flush and of Mark.
-/
import Derived.Test.YtnjmnbclbjebbaaAcLow
namespace Go.Proofs.Ytnjmnbclbjebbaa.Ac
open Go.RowKit Go.Proofs.Ytnjmnbclbjebbaa.Cel Go.Proofs.Ytnjmnbclbjebbaa.Dft

set_option maxRecDepth 100000 in
theorem Try.infoO : (Try.prog.info? 59).map (fun i => (i.zero, i.size, i.bytes)) = some (some (.agg #[.int .i64 0, .int .u8 0]), 2, 16) := by kernel_rfl
set_option maxRecDepth 100000 in
theorem Try.infoP : (Try.prog.info? 56).map (fun i => (i.zero, i.size, i.bytes)) = some (some (.agg #[.int .i64 0, .int .i64 0]), 2, 16) := by kernel_rfl
set_option maxRecDepth 100000 in
theorem Try.infoI : (Try.prog.info? 3).map (fun i => (i.zero, i.size, i.bytes)) = some (some (.int .i64 0), 1, 8) := by kernel_rfl

abbrev Vs := Nat → Value
def ty : Nat → TypeId := fun i => match i with | 0 => 59 | 1 => 59 | 2 => 3 | _ => 56
def sz : Nat → Nat := fun i => match i with | 0 => 2 | 1 => 2 | 2 => 1 | _ => 2
def rowC (T : AS) : Nat → List Value := fun i => match i with | 0 => flat eO T.out | 1 => flat eO T.beh | 2 => flat eI T.notes | _ => flat eP T.ops
def rowN (T : AS) : Nat → Nat := fun i => match i with | 0 => T.out.length | 1 => T.beh.length | 2 => T.notes.length | _ => T.ops.length
def vA (vs : Vs) : Array Value := #[vs 0, vs 1, vs 2, vs 3]
def updV (vs : Vs) (i : Nat) (v : Value) : Vs := fun j => if j = i then v else vs j

theorem below4 {j : Nat} (h : j < 4) : j = 0 ∨ j = 1 ∨ j = 2 ∨ j = 3 := by omega
theorem vA_at (vs : Vs) (j : Nat) (h : j < 4) : (vA vs)[j]? = some (vs j) := by rcases below4 h with rfl | rfl | rfl | rfl <;> rfl
theorem vA_set (vs : Vs) (j : Nat) (v : Value) (h : j < 4) : (vA vs).setIfInBounds j v = vA (updV vs j v) := by rcases below4 h with rfl | rfl | rfl | rfl <;> rfl
theorem ty_ne (i : Nat) (h : i < 4) (t : TypeId) (h0 : t ≠ 59) (h1 : t ≠ 3) (h2 : t ≠ 56) : ty i ≠ t := by
  rcases below4 h with rfl | rfl | rfl | rfl
  · exact fun e => h0 e.symm
  · exact fun e => h0 e.symm
  · exact fun e => h1 e.symm
  · exact fun e => h2 e.symm

/-- Acts in block b. -/
structure AcAt (w : World) (b : Nat) (vs : Vs) (T : AS) : Prop where
  at_ : w.heap[b]? = some (.cells (vA vs) 29 (0, 0))
  row : ∀ i, i < 4 → Held w 0 (ty i) (sz i) (vs i) (rowN T i) (rowC T i)
  apart : ∀ i j, i < 4 → j < 4 → i ≠ j → ∀ k, (vs i).ownBlock = some k → (vs j).ownBlock ≠ some k

/-- Its blocks. -/
def Ft (b : Nat) (vs : Vs) (k : Nat) : Prop := k = b ∨ ∃ i, i < 4 ∧ (vs i).ownBlock = some k

def nilVs : Vs := fun _ => .slice none 0 0

section
variable {w w' : World} {b : Nat} {vs : Vs} {T : AS}

theorem AcAt.lt (h : AcAt w b vs T) : b < w.heap.size := (Array.getElem?_eq_some_iff.1 h.at_).1
theorem AcAt.ft_lt (h : AcAt w b vs T) {k : Nat} (hk : Ft b vs k) : k < w.heap.size := by
  rcases hk with rfl | ⟨i, hi, e⟩
  · exact h.lt
  · exact ((h.row i hi).lt k e).2
theorem AcAt.carry (h : AcAt w b vs T) (hk : ∀ k, Ft b vs k → w'.heap[k]? = w.heap[k]?) : AcAt w' b vs T :=
  ⟨(hk b (.inl rfl)).trans h.at_, fun i hi => (h.row i hi).carry fun k e => hk k (.inr ⟨i, hi, e⟩), h.apart⟩
theorem AcAt.grown (h : AcAt w b vs T) (hb : Below w.heap.size w w') : AcAt w' b vs T := h.carry fun _ hk => hb.block _ (h.ft_lt hk)
theorem AcAt.cell (h : AcAt w b vs T) (j : Nat) (hj : j < 4) : w.cell? ⟨b, j, none⟩ = some (vs j) := cell_at h.at_ (vA_at vs j hj)
theorem AcAt.fz (h : AcAt w b vs T) (j : Nat) : w.frozen? ⟨b, j, none⟩ = false := free_at h.at_
theorem AcAt.drew (h : AcAt w b vs T) : AcAt w.drew b vs T := h.carry fun _ _ => rfl
theorem AcAt.drewN (h : AcAt w b vs T) (n : Nat) : AcAt (w.drewN n) b vs T := h.carry fun _ _ => by rw [heap_drewN]
/-- Its blocks' types. -/
theorem AcAt.types (h : AcAt w b vs T) {k : Nat} (hk : Ft b vs k) : ∃ cs t, w.heap[k]? = some (.cells cs t (0, 0)) ∧ (t = 29 ∨ t = 59 ∨ t = 3 ∨ t = 56) := by
  rcases hk with rfl | ⟨i, hi, e⟩
  · exact ⟨_, _, h.at_, .inl rfl⟩
  · obtain ⟨cs, hc⟩ := (h.row i hi).block e
    refine ⟨cs, _, hc, ?_⟩
    rcases below4 hi with rfl | rfl | rfl | rfl
    · exact .inr (.inl rfl)
    · exact .inr (.inl rfl)
    · exact .inr (.inr (.inl rfl))
    · exact .inr (.inr (.inr rfl))
theorem AcAt.not_ft (h : AcAt w b vs T) {k : Nat} {cs : Array Value} {t : TypeId} {m : Nat × Nat} (hk : w.heap[k]? = some (.cells cs t m)) (h0 : t ≠ 29) (h1 : t ≠ 59) (h2 : t ≠ 3) (h3 : t ≠ 56) : ¬ Ft b vs k := fun hf => by
  obtain ⟨cs', t', hc, ht⟩ := h.types hf
  rw [hk] at hc
  cases hc
  rcases ht with e | e | e | e
  · exact h0 e
  · exact h1 e
  · exact h2 e
  · exact h3 e
theorem AcAt.made (w : World) : AcAt (w.alloc (.cells #[.slice none 0 0, .slice none 0 0, .slice none 0 0, .slice none 0 0] 29)) w.heap.size nilVs AS.zero :=
  ⟨heap_new w _, fun i hi => by
    have : rowN AS.zero i = 0 ∧ rowC AS.zero i = [] := by rcases below4 hi with rfl | rfl | rfl | rfl <;> exact ⟨rfl, rfl⟩
    rw [this.1, this.2]
    exact Held.nil _ _ _ _, fun _ _ _ _ _ k e => by cases e⟩
theorem AcAt.nil_ft (b k : Nat) (h : Ft b nilVs k) : k = b := by
  rcases h with h | ⟨_, _, e⟩
  · exact h
  · cases e

theorem len_le (hT : T.Le 1000000) (i : Nat) (hi : i < 4) : rowN T i ≤ 1000000 := by
  rcases below4 hi with rfl | rfl | rfl | rfl
  · exact hT.out
  · exact hT.beh
  · exact hT.notes
  · exact hT.ops

/-- One row was appended to, and stored. -/
theorem AcAt.added {w2 : World} {v' : Value} {T' : AS} {i : Nat} (hi : i < 4) (h : AcAt w b vs T) (hr : Held w2 0 (ty i) (sz i) v' (rowN T' i) (rowC T' i)) (hg : w.grownBy w2 (vs i).ownBlock)
    (ho : ∀ k, v'.ownBlock = some k → (vs i).ownBlock = some k ∨ w.heap.size ≤ k) (hT : ∀ j, j < 4 → j ≠ i → rowN T' j = rowN T j ∧ rowC T' j = rowC T j) :
    (w2.cell? ⟨b, i, none⟩ = some (vs i) ∧ w2.frozen? ⟨b, i, none⟩ = false) ∧ AcAt (w2.setCell ⟨b, i, none⟩ v') b (updV vs i v') T' ∧ Wrote (Ft b vs) (Ft b (updV vs i v')) w (w2.setCell ⟨b, i, none⟩ v') := by
  have hbi : some b ≠ (vs i).ownBlock := fun e => by
    obtain ⟨cs, hc⟩ := (h.row i hi).block e.symm
    rw [h.at_] at hc
    injection hc with hc
    injection hc with _ hc _
    exact ty_ne i hi 29 (by decide) (by decide) (by decide) hc.symm
  have hb2 : w2.heap[b]? = some (.cells (vA vs) 29 (0, 0)) := (hg.block b h.lt hbi).trans h.at_
  have hbn : ∀ k, v'.ownBlock = some k → k ≠ b := fun k hk e => by
    subst e
    rcases ho k hk with e | e
    · exact hbi e.symm
    · have := h.lt; omega
  have hset : ∀ k, k ≠ b → (w2.setCell ⟨b, i, none⟩ v').heap[k]? = w2.heap[k]? := fun k hk => Below.heap_setCell _ _ _ _ hk
  have hv : ∀ j, updV vs i v' j = if j = i then v' else vs j := fun _ => rfl
  refine ⟨⟨cell_at hb2 (vA_at vs i hi), free_at hb2⟩, ⟨?_, fun j hj => ?_, fun j l hj hl hjl k hk => ?_⟩, ⟨hg.os, hg.tape, hg.output, by simpa [World.setCell] using hg.size, fun k hk hf => ?_, fun k hk => ?_⟩⟩
  · rw [heap_set v' hb2, vA_set vs i v' hi]
  · rw [hv]
    by_cases e : j = i
    · subst e
      rw [if_pos rfl]
      exact hr.carry fun k hk => hset k (hbn k hk)
    · rw [if_neg e, (hT j hj e).1, (hT j hj e).2]
      refine (h.row j hj).carry fun k hk => ?_
      have hkb : k ≠ b := fun e2 => by
        subst e2
        obtain ⟨cs, hc⟩ := (h.row j hj).block hk
        rw [h.at_] at hc
        injection hc with hc
        injection hc with _ hc _
        exact ty_ne j hj 29 (by decide) (by decide) (by decide) hc.symm
      rw [hset k hkb]
      exact hg.block k ((h.row j hj).lt k hk).2 (fun e2 => h.apart j i hj hi e k hk e2.symm)
  · rw [hv] at hk ⊢
    by_cases e1 : j = i
    · subst e1
      rw [if_pos rfl] at hk
      rw [if_neg (fun e => hjl e.symm)]
      rcases ho k hk with e | e
      · exact h.apart j l hj hl hjl k e
      · intro e2
        have := ((h.row l hl).lt k e2).2
        omega
    · rw [if_neg e1] at hk
      by_cases e2 : l = i
      · subst e2
        rw [if_pos rfl]
        intro e3
        rcases ho k e3 with e | e
        · exact h.apart j l hj hl hjl k hk e
        · have := ((h.row j hj).lt k hk).2
          omega
      · rw [if_neg e2]
        exact h.apart j l hj hl hjl k hk
  · have hkb : k ≠ b := fun e => hf (.inl e)
    rw [hset k hkb]
    exact hg.block k hk (fun e => hf (.inr ⟨i, hi, e.symm⟩))
  · rcases hk with rfl | ⟨j, hj, hk⟩
    · exact .inl (.inl rfl)
    · rw [hv] at hk
      by_cases e : j = i
      · rw [if_pos e] at hk
        rcases ho k hk with e2 | e2
        · exact .inl (.inr ⟨i, hi, e2⟩)
        · exact .inr e2
      · rw [if_neg e] at hk
        exact .inl (.inr ⟨j, hj, hk⟩)

theorem wrote_alloc {F F' : Nat → Prop} {o : Obj} (h : Wrote F F' (w.alloc o) w') : Wrote F F' w w' :=
  ⟨h.os, h.tape, h.output, Nat.le_trans (by simp) h.size, fun k hk hf => (h.block k (by simp; omega) hf).trans (Below.heap_alloc _ _ _ hk), fun k hk => by
    rcases h.own k hk with e | e
    · exact .inl e
    · right; simp at e; omega⟩

set_option maxHeartbeats 400000 in
set_option maxRecDepth 100000 in
theorem among_any (n m : Int) (w : World) : Calls Try.prog 31 #[.int .i64 n, .int .i64 m] w fun e w' => e = .returned (.bool (decide (0 ≤ n) && decide (n < m))) ∧ w' = w := by
  by_cases h0 : 0 ≤ n
  · rw [decide_eq_true h0]
    by_cases h1 : n < m
    · rw [decide_eq_true h1]
      go_enter Try.func31, Try.ntmps31
      go_wp2
      go_ret
      exact ⟨rfl, rfl⟩
    · rw [decide_eq_false h1]
      go_enter Try.func31, Try.ntmps31
      go_wp2
      go_ret
      exact ⟨rfl, rfl⟩
  · rw [decide_eq_false h0]
    go_enter Try.func31, Try.ntmps31
    go_wp2
    go_ret
    exact ⟨rfl, rfl⟩

set_option maxRecDepth 100000 in
theorem sock_any (s : Int) (w : World) : Calls Try.prog 31 #[.int .i64 s, .int .i64 3] w fun e w' => e = .returned (.bool (okS s)) ∧ w' = w := by
  have e : okS s = (decide (0 ≤ s) && decide (s < 3)) := by
    unfold okS
    congr 1
    apply decide_eq_decide.2
    omega
  rw [e]
  exact among_any s 3 w
set_option maxRecDepth 100000 in
theorem tally_any (s : Int) (w : World) : Calls Try.prog 31 #[.int .i64 s, .int .i64 4] w fun e w' => e = .returned (.bool (okT s)) ∧ w' = w := by
  have e : okT s = (decide (0 ≤ s) && decide (s < 4)) := by
    unfold okT
    congr 1
    apply decide_eq_decide.2
    omega
  rw [e]
  exact among_any s 4 w

theorem out_news (w : World) (p : Pr) : ∀ j u, (eO p)[j]? = some u → (w.alloc (.cells #[.int .i64 p.1, .int .u8 p.2] 59)).cell? ((⟨w.heap.size, 0, none⟩ : Addr).add j) = some u :=
  World.news_of_block (heap_new w (.cells #[.int .i64 p.1, .int .u8 p.2] 59))
theorem open_news (w : World) (p : Pr) : ∀ j u, (eP p)[j]? = some u → (w.alloc (.cells #[.int .i64 p.1, .int .i64 p.2] 56)).cell? ((⟨w.heap.size, 0, none⟩ : Addr).add j) = some u :=
  World.news_of_block (heap_new w (.cells #[.int .i64 p.1, .int .i64 p.2] 56))
theorem note_news (w : World) (p : Int) : ∀ j u, (eI p)[j]? = some u → (w.alloc (.cells #[.int .i64 p] 3)).cell? ((⟨w.heap.size, 0, none⟩ : Addr).add j) = some u :=
  World.news_of_block (heap_new w (.cells #[.int .i64 p] 3))

set_option maxHeartbeats 2000000 in
set_option maxRecDepth 100000 in
theorem send_yes (h : AcAt w b vs T) (hT : T.Le 1000000) (s y : Int) (hs : okS s = true) :
    Calls Try.prog 21 #[.pointer (some ⟨b, 0, none⟩), .int .i64 s, .int .u8 y] w fun e w' => e = .returned (.bool true) ∧ ∃ vs', AcAt w' b vs' (T.send s y) ∧ Wrote (Ft b vs) (Ft b vs') w w' := by
  obtain ⟨i0, hi, hz0, hz1, hz2⟩ := info_parts Try.infoO
  have HS := Hid.mk (sock_any s w)
  rw [hs] at HS
  have eT : T.send s y = { T with out := T.out ++ [(s, y)] } := by unfold AS.send; rw [if_pos hs]
  rw [eT]
  have h1 := h.grown ((Below.refl w.heap.size w).alloc (Nat.le_refl _) (.cells #[.int .i64 s, .int .u8 y] 59))
  have hlen := hT.out
  have HR := Hid.mk (h1.row 0 (by decide))
  have HA := Hid.mk (fun (v' : Value) (w2 : World) (hr : Held w2 0 59 2 v' (T.out.length + 1) (flat eO T.out ++ eO (s, y))) (hg : (w.alloc (.cells #[.int .i64 s, .int .u8 y] 59)).grownBy w2 (vs 0).ownBlock) (ho : ∀ k, v'.ownBlock = some k → (vs 0).ownBlock = some k ∨ (w.alloc (.cells #[.int .i64 s, .int .u8 y] 59)).heap.size ≤ k) =>
    AcAt.added (i := 0) (by decide) h1 (T' := { T with out := T.out ++ [(s, y)] }) (by
      show Held w2 0 59 2 v' (T.out ++ [(s, y)]).length (flat eO (T.out ++ [(s, y)]))
      rw [flat_append, flat_one, List.length_append]
      exact hr) hg ho (fun j hj hne => by
      rcases below4 hj with rfl | rfl | rfl | rfl
      · exact absurd rfl hne
      · exact ⟨rfl, rfl⟩
      · exact ⟨rfl, rfl⟩
      · exact ⟨rfl, rfl⟩))
  have c0 := h.cell 0 (by decide)
  have hsz := h.lt
  clear h h1 hs eT
  go_enter Try.func21, Try.ntmps21
  go_wp2_with fail
  refine HS.out.mono ?_
  rintro e w1 ⟨rfl, hw1⟩
  rw [hw1]
  clear hw1 w1
  go_wp2_with (at_builtin; refine wpList_append_held _ rfl (.tmp 18) (.tmp 22) 25 rfl 0 59 i0 _ 2 16 Try.underlying25 hi hz0 hz1 hz2 rfl (by decide) (vs 0) T.out.length (flat eO T.out) rfl HR.out ⟨w.heap.size, 0, none⟩ 1 1 (eO (s, y)) rfl rfl (out_news w (s, y)) (by simp [eO, Value.oneCell']) (by unfold maxLen; omega) (by omega) (Nat.zero_le _) ?_; intro v' w2 hh hg ho; obtain ⟨va, vc, rfl, _⟩ := hh.out.shape; obtain ⟨⟨c1, c2⟩, hA, hW⟩ := HA.out _ w2 hh.out hg.out ho.out; have HA2 := Hid.mk hA; have HW2 := Hid.mk hW; clear hA hW hh hg ho)
  go_ret
  exact ⟨rfl, _, HA2.out, wrote_alloc HW2.out⟩

set_option maxHeartbeats 400000 in
set_option maxRecDepth 100000 in
theorem send_no (s y : Int) (hs : okS s = false) (p : Option Addr) (w : World) :
    Calls Try.prog 21 #[.pointer p, .int .i64 s, .int .u8 y] w fun e w' => e = .returned (.bool false) ∧ w' = w := by
  have HS := Hid.mk (sock_any s w)
  rw [hs] at HS
  clear hs
  cases p with
  | none =>
    go_enter Try.func21, Try.ntmps21
    go_wp2
    go_ret
    exact ⟨rfl, rfl⟩
  | some a =>
    go_enter Try.func21, Try.ntmps21
    go_wp2_with fail
    refine HS.out.mono ?_
    rintro e w1 ⟨rfl, hw1⟩
    rw [hw1]
    clear hw1 w1
    go_wp2
    go_ret
    exact ⟨rfl, rfl⟩

set_option maxRecDepth 100000 in
theorem send_any (h : AcAt w b vs T) (hT : T.Le 1000000) (s y : Int) :
    Calls Try.prog 21 #[.pointer (some ⟨b, 0, none⟩), .int .i64 s, .int .u8 y] w fun e w' => e = .returned (.bool (okS s)) ∧ ∃ vs', AcAt w' b vs' (T.send s y) ∧ Wrote (Ft b vs) (Ft b vs') w w' := by
  cases hs : okS s with
  | true => exact send_yes h hT s y hs
  | false =>
    refine (send_no s y hs _ w).mono fun e w' ⟨he, hw⟩ => ⟨he, vs, ?_, ?_⟩
    · rw [hw]
      have e2 : T.send s y = T := by unfold AS.send; rw [hs]; rfl
      rw [e2]
      exact h
    · rw [hw]
      exact Wrote.refl _ _

set_option maxHeartbeats 400000 in
set_option maxRecDepth 100000 in
theorem send_nil (s y : Int) (w : World) :
    Calls Try.prog 21 #[.pointer none, .int .i64 s, .int .u8 y] w fun e w' => e = .returned (.bool false) ∧ w' = w := by
  go_enter Try.func21, Try.ntmps21
  go_wp2
  go_ret
  exact ⟨rfl, rfl⟩

set_option maxHeartbeats 2000000 in
set_option maxRecDepth 100000 in
theorem later_yes (h : AcAt w b vs T) (hT : T.Le 1000000) (s y : Int) (hs : okS s = true) :
    Calls Try.prog 22 #[.pointer (some ⟨b, 0, none⟩), .int .i64 s, .int .u8 y] w fun e w' => e = .returned (.bool true) ∧ ∃ vs', AcAt w' b vs' (T.later s y) ∧ Wrote (Ft b vs) (Ft b vs') w w' := by
  obtain ⟨i0, hi, hz0, hz1, hz2⟩ := info_parts Try.infoO
  have HS := Hid.mk (sock_any s w)
  rw [hs] at HS
  have eT : T.later s y = { T with beh := T.beh ++ [(s, y)] } := by unfold AS.later; rw [if_pos hs]
  rw [eT]
  have h1 := h.grown ((Below.refl w.heap.size w).alloc (Nat.le_refl _) (.cells #[.int .i64 s, .int .u8 y] 59))
  have hlen := hT.beh
  have HR := Hid.mk (h1.row 1 (by decide))
  have HA := Hid.mk (fun (v' : Value) (w2 : World) (hr : Held w2 0 59 2 v' (T.beh.length + 1) (flat eO T.beh ++ eO (s, y))) (hg : (w.alloc (.cells #[.int .i64 s, .int .u8 y] 59)).grownBy w2 (vs 1).ownBlock) (ho : ∀ k, v'.ownBlock = some k → (vs 1).ownBlock = some k ∨ (w.alloc (.cells #[.int .i64 s, .int .u8 y] 59)).heap.size ≤ k) =>
    AcAt.added (i := 1) (by decide) h1 (T' := { T with beh := T.beh ++ [(s, y)] }) (by
      show Held w2 0 59 2 v' (T.beh ++ [(s, y)]).length (flat eO (T.beh ++ [(s, y)]))
      rw [flat_append, flat_one, List.length_append]
      exact hr) hg ho (fun j hj hne => by
      rcases below4 hj with rfl | rfl | rfl | rfl
      · exact ⟨rfl, rfl⟩
      · exact absurd rfl hne
      · exact ⟨rfl, rfl⟩
      · exact ⟨rfl, rfl⟩))
  have c0 := h.cell 1 (by decide)
  have hsz := h.lt
  clear h h1 hs eT
  go_enter Try.func22, Try.ntmps22
  go_wp2_with fail
  refine HS.out.mono ?_
  rintro e w1 ⟨rfl, hw1⟩
  rw [hw1]
  clear hw1 w1
  go_wp2_with (at_builtin; refine wpList_append_held _ rfl (.tmp 18) (.tmp 22) 25 rfl 0 59 i0 _ 2 16 Try.underlying25 hi hz0 hz1 hz2 rfl (by decide) (vs 1) T.beh.length (flat eO T.beh) rfl HR.out ⟨w.heap.size, 0, none⟩ 1 1 (eO (s, y)) rfl rfl (out_news w (s, y)) (by simp [eO, Value.oneCell']) (by unfold maxLen; omega) (by omega) (Nat.zero_le _) ?_; intro v' w2 hh hg ho; obtain ⟨va, vc, rfl, _⟩ := hh.out.shape; obtain ⟨⟨c1, c2⟩, hA, hW⟩ := HA.out _ w2 hh.out hg.out ho.out; have HA2 := Hid.mk hA; have HW2 := Hid.mk hW; clear hA hW hh hg ho)
  go_ret
  exact ⟨rfl, _, HA2.out, wrote_alloc HW2.out⟩

set_option maxHeartbeats 400000 in
set_option maxRecDepth 100000 in
theorem later_no (s y : Int) (hs : okS s = false) (p : Option Addr) (w : World) :
    Calls Try.prog 22 #[.pointer p, .int .i64 s, .int .u8 y] w fun e w' => e = .returned (.bool false) ∧ w' = w := by
  have HS := Hid.mk (sock_any s w)
  rw [hs] at HS
  clear hs
  cases p with
  | none =>
    go_enter Try.func22, Try.ntmps22
    go_wp2
    go_ret
    exact ⟨rfl, rfl⟩
  | some a =>
    go_enter Try.func22, Try.ntmps22
    go_wp2_with fail
    refine HS.out.mono ?_
    rintro e w1 ⟨rfl, hw1⟩
    rw [hw1]
    clear hw1 w1
    go_wp2
    go_ret
    exact ⟨rfl, rfl⟩

set_option maxRecDepth 100000 in
theorem later_any (h : AcAt w b vs T) (hT : T.Le 1000000) (s y : Int) :
    Calls Try.prog 22 #[.pointer (some ⟨b, 0, none⟩), .int .i64 s, .int .u8 y] w fun e w' => e = .returned (.bool (okS s)) ∧ ∃ vs', AcAt w' b vs' (T.later s y) ∧ Wrote (Ft b vs) (Ft b vs') w w' := by
  cases hs : okS s with
  | true => exact later_yes h hT s y hs
  | false =>
    refine (later_no s y hs _ w).mono fun e w' ⟨he, hw⟩ => ⟨he, vs, ?_, ?_⟩
    · rw [hw]
      have e2 : T.later s y = T := by unfold AS.later; rw [hs]; rfl
      rw [e2]
      exact h
    · rw [hw]
      exact Wrote.refl _ _

set_option maxHeartbeats 400000 in
set_option maxRecDepth 100000 in
theorem later_nil (s y : Int) (w : World) :
    Calls Try.prog 22 #[.pointer none, .int .i64 s, .int .u8 y] w fun e w' => e = .returned (.bool false) ∧ w' = w := by
  go_enter Try.func22, Try.ntmps22
  go_wp2
  go_ret
  exact ⟨rfl, rfl⟩

set_option maxHeartbeats 2000000 in
set_option maxRecDepth 100000 in
theorem note_yes (h : AcAt w b vs T) (hT : T.Le 1000000) (n : Int) :
    Calls Try.prog 23 #[.pointer (some ⟨b, 0, none⟩), .int .i64 n] w fun e w' => e = .returned (.bool true) ∧ ∃ vs', AcAt w' b vs' (T.note n) ∧ Wrote (Ft b vs) (Ft b vs') w w' := by
  obtain ⟨i0, hi, hz0, hz1, hz2⟩ := info_parts Try.infoI
  have eT : T.note n = { T with notes := T.notes ++ [n] } := rfl
  rw [eT]
  have h1 := h.grown ((Below.refl w.heap.size w).alloc (Nat.le_refl _) (.cells #[.int .i64 n] 3))
  have hlen := hT.notes
  have HR := Hid.mk (h1.row 2 (by decide))
  have HA := Hid.mk (fun (v' : Value) (w2 : World) (hr : Held w2 0 3 1 v' (T.notes.length + 1) (flat eI T.notes ++ eI n)) (hg : (w.alloc (.cells #[.int .i64 n] 3)).grownBy w2 (vs 2).ownBlock) (ho : ∀ k, v'.ownBlock = some k → (vs 2).ownBlock = some k ∨ (w.alloc (.cells #[.int .i64 n] 3)).heap.size ≤ k) =>
    AcAt.added (i := 2) (by decide) h1 (T' := { T with notes := T.notes ++ [n] }) (by
      show Held w2 0 3 1 v' (T.notes ++ [n]).length (flat eI (T.notes ++ [n]))
      rw [flat_append, flat_one, List.length_append]
      exact hr) hg ho (fun j hj hne => by
      rcases below4 hj with rfl | rfl | rfl | rfl
      · exact ⟨rfl, rfl⟩
      · exact ⟨rfl, rfl⟩
      · exact absurd rfl hne
      · exact ⟨rfl, rfl⟩))
  have c0 := h.cell 2 (by decide)
  have hsz := h.lt
  clear h h1 eT
  go_enter Try.func23, Try.ntmps23
  go_wp2_with (at_builtin; refine wpList_append_held _ rfl (.tmp 11) (.tmp 13) 26 rfl 0 3 i0 _ 1 8 Try.underlying26 hi hz0 hz1 hz2 rfl (by decide) (vs 2) T.notes.length (flat eI T.notes) rfl HR.out ⟨w.heap.size, 0, none⟩ 1 1 (eI n) rfl rfl (note_news w n) (by simp [eI, Value.oneCell']) (by unfold maxLen; omega) (by omega) (Nat.zero_le _) ?_; intro v' w2 hh hg ho; obtain ⟨va, vc, rfl, _⟩ := hh.out.shape; obtain ⟨⟨c1, c2⟩, hA, hW⟩ := HA.out _ w2 hh.out hg.out ho.out; have HA2 := Hid.mk hA; have HW2 := Hid.mk hW; clear hA hW hh hg ho)
  go_ret
  exact ⟨rfl, _, HA2.out, wrote_alloc HW2.out⟩

set_option maxHeartbeats 400000 in
set_option maxRecDepth 100000 in
theorem note_nil (n : Int) (w : World) :
    Calls Try.prog 23 #[.pointer none, .int .i64 n] w fun e w' => e = .returned (.bool false) ∧ w' = w := by
  go_enter Try.func23, Try.ntmps23
  go_wp2
  go_ret
  exact ⟨rfl, rfl⟩

set_option maxHeartbeats 2000000 in
set_option maxRecDepth 100000 in
theorem opened_yes (h : AcAt w b vs T) (hT : T.Le 1000000) (t d : Int) (hs : okT t = true) :
    Calls Try.prog 24 #[.pointer (some ⟨b, 0, none⟩), .int .i64 t, .int .i64 d] w fun e w' => e = .returned (.bool true) ∧ ∃ vs', AcAt w' b vs' (T.opened t d) ∧ Wrote (Ft b vs) (Ft b vs') w w' := by
  obtain ⟨i0, hi, hz0, hz1, hz2⟩ := info_parts Try.infoP
  have HS := Hid.mk (tally_any t w)
  rw [hs] at HS
  have eT : T.opened t d = { T with ops := T.ops ++ [(t, d)] } := by unfold AS.opened; rw [if_pos hs]
  rw [eT]
  have h1 := h.grown ((Below.refl w.heap.size w).alloc (Nat.le_refl _) (.cells #[.int .i64 t, .int .i64 d] 56))
  have hlen := hT.ops
  have HR := Hid.mk (h1.row 3 (by decide))
  have HA := Hid.mk (fun (v' : Value) (w2 : World) (hr : Held w2 0 56 2 v' (T.ops.length + 1) (flat eP T.ops ++ eP (t, d))) (hg : (w.alloc (.cells #[.int .i64 t, .int .i64 d] 56)).grownBy w2 (vs 3).ownBlock) (ho : ∀ k, v'.ownBlock = some k → (vs 3).ownBlock = some k ∨ (w.alloc (.cells #[.int .i64 t, .int .i64 d] 56)).heap.size ≤ k) =>
    AcAt.added (i := 3) (by decide) h1 (T' := { T with ops := T.ops ++ [(t, d)] }) (by
      show Held w2 0 56 2 v' (T.ops ++ [(t, d)]).length (flat eP (T.ops ++ [(t, d)]))
      rw [flat_append, flat_one, List.length_append]
      exact hr) hg ho (fun j hj hne => by
      rcases below4 hj with rfl | rfl | rfl | rfl
      · exact ⟨rfl, rfl⟩
      · exact ⟨rfl, rfl⟩
      · exact ⟨rfl, rfl⟩
      · exact absurd rfl hne))
  have c0 := h.cell 3 (by decide)
  have hsz := h.lt
  clear h h1 hs eT
  go_enter Try.func24, Try.ntmps24
  go_wp2_with fail
  refine HS.out.mono ?_
  rintro e w1 ⟨rfl, hw1⟩
  rw [hw1]
  clear hw1 w1
  go_wp2_with (at_builtin; refine wpList_append_held _ rfl (.tmp 18) (.tmp 22) 27 rfl 0 56 i0 _ 2 16 Try.underlying27 hi hz0 hz1 hz2 rfl (by decide) (vs 3) T.ops.length (flat eP T.ops) rfl HR.out ⟨w.heap.size, 0, none⟩ 1 1 (eP (t, d)) rfl rfl (open_news w (t, d)) (by simp [eP, Value.oneCell']) (by unfold maxLen; omega) (by omega) (Nat.zero_le _) ?_; intro v' w2 hh hg ho; obtain ⟨va, vc, rfl, _⟩ := hh.out.shape; obtain ⟨⟨c1, c2⟩, hA, hW⟩ := HA.out _ w2 hh.out hg.out ho.out; have HA2 := Hid.mk hA; have HW2 := Hid.mk hW; clear hA hW hh hg ho)
  go_ret
  exact ⟨rfl, _, HA2.out, wrote_alloc HW2.out⟩

set_option maxHeartbeats 400000 in
set_option maxRecDepth 100000 in
theorem opened_no (t d : Int) (hs : okT t = false) (p : Option Addr) (w : World) :
    Calls Try.prog 24 #[.pointer p, .int .i64 t, .int .i64 d] w fun e w' => e = .returned (.bool false) ∧ w' = w := by
  have HS := Hid.mk (tally_any t w)
  rw [hs] at HS
  clear hs
  cases p with
  | none =>
    go_enter Try.func24, Try.ntmps24
    go_wp2
    go_ret
    exact ⟨rfl, rfl⟩
  | some a =>
    go_enter Try.func24, Try.ntmps24
    go_wp2_with fail
    refine HS.out.mono ?_
    rintro e w1 ⟨rfl, hw1⟩
    rw [hw1]
    clear hw1 w1
    go_wp2
    go_ret
    exact ⟨rfl, rfl⟩

set_option maxRecDepth 100000 in
theorem opened_any (h : AcAt w b vs T) (hT : T.Le 1000000) (t d : Int) :
    Calls Try.prog 24 #[.pointer (some ⟨b, 0, none⟩), .int .i64 t, .int .i64 d] w fun e w' => e = .returned (.bool (okT t)) ∧ ∃ vs', AcAt w' b vs' (T.opened t d) ∧ Wrote (Ft b vs) (Ft b vs') w w' := by
  cases hs : okT t with
  | true => exact opened_yes h hT t d hs
  | false =>
    refine (opened_no t d hs _ w).mono fun e w' ⟨he, hw⟩ => ⟨he, vs, ?_, ?_⟩
    · rw [hw]
      have e2 : T.opened t d = T := by unfold AS.opened; rw [hs]; rfl
      rw [e2]
      exact h
    · rw [hw]
      exact Wrote.refl _ _

set_option maxHeartbeats 400000 in
set_option maxRecDepth 100000 in
theorem opened_nil (t d : Int) (w : World) :
    Calls Try.prog 24 #[.pointer none, .int .i64 t, .int .i64 d] w fun e w' => e = .returned (.bool false) ∧ w' = w := by
  go_enter Try.func24, Try.ntmps24
  go_wp2
  go_ret
  exact ⟨rfl, rfl⟩

end

end Go.Proofs.Ytnjmnbclbjebbaa.Ac
