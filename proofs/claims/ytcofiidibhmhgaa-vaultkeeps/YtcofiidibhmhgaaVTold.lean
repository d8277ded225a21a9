/-
  The walk of 'told': what an area's log tells.
-/
import Derived.Test.YtcofiidibhmhgaaLLoads
import Derived.Test.YtcofiidibhmhgaaVSmall
namespace Go.Proofs.Ytcofiidibhmhgaa
open Go.RowKit Go.Shelf
attribute [local go_sem] Oper.semAt_some

theorem box2 {W : World} {B : Nat} {x y : Value} {t : TypeId} (h : W.heap[B]? = some (.cells #[x, y] t (0, 0))) : W.cell? ⟨B, 0, none⟩ = some x ∧ W.cell? ⟨B, 1, none⟩ = some y ∧ W.frozen? ⟨B, 0, none⟩ = false ∧ W.frozen? ⟨B, 1, none⟩ = false := by
  refine ⟨?_, ?_, ?_, ?_⟩ <;> simp [World.cell?, World.frozen?, h]

theorem block_kept {A W : World} {row : Option Nat} {B : Nat} {cs : Array Value} {t : TypeId} {m : Nat × Nat} (h : A.heap[B]? = some (.cells cs t m)) (hg : A.grownBy W row) (hr : ∀ r, row = some r → ∃ o : Obj, A.heap[r]? = some o ∧ o.isCells = false) : W.heap[B]? = some (.cells cs t m) := by
  rw [hg.block B (Array.getElem?_eq_some_iff.1 h).1 (fun e => ?_)]
  · exact h
  · obtain ⟨o, ho, hw⟩ := hr B e.symm
    rw [h] at ho; cases ho; cases hw

theorem own_cur {w : World} {base e size n : Nat} {v : Value} {xs : List Value} (h : w.ownsRow base e size v n xs) (k : Nat) (hk : v.ownBlock = some k) : ∃ cur, w.heap[k]? = some (.cells cur e (0, 0)) := by
  rcases h.2 with ⟨rfl, _⟩ | ⟨g, cap, cur, rfl, _, hg, _⟩
  · simp [Value.ownBlock] at hk
  · simp [Value.ownBlock] at hk
    subst hk
    exact ⟨cur, hg⟩

/-- What the function's own cells hold between two rounds. -/
structure TC (W : World) (base B e : Nat) (s : ByteArray) (v : Value) (lds : List ByteArray) : Prop where
  r0 : W.heap[B]? = some (.cells #[.int .i64 0] 3 (0, 0))
  r1 : W.heap[B + 1]? = some (.cells #[.string ⟨#[]⟩, .slice none 0 0] 31 (0, 0))
  c2 : W.heap[B + 1 + 1]? = some (.cells #[.int .i64 e] 3 (0, 0))
  c3 : W.heap[B + 1 + 1 + 1]? = some (.cells #[.string s, v] 31 (0, 0))
  row : W.ownsRow base 9 1 v lds.length (textCells lds)

theorem TC.kept {A W : World} {base B e : Nat} {s : ByteArray} {v : Value} {lds : List ByteArray} {row : Option Nat} (h : TC A base B e s v lds) (hg : A.grownBy W row) (hr : ∀ r, row = some r → ∃ o : Obj, A.heap[r]? = some o ∧ o.isCells = false) : TC W base B e s v lds :=
  ⟨block_kept h.r0 hg hr, block_kept h.r1 hg hr, block_kept h.c2 hg hr, block_kept h.c3 hg hr, row_abides h.row hg hr⟩

theorem TC.first {W : World} {base B n : Nat} {t : ByteArray} {e : Nat} {s : ByteArray} {v : Value} {lds : List ByteArray} (h : TC W base B e s v lds) :
    TC ((W.setCell ⟨B + 1 + 1, 0, none⟩ (.int .i64 n)).setCell ⟨B + 1 + 1 + 1, 0, none⟩ (.string t)) base B n t v lds := by
  have hne : ∀ k, v.ownBlock = some k → k ≠ B + 1 + 1 ∧ k ≠ B + 1 + 1 + 1 := fun k hk => by
    obtain ⟨cur, hc⟩ := own_cur h.row k hk
    exact ⟨ne_block hc h.c2 (by decide), ne_block hc h.c3 (by decide)⟩
  refine ⟨?_, ?_, ?_, ?_, h.row.1, ?_⟩
  · rw [Below.heap_setCell _ _ _ _ (by show B ≠ B + 1 + 1 + 1; omega), Below.heap_setCell _ _ _ _ (by show B ≠ B + 1 + 1; omega)]; exact h.r0
  · rw [Below.heap_setCell _ _ _ _ (by show B + 1 ≠ B + 1 + 1 + 1; omega), Below.heap_setCell _ _ _ _ (by show B + 1 ≠ B + 1 + 1; omega)]; exact h.r1
  · rw [Below.heap_setCell _ _ _ _ (by show B + 1 + 1 ≠ B + 1 + 1 + 1; omega), heap_set _ h.c2]; simp
  · rw [heap_set (cs := #[.string s, v]) (t := 31) (m := (0, 0)) _ (by rw [Below.heap_setCell _ _ _ _ (by show B + 1 + 1 + 1 ≠ B + 1 + 1; omega)]; exact h.c3)]; simp
  · rcases h.row.2 with e | ⟨g, cap, cur, e, h0, hg, r⟩
    · exact .inl e
    · refine .inr ⟨g, cap, cur, e, h0, ?_, r⟩
      have := hne g (by rw [e]; rfl)
      rw [Below.heap_setCell _ _ _ _ this.2, Below.heap_setCell _ _ _ _ this.1]
      exact hg

/-- A round: the row has one more. -/
theorem TC.added {W w3 : World} {base B e : Nat} {s x : ByteArray} {v v' : Value} {lds : List ByteArray} (h : TC W base B e s v lds)
    (hown : w3.ownsRow base 9 1 v' (lds.length + 1) (textCells lds ++ [.string x])) (hg : (W.alloc (.cells #[.string x] 9)).grownBy w3 v.ownBlock) :
    w3.heap[B + 1 + 1 + 1]? = some (.cells #[.string s, v] 31 (0, 0)) ∧ TC (w3.setCell ⟨B + 1 + 1 + 1, 1, none⟩ v') base B e s v' (lds ++ [x]) ∧ KeepsOthers W (w3.setCell ⟨B + 1 + 1 + 1, 1, none⟩ v') := by
  have key : ∀ {k : Nat} {cs : Array Value} {t : TypeId}, W.heap[k]? = some (.cells cs t (0, 0)) → t ≠ 9 → w3.heap[k]? = some (.cells cs t (0, 0)) := fun {k cs t} hk ht => by
    have hlt := (Array.getElem?_eq_some_iff.1 hk).1
    rw [hg.block k (by simp; omega) (fun e => ?_), Below.heap_alloc _ _ _ hlt]
    · exact hk
    · obtain ⟨cur, hc⟩ := own_cur h.row k e.symm
      exact ne_block hk hc ht rfl
  have h0 := key h.r0 (by decide)
  have h1 := key h.r1 (by decide)
  have h2 := key h.c2 (by decide)
  have h3 := key h.c3 (by decide)
  refine ⟨h3, ⟨?_, ?_, ?_, ?_, ?_⟩, ((KeepsOthers.alloc W _).trans (KeepsOthers.of_grownBy hg (row_cells (h.row.alloc _)))).trans (KeepsOthers.setCell _ _ _)⟩
  · rw [Below.heap_setCell _ _ _ _ (by show B ≠ B + 1 + 1 + 1; omega)]; exact h0
  · rw [Below.heap_setCell _ _ _ _ (by show B + 1 ≠ B + 1 + 1 + 1; omega)]; exact h1
  · rw [Below.heap_setCell _ _ _ _ (by show B + 1 + 1 ≠ B + 1 + 1 + 1; omega)]; exact h2
  · rw [heap_set _ h3]; simp
  · have hl : (lds ++ [x]).length = lds.length + 1 := by simp
    rw [hl, textCells_append]
    refine ⟨hown.1, ?_⟩
    rcases hown.2 with e | ⟨g, cap, cur, e, h0, hg', r⟩
    · exact .inl e
    · refine .inr ⟨g, cap, cur, e, h0, ?_, r⟩
      rw [Below.heap_setCell _ _ _ _ (ne_block hg' h3 (by decide))]
      exact hg'

theorem TC.zero {W : World} {base B e : Nat} {s : ByteArray} {v : Value} {lds : List ByteArray} (h : TC W base B e s v lds) :
    TC (((W.setCell ⟨B, 0, none⟩ (.int .i64 0)).setCell ⟨B + 1, 0, none⟩ (.string ⟨#[]⟩)).setCell ⟨B + 1, 1, none⟩ (.slice none 0 0)) base B e s v lds := by
  have hne : ∀ k, v.ownBlock = some k → k ≠ B ∧ k ≠ B + 1 := fun k hk => by
    obtain ⟨cur, hc⟩ := own_cur h.row k hk
    exact ⟨ne_block hc h.r0 (by decide), ne_block hc h.r1 (by decide)⟩
  have k0 : (W.setCell ⟨B, 0, none⟩ (.int .i64 0)).heap[B]? = some (.cells #[.int .i64 0] 3 (0, 0)) := by rw [heap_set _ h.r0]; simp
  have k1 : ((W.setCell ⟨B, 0, none⟩ (.int .i64 0)).setCell ⟨B + 1, 0, none⟩ (.string ⟨#[]⟩)).heap[B + 1]? = some (.cells #[.string ⟨#[]⟩, .slice none 0 0] 31 (0, 0)) := by
    rw [heap_set (cs := #[.string ⟨#[]⟩, .slice none 0 0]) (t := 31) (m := (0, 0)) _ (by rw [Below.heap_setCell _ _ _ _ (by show B + 1 ≠ B; omega)]; exact h.r1)]; simp
  refine ⟨?_, ?_, ?_, ?_, h.row.1, ?_⟩
  · rw [Below.heap_setCell _ _ _ _ (by show B ≠ B + 1; omega), Below.heap_setCell _ _ _ _ (by show B ≠ B + 1; omega)]; exact k0
  · rw [heap_set _ k1]; simp
  · rw [Below.heap_setCell _ _ _ _ (by show B + 1 + 1 ≠ B + 1; omega), Below.heap_setCell _ _ _ _ (by show B + 1 + 1 ≠ B + 1; omega), Below.heap_setCell _ _ _ _ (by show B + 1 + 1 ≠ B; omega)]; exact h.c2
  · rw [Below.heap_setCell _ _ _ _ (by show B + 1 + 1 + 1 ≠ B + 1; omega), Below.heap_setCell _ _ _ _ (by show B + 1 + 1 + 1 ≠ B + 1; omega), Below.heap_setCell _ _ _ _ (by show B + 1 + 1 + 1 ≠ B; omega)]; exact h.c3
  · rcases h.row.2 with e | ⟨g, cap, cur, e, h0, hg, r⟩
    · exact .inl e
    · refine .inr ⟨g, cap, cur, e, h0, ?_, r⟩
      have := hne g (by rw [e]; rfl)
      rw [Below.heap_setCell _ _ _ _ this.2, Below.heap_setCell _ _ _ _ this.2, Below.heap_setCell _ _ _ _ this.1]
      exact hg

/-- What is answered, in the cells of the results. -/
theorem TC.gone {W : World} {base B e D : Nat} {s : ByteArray} {v : Value} {lds : List ByteArray} (h : TC W base B e s v lds) (hK : W.heap[D]? = some (.deferred (some []))) :
    (((W.setCell ⟨B, 0, none⟩ (.int .i64 e)).setCell ⟨B + 1, 0, none⟩ (.string s)).setCell ⟨B + 1, 1, none⟩ v).drew.heap[D]? = some (.deferred (some [])) ∧
    (((W.setCell ⟨B, 0, none⟩ (.int .i64 e)).setCell ⟨B + 1, 0, none⟩ (.string s)).setCell ⟨B + 1, 1, none⟩ v).drew.heap[B]? = some (.cells #[.int .i64 e] 3 (0, 0)) ∧
    (((W.setCell ⟨B, 0, none⟩ (.int .i64 e)).setCell ⟨B + 1, 0, none⟩ (.string s)).setCell ⟨B + 1, 1, none⟩ v).drew.heap[B + 1]? = some (.cells #[.string s, v] 31 (0, 0)) ∧
    (((W.setCell ⟨B, 0, none⟩ (.int .i64 e)).setCell ⟨B + 1, 0, none⟩ (.string s)).setCell ⟨B + 1, 1, none⟩ v).drew.ownsRow base 9 1 v lds.length (textCells lds) := by
  have hne : ∀ k, v.ownBlock = some k → k ≠ B ∧ k ≠ B + 1 := fun k hk => by
    obtain ⟨cur, hc⟩ := own_cur h.row k hk
    exact ⟨ne_block hc h.r0 (by decide), ne_block hc h.r1 (by decide)⟩
  have k0 : (W.setCell ⟨B, 0, none⟩ (.int .i64 e)).heap[B]? = some (.cells #[.int .i64 e] 3 (0, 0)) := by rw [heap_set _ h.r0]; simp
  have k1 : ((W.setCell ⟨B, 0, none⟩ (.int .i64 e)).setCell ⟨B + 1, 0, none⟩ (.string s)).heap[B + 1]? = some (.cells #[.string s, .slice none 0 0] 31 (0, 0)) := by
    rw [heap_set (cs := #[.string ⟨#[]⟩, .slice none 0 0]) (t := 31) (m := (0, 0)) _ (by rw [Below.heap_setCell _ _ _ _ (by show B + 1 ≠ B; omega)]; exact h.r1)]; simp
  have hd0 : D ≠ B := fun e => by subst e; rw [h.r0] at hK; cases hK
  have hd1 : D ≠ B + 1 := fun e => by subst e; rw [h.r1] at hK; cases hK
  refine ⟨?_, ?_, ?_, h.row.1, ?_⟩
  · show (((W.setCell ⟨B, 0, none⟩ (.int .i64 e)).setCell ⟨B + 1, 0, none⟩ (.string s)).setCell ⟨B + 1, 1, none⟩ v).heap[D]? = _
    rw [Below.heap_setCell _ _ _ _ hd1, Below.heap_setCell _ _ _ _ hd1, Below.heap_setCell _ _ _ _ hd0]; exact hK
  · show (((W.setCell ⟨B, 0, none⟩ (.int .i64 e)).setCell ⟨B + 1, 0, none⟩ (.string s)).setCell ⟨B + 1, 1, none⟩ v).heap[B]? = _
    rw [Below.heap_setCell _ _ _ _ (by show B ≠ B + 1; omega), Below.heap_setCell _ _ _ _ (by show B ≠ B + 1; omega)]; exact k0
  · show (((W.setCell ⟨B, 0, none⟩ (.int .i64 e)).setCell ⟨B + 1, 0, none⟩ (.string s)).setCell ⟨B + 1, 1, none⟩ v).heap[B + 1]? = _
    rw [heap_set _ k1]; simp
  · rcases h.row.2 with e | ⟨g, cap, cur, e, h0, hg, r⟩
    · exact .inl e
    · refine .inr ⟨g, cap, cur, e, h0, ?_, r⟩
      have := hne g (by rw [e]; rfl)
      show (((W.setCell ⟨B, 0, none⟩ _).setCell ⟨B + 1, 0, none⟩ (.string s)).setCell ⟨B + 1, 1, none⟩ v).heap[g]? = _
      rw [Below.heap_setCell _ _ _ _ this.2, Below.heap_setCell _ _ _ _ this.2, Below.heap_setCell _ _ _ _ this.1]
      exact hg

/-- What was seen up to now. -/
def Seen (pre : List ByteArray) (e : Nat) (s : ByteArray) (lds : List ByteArray) : Prop :=
  (pre = [] ∧ e = 0 ∧ s = ⟨#[]⟩ ∧ lds = []) ∨ ∃ r, pre = r :: lds.map ldB ∧ IsImg r e s

set_option maxRecDepth 100000 in
set_option maxHeartbeats 4000000 in
theorem told_of (p : Value) (x : ByteArray) (L : List ByteArray) (e : Nat) (s : ByteArray) (lds : List ByteArray) (w : World) (hsz : x.size ≤ 50000) (hL : AllOf x.data.toList L) (hT : Told L e s lds)
    (hall : ∀ w1, Below w.heap.size w w1 → Calls Try.prog 42 #[p] w1 (Iter x w1)) :
    Calls Try.prog 30 #[p] w fun en w' => ∃ vr, en = .returned (.tuple #[.int .i64 e, .agg #[.string s, vr]]) ∧ w'.ownsRow w.heap.size 9 1 vr lds.length (textCells lds) ∧ Below w.heap.size w w' := by
  obtain ⟨i0, hi, hz0, hz1, hz2⟩ := info_parts Try.info9
  have HL := Hid.mk hL
  have HT := Hid.mk hT
  have HA := Hid.mk hall
  clear hL hall hT
  refine (callsIn_wide (n := 5)).1 ?_
  refine callsIn_of_wp_marks Try.func30 rfl trivial ?_ rfl
  simp only [Try.ntmps30, List.size_toArray, List.length_cons, List.length_nil, Nat.reduceAdd, Nat.reduceSub, Array.replicate_succ, Array.replicate_zero, List.push_toArray, List.append_toArray, List.nil_append, List.cons_append]
  gi_wp2_with fail
  have hB1 : Below w.heap.size w ((((w.alloc (.cells #[.int .i64 0] 3)).alloc (.cells #[.string ⟨#[]⟩, .slice none 0 0] 31)).alloc (.cells #[.int .i64 0] 3)).alloc (.cells #[.string ⟨#[]⟩, .slice none 0 0] 31)) :=
    ((((Below.refl _ w).alloc (Nat.le_refl _) _).alloc (by simp) _).alloc (by simp; try omega) _).alloc (by simp; try omega) _
  refine ⟨trivial, (callsIn_wide.2 (HA.out _ hB1)).mono ?_⟩
  rintro en w1 ⟨k, rfl, hk, hk2, hc, hb1⟩
  have hB2 : Below w.heap.size w w1 := hB1.trans (hb1.mono (by simp; try omega))
  have hz : w.heap.size + 1 + 1 + 1 < w1.heap.size := by have := hb1.size; simp at this; omega
  have tc0 : TC w1 w.heap.size w.heap.size 0 ⟨#[]⟩ (.slice none 0 0) [] := by
    refine ⟨?_, ?_, ?_, ?_, ⟨rfl, .inl ⟨rfl, rfl⟩⟩⟩
    · rw [hb1.block _ (by simp; try omega), Below.heap_alloc _ _ _ (by simp; try omega), Below.heap_alloc _ _ _ (by simp; try omega), Below.heap_alloc _ _ _ (by simp)]
      exact heap_alloc_new w _
    · rw [hb1.block _ (by simp; try omega), Below.heap_alloc _ _ _ (by simp; try omega), Below.heap_alloc _ _ _ (by simp)]
      have := heap_alloc_new (w.alloc (.cells #[.int .i64 0] 3)) (.cells #[.string ⟨#[]⟩, .slice none 0 0] 31)
      rw [World.size_alloc] at this
      exact this
    · rw [hb1.block _ (by simp; try omega), Below.heap_alloc _ _ _ (by simp)]
      have := heap_alloc_new ((w.alloc (.cells #[.int .i64 0] 3)).alloc (.cells #[.string ⟨#[]⟩, .slice none 0 0] 31)) (.cells #[.int .i64 0] 3)
      rw [World.size_alloc, World.size_alloc] at this
      exact this
    · rw [hb1.block _ (by simp)]
      have := heap_alloc_new (((w.alloc (.cells #[.int .i64 0] 3)).alloc (.cells #[.string ⟨#[]⟩, .slice none 0 0] 31)).alloc (.cells #[.int .i64 0] 3)) (.cells #[.string ⟨#[]⟩, .slice none 0 0] 31)
      rw [World.size_alloc, World.size_alloc, World.size_alloc] at this
      exact this
  clear hB1 hb1
  gi_wp2
  refine wpIn_rangeFunc_ownF rfl (by omega) (gf := 64) (lb := #[.pointer (some ⟨k, 0, none⟩)]) rfl trivial (enters_of Try.func64 (by kernel_rfl) rfl)
    (all_stops 4 (by omega) k x (by omega) _ hk2 hc) (fun _ _ => trivial) (fun _ _ _ _ _ _ _ _ => trivial) (Below.refl _ _) (fun _ => rfl)
    (fun pre W => (∃ e s v l, Seen pre e s l ∧ TC W w.heap.size w.heap.size e s v l) ∧ Below w.heap.size w W)
    (fun c pre W => ((c = .ret ∧ (∃ r, pre = [r] ∧ NoImg r) ∧ ∃ e s v l, TC W w.heap.size w.heap.size e s v l) ∨ (c = .exit 0 ∧ ∃ e s v l r y, pre = (r :: l.map ldB) ++ [y] ∧ IsImg r e s ∧ NotLd y ∧ TC W w.heap.size w.heap.size e s v l)) ∧ Below w.heap.size w W)
    (OwnFrom.and (Own.from (fun s A B row hs hg hr => by obtain ⟨e, s, v, l, h1, h2⟩ := hs; exact ⟨e, s, v, l, h1, h2.kept hg hr⟩) _) (ownFrom_below (Nat.le_refl _) (by omega)))
    (fun c => OwnFrom.and (Own.from (fun s A B row hs hg hr => by
      rcases hs with ⟨hc, hp, e, s, v, l, h2⟩ | ⟨hc, e, s, v, l, r, y, h1, h2, h3, h4⟩
      · exact .inl ⟨hc, hp, e, s, v, l, h2.kept hg hr⟩
      · exact .inr ⟨hc, e, s, v, l, r, y, h1, h2, h3, h4.kept hg hr⟩) _) (ownFrom_below (Nat.le_refl _) (by omega)))
    ⟨⟨0, ⟨#[]⟩, .slice none 0 0, [], .inl ⟨rfl, rfl, rfl, rfl⟩, tc0⟩, hB2⟩
    ?acts ?assign ?body ?done ?stop
  case assign =>
    intro l x W K hK
    gi_wp2
    exact hK
  case body =>
    rintro l pre y W ⟨⟨e1, s1, v1, l1, hseen, tc⟩, hB⟩ hpl
    obtain ⟨a2, f2⟩ := box_cell tc.c2
    obtain ⟨a30, a31, f30, f31⟩ := box2 tc.c3
    obtain ⟨a0, f0⟩ := box_cell tc.r0
    obtain ⟨a10, a11, f10, f11⟩ := box2 tc.r1
    rcases hseen with ⟨rfl, rfl, rfl, rfl⟩ | ⟨r, hpre, himg⟩
    · gi_wp2_with fail
      refine ⟨trivial, (callsIn_wide.2 (imageOf_any y W)).mono ?_⟩
      rintro en w2 ⟨n, t, rfl, hio, hb2⟩
      have tc2 : TC w2 w.heap.size w.heap.size 0 ⟨#[]⟩ v1 [] := tc.kept (grown_of_below hb2) (fun r e => by cases e)
      obtain ⟨b2, g2⟩ := box_cell tc2.c2
      obtain ⟨b30, b31, g30, g31⟩ := box2 tc2.c3
      obtain ⟨b0, g0⟩ := box_cell tc2.r0
      obtain ⟨b10, b11, g10, g11⟩ := box2 tc2.r1
      have hB3 := hB.trans (hb2.mono hB.size)
      have HB := Hid.mk hB3
      have HTC := Hid.mk tc2
      have hKO : KeepsOthers W w2 := KeepsOthers.of_grownBy (grown_of_below hb2) (fun j o e _ => by cases e)
      have HKO := Hid.mk hKO
      clear hB3 tc2 tc hb2 hB hKO a2 a30 a31 a0 a10 a11 f2 f30 f31 f0 f10 f11
      rcases hio with ⟨rfl, hno⟩ | himg
      · have HN := Hid.mk hno
        clear hno
        gi_wp2
        refine ⟨((((HKO.out.trans (KeepsOthers.setCell _ _ _)).trans (KeepsOthers.setCell _ _ _)).trans (KeepsOthers.setCell _ _ _)).trans (KeepsOthers.setCell _ _ _)).trans (KeepsOthers.setCell _ _ _), .inl ⟨rfl, ⟨y, rfl, HN.out⟩, 0, t, v1, [], ?_⟩, ?_⟩
        · exact (HTC.out.first (n := 0) (t := t)).zero
        · exact ((((HB.out.setCell (p := ⟨w.heap.size + 1 + 1, 0, none⟩) (by show _ ≤ w.heap.size + 1 + 1; omega) _).setCell (p := ⟨w.heap.size + 1 + 1 + 1, 0, none⟩) (by show _ ≤ w.heap.size + 1 + 1 + 1; omega) _).setCell (p := ⟨w.heap.size, 0, none⟩) (Nat.le_refl _) _).setCell (p := ⟨w.heap.size + 1, 0, none⟩) (by show _ ≤ w.heap.size + 1; omega) _).setCell (p := ⟨w.heap.size + 1, 1, none⟩) (by show _ ≤ w.heap.size + 1; omega) _
      · have hn0 : ((n : Int) == 0) = false := by have := himg.1; simp; omega
        have HI := Hid.mk himg
        clear himg
        gi_wp2
        refine ⟨(HKO.out.trans (KeepsOthers.setCell _ _ _)).trans (KeepsOthers.setCell _ _ _), trivial, ⟨n, t, v1, [], .inr ⟨y, rfl, HI.out⟩, HTC.out.first⟩, ?_⟩
        exact (HB.out.setCell (p := ⟨w.heap.size + 1 + 1, 0, none⟩) (by show _ ≤ w.heap.size + 1 + 1; omega) _).setCell (p := ⟨w.heap.size + 1 + 1 + 1, 0, none⟩) (by show _ ≤ w.heap.size + 1 + 1 + 1; omega) _
    · have hn0 : ((e1 : Int) == 0) = false := by have := himg.1; simp; omega
      have hll : l1.length ≤ 50000 := by
        have := congrArg List.length hpre
        simp at this
        omega
      have HI := Hid.mk himg
      have HP := Hid.mk hpre
      clear himg hpre
      by_cases hld : ∃ t, y = ldB t
      · obtain ⟨t, rfl⟩ := hld
        have HCY := cut_yes t
        obtain ⟨yy, hyy⟩ : ∃ yy, yy = ldB t := ⟨_, rfl⟩
        rw [← hyy] at HCY ⊢
        have HY := Hid.mk hyy
        clear hyy
        gi_wp2_with fail
        refine ⟨trivial, (callsIn_wide.2 (HCY _)).mono ?_⟩
        rintro en w2 ⟨rfl, hw2⟩
        rw [hw2]
        clear hw2
        have HTC := Hid.mk tc
        have hrow := tc.row
        clear tc
        gi_wp2_with (gi_at_builtin; refine wpListIn_append_own _ rfl _ _ 24 rfl w.heap.size 9 i0 (.string ⟨#[]⟩) 1 16 Try.underlying24 hi hz0 hz1 hz2 rfl (by decide) _ _ _ rfl (hrow.alloc _) ⟨W.heap.size, 0, none⟩ 1 1 [.string t] rfl rfl (cell_one_new _ _ _) (by simp [Value.oneCell']) (by unfold maxLen; omega) (by omega) (by have := hB.size; simp; omega) ?_; intro v' w3 hown' hg3 hnil3; obtain ⟨g', cap', rfl⟩ := row_shape hown'; obtain ⟨hv3, hO, hKO⟩ := HTC.out.added hown' hg3; obtain ⟨hc30, hc31, hf30, hf31⟩ := box2 hv3)
        have hB3 : Below w.heap.size w w3 := (hB.alloc hB.size _).grown hg3 (by have := hB.size; simp; omega) (fun k e => (hrow.lt k e).1)
        refine ⟨hKO, trivial, ⟨e1, s1, _, l1 ++ [t], .inr ⟨r, ?_, HI.out⟩, hO⟩, hB3.setCell (p := ⟨w.heap.size + 1 + 1 + 1, 1, none⟩) (by show _ ≤ w.heap.size + 1 + 1 + 1; omega) _⟩
        rw [HP.out, HY.out]
        simp
      · have hnl : NotLd y := fun t e => hld ⟨t, e⟩
        have HNL := Hid.mk hnl
        clear hld hnl
        gi_wp2_with fail
        refine ⟨trivial, (callsIn_wide.2 (cut_no y HNL.out _)).mono ?_⟩
        rintro en w2 ⟨rfl, hw2⟩
        rw [hw2]
        clear hw2
        have HTC := Hid.mk tc
        clear tc
        gi_wp2
        exact ⟨KeepsOthers.refl _, .inr ⟨rfl, e1, s1, v1, l1, r, y, by rw [HP.out], HI.out, HNL.out, HTC.out⟩, hB⟩
  case done =>
    rintro D ys W hD hys ⟨⟨e1, s1, v1, l1, hseen, tc⟩, hB⟩ hK
    have he := hys.one HL.out
    subst he
    have htold : Told ys e1 s1 l1 := by
      rcases hseen with ⟨rfl, rfl, rfl, rfl⟩ | ⟨r, rfl, himg⟩
      · exact Told.none
      · exact .inr ⟨r, _, rfl, himg, (loadsOf_map _).symm⟩
    obtain ⟨rfl, rfl, rfl⟩ := htold.one HT.out
    obtain ⟨va, vc, rfl, _⟩ := texts_of_row tc.row
    obtain ⟨a2, f2⟩ := box_cell tc.c2
    obtain ⟨a30, a31, f30, f31⟩ := box2 tc.c3
    obtain ⟨a0, f0⟩ := box_cell tc.r0
    obtain ⟨a10, a11, f10, f11⟩ := box2 tc.r1
    clear htold hseen
    have HTC := Hid.mk tc
    clear tc
    gi_wp2
    refine Code.wpIn_mono NoPanic.imp ?_
    gi_region_with (fail)
    all_goals
      refine NoPanic.normal ?_
      gi_wp2
      obtain ⟨hK', q0, q1, hrw⟩ := HTC.out.gone hK
      have hr : ∀ r, some D = some r → ∃ o : Obj, (((W.setCell ⟨w.heap.size, 0, none⟩ (.int .i64 e1)).setCell ⟨w.heap.size + 1, 0, none⟩ (.string s1)).setCell ⟨w.heap.size + 1, 1, none⟩ (.slice va l1.length vc)).drew.heap[r]? = some o ∧ o.isCells = false := fun r e => by cases e; exact ⟨_, hK', rfl⟩
      have p0 := (box_cell (block_kept q0 (grownBy_putObj' _ D (.deferred none)) hr)).1
      have p1 := box2 (block_kept q1 (grownBy_putObj' _ D (.deferred none)) hr)
      have hB4 := ((((hB.setCell (p := ⟨w.heap.size, 0, none⟩) (Nat.le_refl _) (.int .i64 e1)).setCell (p := ⟨w.heap.size + 1, 0, none⟩) (by show _ ≤ w.heap.size + 1; omega) (.string s1)).setCell (p := ⟨w.heap.size + 1, 1, none⟩) (by show _ ≤ w.heap.size + 1; omega) (.slice va l1.length vc)).drew).trans (belowK_b (w := w) (Nat.le_refl _) _ D (.deferred (some [])) (.deferred none) (by omega) hK' rfl rfl)
      refine ⟨by simp, .inl ⟨_, _, rfl, run_takeDeferred hK', ?_⟩⟩
      refine ⟨.tuple #[.int .i64 e1, .agg #[.string s1, .slice va l1.length vc]], ?_, _, rfl, row_abides hrw (grownBy_putObj' _ D _) hr, hB4⟩
      simp [results, Try.f30, go_sem, p0, p1.1, p1.2.1]
  case stop =>
    rintro D c pre W hD hpre ⟨⟨rfl, ⟨r, rfl, hno⟩, e2, s2, v2, l2, tc⟩ | ⟨rfl, e1, s1, v1, l1, r, y, hpr, himg, hnl, tc⟩, hB⟩ hK
    · obtain ⟨q, hq⟩ := hpre
      have he := hq.one HL.out
      have htold : Told L 0 ⟨#[]⟩ [] := by
        rw [← he]
        exact .inl ⟨rfl, rfl, rfl, fun r' R' h => by injection h with h1 _; subst h1; exact hno⟩
      obtain ⟨rfl, rfl, rfl⟩ := htold.one HT.out
      obtain ⟨a0, f0⟩ := box_cell tc.r0
      obtain ⟨a10, a11, f10, f11⟩ := box2 tc.r1
      clear htold he hq
      gi_wp2
      have hr : ∀ r, some D = some r → ∃ o : Obj, W.heap[r]? = some o ∧ o.isCells = false := fun r e => by cases e; exact ⟨_, hK, rfl⟩
      have p0 := (box_cell (block_kept tc.r0 (grownBy_putObj' _ D (.deferred none)) hr)).1
      have p1 := box2 (block_kept tc.r1 (grownBy_putObj' _ D (.deferred none)) hr)
      have hB4 := hB.trans (belowK_b (w := w) (Nat.le_refl _) _ D (.deferred (some [])) (.deferred none) (by omega) hK rfl rfl)
      refine ⟨by simp, .inl ⟨_, _, rfl, run_takeDeferred hK, ?_⟩⟩
      refine ⟨.tuple #[.int .i64 0, .agg #[.string ⟨#[]⟩, .slice none 0 0]], ?_, _, rfl, ⟨rfl, .inl ⟨rfl, rfl⟩⟩, hB4⟩
      simp [results, Try.f30, go_sem, p0, p1.1, p1.2.1]
    · obtain ⟨q, hq⟩ := hpre
      have he := hq.one HL.out
      have htold : Told L e1 s1 l1 := by
        rw [← he, hpr]
        refine .inr ⟨r, l1.map ldB ++ [y] ++ q, by simp, himg, ?_⟩
        rw [List.append_assoc]
        exact (loadsOf_stop l1 hnl q).symm
      obtain ⟨rfl, rfl, rfl⟩ := htold.one HT.out
      obtain ⟨va, vc, rfl, _⟩ := texts_of_row tc.row
      obtain ⟨a2, f2⟩ := box_cell tc.c2
      obtain ⟨a30, a31, f30, f31⟩ := box2 tc.c3
      obtain ⟨a0, f0⟩ := box_cell tc.r0
      obtain ⟨a10, a11, f10, f11⟩ := box2 tc.r1
      clear htold he hq
      have HTC := Hid.mk tc
      clear tc
      gi_wp2
      refine Code.wpIn_mono NoPanic.imp ?_
      gi_region_with (fail)
      all_goals
        refine NoPanic.normal ?_
        gi_wp2
        obtain ⟨hK', q0, q1, hrw⟩ := HTC.out.gone hK
        have hr : ∀ r, some D = some r → ∃ o : Obj, (((W.setCell ⟨w.heap.size, 0, none⟩ (.int .i64 e1)).setCell ⟨w.heap.size + 1, 0, none⟩ (.string s1)).setCell ⟨w.heap.size + 1, 1, none⟩ (.slice va l1.length vc)).drew.heap[r]? = some o ∧ o.isCells = false := fun r e => by cases e; exact ⟨_, hK', rfl⟩
        have p0 := (box_cell (block_kept q0 (grownBy_putObj' _ D (.deferred none)) hr)).1
        have p1 := box2 (block_kept q1 (grownBy_putObj' _ D (.deferred none)) hr)
        have hB4 := ((((hB.setCell (p := ⟨w.heap.size, 0, none⟩) (Nat.le_refl _) (.int .i64 e1)).setCell (p := ⟨w.heap.size + 1, 0, none⟩) (by show _ ≤ w.heap.size + 1; omega) (.string s1)).setCell (p := ⟨w.heap.size + 1, 1, none⟩) (by show _ ≤ w.heap.size + 1; omega) (.slice va l1.length vc)).drew).trans (belowK_b (w := w) (Nat.le_refl _) _ D (.deferred (some [])) (.deferred none) (by omega) hK' rfl rfl)
        refine ⟨by simp, .inl ⟨_, _, rfl, run_takeDeferred hK', ?_⟩⟩
        refine ⟨.tuple #[.int .i64 e1, .agg #[.string s1, .slice va l1.length vc]], ?_, _, rfl, row_abides hrw (grownBy_putObj' _ D _) hr, hB4⟩
        simp [results, Try.f30, go_sem, p0, p1.1, p1.2.1]

section
variable {w : World} {lb b : Nat} {v : Value} {o tn : Bool} {dn ws : List Ch}

set_option maxRecDepth 100000 in
theorem told_any (hl : LogAt w lb b o tn) (h : Has w b v dn ws) (L : List ByteArray) (hL : AllOf (txt o (dn ++ ws)).data.toList L) (e : Nat) (s : ByteArray) (lds : List ByteArray) (hT : Told L e s lds) :
    Calls Try.prog 30 #[.pointer (some ⟨lb, 0, none⟩)] w fun en w' => ∃ vr, en = .returned (.tuple #[.int .i64 e, .agg #[.string s, vr]]) ∧ w'.ownsRow w.heap.size 9 1 vr lds.length (textCells lds) ∧ Below w.heap.size w w' :=
  told_of _ _ L e s lds w (by have := h.fits.all o; omega) hL hT fun w1 hb => by
    have := logAll_any (hl.grown hb) (h.grown hb)
    exact this

end

end Go.Proofs.Ytcofiidibhmhgaa
