/-
  What makes up for opens: the range over slices.Backward, and the walk of Undo.
-/
import Derived.Test.YtnjmnbclbjebbaaTRange
import Derived.Test.YtnjmnbclbjebbaaAcOps
namespace Go.Proofs.Ytnjmnbclbjebbaa.Ac
open Go.RowKit Go.Shelf Go.Deep Go.Proofs.Ytnjmnbclbjebbaa.Cel Go.Proofs.Ytnjmnbclbjebbaa.Dft Go.Proofs.Ytnjmnbclbjebbaa.Rng
attribute [local go_sem] Oper.semAt_some

abbrev Ix (N : Nat) := { j : Nat // j < N }

/-- A box, and a row, are as they were. -/
def KS (x : Nat) (a : Option Addr) (X Y : World) : Prop := ∀ (k : Nat) (cs : Array Value) (t : TypeId) (m : Nat × Nat), (k = x ∨ ∃ q, a = some q ∧ k = q.block) → X.heap[k]? = some (.cells cs t m) → Y.heap[k]? = some (.cells cs t m)

theorem KS.refl (x : Nat) (a : Option Addr) (W : World) : KS x a W W := fun _ _ _ _ _ h => h
theorem KS.trans {x : Nat} {a : Option Addr} {A B C : World} (h : KS x a A B) (k : KS x a B C) : KS x a A C := fun i cs t m hi hx => k i cs t m hi (h i cs t m hi hx)
theorem KS.put {x : Nat} {a : Option Addr} {W : World} {l : Nat} {o : Obj} (o' : Obj) (hl : W.heap[l]? = some o) (ho : o.isCells = false) : KS x a W (W.putObj l o') := fun k cs ty m _ hk =>
  (World.putObj_heap_other (fun e => by
    subst e
    rw [hl] at hk
    cases hk
    cases ho)).trans hk
theorem KS.alloc (x : Nat) (a : Option Addr) (W : World) (o : Obj) : KS x a W (W.alloc o) := fun _ _ _ _ _ hk => (Below.heap_alloc _ _ _ (Array.getElem?_eq_some_iff.1 hk).1).trans hk

theorem block_of_cell {w : World} {g j : Nat} {v : Value} (h : w.cell? ⟨g, j, none⟩ = some v) : ∃ cs t m, w.heap[g]? = some (.cells cs t m) := by
  unfold World.cell? at h
  simp only at h
  cases hg : w.heap[g]? with
  | none => simp [hg] at h
  | some o =>
    cases o with
    | cells cs t m => exact ⟨cs, t, m, rfl⟩
    | _ => simp [hg] at h

section
variable {α : Type} {enc : α → List Value} {s : Nat}

theorem View.ks {X Y : World} {x : Nat} {a : Option Addr} {len cap : Nat} {l : List α} (h : View X enc s a len cap l) (k : KS x a X Y) (hs : X.heap.size ≤ Y.heap.size) : View Y enc s a len cap l := by
  obtain ⟨hl, hc, ⟨rfl, hn⟩ | ⟨g, off, rfl, hat⟩⟩ := h
  · exact ⟨hl, hc, .inl ⟨rfl, hn⟩⟩
  · refine ⟨hl, hc, .inr ⟨g, off, rfl, Nat.lt_of_lt_of_le hat.lt hs, fun j hj r v hv => ?_⟩⟩
    have h1 := hat.c j hj r v hv
    obtain ⟨cs, t, m, hb⟩ := block_of_cell h1
    exact (World.cell?_of_block (w := X) ((k g cs t m (.inr ⟨_, rfl, rfl⟩) hb).trans hb.symm)).trans h1

end

section
variable {w w' : World}

set_option maxHeartbeats 400000 in
set_option maxRecDepth 100000 in
theorem backward_in (n : Nat) (v : Value) (hv : ∃ a len cap, v = .slice a len cap) (w : World) :
    CallsIn Fence.wide n Try.prog 32 #[v] w fun e w' => e = .returned (.func (.func 34) #[] #[.pointer (some ⟨w.heap.size, 0, none⟩)]) ∧ w' = w.alloc (.cells #[v] 27) := by
  obtain ⟨a, len, cap, rfl⟩ := hv
  refine callsIn_of_wp Try.func32 rfl trivial ?_ rfl
  simp only [Try.ntmps32, List.size_toArray, List.length_cons, List.length_nil, Nat.reduceAdd, Nat.reduceSub, Array.replicate_succ, Array.replicate_zero, List.push_toArray, List.append_toArray, List.nil_append, List.cons_append]
  gi_wp2
  go_ret
  exact ⟨rfl, rfl⟩

theorem rev_at (l : List Pr) (j : Nat) (hj : j < l.length) : l.reverse[l.length - 1 - j]? = some l[j] := by
  rw [List.getElem?_reverse (by omega)]
  rw [show l.length - 1 - (l.length - 1 - j) = j by omega]
  exact List.getElem?_eq_getElem hj

/-- What a round of Backward is handed. -/
def encB (l : List Pr) (k : Nat) : Array Value := #[.int .i64 ((l.length - 1 - k : Nat) : Int), .agg #[.int .i64 (l.reverse[k]?.getD (0, 0)).1, .int .i64 (l.reverse[k]?.getD (0, 0)).2]]

set_option maxHeartbeats 4000000 in
set_option maxRecDepth 100000 in
theorem back_gives (n : Nat) (hn : 1 ≤ n) (Bx : Nat) (a : Option Addr) (len cap : Nat) (l : List Pr) (w : World) (hB : w.heap[Bx]? = some (.cells #[.slice a len cap] 27 (0, 0))) (hv : View w eP 2 a len cap l) (hs : len ≤ 1000000) :
    Gives n Try.prog 34 #[.pointer (some ⟨Bx, 0, none⟩)] (fun x : Ix l.length => encB l x.1) (KS Bx a) (fun pre x => x.1 = pre.length) (fun ys => ys.map (·.1) = List.range l.length) w := fun L J W hW hJ hY h0 => by
  have hB1 : W.heap[Bx]? = some (.cells #[.slice a len cap] 27 (0, 0)) := (hW.block Bx (Array.getElem?_eq_some_iff.1 hB).1).trans hB
  have cB : W.cell? ⟨Bx, 0, none⟩ = some (.slice a len cap) := cell_at hB1 rfl
  have HB := Hid.mk hB1
  have HV := Hid.mk (hv.grown hW)
  have HL := Hid.mk hv.1
  have HJ := Hid.mk h0
  clear hB hv hW h0 hB1
  refine callsIn_of_wp Try.func34 rfl trivial ?_ rfl
  simp only [Try.ntmps34, List.size_toArray, List.length_cons, List.length_nil, Nat.reduceAdd, Nat.reduceSub, Array.replicate_succ, Array.replicate_zero, List.push_toArray, List.append_toArray, List.nil_append, List.cons_append]
  gi_wp2
  gi_loopw [3] (fun idx wr => ∃ (z : Int) (pre : List (Ix l.length)), idx = .int .i64 z ∧ -1 ≤ z ∧ z < (len : Int) ∧ KS Bx a W wr ∧ J pre wr ∧ pre.map (·.1) = List.range (len - (z + 1).toNat) ∧ W.heap.size ≤ wr.heap.size) (fun idx _ => (intOf idx + 1).toNat)
  case atStart => exact ⟨(len : Int) - 1, [], rfl, by omega, by omega, KS.refl _ _ _, HJ.out, by rw [show len - ((len : Int) - 1 + 1).toNat = 0 by omega]; rfl, Nat.le_refl _⟩
  case round =>
    clear cB
    obtain ⟨z, pre, rfl, hz1, hz2, hks, hJs, hpre, hsz⟩ := hrel
    have cB : wr.cell? ⟨Bx, 0, none⟩ = some (.slice a len cap) := cell_at (hks _ _ _ _ (.inl rfl) HB.out) rfl
    have hpl : pre.length = len - (z + 1).toNat := by have := congrArg List.length hpre; simpa using this
    by_cases hz : 0 ≤ z
    · obtain ⟨j, rfl⟩ : ∃ j : Nat, z = (j : Int) := ⟨z.toNat, by omega⟩
      have hjl : j < l.length := by have := HL.out; omega
      obtain ⟨g, off, rfl, hat⟩ := (HV.out.ks hks hsz).at_ (by omega)
      have c0 := hat.c j hjl 0 _ rfl
      have c1 := hat.c j hjl 1 _ rfl
      rw [Nat.add_zero] at c0
      have hround : l.length - 1 - j < l.length := by omega
      have hple : l.length - 1 - j = pre.length := by have := HL.out; omega
      obtain ⟨fn, tmps, assign, body, hy, hRd⟩ := hY pre ⟨l.length - 1 - j, hround⟩ wr hJs hple
      unfold encB at hy
      dsimp only at hy
      rw [rev_at l j hjl, show l.length - 1 - (l.length - 1 - j) = j by omega] at hy
      simp only [Option.getD_some] at hy
      have HP : Hid ((pre ++ [(⟨l.length - 1 - j, hround⟩ : Ix l.length)]).map (·.1) = List.range (len - (((j : Int) - 1) + 1).toNat)) := Hid.mk (by
        have hl := HL.out
        rw [List.map_append, hpre, show len - (((j : Int) - 1) + 1).toNat = len - ((j : Int) + 1).toNat + 1 by omega, List.range_succ]
        congr 1
        show [l.length - 1 - j] = _
        congr 1
        omega)
      have HK := Hid.mk hks
      have HSZ := Hid.mk hsz
      obtain ⟨y, hy0⟩ : ∃ y, y = l[j] := ⟨_, rfl⟩
      rw [← hy0] at c0 c1 hy
      have hjn : ¬ (j : Int) < 0 := by omega
      have hjc : j < len := by omega
      clear hy0 hks hsz hat hpre hpl hple hJs hz1 hz2
      gi_wp2
      refine hRd.mono ?_
      rintro e W3 ⟨rfl, hJ3, hk3, hk4⟩
      gi_wp2
      go_roundw
      case rel => exact ⟨(j : Int) - 1, _, by go_num, by omega, by omega, HK.out.trans hk3, hJ3, HP.out, Nat.le_trans HSZ.out hk4.size⟩
      case measure => simp [intOf]
    · have hz0 : z = -1 := by omega
      subst hz0
      have HP : Hid (pre.map (·.1) = List.range l.length) := Hid.mk (by rw [hpre, HL.out]; rfl)
      clear hpre hpl hks hsz
      gi_wp2
      refine bodyPost_end (results_none rfl _ _ _) rfl ?_
      exact ⟨⟨_, rfl⟩, _, HP.out, hJs⟩

/-- Between two rounds: what 'undo' holds. -/
structure USt (A : Nat) (w : World) (l : List Pr) (k : Nat) (W : World) : Prop where
  box : ∃ v, W.heap[A]? = some (.cells #[v] 27 (0, 0)) ∧ W.ownsRow (A + 2) 56 2 v k (flat eP ((amendsL l).take k))
  bel : Below A w W

theorem USt.kept {A : Nat} {w X Y : World} {l : List Pr} {k : Nat} {row : Option Nat} (h : USt A w l k X) (hA : A ≤ w.heap.size) (hg : X.grownBy Y row) (hr : ∀ r, row = some r → A ≤ r ∧ ∃ o : Obj, X.heap[r]? = some o ∧ o.isCells = false) : USt A w l k Y := by
  obtain ⟨v, hv, ho⟩ := h.box
  have same : ∀ (i : Nat) (cs : Array Value) (t : TypeId) (m : Nat × Nat), X.heap[i]? = some (.cells cs t m) → Y.heap[i]? = X.heap[i]? := fun i cs t m hi =>
    hg.block i (Array.getElem?_eq_some_iff.1 hi).1 (fun e => by
      obtain ⟨_, o, ho, hc⟩ := hr i e.symm
      rw [hi] at ho
      cases ho
      cases hc)
  exact ⟨⟨v, (same _ _ _ _ hv).trans hv, ownsRow_carry ho fun i hi => by obtain ⟨cs, hc⟩ := own_at ho hi; exact same _ _ _ _ hc⟩, h.bel.grown hg (Nat.le_trans hA h.bel.size) (fun r e => (hr r e).1)⟩

theorem rows_cells {W : World} {base : Nat} {e : TypeId} {size : Nat} {v : Value} {k : Nat} {xs : List Value} (h : W.ownsRow base e size v k xs) : ∀ (j : Nat) (o : Obj), v.ownBlock = some j → W.heap[j]? = some o → o.isCells = true := by
  intro j o hj ho
  obtain ⟨cs, hc⟩ := own_at h hj
  rw [hc] at ho
  cases ho
  rfl

/-- A round: the row has one more, and the box holds it. -/
theorem USt.added {A : Nat} {w Z w3 : World} {l : List Pr} {k : Nat} {v v' : Value} {o : Obj} {news : List Value} {a : Option Addr} {C B : Nat} (hA : A ≤ w.heap.size) (hv : Z.heap[A]? = some (.cells #[v] 27 (0, 0)))
    (ho : Z.ownsRow (A + 2) 56 2 v k (flat eP ((amendsL l).take k))) (hb : Below A w Z) (hown : w3.ownsRow (A + 2) 56 2 v' (k + 1) (flat eP ((amendsL l).take k) ++ news)) (hg : (Z.alloc o).grownBy w3 v.ownBlock)
    (hn : flat eP ((amendsL l).take (k + 1)) = flat eP ((amendsL l).take k) ++ news) (hC : C = A + 1) (ha : ∀ q, a = some q → q.block < A) :
    (w3.cell? ⟨A, 0, none⟩ = some v ∧ w3.frozen? ⟨A, 0, none⟩ = false) ∧ USt A w l (k + 1) (w3.setCell ⟨A, 0, none⟩ v') ∧ KeepsFrom B Z (w3.setCell ⟨A, 0, none⟩ v') ∧ KS C a Z (w3.setCell ⟨A, 0, none⟩ v') := by
  have hlt := (Array.getElem?_eq_some_iff.1 hv).1
  have hrow : ∀ j, v.ownBlock = some j → A + 2 ≤ j := fun j hj => (ho.lt j hj).1
  have hkeep : ∀ i, i < Z.heap.size → i < A + 2 → w3.heap[i]? = Z.heap[i]? := fun i hi hi2 => by
    rw [hg.block i (by simp; omega) (fun e => by have := hrow i e.symm; omega), Below.heap_alloc _ _ _ hi]
  have h3 : w3.heap[A]? = some (.cells #[v] 27 (0, 0)) := (hkeep A hlt (by omega)).trans hv
  have hbel : Below A w w3 := (hb.alloc (Nat.le_trans hA hb.size) o).grown hg (by have := hb.size; simp; omega) (fun j e => by have := hrow j e; omega)
  refine ⟨⟨cell_at h3 rfl, free_at h3⟩, ⟨⟨v', ?_, ?_⟩, hbel.setCell (p := ⟨A, 0, none⟩) (Nat.le_refl _) _⟩, ?_, fun i cs t m hi hx => ?_⟩
  · rw [heap_set _ h3]; rfl
  · rw [hn]
    exact ownsRow_carry hown fun j hj => Below.heap_setCell _ _ _ _ (fun e => by have := (hown.lt j hj).1; have e2 : j = A := e; omega)
  · exact (((KeepsOthers.alloc Z o).trans (KeepsOthers.of_grownBy hg (rows_cells (ho.alloc o)))).trans (KeepsOthers.setCell _ _ _)).from _
  · have hiz := (Array.getElem?_eq_some_iff.1 hx).1
    have hne : i ≠ A ∧ i < A + 2 := by
      rcases hi with rfl | ⟨q, e, rfl⟩
      · omega
      · have := ha q e; omega
    rw [Below.heap_setCell _ _ _ _ hne.1, hkeep i hiz hne.2]
    exact hx

theorem amendsL_length (l : List Pr) : (amendsL l).length = l.length := by simp [amendsL]
theorem amendsL_snoc (l : List Pr) (k : Nat) (hk : k < l.length) : (amendsL l).take (k + 1) = (amendsL l).take k ++ [((l.reverse[k]?.getD (0, 0)).1, negI (l.reverse[k]?.getD (0, 0)).2)] := by
  rw [List.take_succ_eq_append_getElem (by rw [amendsL_length]; exact hk)]
  congr 2
  simp [amendsL, hk]

set_option maxHeartbeats 4000000 in
set_option maxRecDepth 100000 in
theorem amends_any {a : Option Addr} {len cap : Nat} {l : List Pr} {w : World} (hv : View w eP 2 a len cap l) (hs : len ≤ 1000000) :
    Calls Try.prog 26 #[.slice a len cap] w fun e w' => ∃ v, e = .returned v ∧ w'.ownsRow w.heap.size 56 2 v l.length (flat eP (amendsL l)) ∧ Below w.heap.size w w' := by
  obtain ⟨i0, hi, hz0, hz1, hz2⟩ := info_parts Try.infoP
  have hll := hv.1
  have HAG : Hid (0 < len → ∀ q, a = some q → q.block < w.heap.size) := Hid.mk fun hp q e => by
    obtain ⟨g, off, e2, hat⟩ := hv.at_ hp
    rw [e] at e2
    injection e2 with e2
    rw [e2]
    exact hat.lt
  obtain ⟨A, hA⟩ : ∃ A, A = w.heap.size := ⟨_, rfl⟩
  obtain ⟨W1, hW1⟩ : ∃ W1, W1 = w.alloc (.cells #[.slice none 0 0] 27) := ⟨_, rfl⟩
  have hu1 : USt A w l 0 W1 := by rw [hW1, hA]; exact ⟨⟨_, heap_new _ _, ⟨rfl, .inl ⟨rfl, rfl⟩⟩⟩, (Below.refl _ w).alloc (Nat.le_refl _) _⟩
  have hz : W1.heap.size = A + 1 := by rw [hW1, hA]; simp
  have hv1 : View W1 eP 2 a len cap l := by rw [hW1]; exact hv.grown ((Below.refl _ w).alloc (Nat.le_refl _) _)
  refine (callsIn_wide (n := 12)).1 ?_
  refine callsIn_of_wp_marks Try.func26 rfl trivial ?_ rfl
  simp only [Try.ntmps26, List.size_toArray, List.length_cons, List.length_nil, Nat.reduceAdd, Nat.reduceSub, Array.replicate_succ, Array.replicate_zero, List.push_toArray, List.append_toArray, List.nil_append, List.cons_append]
  gi_wp2_with fail
  rw [← hW1]
  clear hW1 hv
  refine ⟨trivial, (backward_in _ _ ⟨_, _, _, rfl⟩ _).mono ?_⟩
  rintro e w1 ⟨rfl, hw1⟩
  rw [hw1]
  clear hw1 w1
  gi_wp2
  obtain ⟨C, hC⟩ : ∃ C, C = W1.heap.size := ⟨_, rfl⟩
  obtain ⟨W2, hW2⟩ : ∃ W2, W2 = W1.alloc (.cells #[.slice a len cap] 27) := ⟨_, rfl⟩
  have hc2 : W2.heap[C]? = some (.cells #[.slice a len cap] 27 (0, 0)) := by rw [hW2, hC]; exact heap_new _ _
  have hu2 : USt A w l 0 W2 := by rw [hW2]; exact hu1.kept (by omega) (World.grownBy_alloc _ _ none) (fun r e => by cases e)
  have hv2 : View W2 eP 2 a len cap l := by rw [hW2]; exact hv1.grown ((Below.refl _ W1).alloc (Nat.le_refl _) _)
  have hz2 : W2.heap.size = A + 2 := by rw [hW2]; simp; omega
  have hCA : A + 1 = C := by omega
  rw [← hA, hCA, ← hW2]
  have HA := Hid.mk hA
  have HCA := Hid.mk hCA
  have HLL := Hid.mk hll
  clear hW2 hC hu1 hv1 hz hA hCA
  refine range_over (gf := 34) (lb := #[.pointer (some ⟨C, 0, none⟩)]) rfl (enters_of Try.func34 (by kernel_rfl) rfl)
    (back_gives 11 (by omega) C a len cap l W2 hc2 hv2 hs) (Below.refl _ _) (fun _ _ _ h k => h.trans k) (fun _ _ _ r' h => KS.put (.loop r') h rfl) (fun _ => rfl)
    (fun pre X => pre.map (·.1) = List.range pre.length ∧ USt A w l pre.length X)
    (fun s X Y row hs hg hr => ⟨hs.1, hs.2.kept (by rw [HA.out]; exact Nat.le_refl _) hg (fun r e => ⟨by have := (hr r e).1; omega, (hr r e).2⟩)⟩) ⟨rfl, hu2⟩ ?_ ?_
  · rintro L pre x X r hl hr ⟨hpr, hu⟩ hgood
    have hkl : pre.length < l.length := by rw [← hgood]; exact x.2
    have HSN := Hid.mk (amendsL_snoc l pre.length hkl)
    have HPR : Hid ((pre ++ [x]).map (·.1) = List.range (pre ++ [x]).length) := Hid.mk (by
      rw [List.map_append, hpr, List.length_append, List.length_singleton, List.range_succ, List.map_singleton, hgood])
    have hx : encB l x.1 = encB l pre.length := by rw [hgood]
    rw [hx]
    unfold encB
    obtain ⟨y, hy⟩ : ∃ y, y = l.reverse[pre.length]?.getD (0, 0) := ⟨_, rfl⟩
    rw [← hy] at HSN ⊢
    have HZ2 := Hid.mk hz2
    have HAG2 : Hid (∀ q, a = some q → q.block < A) := Hid.mk (fun q e => by have := HAG.out (by omega) q e; rw [HA.out]; exact this)
    clear hc2 hv2 hu2 hz2 hpr hgood hx hy
    gi_wp2
    refine ⟨(KeepsOthers.alloc _ _).from _, KS.alloc _ _ _ _, fun r' => ?_⟩
    have hlX : L < X.heap.size := (Array.getElem?_eq_some_iff.1 hr).1
    have hr2 : (X.alloc (.cells #[.int .i64 y.1, .int .i64 y.2] 56)).heap[L]? = some (.loop r) := (Below.heap_alloc _ _ _ hlX).trans hr
    obtain ⟨Z, hZ⟩ : ∃ Z, Z = (X.alloc (.cells #[.int .i64 y.1, .int .i64 y.2] 56)).putObj L (.loop r') := ⟨_, rfl⟩
    have hboxZ : Z.heap[X.heap.size]? = some (.cells #[.int .i64 y.1, .int .i64 y.2] 56 (0, 0)) := by
      rw [hZ]
      exact (World.putObj_heap_other (Nat.ne_of_gt hlX)).trans (heap_new _ _)
    have huZ : USt A w l pre.length Z := by
      rw [hZ]
      exact (hu.kept (by rw [HA.out]; exact Nat.le_refl _) (World.grownBy_alloc _ _ none) (fun r e => by cases e)).kept (by rw [HA.out]; exact Nat.le_refl _) (grownBy_putObj' _ L _) (fun r e => by cases e; exact ⟨by have := HZ2.out; omega, _, hr2, rfl⟩)
    have hszZ : A + 2 ≤ Z.heap.size := by
      have h1 := HZ2.out
      rw [hZ, World.putObj_size, World.size_alloc]
      omega
    obtain ⟨Bx, hBx⟩ : ∃ k, k = X.heap.size := ⟨_, rfl⟩
    rw [← hZ, ← hBx]
    rw [← hBx] at hboxZ
    obtain ⟨v, hv, ho⟩ := huZ.box
    have cA : Z.cell? ⟨A, 0, none⟩ = some v := cell_at hv rfl
    have c0 : Z.cell? ⟨Bx, 0, none⟩ = some (.int .i64 y.1) := cell_at hboxZ rfl
    have c1 : Z.cell? ⟨Bx, 1, none⟩ = some (.int .i64 y.2) := cell_at hboxZ rfl
    obtain ⟨va, vc, rfl⟩ := row_shape ho
    have HV := Hid.mk hv
    have HO := Hid.mk ho
    have HAL : Hid (A ≤ w.heap.size) := Hid.mk (by rw [HA.out]; exact Nat.le_refl _)
    have HCE : Hid (C = A + 1) := Hid.mk (by rw [← HCA.out])
    have HN : Hid (flat eP ((amendsL l).take (pre.length + 1)) = flat eP ((amendsL l).take pre.length) ++ eP (y.1, wrap64 (-y.2))) := Hid.mk (by rw [HSN.out, flat_append, flat_one]; rfl)
    have HU := Hid.mk huZ
    clear hZ hBx hr hr2 hu hlX hv ho huZ hboxZ
    gi_wp2_with (gi_at_builtin; go_loud (refine wpListIn_append_own _ rfl _ _ 27 rfl (A + 2) 56 i0 (.agg #[.int .i64 0, .int .i64 0]) 2 16 Try.underlying27 hi hz0 hz1 hz2 rfl (by decide) _ _ _ rfl (HO.out.alloc _) ⟨Z.heap.size, 0, none⟩ 1 1 (eP (y.1, wrap64 (-y.2))) rfl rfl (open_news Z (y.1, wrap64 (-y.2))) (by simp [eP, Value.oneCell']) (by unfold maxLen; omega) (by omega) (by have := hszZ; simp; omega) ?_); intro v' w3 hown' hg3 hnil3; obtain ⟨g', cap', rfl⟩ := row_full hown' (by omega); obtain ⟨⟨cA3, fA3⟩, hU3, hK3, hS3⟩ := USt.added (B := W2.heap.size) (a := a) (C := C) HAL.out HV.out HO.out HU.out.bel hown' hg3 HN.out HCE.out HAG2.out; have HU3 := Hid.mk hU3; have HK3 := Hid.mk hK3; have HS3 := Hid.mk hS3; clear hown' hg3 hnil3 hU3 hK3 hS3)
    refine ⟨HK3.out, HS3.out, HPR.out, ?_⟩
    rw [List.length_append]
    exact HU3.out
  · rintro D ys X hD hys ⟨hpr, hu⟩ hK
    have hyl : ys.length = l.length := by
      have := congrArg List.length hys
      simpa using this
    rw [hyl] at hu
    obtain ⟨v, hv, ho⟩ := hu.box
    rw [List.take_of_length_le (by rw [amendsL_length]; exact Nat.le_refl _)] at ho
    have cA : X.cell? ⟨A, 0, none⟩ = some v := cell_at hv rfl
    obtain ⟨va, vc, rfl⟩ := row_shape ho
    have hDl : A < D := by rw [hz2] at hD; omega
    have HB : Hid (Below A w (X.putObj D (.deferred none))) := Hid.mk (hu.bel.grown (grownBy_putObj' X D _) (by have := hu.bel.size; have := HA.out; omega) (fun r e => by cases e; omega))
    have HO : Hid ((X.putObj D (.deferred none)).ownsRow A 56 2 (.slice va l.length vc) l.length (flat eP (amendsL l))) := Hid.mk (by
      have h2 := ownsRow_carry (w' := X.putObj D (.deferred none)) ho fun j hj => World.putObj_heap_other (fun e => by
        obtain ⟨cs, hc⟩ := own_at ho hj
        rw [e, hK] at hc
        cases hc)
      refine ⟨h2.1, ?_⟩
      rcases h2.2 with h2 | ⟨g, c, cur, e, hb, r⟩
      · exact .inl h2
      · exact .inr ⟨g, c, cur, e, by omega, r⟩)
    clear hc2 hv2 hu2 hz2 hpr hys hyl hu hv ho
    gi_wp2
    refine ⟨by simp, .inl ⟨_, _, rfl, run_takeDeferred hK, ?_⟩⟩
    exact ⟨_, results_tmp rfl _ _ _, .slice va len vc, rfl, by have h := HO.out; rw [HLL.out] at h ⊢; rw [← HA.out]; exact h, by rw [← HA.out]; exact HB.out⟩

end

end Go.Proofs.Ytnjmnbclbjebbaa.Ac
