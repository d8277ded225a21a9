/-
  The iterator All of a tome: for every loop that lets tomes be, the files that are there, by their numbers.
-/
import Derived.Test.YtdngehfebmaegaaTMem
import Derived.Test.YtdngehfebmaegaaRAllF
import Derived.Test.YtdngehfebmaegaaTRange
namespace Go.Proofs.Ytdngehfebmaegaa.Tom
open Go.RowKit Go.Shelf Cel Cel.F Rng
attribute [local go_sem] Oper.semAt_some

/-- What tomes, and what goes over them, are made of. -/
def TT : List TypeId := [27, 84, 88, 73, 107, 104]

/-- All blocks of these types are as they were. -/
def KT (W W' : World) : Prop := ∀ (k : Nat) (cs : Array Value) (ty : TypeId) (m : Nat × Nat), ty ∈ TT → W.heap[k]? = some (.cells cs ty m) → W'.heap[k]? = some (.cells cs ty m)

theorem KT.refl (W : World) : KT W W := fun _ _ _ _ _ h => h
theorem KT.trans {A B C : World} (h : KT A B) (k : KT B C) : KT A C := fun i cs ty m ht hi => k i cs ty m ht (h i cs ty m ht hi)
theorem KT.block {A B : World} (h : KT A B) {k : Nat} {cs : Array Value} {ty : TypeId} {m : Nat × Nat} (ht : ty ∈ TT) (hk : A.heap[k]? = some (.cells cs ty m)) : B.heap[k]? = A.heap[k]? := (h k cs ty m ht hk).trans hk.symm
theorem KT.put {W : World} {l : Nat} {o : Obj} (o' : Obj) (hl : W.heap[l]? = some o) (ho : o.isCells = false) : KT W (W.putObj l o') := fun k cs ty m _ hk =>
  (World.putObj_heap_other (fun e => by
    subst e
    rw [hl] at hk
    cases hk
    cases ho)).trans hk
theorem KT.below {B : Nat} {W W' : World} (h : Below B W W') (hB : W.heap.size ≤ B) : KT W W' := fun k _ _ _ _ hk => (h.block k (Nat.lt_of_lt_of_le (Array.getElem?_eq_some_iff.1 hk).1 hB)).trans hk
theorem KT.alloc (W : World) (o : Obj) : KT W (W.alloc o) := .below ((Below.refl W.heap.size W).alloc (Nat.le_refl _) o) (Nat.le_refl _)
theorem KT.own {β : Type} (B : Nat) (W0 : World) : OwnFrom B (fun (_ : β) W => KT W0 W) := fun _ X Y row hs hg hr k cs ty m ht hk =>
  have hx := hs k cs ty m ht hk
  (hg.block k (Array.getElem?_eq_some_iff.1 hx).1 (fun e => by
    obtain ⟨_, o, ho, hc⟩ := hr k e.symm
    rw [hx] at ho
    cases ho
    cases hc)).trans hx

theorem TomeAt.kt {W W' : World} {t b g : Nat} {R : List ((Bool × ByteArray) × Int)} (h : TomeAt W t b g R) (k : KT W W') : TomeAt W' t b g R :=
  h.keep (k.block (by decide) h.at_) (k.block (by decide) h.row.at_) (k.block (by decide) h.row.row)

set_option maxHeartbeats 2000000 in
set_option maxRecDepth 100000 in
theorem all_gives (n : Nat) (hn : 1 ≤ n) (Bx b g N : Nat) (f : Nat → Bool × ByteArray) (R : List ((Bool × ByteArray) × Int)) (w : World) (hB : w.heap[Bx]? = some (.cells #[.pointer (some ⟨b, 0, none⟩)] 84 (0, 0)))
    (hR : RowAt w b g R) (hN : R.length = N) (hf : ∀ j, j < N → R[j]!.1 = f j) :
    Gives n Try.prog 62 #[.pointer (some ⟨Bx, 0, none⟩)] (fun x : Ix N => #[.int .i64 (x.1 : Int), .agg #[.bool (f x.1).1, .string (f x.1).2]]) KT (fun pre x => pre.map (·.1) = List.range x.1) (fun ys => ys.map (·.1) = List.range N) w := fun l J W hW _ hY h0 => by
  have hR0 := hR.grown hW
  have hB0 : W.heap[Bx]? = some (.cells #[.pointer (some ⟨b, 0, none⟩)] 84 (0, 0)) := (hW.block Bx (Array.getElem?_eq_some_iff.1 hB).1).trans hB
  have hc0 : W.cell? ⟨Bx, 0, none⟩ = some (.pointer (some ⟨b, 0, none⟩)) := cell_at hB0 rfl
  have hs := hR0.short
  rw [hN] at hs
  have hlen := len_yes hR0
  rw [hN] at hlen
  have HR := Hid.mk hR0
  have HB := Hid.mk hB0
  have HN := Hid.mk hN
  clear hR hR0 hN hB hB0
  refine callsIn_of_wp Try.func62 rfl trivial ?_ rfl
  simp only [Try.ntmps62, List.size_toArray, List.length_cons, List.length_nil, Nat.reduceAdd, Nat.reduceSub, Array.replicate_succ, Array.replicate_zero, List.push_toArray, List.append_toArray, List.nil_append, List.cons_append]
  gi_wp2_with fail
  refine ⟨trivial, (callsIn_wide.2 hlen).mono ?_⟩
  rintro e w1 ⟨rfl, hw⟩
  rw [hw]
  clear hw w1 hlen
  gi_wp2
  gi_loopw [3, 6] (fun _ idx wr => ∃ (k : Nat) (pre : List (Ix N)), k ≤ N ∧ idx = .int .i64 k ∧ KT W wr ∧ J pre wr ∧ pre.map (·.1) = List.range k) (fun _ idx _ => N - (intOf idx).toNat)
  case atStart => exact ⟨0, [], Nat.zero_le _, rfl, KT.refl _, h0, rfl⟩
  case round =>
    obtain ⟨k, pre, hk, rfl, hst, hJs, hpre⟩ := hrel
    have cx : wr.cell? ⟨Bx, 0, none⟩ = some (.pointer (some ⟨b, 0, none⟩)) := cell_at (hst _ _ _ _ (by decide) HB.out) rfl
    have hr := HR.out.keep (hst.block (by decide) HR.out.at_) (hst.block (by decide) HR.out.row)
    by_cases hlt : k < N
    · have c0 := hr.sl
      have c1 := hr.is k (by rw [HN.out]; exact hlt)
      have c2 := hr.val k (by rw [HN.out]; exact hlt)
      rw [HN.out] at c0
      rw [hf k hlt] at c1 c2
      have HP : Hid ((pre ++ [(⟨k, hlt⟩ : Ix N)]).map (·.1) = List.range (k + 1)) := Hid.mk (by rw [List.map_append, hpre, List.range_succ]; rfl)
      obtain ⟨fn, tmps, assign, body, hy, hRd⟩ := hY pre ⟨k, hlt⟩ wr hJs hpre
      dsimp only at hy
      have HS := Hid.mk hst
      clear hr hst hpre hf
      gi_wp2
      refine hRd.mono ?_
      rintro e W3 ⟨rfl, hJ3, hk3, _⟩
      gi_wp2
      go_roundw
      case rel => exact ⟨k + 1, _, by omega, by go_num, HS.out.trans hk3, hJ3, HP.out⟩
      case measure => simp [intOf]; omega
    · have hkR : k = N := by omega
      have HP : Hid (pre.map (·.1) = List.range N) := Hid.mk (by rw [hpre, hkR])
      have hle : (N : Int) ≤ (k : Int) := by omega
      clear hkR hr hst hpre hf
      gi_wp2
      refine bodyPost_end (results_none rfl _ _ _) rfl ?_
      exact ⟨⟨_, rfl⟩, _, HP.out, hJs⟩

set_option maxHeartbeats 2000000 in
set_option maxRecDepth 100000 in
theorem all_none (n : Nat) (hn : 1 ≤ n) (Bx : Nat) (w : World) (hB : w.heap[Bx]? = some (.cells #[.pointer none] 84 (0, 0))) :
    Gives n Try.prog 62 #[.pointer (some ⟨Bx, 0, none⟩)] (fun x : Ix 0 => #[.int .i64 (x.1 : Int), .agg #[.bool false, .string ⟨#[]⟩]]) KT (fun _ _ => True) (fun ys => ys = []) w := fun l J W hW _ hY h0 => by
  have hc0 : W.cell? ⟨Bx, 0, none⟩ = some (.pointer none) := cell_at ((hW.block Bx (Array.getElem?_eq_some_iff.1 hB).1).trans hB) rfl
  clear hB hY
  refine callsIn_of_wp Try.func62 rfl trivial ?_ rfl
  simp only [Try.ntmps62, List.size_toArray, List.length_cons, List.length_nil, Nat.reduceAdd, Nat.reduceSub, Array.replicate_succ, Array.replicate_zero, List.push_toArray, List.append_toArray, List.nil_append, List.cons_append]
  gi_wp2_with fail
  refine ⟨trivial, (callsIn_wide.2 (len_nil _)).mono ?_⟩
  rintro e w1 ⟨rfl, hw⟩
  rw [hw]
  clear hw w1
  gi_wp2
  gi_loopw [3, 6] (fun _ idx wr => idx = .int .i64 0 ∧ wr = W) (fun _ _ _ => 0)
  case atStart => exact ⟨rfl, rfl⟩
  case round =>
    obtain ⟨rfl, hw⟩ := hrel
    rw [hw]
    gi_wp2
    refine bodyPost_end (results_none rfl _ _ _) rfl ?_
    exact ⟨⟨_, rfl⟩, [], rfl, h0⟩

/-- The number of a file that is there. -/
abbrev Nx (F : Nat → Bool × ByteArray) := { j : Nat // j < 6 ∧ (F j).1 = true }

/-- Those of some numbers that are files that are there. -/
def there (F : Nat → Bool × ByteArray) : List (Ix 6) → List (Nx F)
  | [] => []
  | x :: r => if h : (F x.1).1 = true then ⟨x.1, x.2, h⟩ :: there F r else there F r

theorem there_append (F : Nat → Bool × ByteArray) (p q : List (Ix 6)) : there F (p ++ q) = there F p ++ there F q := by
  induction p with
  | nil => rfl
  | cons x r ih =>
    show (if h : (F x.1).1 = true then (⟨x.1, x.2, h⟩ : Nx F) :: there F (r ++ q) else there F (r ++ q)) = (if h : (F x.1).1 = true then (⟨x.1, x.2, h⟩ : Nx F) :: there F r else there F r) ++ there F q
    rw [ih]
    split <;> rfl
theorem there_yes (F : Nat → Bool × ByteArray) (p : List (Ix 6)) (x : Ix 6) (h : (F x.1).1 = true) : there F (p ++ [x]) = there F p ++ [⟨x.1, x.2, h⟩] := by
  rw [there_append]
  exact congrArg (there F p ++ ·) (dif_pos h)
theorem there_no (F : Nat → Bool × ByteArray) (p : List (Ix 6)) (x : Ix 6) (h : ¬ (F x.1).1 = true) : there F (p ++ [x]) = there F p := by
  rw [there_append, show there F [x] = [] from dif_neg h, List.append_nil]
theorem there_le (F : Nat → Bool × ByteArray) (p : List (Ix 6)) : (there F p).length ≤ p.length := by
  induction p with
  | nil => exact Nat.le_refl _
  | cons x r ih =>
    unfold there
    split <;> simp <;> omega
theorem there_val (F : Nat → Bool × ByteArray) (p : List (Ix 6)) : (there F p).map (·.1) = (p.map (·.1)).filter fun j => (F j).1 := by
  induction p with
  | nil => rfl
  | cons x r ih =>
    unfold there
    split
    · rename_i h
      rw [List.map_cons, List.map_cons, List.filter_cons_of_pos (p := fun j => (F j).1) h, ih]
    · rename_i h
      rw [List.map_cons, List.filter_cons_of_neg (p := fun j => (F j).1) h, ih]

set_option maxHeartbeats 400000 in
set_option maxRecDepth 100000 in
theorem tall_in (n : Nat) (p : Option Addr) (w : World) :
    CallsIn Fence.wide n Try.prog 27 #[.pointer p] w fun e w' => e = .returned (.func (.func 50) #[] #[.pointer (some ⟨w.heap.size, 0, none⟩)]) ∧ w' = w.alloc (.cells #[.pointer p] 27) := by
  refine callsIn_of_wp Try.func27 rfl trivial ?_ rfl
  simp only [Try.ntmps27, List.size_toArray, List.length_cons, List.length_nil, Nat.reduceAdd, Nat.reduceSub, Array.replicate_succ, Array.replicate_zero, List.push_toArray, List.append_toArray, List.nil_append, List.cons_append]
  gi_wp2
  go_ret
  exact ⟨rfl, rfl⟩

/-- A file's box. -/
def FBox (W : World) (k : Nat) (f : Bool × ByteArray) : Prop := W.heap[k]? = some (.cells #[.bool f.1, .string f.2] 23 (0, 0))

theorem FBox.own {β : Type} (B k : Nat) (f : Bool × ByteArray) : OwnFrom B (fun (_ : β) W => FBox W k f) := fun _ X Y row hs hg hr =>
  (hg.block k (Array.getElem?_eq_some_iff.1 hs).1 (fun e => by
    obtain ⟨_, o, ho, hc⟩ := hr k e.symm
    rw [show X.heap[k]? = _ from hs] at ho
    cases ho
    cases hc)).trans hs

set_option maxHeartbeats 4000000 in
set_option maxRecDepth 100000 in
theorem tall_gives (n : Nat) (hn : 6 ≤ n) (Bx t b g : Nat) (F : Nat → Bool × ByteArray) (R : List ((Bool × ByteArray) × Int)) (w : World) (hB : w.heap[Bx]? = some (.cells #[.pointer (some ⟨t, 0, none⟩)] 27 (0, 0)))
    (hT : TomeAt w t b g R) (hF : ∀ j, j < 6 → R[j]!.1 = F j) :
    Gives n Try.prog 50 #[.pointer (some ⟨Bx, 0, none⟩)] (fun x : Nx F => #[.int .i64 (x.1 : Int), .agg #[.bool (F x.1).1, .string (F x.1).2]]) KT (fun pre x => pre.map (·.1) = (List.range x.1).filter fun j => (F j).1) (fun ys => ys.map (·.1) = (List.range 6).filter fun j => (F j).1) w := fun l J W hW hJ hY h0 => by
  have hB1 : W.heap[Bx]? = some (.cells #[.pointer (some ⟨t, 0, none⟩)] 27 (0, 0)) := (hW.block Bx (Array.getElem?_eq_some_iff.1 hB).1).trans hB
  have hT1 := hT.grown hW
  obtain ⟨W1, hW1⟩ : ∃ W1, W1 = W.alloc (.cells #[.func (.yield l) #[] #[]] 73) := ⟨_, rfl⟩
  have hz1 : W1.heap.size = W.heap.size + 1 := by rw [hW1]; simp
  have hb1 : Below W.heap.size W W1 := by rw [hW1]; exact (Below.refl _ W).alloc (Nat.le_refl _) _
  have hy1 : W1.heap[W.heap.size]? = some (.cells #[.func (.yield l) #[] #[]] 73 (0, 0)) := by rw [hW1]; exact heap_new _ _
  have hT2 := hT1.grown hb1
  have cB : (W.alloc (.cells #[.func (.yield l) #[] #[]] 73)).cell? ⟨Bx, 0, none⟩ = some (.pointer (some ⟨t, 0, none⟩)) := cell_at ((Below.heap_alloc _ _ _ (Array.getElem?_eq_some_iff.1 hB1).1).trans hB1) rfl
  have hrow := row_yes hT2
  have hn1 : 1 ≤ n := by omega
  have hJ1 : J [] W1 := by rw [hW1]; exact hJ.alloc _ h0
  refine callsIn_of_wp_marks Try.func50 rfl trivial ?_ rfl
  simp only [Try.ntmps50, List.size_toArray, List.length_cons, List.length_nil, Nat.reduceAdd, Nat.reduceSub, Array.replicate_succ, Array.replicate_zero, List.push_toArray, List.append_toArray, List.nil_append, List.cons_append]
  have HT := Hid.mk hT2
  have HY := Hid.mk hy1
  have HZ := Hid.mk hz1
  have HJ1 := Hid.mk hJ1
  clear hB hT hW hB1 hT1 hT2 hy1 hz1 hJ1 hb1 h0
  gi_wp2_with fail
  rw [← hW1]
  clear hW1 cB
  refine ⟨trivial, (callsIn_wide.2 hrow).mono ?_⟩
  rintro e w1 ⟨rfl, hw1⟩
  rw [hw1]
  clear hw1 w1 hrow
  gi_wp2_with fail
  refine ⟨trivial, (all_in _ _ _).mono ?_⟩
  rintro e w1 ⟨rfl, hw1⟩
  rw [hw1]
  clear hw1 w1
  gi_wp2
  obtain ⟨C, hC⟩ : ∃ C, C = W1.heap.size := ⟨_, rfl⟩
  obtain ⟨W2, hW2⟩ : ∃ W2, W2 = W1.alloc (.cells #[.pointer (some ⟨b, 0, none⟩)] 84) := ⟨_, rfl⟩
  have hz2 : W2.heap.size = W1.heap.size + 1 := by rw [hW2]; simp
  have hb2 : Below W1.heap.size W1 W2 := by rw [hW2]; exact (Below.refl _ W1).alloc (Nat.le_refl _) _
  have hc2 : W2.heap[C]? = some (.cells #[.pointer (some ⟨b, 0, none⟩)] 84 (0, 0)) := by rw [hW2, hC]; exact heap_new _ _
  have hT2 := HT.out.grown hb2
  have hy2 : W2.heap[W.heap.size]? = some (.cells #[.func (.yield l) #[] #[]] 73 (0, 0)) := (hb2.block _ (by rw [HZ.out]; omega)).trans HY.out
  have hJ2 : J [] W2 := by rw [hW2]; exact hJ.alloc _ HJ1.out
  have hsz : W.heap.size ≤ W2.heap.size := by rw [hz2, HZ.out]; omega
  rw [← hC, ← hW2]
  have hCl : C < W2.heap.size := by rw [hz2, hC]; exact Nat.lt_succ_self _
  have HC2 := Hid.mk hc2
  have HY2 := Hid.mk hy2
  have HT2 := Hid.mk hT2
  clear hW2 hC HT HY HZ HJ1 hb2
  refine range_over (gf := 62) (lb := #[.pointer (some ⟨C, 0, none⟩)]) rfl (enters_of Try.func62 (by kernel_rfl) rfl)
    (all_gives (n - 1) (by omega) C b g 6 F R W2 hc2 hT2.row hT2.len hF) (Below.refl _ _) (fun _ _ _ h k => h.trans k) (fun _ _ _ r' h => KT.put (.loop r') h rfl) (fun _ => rfl)
    (fun pre X => J (there F pre) X ∧ KT W2 X)
    (OwnFrom.and (fun s X Y row hs hg hr => own_up hJ hsz (there F s) X Y row hs hg hr) (KT.own _ W2)) ⟨hJ2, KT.refl _⟩ ?round ?done
  case round =>
    rintro l' pre x X r hl hr ⟨hi, hkt⟩ hgood
    have hlX : l' < X.heap.size := (Array.getElem?_eq_some_iff.1 hr).1
    have hlW : W.heap.size ≤ l' := Nat.le_trans hsz hl
    clear hz2 hT2 hc2 hy2 hJ2
    gi_wp2
    refine ⟨(KeepsOthers.alloc _ _).from _, KT.alloc _ _, fun r' => ?_⟩
    have hr2 : (X.alloc (.cells #[.bool (F x.1).1, .string (F x.1).2] 23)).heap[l']? = some (.loop r) := (Below.heap_alloc _ _ _ hlX).trans hr
    obtain ⟨Z, hZ⟩ : ∃ Z, Z = (X.alloc (.cells #[.bool (F x.1).1, .string (F x.1).2] 23)).putObj l' (.loop r') := ⟨_, rfl⟩
    have hJZ : J (there F pre) Z := by rw [hZ]; exact hJ.putObj _ (hJ.alloc _ hi) hlW hr2 rfl
    have hkZ : KT W2 Z := by rw [hZ]; exact (hkt.trans (KT.alloc X _)).trans (KT.put _ hr2 rfl)
    have hfZ : FBox Z X.heap.size (F x.1) := by
      rw [hZ]
      exact (World.putObj_heap_other (Nat.ne_of_gt hlX)).trans (heap_new _ _)
    obtain ⟨k, hk⟩ : ∃ k, k = X.heap.size := ⟨_, rfl⟩
    rw [← hZ, ← hk]
    rw [← hk] at hfZ
    have cy : Z.cell? ⟨W.heap.size, 0, none⟩ = some (.func (.yield l) #[] #[]) := cell_at (hkZ _ _ _ _ (by decide) HY2.out) rfl
    have k0 : Z.cell? ⟨k, 0, none⟩ = some (.bool (F x.1).1) := cell_at hfZ rfl
    have k1 : Z.cell? ⟨k, 1, none⟩ = some (.string (F x.1).2) := cell_at hfZ rfl
    have HKT := Hid.mk hkZ
    have hg2 : (there F pre).map (·.1) = (List.range x.1).filter fun j => (F j).1 := by rw [there_val, hgood]
    clear hr hr2 hi hkt hZ hk hfZ hkZ hlX hlW hl hgood
    by_cases hx : (F x.1).1 = true
    · obtain ⟨fn, tmps, assign, body, hyy, hRd⟩ := deep (n - 1 - 1 - 1) (hY (there F pre) ⟨x.1, x.2, hx⟩ Z hJZ hg2)
      dsimp only at hyy
      rw [hx] at k0 hyy ⊢
      have HTY := Hid.mk (there_yes F pre x hx)
      clear hY hF hJZ hg2
      obtain ⟨s, hs⟩ : ∃ s, s = (F x.1).2 := ⟨_, rfl⟩
      rw [← hs] at k1 hyy ⊢
      clear hs
      have hn3 : 1 ≤ n - 1 - 1 := by omega
      have HN3 := Hid.mk hn3
      clear hn3
      gi_wp2
      refine ⟨fun _ => HN3.out, RoundIn.mono (F := Fence.wide.inRound l') hRd ?_⟩
      rintro e Y ⟨rfl, hJ3, hk3, hkf⟩
      gi_wp2
      exact ⟨keeps_up hkf hsz, hk3, by rw [HTY.out]; exact hJ3, HKT.out.trans hk3⟩
    · have hx2 : (F x.1).1 = false := by simpa using hx
      have HTN := Hid.mk (there_no F pre x hx)
      rw [hx2] at k0 ⊢
      clear hY hF hg2
      gi_wp2
      refine ⟨fun _ h => (by cases h), ?_⟩
      gi_wp2
      exact ⟨KeepsFrom.refl _ _, KT.refl _, by rw [HTN.out]; exact hJZ, HKT.out⟩
  case done =>
    rintro D ys X hD hys ⟨hi, hkt⟩ hK
    clear hz2 hT2 hc2 hy2 hJ2
    gi_wp2
    refine ⟨by simp, .inl ⟨_, _, rfl, run_takeDeferred hK, ?_⟩⟩
    exact ⟨_, results_none rfl _ _ _, ⟨_, rfl⟩, there F ys, by rw [there_val, hys], hJ.putObj _ hi (by omega) hK rfl⟩

set_option maxHeartbeats 4000000 in
set_option maxRecDepth 100000 in
theorem tall_nil (n : Nat) (hn : 6 ≤ n) (Bx : Nat) (w : World) (hB : w.heap[Bx]? = some (.cells #[.pointer none] 27 (0, 0))) :
    Gives n Try.prog 50 #[.pointer (some ⟨Bx, 0, none⟩)] (fun x : Ix 0 => #[.int .i64 (x.1 : Int), .agg #[.bool false, .string ⟨#[]⟩]]) KT (fun _ _ => True) (fun ys => ys = []) w := fun l J W hW hJ hY h0 => by
  have hB1 : W.heap[Bx]? = some (.cells #[.pointer none] 27 (0, 0)) := (hW.block Bx (Array.getElem?_eq_some_iff.1 hB).1).trans hB
  obtain ⟨W1, hW1⟩ : ∃ W1, W1 = W.alloc (.cells #[.func (.yield l) #[] #[]] 73) := ⟨_, rfl⟩
  have hz1 : W1.heap.size = W.heap.size + 1 := by rw [hW1]; simp
  have cB : (W.alloc (.cells #[.func (.yield l) #[] #[]] 73)).cell? ⟨Bx, 0, none⟩ = some (.pointer none) := cell_at ((Below.heap_alloc _ _ _ (Array.getElem?_eq_some_iff.1 hB1).1).trans hB1) rfl
  have hrow := row_nil W1
  have hn1 : 1 ≤ n := by omega
  have hJ1 : J [] W1 := by rw [hW1]; exact hJ.alloc _ h0
  refine callsIn_of_wp_marks Try.func50 rfl trivial ?_ rfl
  simp only [Try.ntmps50, List.size_toArray, List.length_cons, List.length_nil, Nat.reduceAdd, Nat.reduceSub, Array.replicate_succ, Array.replicate_zero, List.push_toArray, List.append_toArray, List.nil_append, List.cons_append]
  have HZ := Hid.mk hz1
  have HJ1 := Hid.mk hJ1
  clear hB hW hB1 hz1 hJ1 h0 hY
  gi_wp2_with fail
  rw [← hW1]
  clear hW1 cB
  refine ⟨trivial, (callsIn_wide.2 hrow).mono ?_⟩
  rintro e w1 ⟨rfl, hw1⟩
  rw [hw1]
  clear hw1 w1 hrow
  gi_wp2_with fail
  refine ⟨trivial, (all_in _ _ _).mono ?_⟩
  rintro e w1 ⟨rfl, hw1⟩
  rw [hw1]
  clear hw1 w1
  gi_wp2
  obtain ⟨C, hC⟩ : ∃ C, C = W1.heap.size := ⟨_, rfl⟩
  obtain ⟨W2, hW2⟩ : ∃ W2, W2 = W1.alloc (.cells #[.pointer none] 84) := ⟨_, rfl⟩
  have hz2 : W2.heap.size = W1.heap.size + 1 := by rw [hW2]; simp
  have hc2 : W2.heap[C]? = some (.cells #[.pointer none] 84 (0, 0)) := by rw [hW2, hC]; exact heap_new _ _
  have hJ2 : J [] W2 := by rw [hW2]; exact hJ.alloc _ HJ1.out
  have hsz : W.heap.size ≤ W2.heap.size := by rw [hz2, HZ.out]; omega
  rw [← hC, ← hW2]
  have hCl : C < W2.heap.size := by rw [hz2, hC]; exact Nat.lt_succ_self _
  clear hW2 hC HZ HJ1
  refine range_over (gf := 62) (lb := #[.pointer (some ⟨C, 0, none⟩)]) rfl (enters_of Try.func62 (by kernel_rfl) rfl)
    (all_none (n - 1) (by omega) C W2 hc2) (Below.refl _ _) (fun _ _ _ h k => h.trans k) (fun _ _ _ r' h => KT.put (.loop r') h rfl) (fun _ => rfl)
    (fun pre X => pre = [] ∧ J [] X) (fun s X Y row hs hg hr => ⟨hs.1, own_up hJ hsz [] X Y row hs.2 hg hr⟩) ⟨rfl, hJ2⟩ ?round ?done
  case round =>
    rintro l' pre x X r _ _ _ _
    exact absurd x.2 (by omega)
  case done =>
    rintro D ys X hD hys ⟨_, hi⟩ hK
    clear hz2 hc2 hJ2
    gi_wp2
    refine ⟨by simp, .inl ⟨_, _, rfl, run_takeDeferred hK, ?_⟩⟩
    exact ⟨_, results_none rfl _ _ _, ⟨_, rfl⟩, [], rfl, hJ.putObj _ hi (by omega) hK rfl⟩

end Go.Proofs.Ytdngehfebmaegaa.Tom
