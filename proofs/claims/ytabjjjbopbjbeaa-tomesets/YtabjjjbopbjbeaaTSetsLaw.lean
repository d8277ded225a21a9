/-
  TomeSets: for every list of sets and every number, the law returns true: in every row of sets each answer, all files, their versions, and the bytes, are the document's; a nil tome. No condition.
-/
import Derived.Test.YtabjjjbopbjbeaaTSame
import Derived.Test.YtabjjjbopbjbeaaTRefBytes
import Derived.Test.YtabjjjbopbjbeaaTEq
import Derived.Test.YtabjjjbopbjbeaaRRound2
namespace Go.Proofs.Ytabjjjbopbjbeaa.tomeSets
open Go.ChangeShapes Go.WideShapes Go.ChangeAt Go.RowKit Go.Deep Go.Shelf Go.Proofs.Ytabjjjbopbjbeaa.Cel Go.Proofs.Ytabjjjbopbjbeaa.Tom Go.Proofs.Ytabjjjbopbjbeaa.Rng
attribute [local go_sem] Oper.semAt_some

theorem ref0 : (refC F.none6).toArray = #[.bool false, .string ⟨#[]⟩, .bool false, .string ⟨#[]⟩, .bool false, .string ⟨#[]⟩, .bool false, .string ⟨#[]⟩, .bool false, .string ⟨#[]⟩, .bool false, .string ⟨#[]⟩,
    .int .i64 0, .int .i64 0, .int .i64 0, .int .i64 0, .int .i64 0, .int .i64 0] := rfl

/-- Blocks of unlike types are unlike. -/
theorem ne_of {w : World} {i j : Nat} {c1 c2 : Array Value} {t1 t2 : TypeId} {m1 m2 : Nat × Nat} (h1 : w.heap[i]? = some (.cells c1 t1 m1)) (h2 : w.heap[j]? = some (.cells c2 t2 m2)) (ht : t1 ≠ t2) : i ≠ j := fun e => by
  rw [e, h2] at h1
  injection h1 with h1
  injection h1 with _ h1
  exact ht h1.symm

/-- What lies between two steps: the tome, the document's tome, the law's own boxes. -/
structure Sv (P t b g m : Nat) (w0 w : World) (R Q : List ((Bool × ByteArray) × Int)) : Prop where
  ts : TomeAt w t b g R
  rm : RefAt w m Q
  pb : w.heap[P]? = some (.cells #[.pointer (some ⟨m, 0, none⟩)] 27 (0, 0))
  rb : w.heap[w0.heap.size]? = some (.cells #[.bool false] 4 (0, 0))
  bel : Below w0.heap.size w0 w
  lg : w0.heap.size ≤ g
  lm : w0.heap.size ≤ m

section
variable {P t b g m : Nat} {w0 w w' : World} {R Q R' : List ((Bool × ByteArray) × Int)}

theorem Sv.grown (h : Sv P t b g m w0 w R Q) (hb : Below w.heap.size w w') : Sv P t b g m w0 w' R Q :=
  ⟨h.ts.grown hb, h.rm.grown hb, (hb.block _ (Array.getElem?_eq_some_iff.1 h.pb).1).trans h.pb, (hb.block _ (Array.getElem?_eq_some_iff.1 h.rb).1).trans h.rb, h.bel.trans (hb.mono h.bel.size), h.lg, h.lm⟩
theorem Sv.box (h : Sv P t b g m w0 w R Q) (o : Obj) : Sv P t b g m w0 (w.alloc o) R Q := h.grown ((Below.refl _ w).alloc (Nat.le_refl _) o)
theorem Sv.drew (h : Sv P t b g m w0 w R Q) : Sv P t b g m w0 w.drew R Q := h.grown (Below.refl _ w).drew
theorem below_but {k : Nat} (h : Below w0.heap.size w0 w) (hb : But [k] w w') (hk : w0.heap.size ≤ k) : Below w0.heap.size w0 w' := h.trans (hb.below h.size (fun i hi => by
  have e : i = k := by simpa using hi
  rw [e]; exact hk))
theorem but_at {k i : Nat} {cs : Array Value} {ty : TypeId} {mm : Nat × Nat} (hb : But [k] w w') (h : w.heap[i]? = some (.cells cs ty mm)) (hne : i ≠ k) : w'.heap[i]? = some (.cells cs ty mm) :=
  (hb.block i (Array.getElem?_eq_some_iff.1 h).1 (by simpa using hne)).trans h

theorem Sv.setT (h : Sv P t b g m w0 w R Q) (hT : TomeAt w' t b g R') (hb : But [g] w w') : Sv P t b g m w0 w' R' Q :=
  ⟨hT, ⟨but_at hb h.rm.at_ (ne_of h.rm.at_ h.ts.row.row (by decide)), h.rm.len, h.rm.six⟩, but_at hb h.pb (ne_of h.pb h.ts.row.row (by decide)), but_at hb h.rb (ne_of h.rb h.ts.row.row (by decide)), below_but h.bel hb h.lg, h.lg, h.lm⟩
theorem Sv.setM (h : Sv P t b g m w0 w R Q) (hT : RefAt w' m R') (hb : But [m] w w') : Sv P t b g m w0 w' R R' := by
  obtain ⟨x1, x2, x3⟩ := h.rm.ne_tome h.ts
  exact ⟨h.ts.but hb (by simpa using x1) (by simpa using x2) (by simpa using x3), hT, but_at hb h.pb (ne_of h.pb h.rm.at_ (by decide)), but_at hb h.rb (ne_of h.rb h.rm.at_ (by decide)), below_but h.bel hb h.lm, h.lg, h.lm⟩

/-- A set's box, and where the document's tome is. -/
def Five (A P m : Nat) (q : Sx) (w : World) : Prop :=
  w.cell? ⟨A, 0, none⟩ = some (.int .i64 q.1) ∧ w.cell? ⟨A, 1, none⟩ = some (.bool q.2.1.1) ∧ w.cell? ⟨A, 2, none⟩ = some (.string q.2.1.2) ∧ w.cell? ⟨A, 3, none⟩ = some (.int .i64 q.2.2) ∧ w.cell? ⟨P, 0, none⟩ = some (.pointer (some ⟨m, 0, none⟩))

theorem Sv.five {A : Nat} {q : Sx} (h : Sv P t b g m w0 w R Q) (hA : w.heap[A]? = some (sxO q)) : Five A P m q w :=
  ⟨cell_at hA rfl, cell_at hA rfl, cell_at hA rfl, cell_at hA rfl, cell_at h.pb rfl⟩

/-- The six files, and their versions, as they lie. -/
theorem Sv.twelve (h : Sv P t b g m w0 w R Q) : ∃ f0 f1 f2 f3 f4 f5 : Bool × ByteArray, filesOf Q = [f0, f1, f2, f3, f4, f5] ∧
    (w.cell? ⟨m, 0, none⟩ = some (.bool f0.1) ∧ w.cell? ⟨m, 1, none⟩ = some (.string f0.2) ∧ w.cell? ⟨m, 2, none⟩ = some (.bool f1.1) ∧ w.cell? ⟨m, 3, none⟩ = some (.string f1.2) ∧
    w.cell? ⟨m, 4, none⟩ = some (.bool f2.1) ∧ w.cell? ⟨m, 5, none⟩ = some (.string f2.2) ∧ w.cell? ⟨m, 6, none⟩ = some (.bool f3.1) ∧ w.cell? ⟨m, 7, none⟩ = some (.string f3.2) ∧
    w.cell? ⟨m, 8, none⟩ = some (.bool f4.1) ∧ w.cell? ⟨m, 9, none⟩ = some (.string f4.2) ∧ w.cell? ⟨m, 10, none⟩ = some (.bool f5.1) ∧ w.cell? ⟨m, 11, none⟩ = some (.string f5.2)) := by
  obtain ⟨a, b, c, d, e, f, hQ⟩ := six_cases h.rm.len
  have hat := h.rm.at_
  subst hQ
  exact ⟨a.1, b.1, c.1, d.1, e.1, f.1, rfl, cell_at hat rfl, cell_at hat rfl, cell_at hat rfl, cell_at hat rfl, cell_at hat rfl, cell_at hat rfl, cell_at hat rfl, cell_at hat rfl, cell_at hat rfl, cell_at hat rfl, cell_at hat rfl, cell_at hat rfl⟩

theorem kept {B : Nat} {X Y : World} {row : Option Nat} (hg : X.grownBy Y row) (hr : ∀ r, row = some r → B ≤ r ∧ ∃ o : Obj, X.heap[r]? = some o ∧ o.isCells = false) {k : Nat} {cs : Array Value} {ty : TypeId} {mm : Nat × Nat} (hk : X.heap[k]? = some (.cells cs ty mm)) : Y.heap[k]? = some (.cells cs ty mm) :=
  (hg.block k (Array.getElem?_eq_some_iff.1 hk).1 (fun e => by
    obtain ⟨_, o, ho, hc⟩ := hr k e.symm
    rw [hk] at ho
    cases ho
    cases hc)).trans hk

theorem Sv.own {β : Type} (B : Nat) (hB : w0.heap.size ≤ B) : OwnFrom B (fun (_ : β) X => Sv P t b g m w0 X R Q) := fun s X Y row hs hg hr =>
  ⟨⟨kept hg hr hs.ts.at_, ⟨kept hg hr hs.ts.row.at_, kept hg hr hs.ts.row.row, hs.ts.row.short⟩, hs.ts.len, hs.ts.six⟩, ⟨kept hg hr hs.rm.at_, hs.rm.len, hs.rm.six⟩, kept hg hr hs.pb, kept hg hr hs.rb,
    ownFrom_below (β := β) (Nat.le_refl _) hB s X Y row hs.bel hg hr, hs.lg, hs.lm⟩

/-- A store into a box of the law's own. -/
theorem Sv.store {L : Nat} {c : Array Value} (h : Sv P t b g m w0 w R Q) (hL : w.heap[L]? = some (.cells c 3 (0, 0))) (hl : w0.heap.size ≤ L) (nq : Nat) (v : Value) : Sv P t b g m w0 ((w.drewN nq).setCell ⟨L, 0, none⟩ v) R Q := by
  have key : ∀ {k : Nat} {cs : Array Value} {ty : TypeId} {mm : Nat × Nat}, w.heap[k]? = some (.cells cs ty mm) → ty ≠ 3 → ((w.drewN nq).setCell ⟨L, 0, none⟩ v).heap[k]? = w.heap[k]? := fun hk ht => by
    rw [Below.heap_setCell _ _ _ _ (ne_of hk hL ht), heap_drewN]
  exact ⟨h.ts.keep (key h.ts.at_ (by decide)) (key h.ts.row.at_ (by decide)) (key h.ts.row.row (by decide)), h.rm.keep (key h.rm.at_ (by decide)), (key h.pb (by decide)).trans h.pb, (key h.rb (by decide)).trans h.rb,
    (show Below w0.heap.size w0 (w.drewN nq) from ⟨h.bel.os, h.bel.tape, h.bel.output, h.bel.size, h.bel.block⟩).setCell (p := ⟨L, 0, none⟩) hl v, h.lg, h.lm⟩
theorem store_kt {L : Nat} {c : Array Value} (hL : w.heap[L]? = some (.cells c 3 (0, 0))) (nq : Nat) (v : Value) : KT w ((w.drewN nq).setCell ⟨L, 0, none⟩ v) := fun k cs ty mm ht hk => by
  rw [Below.heap_setCell _ _ _ _ (ne_of hk hL (fun e => by subst e; exact absurd ht (by decide))), heap_drewN]
  exact hk
theorem store_keeps (B L : Nat) (nq : Nat) (v : Value) : KeepsFrom B w ((w.drewN nq).setCell ⟨L, 0, none⟩ v) := by
  have h := KeepsOthers.setCell (w.drewN nq) ⟨L, 0, none⟩ v
  exact ⟨by have := h.size; rw [heap_drewN] at this; exact this, fun k o _ hk ho => h.same k o (by rw [heap_drewN]; exact hk) ho⟩
theorem store_at {L : Nat} {u : Value} (hL : w.heap[L]? = some (.cells #[u] 3 (0, 0))) (nq : Nat) (v : Value) : ((w.drewN nq).setCell ⟨L, 0, none⟩ v).heap[L]? = some (.cells #[v] 3 (0, 0)) := by
  have h : (w.drewN nq).heap[L]? = some (.cells #[u] 3 (0, 0)) := by rw [heap_drewN]; exact hL
  rw [heap_set _ h]
  rfl

/-- Two stores into a file's box of the law's own. -/
theorem Sv.storeF {E : Nat} {c : Array Value} (h : Sv P t b g m w0 w R Q) (hE : w.heap[E]? = some (.cells c 34 (0, 0))) (hl : w0.heap.size ≤ E) (u v : Value) : Sv P t b g m w0 ((w.setCell ⟨E, 0, none⟩ u).setCell ⟨E, 1, none⟩ v) R Q := by
  have key : ∀ {k : Nat} {cs : Array Value} {ty : TypeId} {mm : Nat × Nat}, w.heap[k]? = some (.cells cs ty mm) → ty ≠ 34 → ((w.setCell ⟨E, 0, none⟩ u).setCell ⟨E, 1, none⟩ v).heap[k]? = w.heap[k]? := fun hk ht => by
    rw [Below.heap_setCell _ _ _ _ (ne_of hk hE ht), Below.heap_setCell _ _ _ _ (ne_of hk hE ht)]
  exact ⟨h.ts.keep (key h.ts.at_ (by decide)) (key h.ts.row.at_ (by decide)) (key h.ts.row.row (by decide)), h.rm.keep (key h.rm.at_ (by decide)), (key h.pb (by decide)).trans h.pb, (key h.rb (by decide)).trans h.rb,
    (h.bel.setCell (p := ⟨E, 0, none⟩) hl u).setCell (p := ⟨E, 1, none⟩) hl v, h.lg, h.lm⟩
theorem def_own {β : Type} (B D : Nat) (hD : D < B) : OwnFrom B (fun (_ : β) X => X.heap[D]? = some (.deferred (some []))) := fun _ X Y row hs hg hr =>
  (hg.block D (Array.getElem?_eq_some_iff.1 hs).1 (fun e => by have := (hr D e.symm).1; omega)).trans hs

/-- What the law's last region reads. -/
theorem Sv.all14 {E : Nat} {i0 i1 i2 i3 i4 i5 : Bool} {s0 s1 s2 s3 s4 s5 : ByteArray} (h : Sv P t b g m w0 w R Q) (hfs : filesOf Q = [(i0, s0), (i1, s1), (i2, s2), (i3, s3), (i4, s4), (i5, s5)]) (hE : w.heap[E]? = some (.cells #[.bool false, .string ⟨#[]⟩] 34 (0, 0))) :
    w.cell? ⟨P, 0, none⟩ = some (.pointer (some ⟨m, 0, none⟩)) ∧ w.cell? ⟨E, 0, none⟩ = some (.bool false) ∧ w.cell? ⟨m, 0, none⟩ = some (.bool i0) ∧ w.cell? ⟨m, 1, none⟩ = some (.string s0) ∧ w.cell? ⟨m, 2, none⟩ = some (.bool i1) ∧ w.cell? ⟨m, 3, none⟩ = some (.string s1) ∧ w.cell? ⟨m, 4, none⟩ = some (.bool i2) ∧ w.cell? ⟨m, 5, none⟩ = some (.string s2) ∧ w.cell? ⟨m, 6, none⟩ = some (.bool i3) ∧ w.cell? ⟨m, 7, none⟩ = some (.string s3) ∧ w.cell? ⟨m, 8, none⟩ = some (.bool i4) ∧ w.cell? ⟨m, 9, none⟩ = some (.string s4) ∧ w.cell? ⟨m, 10, none⟩ = some (.bool i5) ∧ w.cell? ⟨m, 11, none⟩ = some (.string s5) := by
  obtain ⟨f0, f1, f2, f3, f4, f5, hgs, y0, y1, y2, y3, y4, y5, y6, y7, y8, y9, y10, y11⟩ := h.twelve
  rw [hfs] at hgs
  simp only [List.cons.injEq, and_true] at hgs
  obtain ⟨e0, e1, e2, e3, e4, e5⟩ := hgs
  rw [← e0] at y0 y1
  rw [← e1] at y2 y3
  rw [← e2] at y4 y5
  rw [← e3] at y6 y7
  rw [← e4] at y8 y9
  rw [← e5] at y10 y11
  exact ⟨cell_at h.pb rfl, cell_at hE rfl, y0, y1, y2, y3, y4, y5, y6, y7, y8, y9, y10, y11⟩
theorem keep14 {E : Nat} {i0 i1 i2 i3 i4 i5 : Bool} {s0 s1 s2 s3 s4 s5 : ByteArray} (hP : w'.heap[P]? = w.heap[P]?) (hE : w'.heap[E]? = w.heap[E]?) (hm : w'.heap[m]? = w.heap[m]?) (h : w.cell? ⟨P, 0, none⟩ = some (.pointer (some ⟨m, 0, none⟩)) ∧ w.cell? ⟨E, 0, none⟩ = some (.bool false) ∧ w.cell? ⟨m, 0, none⟩ = some (.bool i0) ∧ w.cell? ⟨m, 1, none⟩ = some (.string s0) ∧ w.cell? ⟨m, 2, none⟩ = some (.bool i1) ∧ w.cell? ⟨m, 3, none⟩ = some (.string s1) ∧ w.cell? ⟨m, 4, none⟩ = some (.bool i2) ∧ w.cell? ⟨m, 5, none⟩ = some (.string s2) ∧ w.cell? ⟨m, 6, none⟩ = some (.bool i3) ∧ w.cell? ⟨m, 7, none⟩ = some (.string s3) ∧ w.cell? ⟨m, 8, none⟩ = some (.bool i4) ∧ w.cell? ⟨m, 9, none⟩ = some (.string s4) ∧ w.cell? ⟨m, 10, none⟩ = some (.bool i5) ∧ w.cell? ⟨m, 11, none⟩ = some (.string s5)) :
    w'.cell? ⟨P, 0, none⟩ = some (.pointer (some ⟨m, 0, none⟩)) ∧ w'.cell? ⟨E, 0, none⟩ = some (.bool false) ∧ w'.cell? ⟨m, 0, none⟩ = some (.bool i0) ∧ w'.cell? ⟨m, 1, none⟩ = some (.string s0) ∧ w'.cell? ⟨m, 2, none⟩ = some (.bool i1) ∧ w'.cell? ⟨m, 3, none⟩ = some (.string s1) ∧ w'.cell? ⟨m, 4, none⟩ = some (.bool i2) ∧ w'.cell? ⟨m, 5, none⟩ = some (.string s2) ∧ w'.cell? ⟨m, 6, none⟩ = some (.bool i3) ∧ w'.cell? ⟨m, 7, none⟩ = some (.string s3) ∧ w'.cell? ⟨m, 8, none⟩ = some (.bool i4) ∧ w'.cell? ⟨m, 9, none⟩ = some (.string s4) ∧ w'.cell? ⟨m, 10, none⟩ = some (.bool i5) ∧ w'.cell? ⟨m, 11, none⟩ = some (.string s5) := by
  obtain ⟨a0, a1, y0, y1, y2, y3, y4, y5, y6, y7, y8, y9, y10, y11⟩ := h
  exact ⟨(World.cell?_of_block hP).trans a0, (World.cell?_of_block hE).trans a1, (World.cell?_of_block hm).trans y0, (World.cell?_of_block hm).trans y1, (World.cell?_of_block hm).trans y2, (World.cell?_of_block hm).trans y3, (World.cell?_of_block hm).trans y4, (World.cell?_of_block hm).trans y5, (World.cell?_of_block hm).trans y6, (World.cell?_of_block hm).trans y7, (World.cell?_of_block hm).trans y8, (World.cell?_of_block hm).trans y9, (World.cell?_of_block hm).trans y10, (World.cell?_of_block hm).trans y11⟩

theorem box_own {β : Type} (B k : Nat) (ty : TypeId) (v : β → Array Value) : OwnFrom B (fun (s : β) X => X.heap[k]? = some (.cells (v s) ty (0, 0))) := fun _ _ _ _ hs hg hr => kept hg hr hs

end

/-- The last of some numbers; -1 of none. -/
def lastOf (l : List Nat) : Int := (l.getLast?.map fun n => (n : Int)).getD (-1)

theorem lastOf_snoc (l : List Nat) (j : Nat) : lastOf (l ++ [j]) = (j : Int) := by simp [lastOf]
theorem lastOf_lt (l : List Nat) (n : Nat) (h : ∀ j, j ∈ l → j < n) : lastOf l < (n : Int) := by
  unfold lastOf
  cases e : l.getLast? with
  | none => simp; omega
  | some j =>
    have := h j (List.mem_of_getLast? e)
    simp
    omega

set_option maxHeartbeats 8000000 in
set_option maxRecDepth 100000 in
theorem walk (a : Option Addr) (len cap : Nat) (cs : List Sx) (other : Int) (w : World) (h : IsSx w a len cap cs) (_ : (Lit.int .i64 other).wf = true) :
    Calls Try.prog 3 #[.slice a len cap, .int .i64 other] w fun e w' => e = .returned (.bool true) ∧ Below w.heap.size w w' := by
  have H := Hid.mk h
  clear h
  refine (callsIn_wide (n := 14)).1 ?_
  refine callsIn_of_wp_marks Try.func3 rfl trivial ?_ rfl
  simp only [Try.ntmps3, List.size_toArray, List.length_cons, List.length_nil, Nat.reduceAdd, Nat.reduceSub, Array.replicate_succ, Array.replicate_zero, List.push_toArray, List.append_toArray, List.nil_append, List.cons_append]
  gi_wp2_with fail
  refine ⟨trivial, (callsIn_wide.2 (alive_any _)).mono ?_⟩
  rintro e w1 ⟨rfl, hb1⟩
  have hr1 : w1.heap[w.heap.size]? = some (.cells #[.bool false] 4 (0, 0)) := (hb1.block _ (by simp)).trans (heap_new w _)
  have hbw : Below w.heap.size w w1 := ((Below.refl _ w).alloc (Nat.le_refl _) (.cells #[.bool false] 4)).trans (hb1.mono (by simp))
  have HB1 := Hid.mk hbw
  have HR1 := Hid.mk hr1
  clear hb1 hr1 hbw
  gi_wp2_with fail
  refine ⟨trivial, (callsIn_wide.2 (great_any a len cap cs w1 (H.out.grown HB1.out))).mono ?_⟩
  rintro e w2 ⟨⟨G, rfl, hG⟩, hb2⟩
  have HB2 := Hid.mk (HB1.out.trans (hb2.mono HB1.out.size))
  have hr2 : w2.heap[w.heap.size]? = some (.cells #[.bool false] 4 (0, 0)) := (hb2.block _ (Array.getElem?_eq_some_iff.1 HR1.out).1).trans HR1.out
  have HR2 := Hid.mk hr2
  clear hb2 HR1
  cases G with
  | true =>
    have cr : w2.cell? ⟨w.heap.size, 0, none⟩ = some (.bool false) := cell_at hr2 rfl
    have fr : w2.frozen? ⟨w.heap.size, 0, none⟩ = false := free_at hr2
    clear hr2
    gi_wp2
    have hc5 := World.cell?_setCell_same' w2 ⟨w.heap.size, 0, none⟩ (.bool true) (by rw [cr]; rfl)
    refine ⟨.bool true, ?_, rfl, HB2.out.setCell (p := ⟨w.heap.size, 0, none⟩) (Nat.le_refl _) _⟩
    simp [results, Try.f3, go_sem, hc5]
  | false =>
    have h40 := hG rfl
    clear hG hr2
    gi_wp2_with fail
    refine ⟨trivial, (callsIn_wide.2 (new_any w2)).mono ?_⟩
    rintro e w3 ⟨t, b, g, rfl, hT, hb3, _, _, hg⟩
    have HG : Hid (w.heap.size ≤ g) := Hid.mk (Nat.le_trans HB2.out.size hg)
    obtain ⟨w4, hw4⟩ : ∃ w4, w4 = (w3.alloc (.cells (refC F.none6).toArray 33)).alloc (.cells #[.pointer (some ⟨w3.heap.size, 0, none⟩)] 27) := ⟨_, rfl⟩
    have hs : Sv (w3.heap.size + 1) t b g w3.heap.size w w4 F.none6 F.none6 := by
      have hal : ∀ (z : World) (o : Obj), Below z.heap.size z (z.alloc o) := fun z o => (Below.refl _ z).alloc (Nat.le_refl _) o
      have e1 := RefAt.new w3
      have e2 := heap_new (w3.alloc (.cells (refC F.none6).toArray 33)) (.cells #[.pointer (some ⟨w3.heap.size, 0, none⟩)] 27)
      rw [World.size_alloc] at e2
      have hb34 : Below w3.heap.size w3 w4 := by rw [hw4]; exact (hal _ _).alloc (by simp) _
      have hbe : Below w.heap.size w w3 := HB2.out.trans (hb3.mono HB2.out.size)
      refine ⟨hT.grown hb34, by rw [hw4]; exact e1.grown (hal _ _), by rw [hw4]; exact e2, ?_, hbe.trans (hb34.mono hbe.size), HG.out, hbe.size⟩
      have hr3 : w3.heap[w.heap.size]? = some (.cells #[.bool false] 4 (0, 0)) := (hb3.block _ (Array.getElem?_eq_some_iff.1 HR2.out).1).trans HR2.out
      exact (hb34.block _ (Array.getElem?_eq_some_iff.1 hr3).1).trans hr3
    have HS := Hid.mk hs
    rw [ref0] at hw4
    clear hs hT hb3 hg HR2
    gi_wp2_with fail
    obtain ⟨P, hP⟩ : ∃ P, P = w3.heap.size + 1 := ⟨_, rfl⟩
    obtain ⟨m, hm⟩ : ∃ m, m = w3.heap.size := ⟨_, rfl⟩
    rw [← hw4, ← hP]
    rw [← hP, ← hm] at HS
    clear hw4 hP hm
    gi_loopw [8, 9, 10, 11, 12, 28] (fun _ _ _ _ _ idx wr => ∃ (j : Nat) (R : List ((Bool × ByteArray) × Int)), j ≤ len ∧ idx = .int .i64 j ∧ Sv P t b g m w wr R R) (fun _ _ _ _ _ idx _ => len - (intOf idx).toNat)
    case atStart => exact ⟨0, _, Nat.zero_le _, rfl, HS.out⟩
    case round =>
      clear HS
      obtain ⟨j, R, hj, rfl, hv⟩ := hrel
      by_cases hlt : j < len
      · obtain ⟨gl, off, rfl, hat⟩ := (H.out.grown hv.bel).at_ (by omega)
        have hjl : j < cs.length := by rw [H.out.1]; exact hlt
        obtain ⟨c0, c1, c2, c3⟩ := hat.cells j hjl
        obtain ⟨q, hq⟩ : ∃ q : Sx, q = cs[j]! := ⟨_, rfl⟩
        rw [← hq] at c0 c1 c2 c3
        have hvz := hv.box (sxO q)
        have hbx := heap_new wr (sxO q)
        obtain ⟨q0, ⟨q1, q2⟩, q3⟩ := q
        obtain ⟨Z, hZ⟩ : ∃ Z, Z = wr.alloc (.cells #[.int .i64 q0, .bool q1, .string q2, .int .i64 q3] 36) := ⟨_, rfl⟩
        obtain ⟨A, hA⟩ : ∃ A, A = wr.heap.size := ⟨_, rfl⟩
        have hS0 : ∀ z, (z = Z ∨ z = Z.drew) → Sv P t b g m w z R R ∧ z.heap[A]? = some (sxO (q0, (q1, q2), q3)) := fun z hz => by
          have h1 : Sv P t b g m w Z R R := by rw [hZ]; exact hvz
          have h2 : Z.heap[A]? = some (sxO (q0, (q1, q2), q3)) := by rw [hZ, hA]; exact hbx
          rcases hz with rfl | rfl
          · exact ⟨h1, h2⟩
          · exact ⟨h1.drew, h2⟩
        have HS0 := Hid.mk hS0
        have HZA := Hid.mk hZ
        have HAA := Hid.mk hA
        clear hq hvz hbx hat hjl hv hS0 hZ hA
        gi_wp2_with fail
        rw [← HZA.out, ← HAA.out]
        clear HZA HAA c0 c1 c2 c3
        have hS := (HS0.out Z (.inl rfl)).1.five (HS0.out Z (.inl rfl)).2
        refine Code.wpIn_mono NoPanic.imp ?_
        refine wpIn_wide.2 ?_
        go_region_held3 (fun wx => wx.cell? ⟨A, 0, none⟩ = some (.int .i64 q0) ∧ wx.cell? ⟨A, 1, none⟩ = some (.bool q1) ∧ wx.cell? ⟨A, 2, none⟩ = some (.string q2) ∧ wx.cell? ⟨A, 3, none⟩ = some (.int .i64 q3) ∧ wx.cell? ⟨P, 0, none⟩ = some (.pointer (some ⟨m, 0, none⟩)))
          (first
            | exact hS
            | exact hS2
            | exact hS1
            | fail)
          (first
            | (have := m1; go_at_call 11; refine (refSet_any hv1.rm q0 (q1, q2) q3).mono ?_; rintro e z2 ⟨rfl, hT2, hbm⟩; have hv2 := hv1.setM hT2 hbm; have hA2 := but_at hbm hA1 (ne_of hA1 hv1.rm.at_ (by decide)); have hS2 := hv2.five hA2)
            | (go_at_call 10; refine (set_any (HS0.out _ (by first | exact .inl rfl | exact .inr rfl)).1.ts q0 (q1, q2) q3).mono ?_; rintro e z1 ⟨rfl, hT1, hbt⟩; have hv1 : Sv P t b g m w z1 (setR R q0 (q1, q2) q3) R := (by first | exact (HS0.out Z.drew (.inr rfl)).1.setT hT1 hbt | exact (HS0.out Z (.inl rfl)).1.setT hT1 hbt); have hA1 : z1.heap[A]? = some (sxO (q0, (q1, q2), q3)) := (by first | exact but_at hbt (HS0.out Z.drew (.inr rfl)).2 (ne_of (HS0.out Z.drew (.inr rfl)).2 (HS0.out Z.drew (.inr rfl)).1.ts.row.row (by decide)) | exact but_at hbt (HS0.out Z (.inl rfl)).2 (ne_of (HS0.out Z (.inl rfl)).2 (HS0.out Z (.inl rfl)).1.ts.row.row (by decide))); have hS1 := hv1.five hA1; have m1 := Hid.mk trivial))
        refine NoPanic.normal ?_
        obtain ⟨R2, hR2⟩ : ∃ R2, R2 = setR R q0 (q1, q2) q3 := ⟨_, rfl⟩
        obtain ⟨ok, hok⟩ : ∃ ok, ok = okS q0 (q1, q2) := ⟨_, rfl⟩
        rw [← hR2] at hv2
        rw [← hok]
        have HV := Hid.mk hv2
        obtain ⟨f0, f1, f2, f3, f4, f5, hfs, y0, y1, y2, y3, y4, y5, y6, y7, y8, y9, y10, y11⟩ := hv2.twelve
        have hx6 := idx_six (F := filesOf R2) hv2.rm.six.len
        have hcf : (filesC (filesOf R2)).toArray = #[.bool f0.1, .string f0.2, .bool f1.1, .string f1.2, .bool f2.1, .string f2.2, .bool f3.1, .string f3.2, .bool f4.1, .string f4.2, .bool f5.1, .string f5.2] := by rw [hfs]; rfl
        rw [hcf] at hx6
        obtain ⟨i0, s0⟩ := f0
        obtain ⟨i1, s1⟩ := f1
        obtain ⟨i2, s2⟩ := f2
        obtain ⟨i3, s3⟩ := f3
        obtain ⟨i4, s4⟩ := f4
        obtain ⟨i5, s5⟩ := f5
        have HX6 := Hid.mk hx6
        have cp : z2.cell? ⟨P, 0, none⟩ = some (.pointer (some ⟨m, 0, none⟩)) := cell_at hv2.pb rfl
        clear hR2 hok hv1 hv2 hT1 hT2 hbt hbm hS hS1 hS2 hA1 hA2 m1 HS0 hfs hcf hx6
        gi_wp2
        gi_loopw [9, 10, 11, 12, 53] (fun _ _ _ _ idx wr => ∃ k : Nat, k ≤ 6 ∧ idx = .int .i64 k ∧ Sv P t b g m w wr R2 R2) (fun _ _ _ _ idx _ => 6 - (intOf idx).toNat)
        case atStart => exact ⟨0, Nat.zero_le _, rfl, HV.out⟩
        case round =>
          clear HV y0 y1 y2 y3 y4 y5 y6 y7 y8 y9 y10 y11 cp
          obtain ⟨k, hk, rfl, hv⟩ := hrel
          by_cases hk6 : k < 6
          · have hx : ∀ z, (Instr.index 30 (.agg #[.bool i0, .string s0, .bool i1, .string s1, .bool i2, .string s2, .bool i3, .string s3, .bool i4, .string s4, .bool i5, .string s5]) (.int .i64 (k : Int))).run Try.prog z = .ok (.agg #[.bool R2[k]!.1.1, .string R2[k]!.1.2]) z := fun z => by
              have h := HX6.out k hk6 z
              rw [files_get R2 k (by rw [hv.ts.len]; exact hk6)] at h
              exact h
            have C2 := get_yes (hv.box (.cells #[.bool R2[k]!.1.1, .string R2[k]!.1.2] 29)).ts k hk6
            have hvz := hv.box (.cells #[.bool R2[k]!.1.1, .string R2[k]!.1.2] 29)
            have hnz := heap_new wr (.cells #[.bool R2[k]!.1.1, .string R2[k]!.1.2] 29)
            have hver : ∀ z, Sv P t b g m w z R2 R2 → z.cell? ⟨m, 12 + k, none⟩ = some (.int .i64 R2[k]!.2) := fun z hz => hz.rm.ver k hk6
            obtain ⟨p, hp⟩ : ∃ p, p = R2[k]!.1.1 := ⟨_, rfl⟩
            obtain ⟨q, hq⟩ : ∃ q, q = R2[k]!.1.2 := ⟨_, rfl⟩
            obtain ⟨vv, hvv⟩ : ∃ q, q = R2[k]!.2 := ⟨_, rfl⟩
            rw [← hp, ← hq, ← hvv] at C2
            rw [← hp, ← hq] at hvz hnz
            rw [← hp, ← hq] at hx
            rw [← hvv] at hver
            have HC2 := Hid.mk C2
            have HVZ := Hid.mk hvz
            have HNZ := Hid.mk hnz
            have HVER := Hid.mk hver
            clear C2 hvz hnz hp hq hvv hver hv
            gi_wp2_with fail
            refine ⟨trivial, (callsIn_wide.2 HC2.out).mono ?_⟩
            rintro e w6 ⟨rfl, hb6⟩
            have HV6 := Hid.mk (HVZ.out.grown hb6)
            have hn6 := (hb6.block wr.heap.size (by simp)).trans HNZ.out
            obtain ⟨B, hB⟩ : ∃ B, B = wr.heap.size := ⟨_, rfl⟩
            rw [← hB] at hn6 ⊢
            have HV7 := Hid.mk (HV6.out.box (.cells #[.bool p, .string q] 34))
            have u0 : (w6.alloc (.cells #[.bool p, .string q] 34)).cell? ⟨B, 0, none⟩ = some (.bool p) := cell_at ((Below.heap_alloc _ _ _ (Array.getElem?_eq_some_iff.1 hn6).1).trans hn6) rfl
            have u1 : (w6.alloc (.cells #[.bool p, .string q] 34)).cell? ⟨B, 1, none⟩ = some (.string q) := cell_at ((Below.heap_alloc _ _ _ (Array.getElem?_eq_some_iff.1 hn6).1).trans hn6) rfl
            have u2 : (w6.alloc (.cells #[.bool p, .string q] 34)).cell? ⟨P, 0, none⟩ = some (.pointer (some ⟨m, 0, none⟩)) := cell_at HV7.out.pb rfl
            have u3 : (w6.alloc (.cells #[.bool p, .string q] 34)).cell? ⟨m, 12 + k, none⟩ = some (.int .i64 vv) := HVER.out _ HV7.out
            clear hB hn6 hb6 HC2 HVZ HNZ HV6 hx HVER
            gi_wp2
            go_roundw
            case rel => exact ⟨k + 1, by omega, by go_num, HV7.out⟩
            case measure => simp [intOf]; omega
          · have hge : (6 : Int) ≤ (k : Int) := by omega
            have HVE := Hid.mk hv
            clear hv HX6
            gi_wp2
            go_roundw
            case rel => exact ⟨j + 1, R2, by omega, by go_num, HVE.out⟩
            case measure => simp [intOf]; omega
      · have hge : (len : Int) ≤ (j : Int) := by omega
        have HV := Hid.mk hv
        clear hv hj hlt
        have HF2 : Hid (∀ j, j < 6 → R[j]!.1 = (filesOf R)[j]!) := Hid.mk (fun j hj => (files_get R j (by rw [HV.out.ts.len]; exact hj)).symm)
        obtain ⟨F, hF⟩ : ∃ F : Nat → Bool × ByteArray, F = fun j => (filesOf R)[j]! := ⟨_, rfl⟩
        have HF : Hid (∀ j, j < 6 → R[j]!.1 = F j) := Hid.mk (by rw [hF]; exact HF2.out)
        clear hF HF2
        gi_wp2_with fail
        refine ⟨trivial, (tall_in _ _ _).mono ?_⟩
        rintro e w5 ⟨rfl, hw5⟩
        obtain ⟨L, hL⟩ : ∃ L, L = wr.heap.size := ⟨_, rfl⟩
        have hv5 : Sv P t b g m w w5 R R := by rw [hw5]; exact (HV.out.box _).box _
        have hl5 : w5.heap[L]? = some (.cells #[.int .i64 (-1)] 3 (0, 0)) := by
          rw [hw5, hL]
          exact (Below.heap_alloc _ _ _ (by simp)).trans (heap_new _ _)
        have hc5 : w5.heap[L + 1]? = some (.cells #[.pointer (some ⟨t, 0, none⟩)] 25 (0, 0)) := by
          have h := heap_new (wr.alloc (.cells #[.int .i64 (-1)] 3)) (.cells #[.pointer (some ⟨t, 0, none⟩)] 25)
          rw [World.size_alloc, ← hL, ← hw5] at h
          exact h
        have hz5 : (wr.alloc (.cells #[.int .i64 (-1)] 3)).heap.size = L + 1 := by rw [hL]; simp
        rw [hz5, ← hL]
        have HLL := Hid.mk hL
        have HWR := Hid.mk (HV.out.bel.size)
        have HV5 := Hid.mk hv5
        have HL5 := Hid.mk hl5
        have HC5 := Hid.mk hc5
        clear hw5 hL hz5 hv5 hl5 hc5 HV
        gi_wp2
        have HLW : Hid (w.heap.size ≤ L) := Hid.mk (by rw [HLL.out]; exact HWR.out)
        refine range_over (gf := 24) (lb := #[.pointer (some ⟨L + 1, 0, none⟩)]) rfl (enters_of Try.func24 (by kernel_rfl) rfl)
          (tall_gives 13 (by omega) (L + 1) t b g F R w5 HC5.out HV5.out.ts HF.out) (Below.refl _ _) (fun _ _ _ h k => h.trans k) (fun _ _ _ r' h => KT.put (.loop r') h rfl) (fun _ => rfl)
          (fun pre X => Sv P t b g m w X R R ∧ X.heap[L]? = some (.cells #[.int .i64 (lastOf (pre.map (·.1)))] 3 (0, 0)))
          (OwnFrom.and (Sv.own _ HV5.out.bel.size) (box_own _ L 3 (fun pre : List (Nx F) => #[.int .i64 (lastOf (pre.map (·.1)))]))) ⟨HV5.out, HL5.out⟩ ?round ?done
        case round =>
          rintro l pre x X r hl hr ⟨hv, hL⟩ hgood
          have HLT : Hid (lastOf (pre.map (·.1)) < (x.1 : Int)) := Hid.mk (lastOf_lt _ _ (fun j hj => by
            rw [hgood] at hj
            simpa using (List.mem_filter.1 hj).1))
          have hlX : l < X.heap.size := (Array.getElem?_eq_some_iff.1 hr).1
          have hlw : w.heap.size ≤ l := Nat.le_trans HV5.out.bel.size hl
          have HSN := Hid.mk (lastOf_snoc (pre.map (·.1)) x.1)
          clear hgood
          gi_wp2
          refine ⟨(KeepsOthers.alloc _ _).from _, KT.alloc _ _, fun r' => ?_⟩
          have hr2 : (X.alloc (.cells #[.bool (F x.1).1, .string (F x.1).2] 34)).heap[l]? = some (.loop r) := (Below.heap_alloc _ _ _ hlX).trans hr
          obtain ⟨Z, hZ⟩ : ∃ Z, Z = (X.alloc (.cells #[.bool (F x.1).1, .string (F x.1).2] 34)).putObj l (.loop r') := ⟨_, rfl⟩
          have hvZ : Sv P t b g m w Z R R := by rw [hZ]; exact (Sv.own (β := Unit) w.heap.size (Nat.le_refl _)).putObj (s := ()) _ (hv.box _) hlw hr2 rfl
          have hLZ : Z.heap[L]? = some (.cells #[.int .i64 (lastOf (pre.map (·.1)))] 3 (0, 0)) := by
            rw [hZ]
            have hL2 : (X.alloc (.cells #[.bool (F x.1).1, .string (F x.1).2] 34)).heap[L]? = some (.cells #[.int .i64 (lastOf (pre.map (·.1)))] 3 (0, 0)) := (Below.heap_alloc _ _ _ (Array.getElem?_eq_some_iff.1 hL).1).trans hL
            exact (box_own 0 L 3 (fun _ : Unit => #[.int .i64 (lastOf (pre.map (·.1)))])).putObj (s := ()) _ hL2 (Nat.zero_le _) hr2 rfl
          have hfZ : FBox Z X.heap.size (F x.1) := by
            rw [hZ]
            exact (World.putObj_heap_other (Nat.ne_of_gt hlX)).trans (heap_new _ _)
          obtain ⟨B, hB⟩ : ∃ B, B = X.heap.size := ⟨_, rfl⟩
          rw [← hZ, ← hB]
          rw [← hB] at hfZ
          have hj6 : x.1 < 6 := x.2.1
          have hRF := HF.out x.1 hj6
          have k0 := hvZ.rm.is x.1 hj6
          have k1 := hvZ.rm.text x.1 hj6
          rw [hRF, x.2.2] at k0
          rw [hRF] at k1
          unfold FBox at hfZ
          rw [x.2.2] at hfZ ⊢
          have HMAP : Hid (lastOf ((pre ++ [x]).map (·.1)) = (x.1 : Int)) := Hid.mk (by rw [List.map_append]; exact HSN.out)
          obtain ⟨s, hs⟩ : ∃ s, s = (F x.1).2 := ⟨_, rfl⟩
          rw [← hs] at k1 hfZ ⊢
          obtain ⟨la, hla⟩ : ∃ la, la = lastOf (pre.map (·.1)) := ⟨_, rfl⟩
          rw [← hla] at hLZ HLT
          have q0 : Z.cell? ⟨B, 0, none⟩ = some (.bool true) := cell_at hfZ rfl
          have q1 : Z.cell? ⟨B, 1, none⟩ = some (.string s) := cell_at hfZ rfl
          have q2 : Z.cell? ⟨L, 0, none⟩ = some (.int .i64 la) := cell_at hLZ rfl
          have q3 : Z.frozen? ⟨L, 0, none⟩ = false := free_at hLZ
          have q4 : Z.cell? ⟨P, 0, none⟩ = some (.pointer (some ⟨m, 0, none⟩)) := cell_at hvZ.pb rfl
          have HVZ := Hid.mk hvZ
          have HLZ := Hid.mk hLZ
          clear hr hr2 hv hL hZ hvZ hLZ hfZ hB hRF hs hla hlX hlw hl HSN
          obtain ⟨j, hj⟩ : ∃ j : Nat, j = x.1 := ⟨_, rfl⟩
          rw [← hj] at k0 k1 hj6 HLT ⊢
          have HJ := Hid.mk hj
          clear hj
          have d1 : decide ((j : Int) ≤ la) = false := decide_eq_false (by have := HLT.out; omega)
          have d2 : ¬ (j : Int) ≤ la := by have := HLT.out; omega
          gi_wp2_with fail
          refine wpIn_quiet_round _ rfl (by kernel_rfl) (by kernel_rfl) (by kernel_rfl) ?_
          repeat (gi_big_quiet_step (fail))
          refine wpQuietIn_nil ?_
          rintro _ ⟨nq, rfl⟩
          have HY1 := Hid.mk (HVZ.out.store HLZ.out HLW.out nq (.int .i64 (j : Int)))
          have HY2 := Hid.mk (store_kt HLZ.out nq (.int .i64 (j : Int)))
          have HY3 := Hid.mk (store_keeps (w := Z) w5.heap.size L nq (.int .i64 (j : Int)))
          have HY4 := Hid.mk (store_at HLZ.out nq (.int .i64 (j : Int)))
          gi_wp2
          exact ⟨HY3.out, HY2.out, HY1.out, by rw [HMAP.out, ← HJ.out]; exact HY4.out⟩
        case done =>
          rintro D ys X hD hys ⟨hv, _⟩ hK
          obtain ⟨x, y, v, hg, hz⟩ : ∃ (x : Bool) (y : ByteArray) (v : Int), Calls Try.prog 12 #[.pointer (some ⟨t, 0, none⟩), .int .i64 other] X (fun e w' => e = .returned (.tuple #[.agg #[.bool x, .string y], .int .i64 v]) ∧ Below X.heap.size X w') ∧ ((other < 0 ∨ 5 < other) → x = false ∧ y = ⟨#[]⟩ ∧ v = 0) := by
            by_cases ho : 0 ≤ other ∧ other < 6
            · obtain ⟨k, rfl⟩ : ∃ k : Nat, other = (k : Int) := ⟨other.toNat, by omega⟩
              exact ⟨_, _, _, get_yes hv.ts k (by omega), fun h => by omega⟩
            · exact ⟨_, _, _, get_no hv.ts other ho, fun _ => ⟨rfl, rfl, rfl⟩⟩
          have HV6 := Hid.mk hv
          have HG2 := Hid.mk hg
          clear hg hv hys
          gi_wp2_with fail
          refine ⟨trivial, (callsIn_wide.2 HG2.out).mono ?_⟩
          rintro e w7 ⟨rfl, hb7⟩
          have HV8 := Hid.mk ((HV6.out.grown hb7).box (.cells #[.bool x, .string y] 34))
          have hK7 : w7.heap[D]? = some (.deferred (some [])) := (hb7.block D (Array.getElem?_eq_some_iff.1 hK).1).trans hK
          have hK8 : (w7.alloc (.cells #[.bool x, .string y] 34)).heap[D]? = some (.deferred (some [])) := (Below.heap_alloc _ _ _ (Array.getElem?_eq_some_iff.1 hK7).1).trans hK7
          have hf8 := heap_new w7 (.cells #[.bool x, .string y] 34)
          obtain ⟨w8, hw8⟩ : ∃ w8, w8 = w7.alloc (.cells #[.bool x, .string y] 34) := ⟨_, rfl⟩
          obtain ⟨E, hE⟩ : ∃ E, E = w7.heap.size := ⟨_, rfl⟩
          rw [← hw8] at HV8 hK8 hf8
          rw [← hE] at hf8
          have HK8 := Hid.mk hK8
          have HF8 := Hid.mk hf8
          have HW8 := Hid.mk hw8
          have HE8 := Hid.mk hE
          have HEL : Hid (w.heap.size ≤ E) := Hid.mk (by rw [hE]; exact (HV6.out.grown hb7).bel.size)
          clear hb7 hK hK7 hK8 hw8 hE hf8 HG2 HV6
          have hways : (other < 0 ∧ x = false ∧ y = ⟨#[]⟩ ∧ v = 0) ∨ (¬ other < 0 ∧ 5 < other ∧ x = false ∧ y = ⟨#[]⟩ ∧ v = 0) ∨ (¬ other < 0 ∧ ¬ 5 < other) := by
            by_cases h0 : other < 0
            · exact .inl ⟨h0, hz (.inl h0)⟩
            · by_cases h5 : 5 < other
              · exact .inr (.inl ⟨h0, h5, hz (.inr h5)⟩)
              · exact .inr (.inr ⟨h0, h5⟩)
          clear hz
          have hC0 := get_nil 0 w8
          have HC0 := Hid.mk hC0
          clear hC0
          rcases hways with ⟨o1, rfl, rfl, rfl⟩ | ⟨o1, o2, rfl, rfl, rfl⟩ | ⟨o1, o2⟩
          all_goals
            have fb0 := cell_at (i := 0) HF8.out rfl
            have fb1 := cell_at (i := 1) HF8.out rfl
            rw [HW8.out, HE8.out] at fb0 fb1
            gi_wp2_with fail
            rw [← HW8.out]
            clear fb0 fb1
            refine ⟨trivial, (callsIn_wide.2 HC0.out).mono ?_⟩
            rintro e w9 ⟨rfl, hb9⟩
            have HV9 := Hid.mk (HV8.out.grown hb9)
            have hf9 := (hb9.block E (Array.getElem?_eq_some_iff.1 HF8.out).1).trans HF8.out
            have hK9 := (hb9.block D (Array.getElem?_eq_some_iff.1 HK8.out).1).trans HK8.out
            have fb0 := cell_at (i := 0) hf9 rfl
            have fb1 := cell_at (i := 1) hf9 rfl
            have fz0 := free_at (i := 0) hf9
            have fz1 := free_at (i := 1) hf9
            have HF9 := Hid.mk hf9
            have HK9 := Hid.mk hK9
            rw [← HE8.out]
            clear hb9 hf9 hK9 HC0 HV8 HK8
            gi_wp2_with fail
            refine ⟨trivial, (tall_in _ _ _).mono ?_⟩
            rintro e wA ⟨rfl, hwA⟩
            obtain ⟨W0, hW0⟩ : ∃ W0, W0 = (w9.setCell ⟨E, 0, none⟩ (.bool false)).setCell ⟨E, 1, none⟩ (.string ⟨#[]⟩) := ⟨_, rfl⟩
            have hvW : Sv P t b g m w W0 R R := by rw [hW0]; exact HV9.out.storeF HF9.out HEL.out _ _
            have hfW : W0.heap[E]? = some (.cells #[.bool false, .string ⟨#[]⟩] 34 (0, 0)) := by
              rw [hW0, heap_set _ (heap_set _ HF9.out)]
              rfl
            have hKW : W0.heap[D]? = some (.deferred (some [])) := by
              have hne : D ≠ E := fun e => by
                have h1 := HK9.out
                rw [e, HF9.out] at h1
                cases h1
              rw [hW0, Below.heap_setCell _ _ _ _ hne, Below.heap_setCell _ _ _ _ hne]
              exact HK9.out
            have hzW : W0.heap.size = w9.heap.size := by rw [hW0]; simp [World.setCell]
            rw [← hW0] at hwA
            have hal : Below W0.heap.size W0 wA := by rw [hwA]; exact (Below.refl _ _).alloc (Nat.le_refl _) _
            have hvA := hvW.grown hal
            have hfA : wA.heap[E]? = some (.cells #[.bool false, .string ⟨#[]⟩] 34 (0, 0)) := (hal.block E (Array.getElem?_eq_some_iff.1 hfW).1).trans hfW
            have hKA : wA.heap[D]? = some (.deferred (some [])) := (hal.block D (Array.getElem?_eq_some_iff.1 hKW).1).trans hKW
            have hcA : wA.heap[w9.heap.size]? = some (.cells #[.pointer none] 25 (0, 0)) := by rw [hwA, ← hzW]; exact heap_new _ _
            have hDl : D < wA.heap.size := (Array.getElem?_eq_some_iff.1 hKA).1
            have HVA := Hid.mk hvA
            have HFA := Hid.mk hfA
            have HKA := Hid.mk hKA
            have HCA := Hid.mk hcA
            have HDL := Hid.mk hDl
            obtain ⟨C2, hC2⟩ : ∃ C2, C2 = w9.heap.size := ⟨_, rfl⟩
            rw [← hC2] at HCA
            have hsz : ((w9.setCell ⟨E, 0, none⟩ (.bool false)).setCell ⟨E, 1, none⟩ (.string ⟨#[]⟩)).heap.size = C2 := by rw [hC2, ← hzW, hW0]
            rw [hsz]
            clear hW0 hvW hfW hKW hzW hal hvA hfA hKA hcA hDl hwA hC2 hsz fb0 fb1 fz0 fz1 HV9 HF9 HK9
            gi_wp2
            refine range_over (gf := 24) (lb := #[.pointer (some ⟨C2, 0, none⟩)]) rfl (enters_of Try.func24 (by kernel_rfl) rfl)
              (tall_nil 13 (by omega) C2 wA HCA.out) (Below.refl _ _) (fun _ _ _ h k => h.trans k) (fun _ _ _ r' h => KT.put (.loop r') h rfl) (fun _ => rfl)
              (fun pre X => Sv P t b g m w X R R ∧ X.heap[E]? = some (.cells #[.bool false, .string ⟨#[]⟩] 34 (0, 0)) ∧ X.heap[D]? = some (.deferred (some [])))
              (OwnFrom.and (Sv.own _ HVA.out.bel.size) (OwnFrom.and (box_own _ E 34 (fun _ : List (Cel.F.Ix 0) => #[.bool false, .string ⟨#[]⟩])) (def_own _ D HDL.out))) ⟨HVA.out, HFA.out, HKA.out⟩ (fun l pre x X r _ _ _ _ => absurd x.2 (by omega)) ?_
            rintro D2 xs X2 hD2 hxs ⟨hv2, hf2, hk2⟩ hK2
            clear hxs
            obtain ⟨f0, f1, f2, f3, f4, f5, hfs, _⟩ := hv2.twelve
            have hcf : (filesC (filesOf R)).toArray = #[.bool f0.1, .string f0.2, .bool f1.1, .string f1.2, .bool f2.1, .string f2.2, .bool f3.1, .string f3.2, .bool f4.1, .string f4.2, .bool f5.1, .string f5.2] := by rw [hfs]; rfl
            obtain ⟨i0, s0⟩ := f0
            obtain ⟨i1, s1⟩ := f1
            obtain ⟨i2, s2⟩ := f2
            obtain ⟨i3, s3⟩ := f3
            obtain ⟨i4, s4⟩ := f4
            obtain ⟨i5, s5⟩ := f5
            obtain ⟨BS, hBS⟩ : ∃ BS : ByteArray, BS = ⟨(fromB 0 (filesOf R)).toArray⟩ := ⟨_, rfl⟩
            have hC1 : ∀ z, Below X2.heap.size X2 z → Calls Try.prog 14 #[.pointer (some ⟨t, 0, none⟩)] z (fun e w' => e = .returned (.string BS) ∧ Below z.heap.size z w') := fun z hz => by
              rw [hBS]
              exact bytes_yes (hv2.grown hz).ts
            have hC2 : ∀ z, Calls Try.prog 15 #[.agg #[.bool i0, .string s0, .bool i1, .string s1, .bool i2, .string s2, .bool i3, .string s3, .bool i4, .string s4, .bool i5, .string s5]] z (fun e w' => e = .returned (.string BS) ∧ Below z.heap.size z w') := fun z => by
              have h := refBytes_any (F := filesOf R) hv2.rm.six z
              rw [hcf, ← hBS] at h
              exact h
            have hC3 : ∀ z, Calls Try.prog 10 #[.pointer none, .int .i64 0, .agg #[.bool false, .string ⟨#[]⟩], .int .i64 0] z (fun e w' => e = .returned (.bool false) ∧ Below z.heap.size z w') := fun z => set_nil 0 (false, ⟨#[]⟩) (.inr rfl) 0 z
            have hLAY : ∀ z, Below X2.heap.size X2 z → (z.cell? ⟨P, 0, none⟩ = some (.pointer (some ⟨m, 0, none⟩)) ∧ z.cell? ⟨E, 0, none⟩ = some (.bool false) ∧ z.cell? ⟨m, 0, none⟩ = some (.bool i0) ∧ z.cell? ⟨m, 1, none⟩ = some (.string s0) ∧ z.cell? ⟨m, 2, none⟩ = some (.bool i1) ∧ z.cell? ⟨m, 3, none⟩ = some (.string s1) ∧ z.cell? ⟨m, 4, none⟩ = some (.bool i2) ∧ z.cell? ⟨m, 5, none⟩ = some (.string s2) ∧ z.cell? ⟨m, 6, none⟩ = some (.bool i3) ∧ z.cell? ⟨m, 7, none⟩ = some (.string s3) ∧ z.cell? ⟨m, 8, none⟩ = some (.bool i4) ∧ z.cell? ⟨m, 9, none⟩ = some (.string s4) ∧ z.cell? ⟨m, 10, none⟩ = some (.bool i5) ∧ z.cell? ⟨m, 11, none⟩ = some (.string s5)) ∧ z.heap[w.heap.size]? = some (.cells #[.bool false] 4 (0, 0)) := fun z hz =>
              ⟨(hv2.grown hz).all14 hfs ((hz.block E (Array.getElem?_eq_some_iff.1 hf2).1).trans hf2), (hv2.grown hz).rb⟩
            have HC1 := Hid.mk hC1
            have HC2 := Hid.mk hC2
            have HC3 := Hid.mk hC3
            have HLAY := Hid.mk hLAY
            have HV2 := Hid.mk hv2
            have HF2 := Hid.mk hf2
            have HK2 := Hid.mk hk2
            have HKK := Hid.mk hK2
            have HNP : Hid (P ≠ w.heap.size ∧ E ≠ w.heap.size ∧ m ≠ w.heap.size) := Hid.mk ⟨ne_of hv2.pb hv2.rb (by decide), ne_of hf2 hv2.rb (by decide), ne_of hv2.rm.at_ hv2.rb (by decide)⟩
            have hS0 := (hLAY X2 (Below.refl _ _)).1
            clear hcf hfs hBS hC1 hC2 hC3 hLAY hv2 hf2 hk2 hK2
            gi_wp2_with fail
            refine Code.wpIn_mono NoPanic.imp ?_
            refine wpIn_wide.2 ?_
            go_region_held3 (fun wx => wx.cell? ⟨P, 0, none⟩ = some (.pointer (some ⟨m, 0, none⟩)) ∧ wx.cell? ⟨E, 0, none⟩ = some (.bool false) ∧ wx.cell? ⟨m, 0, none⟩ = some (.bool i0) ∧ wx.cell? ⟨m, 1, none⟩ = some (.string s0) ∧ wx.cell? ⟨m, 2, none⟩ = some (.bool i1) ∧ wx.cell? ⟨m, 3, none⟩ = some (.string s1) ∧ wx.cell? ⟨m, 4, none⟩ = some (.bool i2) ∧ wx.cell? ⟨m, 5, none⟩ = some (.string s2) ∧ wx.cell? ⟨m, 6, none⟩ = some (.bool i3) ∧ wx.cell? ⟨m, 7, none⟩ = some (.string s3) ∧ wx.cell? ⟨m, 8, none⟩ = some (.bool i4) ∧ wx.cell? ⟨m, 9, none⟩ = some (.string s4) ∧ wx.cell? ⟨m, 10, none⟩ = some (.bool i5) ∧ wx.cell? ⟨m, 11, none⟩ = some (.string s5))
              (first
                | exact hS0
                | exact keep14 (Below.heap_setCell _ _ _ _ HNP.out.1) (Below.heap_setCell _ _ _ _ HNP.out.2.1) (Below.heap_setCell _ _ _ _ HNP.out.2.2) hS4
                | exact hS4
                | exact hS3
                | exact hS2
                | exact hS1
                | fail)
              (first
                | (have := m3; go_at_call_of 14 (Value.pointer none); refine (bytes_nil _).mono ?_; rintro e z4 ⟨rfl, hb4⟩; have hB4 := farther (Nat.le_refl _) hB3 hb4; have hS4 := (HLAY.out _ hB4).1; have rb4 := cell_at (i := 0) (HLAY.out _ hB4).2 rfl; have rf4 := free_at (i := 0) (HLAY.out _ hB4).2)
                | (have := m2; go_at_call 10; refine (HC3.out _).mono ?_; rintro e z3 ⟨rfl, hb3⟩; have hB3 := farther (Nat.le_refl _) hB2 hb3; have hS3 := (HLAY.out _ hB3).1; have m3 := Hid.mk trivial)
                | (have := m1; go_at_call 15; refine (HC2.out _).mono ?_; rintro e z2 ⟨rfl, hb2⟩; have hB2 := farther (Nat.le_refl _) hB1 hb2; have hS2 := (HLAY.out _ hB2).1; have m2 := Hid.mk trivial)
                | (go_at_call 14; refine (HC1.out _ (by first | exact Below.refl _ _ | exact (Below.refl _ _).drew)).mono ?_; rintro e z1 ⟨rfl, hb1⟩; have hB1 : Below X2.heap.size X2 z1 := (by first | exact farther (Nat.le_refl _) (Below.refl _ X2) hb1 | exact farther (Nat.le_refl _) ((Below.refl _ X2).drew) hb1); have hS1 := (HLAY.out _ hB1).1; have m1 := Hid.mk trivial))
            refine NoPanic.normal ?_
            have hz4 := HV2.out.grown hB4
            have HBL : Hid (Below w.heap.size w (z4.setCell ⟨w.heap.size, 0, none⟩ (.bool true))) := Hid.mk (hz4.bel.setCell (p := ⟨w.heap.size, 0, none⟩) (Nat.le_refl _) _)
            have hkD2 : z4.heap[D2]? = some (.deferred (some [])) := (hB4.block D2 (Array.getElem?_eq_some_iff.1 HKK.out).1).trans HKK.out
            have hkD : z4.heap[D]? = some (.deferred (some [])) := (hB4.block D (Array.getElem?_eq_some_iff.1 HK2.out).1).trans HK2.out
            have HA1 : Hid ((z4.setCell ⟨w.heap.size, 0, none⟩ (.bool true)).heap[D2]? = some (.deferred (some []))) := Hid.mk ((KeepsOthers.setCell _ _ _).same D2 _ hkD2 rfl)
            have HA2 : Hid (((z4.setCell ⟨w.heap.size, 0, none⟩ (.bool true)).putObj D2 (.deferred none)).heap[D]? = some (.deferred (some []))) := Hid.mk (by
              have hne : D ≠ D2 := by have := HDL.out; omega
              exact (World.putObj_heap_other hne).trans ((KeepsOthers.setCell _ _ _).same D _ hkD rfl))
            have HA3 : Hid ((z4.setCell ⟨w.heap.size, 0, none⟩ (.bool true)).cell? ⟨w.heap.size, 0, none⟩ = some (.bool true)) := Hid.mk (World.cell?_setCell_same' z4 ⟨w.heap.size, 0, none⟩ (.bool true) (by rw [rb4]; rfl))
            have HA4 : Hid (w.heap.size ≤ D2 ∧ w.heap.size ≤ D) := Hid.mk ⟨Nat.le_trans HVA.out.bel.size hD2, Nat.le_trans HV5.out.bel.size hD⟩
            clear hz4 hkD2 hkD hS0 hS1 hS2 hS3 hS4 hB1 hB2 hB3 hB4 hb1 hb2 hb3 hb4 rb4 rf4 m1 m2 m3
            gi_wp2
            refine ⟨by simp, .inl ⟨_, _, rfl, run_takeDeferred HA1.out, ?_⟩⟩
            refine ⟨by simp, .inl ⟨_, _, rfl, run_takeDeferred HA2.out, ?_⟩⟩
            have hc5 := cell_kept HA3.out (grownBy_putObj' _ D2 (.deferred none)) (fun r e => by cases e; exact ⟨_, HA1.out, rfl⟩)
            have hc6 := cell_kept hc5 (grownBy_putObj' _ D (.deferred none)) (fun r e => by cases e; exact ⟨_, HA2.out, rfl⟩)
            refine ⟨.bool true, ?_, rfl, (HBL.out.trans (belowK_b (w := w) (Nat.le_refl _) _ D2 _ (.deferred none) HA4.out.1 HA1.out rfl rfl)).trans (belowK_b (w := w) (Nat.le_refl _) _ D _ (.deferred none) HA4.out.2 HA2.out rfl rfl)⟩
            simp [results, Try.f3, go_sem, hc6]

set_option maxRecDepth 100000 in
theorem lifted (os : Os) (started : os.Started) (H : Type) (enc : TypeId × Value → H) :
    ReturnsInHanded {} Try.checked os 3 .any (Rows.tomeSetsSpec.pre6 enc Try.prog Try.f3 Rows.tomeSetsRow.domain false) (Rows.tomeSetsSpec.post enc Try.prog Try.f3 false true false false) := by
  refine returnsInHanded_of_change (C := Try.checked) own started (by kernel_rfl) Try.func3
    (ChangeSpec.witness6 (enc := enc) (C := Try.checked) false ⟨#[], #[.slice none 0 0, .int .i64 0], []⟩ 8 (by kernel_rfl) (by kernel_rfl) (by kernel_rfl) (by kernel_rfl)) ?_
  intro W base args ds gs before hval0 hW hcnd _
  have hval : ∀ (j : Nat) t v, Try.f3.params[j]? = some t → args[j]? = some v → Value.okWide Try.prog W .any base t v := hval0
  have hW' := hW
  obtain ⟨p, q, hA0, hV, rfl, hfz, hnd⟩ := hW
  have hA : DataW.TrodAll enc Try.prog W 0 (fun _ => true) true Try.f3.params.toList args.toList ds p := hA0
  rw [Try.params3] at hA hval
  obtain ⟨v0, vs0, d0, ds0, p0, q0, hargs, rfl, rfl, h0, r0⟩ := trodAll_cons hA
  obtain ⟨v1, vs1, d1, ds1, p1, q1, rfl, rfl, rfl, h1, r1⟩ := trodAll_cons r0
  obtain ⟨rfl, rfl, rfl⟩ := trodAll_nil r1
  obtain rfl : args = #[v0, v1] := by cases args; simp_all
  obtain ⟨rfl, rfl⟩ := trodVars_none hV
  obtain ⟨a0, len0, cap0, rfl⟩ := okWide_slice Try.underlying22 (hval 0 22 v0 rfl rfl)
  have k0 := h0
  have lt0 : ∀ x ∈ p0, x.block < W.heap.size := by obtain ⟨m, hm⟩ := k0; exact DataW.trod_lt m _ _ _ hm
  obtain ⟨ts0, w0⟩ : ∃ ts, IsSx W a0 len0 cap0 ts := by
    obtain ⟨fuel, hf⟩ := h0
    exact open_sxs hf
  obtain ⟨a1, rfl, rfl, rfl, w1⟩ := open_int Try.underlying3 (hval 1 3 v1 rfl rfl) h1
  clear hA0 hval0
  refine (walk a0 len0 cap0 ts0 a1 W w0 w1).mono fun e W' ⟨he, bel⟩ => ?_
  subst he
  exact ⟨_, rfl, _, _, _, [], _, [], hW', trodAll_mk1 (shut_bool Try.underlying4 _), (trodAll_cons_mk (Below.trod laidOut (by kernel_rfl) (of_decide_eq_true (by kernel_rfl)) k0 bel lt0) (trodAll_cons_mk (shut_int Try.underlying3 w1) trodAll_mk0)), rfl, bel.frame _, fun h => by cases h⟩

set_option maxRecDepth 100000 in
theorem over : Rows.tomeSetsRow.holds Try.pinned (OpenSpec.ofChange Rows.tomeSetsSpec) :=
  OpenClaim.holds_of_wide 3 Try.f3 rfl rfl rfl rfl rfl rfl rfl ⟨rfl, rfl, rfl, rfl, rfl⟩ rfl rfl rfl rfl rfl (by kernel_rfl) Try.func3 (by kernel_rfl)
    (of_decide_eq_true (by kernel_rfl)) (by unfold Func.isWrapper; first | (rw [if_pos (by decide +kernel)]; kernel_rfl) | (rw [if_neg (by decide +kernel)]; exact ⟨rfl, rfl⟩))
    (fun os started H enc _ => lifted os started H enc)

end Go.Proofs.Ytabjjjbopbjbeaa.tomeSets

namespace Go.Proofs.Ytabjjjbopbjbeaa
/-- The statement. -/
theorem tomeSets_holds : Rows.TomeSetsSaid := tomeSets.over
#print axioms tomeSets_holds
end Go.Proofs.Ytabjjjbopbjbeaa
