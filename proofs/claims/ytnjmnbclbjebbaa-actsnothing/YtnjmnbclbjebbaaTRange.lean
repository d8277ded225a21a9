/-
  A range over an iterator that itself goes over another one, in the wide fence: its contract, and the law of the statement. (The kit's contract lets the loop's word depend on records of other loops; an iterator with a loop of its own turns such records. So here the word is asked to bear that.)
-/
import Derived.RangeFuncNested
import Derived.RangeFuncBound
import Derived.RangeFuncCalls
import Derived.RangeFuncLeaves
import Derived.Shelf.Abstract
import Derived.Shelf.RegionOpen
import Derived.OwnWalkIn
import Derived.TacticsInMore
import Derived.LoopNIn
import Derived.LoopIn
namespace Go.Proofs.Ytnjmnbclbjebbaa.Rng
open Go.RowKit Go.Shelf

theorem roomy (k : Nat) : Fence.wide.room k := fun _ h => by cases h

/-- In the wide fence no depth is counted. -/
theorem deep {m : Nat} (m' : Nat) {P : Program} {l : Nat} {args : Array Value} {W : World} {R : Ending → World → Prop} (h : YieldAt Fence.wide m P l args W R) : YieldAt Fence.wide m' P l args W R := by
  obtain ⟨fn, tmps, assign, body, hy, h1, h2⟩ := h
  exact ⟨fn, tmps, assign, body, hy, h1, fun c cs _ => h2 c cs (roomy _)⟩

theorem own_up {β : Type} {B B' : Nat} {I : β → World → Prop} (h : OwnFrom B I) (hB : B ≤ B') : OwnFrom B' I :=
  fun s X Y row hs hg hr => h s X Y row hs hg fun r e => ⟨Nat.le_trans hB (hr r e).1, (hr r e).2⟩

theorem keeps_up {B B' : Nat} {X Y : World} (h : KeepsFrom B X Y) (hB : B ≤ B') : KeepsFrom B' X Y := ⟨h.size, fun k o hk => h.same k o (Nat.le_trans hB hk)⟩

theorem keeps_put {B l : Nat} (W : World) (o : Obj) (hl : l < B) : KeepsFrom B W (W.putObj l o) :=
  ⟨Nat.le_of_eq (World.putObj_size).symm, fun k x hk hx _ => (World.putObj_heap_other (by omega)).trans hx⟩

/-- THE CONTRACT of an iterator, for loops that are never left: whatever word J the loop bears that abides new blocks and turned records of loops begun since, it hands its things one by one, each where it is its turn (Good), as long as the loop lets what is no cells, and was laid since it was called, be. -/
def Gives {α : Type} (n : Nat) (P : Program) (g : Nat) (lb : Array Value) (encs : α → Array Value) (Kp : World → World → Prop) (Good : List α → α → Prop) (S : List α → Prop) (w : World) : Prop :=
  ∀ (l : Nat) (J : List α → World → Prop) (W : World), Below w.heap.size w W → OwnFrom W.heap.size J →
    (∀ pre x X, J pre X → Good pre x → YieldAt Fence.wide (n - 1) P l (encs x) X fun e Y =>
      e = .returned (.bool true) ∧ J (pre ++ [x]) Y ∧ Kp X Y ∧ KeepsFrom W.heap.size X Y) →
    J [] W →
    CallsIn Fence.wide n P g (#[.func (.yield l) #[] #[]] ++ lb) W fun e Y => (∃ v, e = .returned v) ∧ ∃ xs, S xs ∧ J xs Y

theorem YieldAt.mono' {F : Fence} {m : Nat} {P : Program} {l : Nat} {args : Array Value} {W : World} {R R' : Ending → World → Prop} (h : YieldAt F m P l args W R) (k : ∀ e Y, R e Y → R' e Y) : YieldAt F m P l args W R' := by
  obtain ⟨fn, tmps, assign, body, hy, hr⟩ := h
  exact ⟨fn, tmps, assign, body, hy, hr.mono k⟩

/-- A loop's two records, the first one at B. -/
structure Recs (B : Nat) (r : Loop) (W : World) : Prop where
  calls : W.heap[B]? = some (.deferred (some []))
  loop : W.heap[B + 1]? = some (.loop r)

theorem Recs.put {B : Nat} {r : Loop} {W : World} (h : Recs B r W) (r' : Loop) : Recs B r' (W.putObj (B + 1) (.loop r')) :=
  ⟨(World.putObj_heap_other (by omega)).trans h.calls, World.putObj_heap_same (Array.getElem?_eq_some_iff.1 h.loop).1⟩
theorem Recs.keep {B : Nat} {r : Loop} {W W' : World} (h : Recs B r W) (k : KeepsFrom B W W') : Recs B r W' :=
  ⟨k.same _ _ (Nat.le_refl _) h.calls rfl, k.same _ _ (Nat.le_succ _) h.loop rfl⟩
theorem Recs.own (B : Nat) (r : Loop) {β : Type} : OwnFrom (B + 2) (fun (_ : β) W => Recs B r W) := fun _ X Y row hs hg hr => by
  have same : ∀ k o, k < B + 2 → X.heap[k]? = some o → Y.heap[k]? = some o := fun k o hk hx =>
    (hg.block k (Array.getElem?_eq_some_iff.1 hx).1 (fun e => by have := (hr k e.symm).1; omega)).trans hx
  exact ⟨same _ _ (by omega) hs.calls, same _ _ (by omega) hs.loop⟩

/-- The record of a loop whose rounds' calls are to lie in block B. -/
abbrev recOf (B : Nat) (fn : FuncId) (tmps : Array Value) (ps : Array Tmp) (assign body : Code) (st : LoopState) : Loop :=
  { state := st, pending := none, fn, tmps, params := ps, assign, body, defers := B }

theorem start_recs (w : World) (r : Loop) : Recs w.heap.size r ((w.alloc (.deferred (some []))).alloc (.loop r)) := by
  refine ⟨(Below.heap_alloc _ _ _ (by simp)).trans (World.alloc_heap_new w _), ?_⟩
  have h := World.alloc_heap_new (w.alloc (.deferred (some []))) (.loop r)
  rw [World.size_alloc] at h
  exact h

/-- ONE ROUND of it, as yield makes it. -/
theorem one_round {P : Program} {m B : Nat} {fn : FuncId} {tmps : Array Value} {ps : Array Tmp} {assign body : Code} {W : World} {args : Array Value} {R : World → Prop}
    (hr : Recs B (recOf B fn tmps ps assign body .ready) W) (hs : args.size = ps.size)
    (h : assign.wpIn (Fence.wide.inRound (B + 1)) m P (Exit.then (fun a' X => Recs B (recOf B fn tmps ps assign body .ready) X ∧
        body.wpIn (Fence.wide.inRound (B + 1)) m P (fun e _ Y => e = .normal ∧ Recs B (recOf B fn tmps ps assign body .busy) Y ∧ R (Y.putObj (B + 1) (.loop (recOf B fn tmps ps assign body .ready))))
          a' (X.putObj (B + 1) (.loop (recOf B fn tmps ps assign body .busy)))) (fun _ _ _ => False))
      { tmps := (ps.zip args).foldl (fun t (p, v) => t.setIfInBounds p v) tmps, defers := [] } W) :
    YieldAt Fence.wide m P (B + 1) args W fun e Y => e = .returned (.bool true) ∧ R Y := by
  refine ⟨fn, _, assign, body, run_yield hr.loop hs, roundIn_of_wpIn trivial (wpIn_mono h ?_)⟩
  intro e a' X hX
  cases e <;> try exact hX.elim
  obtain ⟨hx, hb⟩ := hX
  refine ⟨_, run_beginRound hx.loop rfl, wpIn_mono hb ?_⟩
  rintro e a2 Y ⟨rfl, hy, hR⟩
  exact ⟨_, _, run_endRound none hy.loop, rfl, hR⟩

/-- THE LAW of the statement, for a loop that is never left. -/
theorem range_over {α : Type} {P : Program} {n : Nat} {g : Operand} {ps : Array Tmp} {assign body : Code} {Q : Exit → Act → World → Prop} {a : Act} {w w0 : World} {gf : Nat} {lb : Array Value}
    (hg : a.eval g = .func (.func gf) #[] lb) (eg : ∀ args w, (callFunc gf args).run P w = .ok (.enter gf args) w)
    {encs : α → Array Value} {Kp : World → World → Prop} {Good : List α → α → Prop} {S : List α → Prop} (hseq : Gives (n - 1) P gf lb encs Kp Good S w0) (hb0 : Below w0.heap.size w0 w)
    (hKt : ∀ A B C : World, Kp A B → Kp B C → Kp A C) (hKb : ∀ (W : World) (l : Nat) (r r' : Loop), W.heap[l]? = some (.loop r) → Kp W (W.putObj l (.loop r')))
    (hps : ∀ x, (encs x).size = ps.size) (I : List α → World → Prop) (hI : OwnFrom w.heap.size I) (h0 : I [] w)
    (hround : ∀ (l : Nat) (pre : List α) (x : α) (W : World) (r : Loop), w.heap.size ≤ l → W.heap[l]? = some (.loop r) → I pre W → Good pre x →
      assign.wpIn (Fence.wide.inRound l) (n - 1 - 1) P (Exit.then (fun a' X => KeepsFrom w.heap.size W X ∧ Kp W X ∧ ∀ r' : Loop,
          body.wpIn (Fence.wide.inRound l) (n - 1 - 1) P (ownPostG w.heap.size Kp I (fun _ _ _ => False) (pre ++ [x]) (X.putObj l (.loop r'))) a' (X.putObj l (.loop r'))) (fun _ _ _ => False))
        { tmps := (ps.zip (encs x)).foldl (fun t (p, v) => t.setIfInBounds p v) a.tmps, defers := [] } W)
    (hdone : ∀ (D : Nat) (xs : List α) (W : World), w.heap.size ≤ D → S xs → I xs W → W.heap[D]? = some (.deferred (some [])) → Q .normal { a with defers := { target := .collected D, args := #[] } :: a.defers } W) :
    (Code.rangeFunc g ps assign body).wpIn Fence.wide n P Q a w := by
  refine wpIn_rangeFunc fun fn _ => ?_
  obtain ⟨r0, e0⟩ : ∃ r0, r0 = recOf w.heap.size fn a.tmps ps assign body .ready := ⟨_, rfl⟩
  obtain ⟨W1, e1⟩ : ∃ W1, W1 = (w.alloc (.deferred (some []))).alloc (.loop r0) := ⟨_, rfl⟩
  have hz : W1.heap.size = w.heap.size + 2 := by rw [e1]; simp
  have hr1 : Recs w.heap.size r0 W1 := by rw [e1]; exact start_recs w r0
  have hbw : Below w.heap.size w W1 := by rw [e1]; exact ((Below.refl _ w).alloc (Nat.le_refl _) _).alloc (by simp) _
  have hI1 : I [] W1 := by rw [e1]; exact hI.alloc _ (hI.alloc _ h0)
  refine ⟨w.heap.size + 1, [{ target := .collected w.heap.size, args := #[] }], W1, { target := .fn (.func gf) lb, args := #[.func (.yield (w.heap.size + 1)) #[] #[]] }, W1, gf,
    #[.func (.yield (w.heap.size + 1)) #[] #[]] ++ lb, W1, ?_, ?_, fun _ _ => trivial, ?_, (fun h => by cases h), ?_⟩
  · rw [e1, e0]; exact run_enterLoop_outer _ _ _ _ _
  · simp only [resolve, hg]
    simp [go_sem]
  · simp [invoke, go_sem, eg]
  · refine (hseq (w.heap.size + 1) (fun pre W => I pre W ∧ Recs w.heap.size r0 W) W1 (hb0.trans (hbw.mono hb0.size))
      (OwnFrom.and (own_up hI (by omega)) (own_up (Recs.own w.heap.size r0) (by omega))) ?_ ⟨hI1, hr1⟩).mono ?_
    · rintro pre x W ⟨hi, hr⟩ hlen
      rw [e0] at hr
      have hh := hround (w.heap.size + 1) pre x W _ (Nat.le_succ _) hr.loop hi hlen
      refine YieldAt.mono' (one_round (R := fun Y => I (pre ++ [x]) Y ∧ Recs w.heap.size r0 Y ∧ Kp W Y ∧ KeepsFrom W1.heap.size W Y) hr (hps x) (wpIn_mono hh ?_)) ?_
      · intro e a' X hX
        cases e <;> try exact hX.elim
        obtain ⟨hk, hkp, hbody⟩ := hX
        have hrX := hr.keep hk
        refine ⟨hrX, wpIn_mono (hbody _) ?_⟩
        intro e a2 Y hY
        have hrB := hrX.put (recOf w.heap.size fn a.tmps ps assign body .busy)
        cases e with
        | normal =>
          obtain ⟨hk2, hkp2, hi2⟩ := hY
          have hrY := hrB.keep hk2
          have hrE := hrY.put (recOf w.heap.size fn a.tmps ps assign body .ready)
          refine ⟨rfl, hrY, hI.putObj _ hi2 (Nat.le_succ _) hrY.loop rfl, by rw [e0]; exact hrE, ?_, ?_⟩
          · exact hKt _ _ _ hkp (hKt _ _ _ (hKb _ _ _ _ hrX.loop) (hKt _ _ _ hkp2 (hKb _ _ _ _ hrY.loop)))
          · rw [hz]
            exact ((keeps_up hk (by omega)).trans (keeps_put _ _ (by omega))).trans ((keeps_up hk2 (by omega)).trans (keeps_put _ _ (by omega)))
        | ret => exact hY.2.elim
        | exit _ => exact hY.2.elim
        | goto _ => exact hY.2.elim
        | panic _ => exact hY.elim
        | outgrown => exact hY.elim
      · rintro e Y ⟨rfl, h1, h2, h3, h4⟩
        exact ⟨rfl, ⟨h1, h2⟩, h3, h4⟩
    · rintro e Y ⟨⟨v, rfl⟩, xs, hS, hi, hr⟩
      rw [e0] at hr
      exact ⟨none, _, run_endLoop hr.loop (by simp), hdone _ xs _ (Nat.le_refl _) hS (hI.putObj _ hi (Nat.le_succ _) hr.loop rfl) (hr.put _).calls⟩

end Go.Proofs.Ytnjmnbclbjebbaa.Rng
