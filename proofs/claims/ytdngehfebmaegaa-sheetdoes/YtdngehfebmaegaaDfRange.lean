/-
  A range over an iterator, in the wide fence, whose loop may be left by a return or a break: the things come in their order. (As in NRange, and one way out more.)
-/
import Derived.Test.YtdngehfebmaegaaNRange
namespace Go.Proofs.Ytdngehfebmaegaa.Rng
open Go.RowKit Go.Shelf Go.Proofs.Ytdngehfebmaegaa.Cel

/-- The record of a loop that was left by a jump. -/
abbrev leftJ (c : Code) (B : Nat) (fn : FuncId) (tmps : Array Value) (ps : Array Tmp) (assign body : Code) : Loop :=
  { state := .done, pending := some c, fn, tmps, params := ps, assign, body, defers := B }

/-- Which jump leaves a loop. -/
def Jump (e : Exit) (c : Code) : Prop := (e = .ret ∧ c = .ret) ∨ ∃ id, e = .exit id ∧ c = .exit id

/-- One round, that may leave the loop, by a return or a break. -/
theorem one_round3 {P : Program} {m B : Nat} {fn : FuncId} {tmps : Array Value} {ps : Array Tmp} {assign body : Code} {W : World} {args : Array Value} {R : World → Prop} {Rx : Code → World → Prop}
    (hr : Recs B (recOf B fn tmps ps assign body .ready) W) (hs : args.size = ps.size)
    (h : assign.wpIn (Fence.wide.inRound (B + 1)) m P (Exit.then (fun a' X => Recs B (recOf B fn tmps ps assign body .ready) X ∧
        body.wpIn (Fence.wide.inRound (B + 1)) m P (fun e _ Y => Recs B (recOf B fn tmps ps assign body .busy) Y ∧
            ((e = .normal ∧ R (Y.putObj (B + 1) (.loop (recOf B fn tmps ps assign body .ready)))) ∨ (∃ c, Jump e c ∧ Rx c (Y.putObj (B + 1) (.loop (leftJ c B fn tmps ps assign body))))))
          a' (X.putObj (B + 1) (.loop (recOf B fn tmps ps assign body .busy)))) (fun _ _ _ => False))
      { tmps := (ps.zip args).foldl (fun t (p, v) => t.setIfInBounds p v) tmps, defers := [] } W) :
    YieldAt Fence.wide m P (B + 1) args W fun e Y => (e = .returned (.bool true) ∧ R Y) ∨ (e = .returned (.bool false) ∧ ∃ c, Rx c Y) := by
  refine ⟨fn, _, assign, body, run_yield hr.loop hs, roundIn_of_wpIn trivial (wpIn_mono h ?_)⟩
  intro e a' X hX
  cases e <;> try exact hX.elim
  obtain ⟨hx, hb⟩ := hX
  refine ⟨_, run_beginRound hx.loop rfl, wpIn_mono hb ?_⟩
  rintro e a2 Y ⟨hy, ⟨rfl, hR⟩ | ⟨c, ⟨rfl, rfl⟩ | ⟨id, rfl, rfl⟩, hR⟩⟩
  · exact ⟨_, _, run_endRound none hy.loop, .inl ⟨rfl, hR⟩⟩
  · exact ⟨_, _, run_endRound (some .ret) hy.loop, .inr ⟨rfl, _, hR⟩⟩
  · exact ⟨_, _, run_endRound (some (.exit id)) hy.loop, .inr ⟨rfl, _, hR⟩⟩

/-- THE LAW of the statement, for a loop that may be left by a return or a break. -/
theorem range_over3 {α : Type} {P : Program} {n : Nat} {g : Operand} {ps : Array Tmp} {assign body : Code} {Q : Exit → Act → World → Prop} {a : Act} {w w0 : World} {gf : Nat} {lb : Array Value}
    (hg : a.eval g = .func (.func gf) #[] lb) (eg : ∀ args w, (callFunc gf args).run P w = .ok (.enter gf args) w)
    {encs : α → Array Value} {Kp : World → World → Prop} {Good : List α → α → Prop} {S Sp : List α → Prop} (hseq : Gives2 (n - 1) P gf lb encs Kp Good S Sp w0) (hb0 : Below w0.heap.size w0 w)
    (hKt : ∀ A B C : World, Kp A B → Kp B C → Kp A C) (hKb : ∀ (W : World) (l : Nat) (r r' : Loop), w.heap.size ≤ l → W.heap[l]? = some (.loop r) → Kp W (W.putObj l (.loop r')))
    (hps : ∀ x, (encs x).size = ps.size) (I : List α → World → Prop) (Ix : Code → List α → World → Prop) (hI : OwnFrom w.heap.size I) (hIx : ∀ c, OwnFrom w.heap.size (Ix c)) (h0 : I [] w)
    (hround : ∀ (l : Nat) (pre : List α) (x : α) (W : World) (r : Loop), w.heap.size ≤ l → W.heap[l]? = some (.loop r) → I pre W → Good pre x →
      assign.wpIn (Fence.wide.inRound l) (n - 1 - 1) P (Exit.then (fun a' X => KeepsFrom w.heap.size W X ∧ Kp W X ∧ ∀ r' : Loop,
          body.wpIn (Fence.wide.inRound l) (n - 1 - 1) P (ownPostG w.heap.size Kp I (fun c xs Y => (∀ t, c ≠ .goto t) ∧ Ix c xs Y) (pre ++ [x]) (X.putObj l (.loop r'))) a' (X.putObj l (.loop r'))) (fun _ _ _ => False))
        { tmps := (ps.zip (encs x)).foldl (fun t (p, v) => t.setIfInBounds p v) a.tmps, defers := [] } W)
    (hdone : ∀ (D : Nat) (xs : List α) (W : World), w.heap.size ≤ D → S xs → I xs W → W.heap[D]? = some (.deferred (some [])) → Q .normal { a with defers := { target := .collected D, args := #[] } :: a.defers } W)
    (hstop : ∀ (c : Code) (D : Nat) (pre : List α) (W : World), w.heap.size ≤ D → Sp pre → Ix c pre W → W.heap[D]? = some (.deferred (some [])) → c.wpIn Fence.wide n P Q { a with defers := { target := .collected D, args := #[] } :: a.defers } W) :
    (Code.rangeFunc g ps assign body).wpIn Fence.wide n P Q a w := by
  refine wpIn_rangeFunc fun fn _ => ?_
  obtain ⟨r0, e0⟩ : ∃ r0, r0 = recOf w.heap.size fn a.tmps ps assign body .ready := ⟨_, rfl⟩
  obtain ⟨W1, e1⟩ : ∃ W1, W1 = (w.alloc (.deferred (some []))).alloc (.loop r0) := ⟨_, rfl⟩
  have hz : W1.heap.size = w.heap.size + 2 := by rw [e1]; simp
  have hr1 : Recs w.heap.size r0 W1 := by rw [e1]; exact start_recs w r0
  have hbw : Below w.heap.size w W1 := by rw [e1]; exact ((Below.refl _ w).alloc (Nat.le_refl _) _).alloc (by simp) _
  have hI1 : I [] W1 := by rw [e1]; exact hI.alloc _ (hI.alloc _ h0)
  refine ⟨w.heap.size + 1, [{ target := .collected w.heap.size, args := #[] }], W1, { target := .fn (.func gf) lb, args := #[.func (.yield (w.heap.size + 1)) #[] #[]] }, W1, gf,
    #[.func (.yield (w.heap.size + 1)) #[] #[]] ++ lb, W1, ?_, ?_, fun _ _ => trivial, ?_, (fun h => by cases h), ?_⟩
  · rw [e1, e0]; exact run_enterLoop_outer _ _ _ _ _
  · simp only [resolve, hg]
    simp [go_sem]
  · simp [invoke, go_sem, eg]
  · refine (hseq (w.heap.size + 1) (fun pre W => I pre W ∧ Recs w.heap.size r0 W) (fun pre W => ∃ c, Ix c pre W ∧ Recs w.heap.size (leftJ c w.heap.size fn a.tmps ps assign body) W) W1 (hb0.trans (hbw.mono hb0.size))
      (OwnFrom.and (own_up hI (by omega)) (own_up (Recs.own w.heap.size r0) (by omega))) (fun s X Y row hs hg hr => by
        obtain ⟨c, h1, h2⟩ := hs
        exact ⟨c, own_up (hIx c) (by omega) s X Y row h1 hg hr, own_up (Recs.own w.heap.size _) (show w.heap.size + 2 ≤ _ by omega) s X Y row h2 hg hr⟩) ?_ ⟨hI1, hr1⟩).mono ?_
    · rintro pre x W ⟨hi, hr⟩ hlen
      rw [e0] at hr
      have hh := hround (w.heap.size + 1) pre x W _ (Nat.le_succ _) hr.loop hi hlen
      refine YieldAt.mono' (one_round3 (R := fun Y => I (pre ++ [x]) Y ∧ Recs w.heap.size r0 Y ∧ Kp W Y ∧ KeepsFrom W1.heap.size W Y) (Rx := fun c Y => Ix c (pre ++ [x]) Y ∧ Recs w.heap.size (leftJ c w.heap.size fn a.tmps ps assign body) Y) hr (hps x) (wpIn_mono hh ?_)) ?_
      · intro e a' X hX
        cases e <;> try exact hX.elim
        obtain ⟨hk, hkp, hbody⟩ := hX
        have hrX := hr.keep hk
        refine ⟨hrX, wpIn_mono (hbody _) ?_⟩
        intro e a2 Y hY
        have hrB := hrX.put (recOf w.heap.size fn a.tmps ps assign body .busy)
        cases e with
        | normal =>
          obtain ⟨hk2, hkp2, hi2⟩ := hY
          have hrY := hrB.keep hk2
          have hrE := hrY.put (recOf w.heap.size fn a.tmps ps assign body .ready)
          refine ⟨hrY, .inl ⟨rfl, hI.putObj _ hi2 (Nat.le_succ _) hrY.loop rfl, by rw [e0]; exact hrE, ?_, ?_⟩⟩
          · exact hKt _ _ _ hkp (hKt _ _ _ (hKb _ _ _ _ (Nat.le_succ _) hrX.loop) (hKt _ _ _ hkp2 (hKb _ _ _ _ (Nat.le_succ _) hrY.loop)))
          · rw [hz]
            exact ((keeps_up hk (by omega)).trans (keeps_put _ _ (by omega))).trans ((keeps_up hk2 (by omega)).trans (keeps_put _ _ (by omega)))
        | ret =>
          obtain ⟨hk2, _, hi2⟩ := hY
          have hrY := hrB.keep hk2
          have hrE := hrY.put (leftJ .ret w.heap.size fn a.tmps ps assign body)
          exact ⟨hrY, .inr ⟨.ret, .inl ⟨rfl, rfl⟩, (hIx _).putObj _ hi2 (Nat.le_succ _) hrY.loop rfl, hrE⟩⟩
        | exit id =>
          obtain ⟨hk2, _, hi2⟩ := hY
          have hrY := hrB.keep hk2
          have hrE := hrY.put (leftJ (.exit id) w.heap.size fn a.tmps ps assign body)
          exact ⟨hrY, .inr ⟨.exit id, .inr ⟨id, rfl, rfl⟩, (hIx _).putObj _ hi2 (Nat.le_succ _) hrY.loop rfl, hrE⟩⟩
        | goto t => exact absurd rfl (hY.2.1 t)
        | panic _ => exact hY.elim
        | outgrown => exact hY.elim
      · rintro e Y (⟨rfl, h1, h2, h3, h4⟩ | ⟨rfl, c, h1, h2⟩)
        · exact .inl ⟨rfl, ⟨h1, h2⟩, h3, h4⟩
        · exact .inr ⟨rfl, c, h1, h2⟩
    · rintro e Y ⟨⟨v, rfl⟩, ⟨xs, hS, hi, hr⟩ | ⟨pre, hS, c, hi, hr⟩⟩
      · rw [e0] at hr
        exact ⟨none, _, run_endLoop hr.loop (by simp), hdone _ xs _ (Nat.le_refl _) hS (hI.putObj _ hi (Nat.le_succ _) hr.loop rfl) (hr.put _).calls⟩
      · exact ⟨some c, _, run_endLoop hr.loop (by simp), hstop c _ pre _ (Nat.le_refl _) hS ((hIx c).putObj _ hi (Nat.le_succ _) hr.loop rfl) (hr.put _).calls⟩

end Go.Proofs.Ytdngehfebmaegaa.Rng
