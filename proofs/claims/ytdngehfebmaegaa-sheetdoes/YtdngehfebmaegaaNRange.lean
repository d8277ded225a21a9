/-
  A range over an iterator, in the wide fence, whose loop may be left by a return: the things come in their order. (As in TRange, and a way out.)
-/
import Derived.Test.YtdngehfebmaegaaTRange
import Derived.Test.YtdngehfebmaegaaRRound2
import Derived.Test.YtdngehfebmaegaaRWide
namespace Go.Proofs.Ytdngehfebmaegaa.Rng
open Go.RowKit Go.Shelf Go.Proofs.Ytdngehfebmaegaa.Cel

/-- THE CONTRACT of an iterator: whatever words J (the loop goes on) and Jx (it was left) the loop bears that abide new blocks and turned records of loops begun since, it hands its things one by one, each where it is its turn (Good). -/
def Gives2 {α : Type} (n : Nat) (P : Program) (g : Nat) (lb : Array Value) (encs : α → Array Value) (Kp : World → World → Prop) (Good : List α → α → Prop) (S Sp : List α → Prop) (w : World) : Prop :=
  ∀ (l : Nat) (J Jx : List α → World → Prop) (W : World), Below w.heap.size w W → OwnFrom W.heap.size J → OwnFrom W.heap.size Jx →
    (∀ pre x X, J pre X → Good pre x → YieldAt Fence.wide (n - 1) P l (encs x) X fun e Y =>
      (e = .returned (.bool true) ∧ J (pre ++ [x]) Y ∧ Kp X Y ∧ KeepsFrom W.heap.size X Y) ∨ (e = .returned (.bool false) ∧ Jx (pre ++ [x]) Y)) →
    J [] W →
    CallsIn Fence.wide n P g (#[.func (.yield l) #[] #[]] ++ lb) W fun e Y => (∃ v, e = .returned v) ∧ ((∃ xs, S xs ∧ J xs Y) ∨ ∃ pre, Sp pre ∧ Jx pre Y)

/-- The record of a loop that was left by a return. -/
abbrev leftOf (B : Nat) (fn : FuncId) (tmps : Array Value) (ps : Array Tmp) (assign body : Code) : Loop :=
  { state := .done, pending := some .ret, fn, tmps, params := ps, assign, body, defers := B }

/-- One round, that may leave the loop. -/
theorem one_round2 {P : Program} {m B : Nat} {fn : FuncId} {tmps : Array Value} {ps : Array Tmp} {assign body : Code} {W : World} {args : Array Value} {R Rx : World → Prop}
    (hr : Recs B (recOf B fn tmps ps assign body .ready) W) (hs : args.size = ps.size)
    (h : assign.wpIn (Fence.wide.inRound (B + 1)) m P (Exit.then (fun a' X => Recs B (recOf B fn tmps ps assign body .ready) X ∧
        body.wpIn (Fence.wide.inRound (B + 1)) m P (fun e _ Y => Recs B (recOf B fn tmps ps assign body .busy) Y ∧
            ((e = .normal ∧ R (Y.putObj (B + 1) (.loop (recOf B fn tmps ps assign body .ready)))) ∨ (e = .ret ∧ Rx (Y.putObj (B + 1) (.loop (leftOf B fn tmps ps assign body))))))
          a' (X.putObj (B + 1) (.loop (recOf B fn tmps ps assign body .busy)))) (fun _ _ _ => False))
      { tmps := (ps.zip args).foldl (fun t (p, v) => t.setIfInBounds p v) tmps, defers := [] } W) :
    YieldAt Fence.wide m P (B + 1) args W fun e Y => (e = .returned (.bool true) ∧ R Y) ∨ (e = .returned (.bool false) ∧ Rx Y) := by
  refine ⟨fn, _, assign, body, run_yield hr.loop hs, roundIn_of_wpIn trivial (wpIn_mono h ?_)⟩
  intro e a' X hX
  cases e <;> try exact hX.elim
  obtain ⟨hx, hb⟩ := hX
  refine ⟨_, run_beginRound hx.loop rfl, wpIn_mono hb ?_⟩
  rintro e a2 Y ⟨hy, ⟨rfl, hR⟩ | ⟨rfl, hR⟩⟩
  · exact ⟨_, _, run_endRound none hy.loop, .inl ⟨rfl, hR⟩⟩
  · exact ⟨_, _, run_endRound (some .ret) hy.loop, .inr ⟨rfl, hR⟩⟩

/-- THE LAW of the statement, for a loop that may be left by a return. -/
theorem range_over2 {α : Type} {P : Program} {n : Nat} {g : Operand} {ps : Array Tmp} {assign body : Code} {Q : Exit → Act → World → Prop} {a : Act} {w w0 : World} {gf : Nat} {lb : Array Value}
    (hg : a.eval g = .func (.func gf) #[] lb) (eg : ∀ args w, (callFunc gf args).run P w = .ok (.enter gf args) w)
    {encs : α → Array Value} {Kp : World → World → Prop} {Good : List α → α → Prop} {S Sp : List α → Prop} (hseq : Gives2 (n - 1) P gf lb encs Kp Good S Sp w0) (hb0 : Below w0.heap.size w0 w)
    (hKt : ∀ A B C : World, Kp A B → Kp B C → Kp A C) (hKb : ∀ (W : World) (l : Nat) (r r' : Loop), w.heap.size ≤ l → W.heap[l]? = some (.loop r) → Kp W (W.putObj l (.loop r')))
    (hps : ∀ x, (encs x).size = ps.size) (I Ix : List α → World → Prop) (hI : OwnFrom w.heap.size I) (hIx : OwnFrom w.heap.size Ix) (h0 : I [] w)
    (hround : ∀ (l : Nat) (pre : List α) (x : α) (W : World) (r : Loop), w.heap.size ≤ l → W.heap[l]? = some (.loop r) → I pre W → Good pre x →
      assign.wpIn (Fence.wide.inRound l) (n - 1 - 1) P (Exit.then (fun a' X => KeepsFrom w.heap.size W X ∧ Kp W X ∧ ∀ r' : Loop,
          body.wpIn (Fence.wide.inRound l) (n - 1 - 1) P (ownPostG w.heap.size Kp I (fun c xs Y => c = .ret ∧ Ix xs Y) (pre ++ [x]) (X.putObj l (.loop r'))) a' (X.putObj l (.loop r'))) (fun _ _ _ => False))
        { tmps := (ps.zip (encs x)).foldl (fun t (p, v) => t.setIfInBounds p v) a.tmps, defers := [] } W)
    (hdone : ∀ (D : Nat) (xs : List α) (W : World), w.heap.size ≤ D → S xs → I xs W → W.heap[D]? = some (.deferred (some [])) → Q .normal { a with defers := { target := .collected D, args := #[] } :: a.defers } W)
    (hstop : ∀ (D : Nat) (pre : List α) (W : World), w.heap.size ≤ D → Sp pre → Ix pre W → W.heap[D]? = some (.deferred (some [])) → Code.ret.wpIn Fence.wide n P Q { a with defers := { target := .collected D, args := #[] } :: a.defers } W) :
    (Code.rangeFunc g ps assign body).wpIn Fence.wide n P Q a w := by
  refine wpIn_rangeFunc fun fn _ => ?_
  obtain ⟨r0, e0⟩ : ∃ r0, r0 = recOf w.heap.size fn a.tmps ps assign body .ready := ⟨_, rfl⟩
  obtain ⟨rx, ex⟩ : ∃ rx, rx = leftOf w.heap.size fn a.tmps ps assign body := ⟨_, rfl⟩
  obtain ⟨W1, e1⟩ : ∃ W1, W1 = (w.alloc (.deferred (some []))).alloc (.loop r0) := ⟨_, rfl⟩
  have hz : W1.heap.size = w.heap.size + 2 := by rw [e1]; simp
  have hr1 : Recs w.heap.size r0 W1 := by rw [e1]; exact start_recs w r0
  have hbw : Below w.heap.size w W1 := by rw [e1]; exact ((Below.refl _ w).alloc (Nat.le_refl _) _).alloc (by simp) _
  have hI1 : I [] W1 := by rw [e1]; exact hI.alloc _ (hI.alloc _ h0)
  refine ⟨w.heap.size + 1, [{ target := .collected w.heap.size, args := #[] }], W1, { target := .fn (.func gf) lb, args := #[.func (.yield (w.heap.size + 1)) #[] #[]] }, W1, gf,
    #[.func (.yield (w.heap.size + 1)) #[] #[]] ++ lb, W1, ?_, ?_, fun _ _ => trivial, ?_, (fun h => by cases h), ?_⟩
  · rw [e1, e0]; exact run_enterLoop_outer _ _ _ _ _
  · simp only [resolve, hg]
    simp [go_sem]
  · simp [invoke, go_sem, eg]
  · refine (hseq (w.heap.size + 1) (fun pre W => I pre W ∧ Recs w.heap.size r0 W) (fun pre W => Ix pre W ∧ Recs w.heap.size rx W) W1 (hb0.trans (hbw.mono hb0.size))
      (OwnFrom.and (own_up hI (by omega)) (own_up (Recs.own w.heap.size r0) (by omega))) (OwnFrom.and (own_up hIx (by omega)) (own_up (Recs.own w.heap.size rx) (by omega))) ?_ ⟨hI1, hr1⟩).mono ?_
    · rintro pre x W ⟨hi, hr⟩ hlen
      rw [e0] at hr
      have hh := hround (w.heap.size + 1) pre x W _ (Nat.le_succ _) hr.loop hi hlen
      refine YieldAt.mono' (one_round2 (R := fun Y => I (pre ++ [x]) Y ∧ Recs w.heap.size r0 Y ∧ Kp W Y ∧ KeepsFrom W1.heap.size W Y) (Rx := fun Y => Ix (pre ++ [x]) Y ∧ Recs w.heap.size rx Y) hr (hps x) (wpIn_mono hh ?_)) ?_
      · intro e a' X hX
        cases e <;> try exact hX.elim
        obtain ⟨hk, hkp, hbody⟩ := hX
        have hrX := hr.keep hk
        refine ⟨hrX, wpIn_mono (hbody _) ?_⟩
        intro e a2 Y hY
        have hrB := hrX.put (recOf w.heap.size fn a.tmps ps assign body .busy)
        cases e with
        | normal =>
          obtain ⟨hk2, hkp2, hi2⟩ := hY
          have hrY := hrB.keep hk2
          have hrE := hrY.put (recOf w.heap.size fn a.tmps ps assign body .ready)
          refine ⟨hrY, .inl ⟨rfl, hI.putObj _ hi2 (Nat.le_succ _) hrY.loop rfl, by rw [e0]; exact hrE, ?_, ?_⟩⟩
          · exact hKt _ _ _ hkp (hKt _ _ _ (hKb _ _ _ _ (Nat.le_succ _) hrX.loop) (hKt _ _ _ hkp2 (hKb _ _ _ _ (Nat.le_succ _) hrY.loop)))
          · rw [hz]
            exact ((keeps_up hk (by omega)).trans (keeps_put _ _ (by omega))).trans ((keeps_up hk2 (by omega)).trans (keeps_put _ _ (by omega)))
        | ret =>
          obtain ⟨hk2, _, hi2⟩ := hY
          have hrY := hrB.keep hk2
          have hrE := hrY.put (leftOf w.heap.size fn a.tmps ps assign body)
          exact ⟨hrY, .inr ⟨rfl, hIx.putObj _ hi2 (Nat.le_succ _) hrY.loop rfl, by rw [ex]; exact hrE⟩⟩
        | exit _ => exact absurd hY.2.1 (by intro h; cases h)
        | goto _ => exact absurd hY.2.1 (by intro h; cases h)
        | panic _ => exact hY.elim
        | outgrown => exact hY.elim
      · rintro e Y (⟨rfl, h1, h2, h3, h4⟩ | ⟨rfl, h1, h2⟩)
        · exact .inl ⟨rfl, ⟨h1, h2⟩, h3, h4⟩
        · exact .inr ⟨rfl, h1, h2⟩
    · rintro e Y ⟨⟨v, rfl⟩, ⟨xs, hS, hi, hr⟩ | ⟨pre, hS, hi, hr⟩⟩
      · rw [e0] at hr
        exact ⟨none, _, run_endLoop hr.loop (by simp), hdone _ xs _ (Nat.le_refl _) hS (hI.putObj _ hi (Nat.le_succ _) hr.loop rfl) (hr.put _).calls⟩
      · rw [ex] at hr
        exact ⟨some .ret, _, run_endLoop hr.loop (by simp), hstop _ pre _ (Nat.le_refl _) hS (hIx.putObj _ hi (Nat.le_succ _) hr.loop rfl) (hr.put _).calls⟩

/-- A plain walk of the text's order is one in the wide fence. -/
theorem quiet_wide {P : Program} {ops : Array Oper} {C : World → Prop} {Q : Act → Prop} (n : Nat) : ∀ (L : List Oper) (a : Act), wpQuiet P ops C Q L a → wpQuietIn Fence.wide n P ops C Q L a := by
  intro L
  induction L with
  | nil => intro a h; exact h
  | cons o rest ih =>
    intro a h
    have h : if Region.wanted o (yielded ops a.tmps) then o.quiet P a C (wpQuiet P ops C Q rest) else wpQuiet P ops C Q rest (a.put o.dst undef) := h
    refine ⟨fun _ _ _ _ => trivial, ?_⟩
    split
    · rename_i hw
      rw [if_pos hw] at h
      obtain ⟨v, h1, h2⟩ := h
      refine ⟨v, fun w hC => ?_, ih _ h2⟩
      have k := h1 w hC
      unfold Oper.quietAt at k
      unfold Oper.quietAtIn
      revert k
      generalize (execOp a.eval o).run P w = r
      intro k
      cases r with
      | ok x w' =>
        cases x with
        | value u => exact k
        | skip => exact k
        | enter f args => exact ⟨k.1, fun h => (by cases h), callsIn_wide.2 k.2⟩
        | _ => exact k
      | halt x w' => exact k
    · rename_i hw
      rw [if_neg hw] at h
      exact ih _ h

/-- A region that draws, whose operations read and whose callees lay new blocks alone, in a round of a loop over a function: walked plainly, in the text's order. -/
theorem wpIn_wider_round {n : Nat} {P : Program} {id : Nat} {Q : Exit → Act → World → Prop} {a : Act} {w w0 : World} {B : Nat} {L : List Oper} (l : Nat) (hd : noDefer L = true) (hm : P.follows .mixedOrders = true) (hB : Region.lexB .any L.toArray = true) (hw : Below B w0 w)
    (h : wpQuiet P L.toArray (fun w' => ∃ g : Wider B w0, w' = g.z) (fun a' => ∀ w', (∃ g : Wider B w0, w' = g.z) → Q .normal a' w') L a) : (Code.region id L.toArray true).wpIn (Fence.wide.inRound l) n P Q a w := by
  simp only [Region.lexB, Bool.and_eq_true] at hB
  refine wpIn_region_draw fun t => ?_
  simp only [Region.schedule, hm, Bool.true_or, if_true]
  refine wpOps_round l rfl (noDefer_at hd) _ _ _ (wpAnyIn_sound _ t _ a _ (wpAnyIn_of_quiet (C := fun w' => ∃ g : Wider B w0, w' = g.z) (Q := fun a' => ∀ w', (∃ g : Wider B w0, w' = g.z) → Q .normal a' w') rfl (fun _ w' hw' h => h w' hw') _ _ _ _ ⟨⟨_, hw.drew⟩, rfl⟩ ?_))
  have := wpAnyQIn_lex (F := Fence.wide) (n := n) (C := fun w' => ∃ g : Wider B w0, w' = g.z) (md := .any) hB.1 L 0 (Array.replicate L.toArray.size false) a (by simp) (by simpa using hB.2) (quiet_wide n L a h)
  simpa using this

end Go.Proofs.Ytdngehfebmaegaa.Rng
