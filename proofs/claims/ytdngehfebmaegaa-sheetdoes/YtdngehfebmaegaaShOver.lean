/-
  Over of a sheet: what was written, set in the tome.
-/
import Derived.Test.YtdngehfebmaegaaShLists
namespace Go.Proofs.Ytdngehfebmaegaa.Sht
open Go.RowKit Go.Shelf Go.Deep Go.Proofs.Ytdngehfebmaegaa.Cel Go.Proofs.Ytdngehfebmaegaa.Rng Go.Proofs.Ytdngehfebmaegaa.Dft Go.Proofs.Ytdngehfebmaegaa.Dft.F
open Tom (CanF TomeAt)
attribute [local go_sem] Oper.semAt_some

/-- A tome's files behind some that were set, of one version. -/
def oT (T : List (Fl × Int)) (L : List (Int × Fl)) (ver : Int) : List (Fl × Int) := L.foldl (fun T e => Tom.setR T e.1 e.2 ver) T

theorem oT_snoc (T : List (Fl × Int)) (L : List (Int × Fl)) (ver : Int) (e : Int × Fl) : oT T (L ++ [e]) ver = Tom.setR (oT T L ver) e.1 e.2 ver := by simp [oT, List.foldl_append]
theorem oT_length (L : List (Int × Fl)) (ver : Int) : ∀ T, (oT T L ver).length = T.length := by
  induction L with
  | nil => intro T; rfl
  | cons e r ih => intro T; exact (ih _).trans (Tom.setR_length _ _ _ _)

theorem okS_fits {e : Int × Fl} (h : 0 ≤ e.1 ∧ e.1 < 6 ∧ CanF e.2) : Tom.okS e.1 e.2 = true := by
  unfold Tom.okS
  rw [decide_eq_true ⟨h.1, h.2.1⟩, (Tom.canB_iff _).2 h.2.2]
  rfl

theorem oT_at (ver : Int) (j : Nat) (hj : j < 6) : ∀ (L : List (Int × Fl)) (T : List (Fl × Int)), T.length = 6 → Fits L → (oT T L ver)[j]! = (match Dft.look L j with | some x => (x, ver) | none => T[j]!) := by
  intro L
  induction L with
  | nil => intro T _ _; rfl
  | cons e r ih =>
    intro T hT hf
    have hup := List.pairwise_cons.1 hf.up
    have hfr : Fits r := ⟨hup.2, fun x hx => hf.is x (List.mem_cons_of_mem _ hx)⟩
    have he := hf.is e List.mem_cons_self
    have hset : Tom.setR T e.1 e.2 ver = T.set e.1.toNat (e.2, ver) := by unfold Tom.setR; rw [okS_fits he]; rfl
    have h1 := ih (Tom.setR T e.1 e.2 ver) (by rw [Tom.setR_length]; exact hT) hfr
    show (oT (Tom.setR T e.1 e.2 ver) r ver)[j]! = _
    rw [h1]
    have hlk : Dft.look (e :: r) (j : Int) = if e.1 = (j : Int) then some e.2 else Dft.look r j := by
      unfold Dft.look
      by_cases h : e.1 = (j : Int)
      · rw [List.find?_cons_of_pos (by simpa using h), if_pos h]; rfl
      · rw [List.find?_cons_of_neg (by simpa using h), if_neg h]
    rw [hlk]
    by_cases h : e.1 = (j : Int)
    · have hn : Dft.look r (j : Int) = none := by
        cases hl : Dft.look r (j : Int) with
        | none => rfl
        | some x =>
          have hm := hup.1 _ (look_mem hl)
          have : e.1 < (j : Int) := hm
          omega
      rw [hn, if_pos h, hset]
      have ej : e.1.toNat = j := by omega
      rw [ej, getElem!_pos _ j (by simp; omega)]
      simp
    · rw [if_neg h]
      cases Dft.look r (j : Int) with
      | some x => rfl
      | none =>
        dsimp only
        rw [hset, getElem!_pos _ j (by simp; omega), getElem!_pos T j (by omega), List.getElem_set_ne (by omega)]

/-- What a tome has behind Over. -/
theorem over_at {T : List (Fl × Int)} {R : List (Int × Fl)} (hT : T.length = 6) (hf : Fits R) (ver : Int) (j : Nat) (hj : j < 6) : (oT T R ver)[j]! = (ovr T R j, if (Dft.look R j).isSome then ver else T[j]!.2) := by
  rw [oT_at ver j hj R T hT hf]
  unfold ovr base
  cases Dft.look R (j : Int) with
  | some x => rfl
  | none =>
    rw [if_pos (by omega), Int.toNat_natCast]
    rfl

theorem block_kept {A W : World} {row : Option Nat} {B : Nat} {cs : Array Value} {t : TypeId} {m : Nat × Nat} (h : A.heap[B]? = some (.cells cs t m)) (hg : A.grownBy W row) (hr : ∀ r, row = some r → ∃ o : Obj, A.heap[r]? = some o ∧ o.isCells = false) : W.heap[B]? = some (.cells cs t m) := by
  rw [hg.block B (Array.getElem?_eq_some_iff.1 h).1 (fun e => ?_)]
  · exact h
  · obtain ⟨o, ho, hw⟩ := hr B e.symm
    rw [h] at ho; cases ho; cases hw

theorem tome_kept {A W : World} {row : Option Nat} {t b g : Nat} {T : List (Fl × Int)} (h : TomeAt A t b g T) (hg : A.grownBy W row) (hr : ∀ r, row = some r → ∃ o : Obj, A.heap[r]? = some o ∧ o.isCells = false) : TomeAt W t b g T :=
  h.keep ((block_kept h.at_ hg hr).trans h.at_.symm) ((block_kept h.row.at_ hg hr).trans h.row.at_.symm) ((block_kept h.row.row hg hr).trans h.row.row.symm)

theorem keeps_refl (B : Nat) (w : World) : KeepsFrom B w w := ⟨Nat.le_refl _, fun _ _ _ h _ => h⟩
theorem others_below {w w' : World} (h : Below w.heap.size w w') (B : Nat) : KeepsFrom B w w' := ⟨h.size, fun k _ _ hk _ => (h.block k (Array.getElem?_eq_some_iff.1 hk).1).trans hk⟩
theorem others_set (B : Nat) (w : World) (a : Addr) (x : Value) : KeepsFrom B w (w.setCell a x) := (KeepsOthers.setCell w a x).from B
theorem others_but {X Y : World} {g : Nat} {cs : Array Value} {t : TypeId} {m : Nat × Nat} (B : Nat) (h : But [g] X Y) (hg : X.heap[g]? = some (.cells cs t m)) : KeepsFrom B X Y :=
  ⟨h.size, fun k o _ hk ho => (h.block k (Array.getElem?_eq_some_iff.1 hk).1 (fun e => by
    have e : k = g := by simpa using e
    rw [e, hg] at hk
    cases hk
    cases ho)).trans hk⟩
theorem kt_but {X Y : World} {g : Nat} {cs : Array Value} {t : TypeId} {m : Nat × Nat} (h : But [g] X Y) (hg : X.heap[g]? = some (.cells cs t m)) (ht : t ≠ 77) : Dft.F.KT X Y := fun k cs' m' hk =>
  h.block k (Array.getElem?_eq_some_iff.1 hk).1 (fun e => block_ne hk hg (fun e => ht e.symm) (by simpa using e))

/-- The state of Over's loop: the tome, and the three boxes, from block K on. -/
structure OSt (w W : World) (t b g : Nat) (T : List (Fl × Int)) (K : Nat) (ver n : Int) : Prop where
  tome : TomeAt W t b g T
  bt : W.heap[K]? = some (.cells #[.pointer (some ⟨t, 0, none⟩)] 27 (0, 0))
  bv : W.heap[K + 1]? = some (.cells #[.int .i64 ver] 3 (0, 0))
  bn : W.heap[K + 1 + 1]? = some (.cells #[.int .i64 n] 3 (0, 0))
  but : But [g] w W

section
variable {w W W' : World} {t b g K : Nat} {T : List (Fl × Int)} {ver n : Int}

theorem OSt.grown (h : OSt w W t b g T K ver n) (hb : Below W.heap.size W W') : OSt w W' t b g T K ver n :=
  ⟨h.tome.grown hb, (hb.block _ (Array.getElem?_eq_some_iff.1 h.bt).1).trans h.bt, (hb.block _ (Array.getElem?_eq_some_iff.1 h.bv).1).trans h.bv, (hb.block _ (Array.getElem?_eq_some_iff.1 h.bn).1).trans h.bn, h.but.trans (.of_below hb)⟩
theorem OSt.kept {row : Option Nat} (h : OSt w W t b g T K ver n) (hg : W.grownBy W' row) (hr : ∀ r, row = some r → w.heap.size ≤ r ∧ ∃ o : Obj, W.heap[r]? = some o ∧ o.isCells = false) : OSt w W' t b g T K ver n :=
  ⟨tome_kept h.tome hg fun r e => (hr r e).2, block_kept h.bt hg fun r e => (hr r e).2, block_kept h.bv hg fun r e => (hr r e).2, block_kept h.bn hg fun r e => (hr r e).2, h.but.grown hg fun r e => .inr (hr r e).1⟩
theorem OSt.set {T' : List (Fl × Int)} (h : OSt w W t b g T K ver n) (hT : TomeAt W' t b g T') (hb : But [g] W W') : OSt w W' t b g T' K ver n := by
  have no : ∀ (k : Nat) (cs : Array Value) (ty : TypeId) (m : Nat × Nat), W.heap[k]? = some (.cells cs ty m) → ty ≠ 104 → W'.heap[k]? = some (.cells cs ty m) := fun k cs ty m hk h1 =>
    (hb.block k (Array.getElem?_eq_some_iff.1 hk).1 (fun e => block_ne hk h.tome.row.row h1 (by simpa using e))).trans hk
  exact ⟨hT, no _ _ _ _ h.bt (by decide), no _ _ _ _ h.bv (by decide), no _ _ _ _ h.bn (by decide), h.but.trans hb⟩
theorem OSt.number (h : OSt w W t b g T K ver n) (hK : w.heap.size ≤ K) (m : Int) : OSt w (W.setCell ⟨K + 1 + 1, 0, none⟩ (.int .i64 m)) t b g T K ver m := by
  have no : ∀ (k : Nat) (cs : Array Value) (ty : TypeId) (q : Nat × Nat), W.heap[k]? = some (.cells cs ty q) → ty ≠ 3 → (W.setCell ⟨K + 1 + 1, 0, none⟩ (.int .i64 m)).heap[k]? = W.heap[k]? := fun k cs ty q hk h1 =>
    Below.heap_setCell _ _ _ _ (fun e => block_ne hk h.bn h1 e)
  refine ⟨h.tome.keep (no _ _ _ _ h.tome.at_ (by decide)) (no _ _ _ _ h.tome.row.at_ (by decide)) (no _ _ _ _ h.tome.row.row (by decide)), (no _ _ _ _ h.bt (by decide)).trans h.bt, (Below.heap_setCell _ _ _ _ (by show K + 1 ≠ K + 1 + 1; omega)).trans h.bv, heap_set _ h.bn, h.but.set (.inr (by omega)) _ _⟩
end

end Go.Proofs.Ytdngehfebmaegaa.Sht
