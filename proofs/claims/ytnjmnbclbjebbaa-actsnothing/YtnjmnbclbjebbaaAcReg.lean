/-
  A region that asks the tape, draws, reads, calls, and stores at its end: what the world meets is told for each set of operations that came up (I), so that a load that all stores wait for may be taken first.
-/
import Derived.Test.YtnjmnbclbjebbaaAcLow
import Derived.Deep.RegionHeld3
namespace Go.Proofs.Ytnjmnbclbjebbaa.Ac.Reg
open Go

section
variable {P : Program} {ops : Array Oper} {Q : Exit → Act → World → Prop} {md : Region.Mode} {I : Array Bool → World → Prop}

/-- Whatever order is picked, and behind each operation the world meets I of those that came up. -/
def wpI (P : Program) (md : Region.Mode) (ops : Array Oper) (Q : Exit → Act → World → Prop) (I : Array Bool → World → Prop) : Nat → Array Bool → Act → World → Prop
  | 0, listed, a, w => Region.ready md ops listed = [] ∧ Q .normal a w
  | fuel + 1, listed, a, w =>
    (Region.ready md ops listed = [] → Q .normal a w) ∧
    ∀ i ∈ Region.ready md ops listed, wpOp P ops Q i (fun a' w' => I (listed.setIfInBounds i true) w' ∧ wpI P md ops Q I fuel (listed.setIfInBounds i true) a' w') a w

theorem wpAny_of : ∀ (fuel : Nat) (listed : Array Bool) (a : Act) (w : World), wpI P md ops Q I fuel listed a w → wpAny P md ops Q fuel listed a w
  | 0, _, _, _, h => h
  | fuel + 1, _, _, _, h => ⟨h.1, fun i hi => wpOp_mono (fun a' w' h' => wpAny_of fuel _ a' w' h'.2) (h.2 i hi)⟩

/-- Those all wait for i, or for one another. -/
def waits (md : Region.Mode) (ops : Array Oper) (i : Nat) (W : List Nat) : Bool :=
  W.all fun j => match ops[j]? with | some o => o.after.any fun e => Region.binds md e && (e.on == i || W.contains e.on) | none => true

def fresh (W : List Nat) (l : Array Bool) : Prop := ∀ k ∈ W, l.getD k true = false

theorem getD_set_le {l : Array Bool} {i k : Nat} (h : (l.setIfInBounds i true).getD k true = false) : l.getD k true = false := by
  by_cases e : i = k
  · subst e
    rcases Nat.lt_or_ge i l.size with h' | h'
    · simp [h'] at h
    · rw [Array.setIfInBounds_eq_of_size_le h'] at h
      exact h
  · rwa [getD_set_ne true e] at h
theorem fresh_le {W : List Nat} {l : Array Bool} {i : Nat} (h : fresh W (l.setIfInBounds i true)) : fresh W l := fun k hk => getD_set_le (h k hk)
theorem not_fresh {W : List Nat} {l : Array Bool} {i : Nat} (hi : i ∈ W) : ¬ fresh W (l.setIfInBounds i true) := fun h => by
  have := h i hi
  rcases Nat.lt_or_ge i l.size with h' | h'
  · simp [h'] at this
  · rw [Array.setIfInBounds_eq_of_size_le h'] at this
    simp [Array.getElem?_eq_none h'] at this

theorem first {R : World → Prop} {i : Nat} {oi : Oper} {v : Value} (hi : ops[i]? = some oi) (hsel : ∀ (j : Nat) (o : Oper) cs b, ops[j]? = some o → o.op ≠ .select cs b)
    (hQ : ∀ c a w, Q (.panic c) (a.put oi.dst v) w → Q (.panic c) a w) (hI : ∀ l w, I (l.setIfInBounds i true) w ↔ I l w) (W : List Nat) (hW : waits md ops i W = true) (hR : ∀ l w, I l w → fresh W l → R w) :
    ∀ (fuel : Nat) (listed : Array Bool) (a : Act) (w : World), fresh W listed →
      (∀ j oj, ops[j]? = some oj → j ≠ i → listed.getD j true = false → (∀ e ∈ oj.after, Region.binds md e = true → e.on ≠ i) → oi.apart ops oj = true) →
      i ∈ Region.ready md ops listed → YieldsIf P ops R oi v a → I listed w →
      wpI P md ops Q I fuel (listed.setIfInBounds i true) (a.put oi.dst v) w → wpI P md ops Q I (fuel + 1) listed a w := by
  intro fuel
  induction fuel with
  | zero =>
    intro listed a w hfr _ hr hy hS H
    refine ⟨fun h => (by rw [h] at hr; cases hr), fun j hj => ?_⟩
    by_cases hji : j = i
    · subst hji; exact hy.wpOp hi (hR _ _ hS hfr) ⟨(hI _ _).2 hS, H⟩
    · have := ready_mono hj hji
      rw [H.1] at this
      cases this
  | succ fuel ih =>
    intro listed a w hfr hfree hr hy hS H
    refine ⟨fun h => (by rw [h] at hr; cases hr), fun j hj => ?_⟩
    by_cases hji : j = i
    · subst hji; exact hy.wpOp hi (hR _ _ hS hfr) ⟨(hI _ _).2 hS, H⟩
    · have h1 := H.2 j (ready_mono hj hji)
      obtain ⟨hjun, oj, hoj, hall⟩ := mem_ready.1 hj
      have hun : ∀ k, listed.getD k true = false → ∀ e ∈ oj.after, Region.binds md e = true → e.on ≠ k := fun k h0 e he hb heq => by
        have h1 := hall e he hb
        rw [heq] at h1
        rcases Nat.lt_or_ge k listed.size with h' | h'
        · simp [h'] at h0 h1; rw [h0] at h1; cases h1
        · simp [Array.getElem?_eq_none h'] at h1
      have hnot := hun i (mem_ready.1 hr).1
      have hjW : j ∉ W := fun hm => by
        have h1 := List.all_eq_true.1 hW j hm
        rw [hoj] at h1
        simp only [Array.any_eq_true, Bool.and_eq_true, Bool.or_eq_true, beq_iff_eq] at h1
        obtain ⟨k, hk, hb, he⟩ := h1
        rcases he with he | he
        · exact hnot _ (Array.getElem_mem hk) hb he
        · exact hun _ (hfr _ (by simpa using he)) _ (Array.getElem_mem hk) hb rfl
      have hfr' : fresh W (listed.setIfInBounds j true) := fun k hk => by
        rw [getD_set_ne true (fun e => hjW (by rw [e]; exact hk))]
        exact hfr k hk
      have h2 := wpOp_putIf hoj (hfree j oj hoj hji hjun hnot) (fun cs b => hsel i oi cs b hi) (fun cs b => hsel j oj cs b hoj) hQ hy h1
      have hfree' : ∀ k ok, ops[k]? = some ok → k ≠ i → (listed.setIfInBounds j true).getD k true = false →
          (∀ e ∈ ok.after, Region.binds md e = true → e.on ≠ i) → oi.apart ops ok = true := fun k ok hk hki hun hno => hfree k ok hk hki (getD_set_le hun) hno
      refine wpOp_mono (fun a' w' h3 => ?_) h2
      have h4 := h3.2.1
      have h5 := h3.2.2
      rw [Array.setIfInBounds_comm _ _ (Ne.symm hji)] at h4 h5
      have h6 := (hI _ _).1 h4
      exact ⟨h6, ih (listed.setIfInBounds j true) a' w' hfr' hfree' (ready_mono hr (Ne.symm hji)) h3.1 h6 h5⟩

theorem fresh_all {W : List Nat} {l : Array Bool} (h : (W.all fun k => l.getD k true == false) = true) : fresh W l := fun k hk => by
  have := List.all_eq_true.1 h k hk
  simpa using this

theorem fresh_sub {V W : List Nat} {l : Array Bool} (h : fresh W l) (hs : ∀ k ∈ V, k ∈ W) : fresh V l := fun k hk => h k (hs k hk)

/-- Take number i first: what it yields hangs on R, that I tells as long as none of W came up, and those wait for i. -/
theorem take (R : World → Prop) (W : List Nat) {i : Nat} {oi : Oper} {v : Value} {fuel : Nat} {listed : Array Bool} {a : Act} {w : World} (hI : ∀ i, i ∉ [28, 31, 34, 37] → ∀ l w, I (l.setIfInBounds i true) w ↔ I l w) (hS : I listed w) (hR : ∀ l w, I l w → fresh W l → R w) (hi : ops[i]? = some oi)
    (hs : Region.noSelect ops = true) (hf : Region.free md ops listed i = true) (hr : (Region.ready md ops listed).contains i = true) (hW : waits md ops i W = true) (hfr : (W.all fun k => listed.getD k true == false) = true) (hin : [28, 31, 34, 37].contains i = false)
    (hQ : ∀ c a w, Q (.panic c) (a.put oi.dst v) w → Q (.panic c) a w) (hy : YieldsIf P ops R oi v a)
    (h : I (listed.setIfInBounds i true) w → wpI P md ops Q I fuel (listed.setIfInBounds i true) (a.put oi.dst v) w) : wpI P md ops Q I (fuel + 1) listed a w :=
  have hI' := hI i (by simpa using hin)
  first hi (Region.noSelect_spec hs) hQ hI' W hW hR fuel listed a w (fresh_all hfr) (Region.free_spec hi hf) (by simpa using hr) hy hS (h ((hI' _ _).2 hS))

theorem start {id : Nat} {a : Act} {w : World} (hm : P.follows .mixedOrders = true) (hS : I (Array.replicate ops.size false) w.drew)
    (h : I (Array.replicate ops.size false) w.drew → wpI P .any ops Q I ops.size (Array.replicate ops.size false) a w.drew) : (Code.region id ops true).wp P Q a w :=
  wp_region_any hm (wpAny_of _ _ _ _ (h hS))

theorem done {listed : Array Bool} {a : Act} {w : World} (hr : Region.ready md ops listed = []) (h : Q .normal a w) :
    ∀ fuel, wpI P md ops Q I fuel listed a w
  | 0 => ⟨hr, h⟩
  | _ + 1 => ⟨fun _ => h, by rw [hr]; simp⟩

/-- The only one that may come up is carried out. -/
theorem one {i : Nat} {o : Oper} {fuel : Nat} {listed : Array Bool} {a : Act} {w : World} (hr : Region.ready md ops listed = [i]) (ho : ops[i]? = some o)
    (h : ∀ K' : Act → World → Prop, Shut (∀ a w, I (listed.setIfInBounds i true) w → (I (listed.setIfInBounds i true) w → wpI P md ops Q I fuel (listed.setIfInBounds i true) a w) → K' a w) → if Region.wanted o (yielded ops a.tmps) = true then Oper.wp P o a w K' Q else K' (a.put o.dst undef) w) :
    wpI P md ops Q I (fuel + 1) listed a w := by
  refine ⟨fun h0 => (by rw [hr] at h0; cases h0), fun j hj => ?_⟩
  rw [hr] at hj
  obtain rfl : j = i := by simpa using hj
  exact wpOp_step ho fun K' hK => h K' fun a w hT hW => hK a w ⟨hT, hW hT⟩

end

end Go.Proofs.Ytnjmnbclbjebbaa.Ac.Reg
