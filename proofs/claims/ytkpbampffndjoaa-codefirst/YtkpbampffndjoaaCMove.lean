/-
  Programs moved: all places further by a number; a block taken out. Plain facts, no program.
-/
import Derived.Test.YtkpbampffndjoaaCMath
namespace Go.Proofs.Ytkpbampffndjoaa

/-- An instruction whose place, if it names one, is further by d. -/
def sh1 (d : Int) (x : Ins) : Ins := if x.op = 3 ∨ x.op = 20 then ⟨x.op, x.a + d, x.b, x.c⟩ else x

theorem sh1_op (d : Int) (x : Ins) : (sh1 d x).op = x.op := by unfold sh1; split <;> rfl
theorem sh1_fits (d : Int) (x : Ins) : fitsB (sh1 d x) = fitsB x := by
  unfold sh1
  split
  · next h =>
    obtain ⟨op, a, b, c⟩ := x
    dsimp only at h ⊢
    rcases h with rfl | rfl <;> rfl
  · rfl
theorem sh1_yes {d : Int} {x : Ins} (h : x.op = 3 ∨ x.op = 20) : sh1 d x = ⟨x.op, x.a + d, x.b, x.c⟩ := if_pos h
theorem sh1_no {d : Int} {x : Ins} (h : ¬ (x.op = 3 ∨ x.op = 20)) : sh1 d x = x := if_neg h

/-- j instructions from a place on, moved. -/
def mv (d : Int) (ps : List Ins) (t j : Nat) : List Ins := ((ps.drop t).take j).map (sh1 d)

theorem mv_len {d : Int} {ps : List Ins} {t j : Nat} (h : t + j ≤ ps.length) : (mv d ps t j).length = j := by simp [mv]; omega
theorem mv_get {d : Int} {ps : List Ins} {t j i : Nat} (h : t + j ≤ ps.length) (hi : i < j) : (mv d ps t j)[i]! = sh1 d ps[t + i]! := by
  rw [getElem!_pos _ i (by rw [mv_len h]; exact hi), getElem!_pos ps (t + i) (by omega)]
  simp [mv]
theorem mv_succ {d : Int} {ps : List Ins} {t j : Nat} (h : t + j < ps.length) : mv d ps t (j + 1) = mv d ps t j ++ [sh1 d ps[t + j]!] := by
  rw [getElem!_pos ps (t + j) h]
  unfold mv
  rw [List.take_add_one, List.map_append, List.getElem?_drop, List.getElem?_eq_getElem h]
  rfl

theorem bg_same {qs ps : List Ins} {s t n : Nat} (h : ∀ j, j < n → opA qs (s + j) = opA ps (t + j)) : ∀ j, j ≤ n → bg qs (s + j) + bg ps t = bg ps (t + j) + bg qs s := by
  intro j
  induction j with
  | zero => intro _; simp only [Nat.add_zero]; omega
  | succ j ih =>
    intro hj
    have := ih (by omega)
    rw [← Nat.add_assoc, ← Nat.add_assoc]
    simp only [bg]
    rw [h j (by omega)]
    omega
theorem en_same {qs ps : List Ins} {s t n : Nat} (h : ∀ j, j < n → opA qs (s + j) = opA ps (t + j)) : ∀ j, j ≤ n → en qs (s + j) + en ps t = en ps (t + j) + en qs s := by
  intro j
  induction j with
  | zero => intro _; simp only [Nat.add_zero]; omega
  | succ j ih =>
    intro hj
    have := ih (by omega)
    rw [← Nat.add_assoc, ← Nat.add_assoc]
    simp only [en]
    rw [h j (by omega)]
    omega
theorem el_same {qs ps : List Ins} {s t n : Nat} (h : ∀ j, j < n → opA qs (s + j) = opA ps (t + j)) (h0 : elB qs s = elB ps t) : ∀ j, j ≤ n → elB qs (s + j) = elB ps (t + j) := by
  intro j
  induction j with
  | zero => intro _; exact h0
  | succ j ih =>
    intro hj
    rw [← Nat.add_assoc, ← Nat.add_assoc]
    simp only [elB]
    rw [h j (by omega), ih (by omega)]
theorem su_same {qs ps : List Ins} {s t n : Nat} (h : ∀ j, j < n → opA qs (s + j) = opA ps (t + j)) (h0 : suB qs s = suB ps t) : ∀ j, j ≤ n → suB qs (s + j) = suB ps (t + j) := by
  intro j
  induction j with
  | zero => intro _; exact h0
  | succ j ih =>
    intro hj
    rw [← Nat.add_assoc, ← Nat.add_assoc]
    simp only [suB]
    rw [h j (by omega), ih (by omega)]

theorem one_move {qs ps : List Ins} {i k : Nat} {d : Int} (hg : qs[i]! = sh1 d ps[k]!) (h1 : elB qs i = elB ps k) (h2 : suB qs i = suB ps k) (h3 : inB qs i = 0 ↔ inB ps k = 0)
    (h4 : ps[k]!.op = 3 ∨ ps[k]!.op = 20 → (i : Int) < ps[k]!.a + d ∧ ps[k]!.a + d < (qs.length + 1 : Nat) ∧ inB qs (ps[k]!.a + d).toNat = inB qs i) (h : oneB ps k = true) : oneB qs i = true := by
  obtain ⟨p1, p2, p3, p4⟩ := oneB_parts h
  have e3 : decide (inB qs i ≠ 0) = decide (inB ps k ≠ 0) := by
    apply decide_eq_decide.2
    constructor
    · intro a b; exact a (h3.2 b)
    · intro a b; exact a (h3.1 b)
  refine oneB_of ?_ ?_ ?_ ?_
  · rw [hg, sh1_fits]; exact p1
  · rw [hg, sh1_op, e3]; exact p2
  · rw [hg, sh1_op, h1, h2]; exact p3
  · rw [hg]
    unfold leadsB
    by_cases ho : ps[k]!.op = 3 ∨ ps[k]!.op = 20
    · obtain ⟨a1, a2, a3⟩ := h4 ho
      rw [sh1_yes ho]
      simp only [a1, a2, a3, decide_true, Bool.and_self, ite_self]
    · rw [sh1_op, if_pos (by constructor <;> intro e <;> exact ho (by simp only [e, true_or, or_true]))]

theorem bg_mono (ps : List Ins) (k d : Nat) : bg ps k ≤ bg ps (k + d) := by
  induction d with
  | zero => exact Nat.le_refl _
  | succ d ih => rw [← Nat.add_assoc]; simp only [bg]; omega
theorem en_mono (ps : List Ins) (k d : Nat) : en ps k ≤ en ps (k + d) := by
  induction d with
  | zero => exact Nat.le_refl _
  | succ d ih => rw [← Nat.add_assoc]; simp only [en]; omega

theorem Fine.leads {ps : List Ins} (F : Fine ps) {k : Nat} (hk : k < ps.length) (ho : ps[k]!.op = 3 ∨ ps[k]!.op = 20) :
    ∃ A : Nat, ps[k]!.a = A ∧ k < A ∧ A ≤ ps.length ∧ inB ps A = inB ps k := by
  have h := (oneB_parts (F.one k hk)).2.2.2
  unfold leadsB at h
  rw [if_neg (fun q => by rcases ho with h' | h'; exact q.1 h'; exact q.2 h')] at h
  simp only [Bool.and_eq_true, decide_eq_true_eq] at h
  obtain ⟨⟨h1, h2⟩, h3⟩ := h
  exact ⟨ps[k]!.a.toNat, by omega, by omega, by omega, h3⟩

/-- A program, an instruction on registers ahead of it. -/
theorem fine_shift {ps : List Ins} (F : Fine ps) (hl : ps.length ≤ 47) {r n : Int} (h0 : 0 ≤ r) (h3 : r ≤ 3) :
    Fine (⟨1, r, n, 0⟩ :: mv 1 ps 0 ps.length) ∧ bg (⟨1, r, n, 0⟩ :: mv 1 ps 0 ps.length) (ps.length + 1) = bg ps ps.length := by
  obtain ⟨qs, hq⟩ : ∃ qs, qs = (⟨1, r, n, 0⟩ : Ins) :: mv 1 ps 0 ps.length := ⟨_, rfl⟩
  have ml : (mv 1 ps 0 ps.length).length = ps.length := mv_len (by omega)
  have hlen : qs.length = ps.length + 1 := by rw [hq, List.length_cons, ml]
  have q0 : qs[0]! = ⟨1, r, n, 0⟩ := by rw [hq]; rfl
  have qj : ∀ j, j < ps.length → qs[1 + j]! = sh1 1 ps[j]! := fun j hj => by
    have e := mv_get (d := 1) (ps := ps) (t := 0) (j := ps.length) (i := j) (by omega) hj
    rw [Nat.zero_add] at e
    rw [← e, hq, Nat.add_comm 1 j, getElem!_pos _ (j + 1) (by rw [List.length_cons, ml]; omega), getElem!_pos _ j (by rw [ml]; exact hj)]
    rfl
  have ho : ∀ j, j < ps.length → opA qs (1 + j) = opA ps (0 + j) := fun j hj => by
    rw [Nat.zero_add]
    unfold opA
    rw [qj j hj, sh1_op]
  have o0 : opA qs 0 = 1 := by unfold opA; rw [q0]
  have b1 : bg qs 1 = 0 := by simp only [bg]; rw [o0]; rfl
  have e1 : en qs 1 = 0 := by simp only [en]; rw [o0]; rfl
  have l1 : elB qs 1 = 0 := by simp only [elB]; rw [o0]; rfl
  have s1 : suB qs 1 = false := by simp only [suB]; rw [o0]; rfl
  have hb : ∀ j, j ≤ ps.length → bg qs (1 + j) = bg ps j := fun j hj => by
    have := bg_same ho j hj
    rw [b1, Nat.zero_add] at this
    exact this
  have he : ∀ j, j ≤ ps.length → en qs (1 + j) = en ps j := fun j hj => by
    have := en_same ho j hj
    rw [e1, Nat.zero_add] at this
    exact this
  have hi : ∀ j, j ≤ ps.length → inB qs (1 + j) = inB ps j := fun j hj => by
    unfold inB
    rw [hb j hj, he j hj]
  have S := shB_iff.1 F.sh
  rw [← hq]
  refine ⟨⟨by rw [hlen]; omega, shB_iff.2 ⟨fun k hk => ?_, ?_⟩, allB_of fun k hk => ?_⟩, ?_⟩
  · cases k with
    | zero => simp [bg, en]
    | succ k => rw [hlen] at hk; rw [Nat.add_comm k 1, hb k (by omega), he k (by omega)]; exact S.up k (by omega)
  · rw [hlen, Nat.add_comm, hb _ (Nat.le_refl _), he _ (Nat.le_refl _)]; exact S.last
  · cases k with
    | zero =>
      refine oneB_of ?_ ?_ ?_ ?_ <;> rw [q0]
      · show (lowB r 4 && isZ 0) = true
        simp [lowB, isZ]
        omega
      · rfl
      · rfl
      · rfl
    | succ k =>
      rw [hlen] at hk
      have hk' : k < ps.length := by omega
      rw [Nat.add_comm k 1]
      refine one_move (d := 1) (k := k) (qj k hk') ?_ ?_ ?_ ?_ (F.one k hk')
      · have := el_same ho (by rw [l1]; rfl) k (by omega); rw [Nat.zero_add] at this; exact this
      · have := su_same ho (by rw [s1]; rfl) k (by omega); rw [Nat.zero_add] at this; exact this
      · rw [hi k (by omega)]
      · intro hop
        obtain ⟨A, a1, a2, a3, a4⟩ := F.leads hk' hop
        rw [a1, hlen]
        refine ⟨by omega, by omega, ?_⟩
        rw [show ((A : Int) + 1).toNat = 1 + A by omega, hi A a3, hi k (by omega), a4]
  · rw [Nat.add_comm, hb _ (Nat.le_refl _)]

/-- A block that is taken out: m instructions, its Begin and its End among them. -/
theorem fine_block {ps : List Ins} (F : Fine ps) {t m : Nat} (hm : t + m < ps.length) (ht : opA ps t = 4) (hno : ∀ i, i < m → opA ps (t + i) ≠ 5) (he : opA ps (t + m) = 5) :
    Fine (mv (-(t : Int)) ps t (m + 1)) ∧ bg (mv (-(t : Int)) ps t (m + 1)) (m + 1) = 1 := by
  have m0 : 0 < m := by
    rcases Nat.eq_zero_or_pos m with h | h
    · subst h; rw [Nat.add_zero, ht] at he; cases he
    · exact h
  obtain ⟨qs, hq⟩ : ∃ qs, qs = mv (-(t : Int)) ps t (m + 1) := ⟨_, rfl⟩
  have hlen : qs.length = m + 1 := by rw [hq]; exact mv_len (by omega)
  have qj : ∀ j, j < m + 1 → qs[j]! = sh1 (-(t : Int)) ps[t + j]! := fun j hj => by rw [hq]; exact mv_get (by omega) hj
  have ho : ∀ j, j < m + 1 → opA qs j = opA ps (t + j) := fun j hj => by unfold opA; rw [qj j hj, sh1_op]
  have ho1 : ∀ j, j < m → opA qs (1 + j) = opA ps (t + 1 + j) := fun j hj => by rw [ho (1 + j) (by omega), Nat.add_assoc]
  have ho0 : opA qs 0 = 4 := by rw [ho 0 (by omega)]; exact ht
  have S := shB_iff.1 F.sh
  have bt : bg ps (t + 1) = bg ps t + 1 := by simp only [bg]; rw [ht]; rfl
  have et : en ps (t + 1) = en ps t := by simp only [en]; rw [ht]; rfl
  have u0 := S.up t (by omega)
  have u1 := S.up (t + 1) (by omega)
  have heq : bg ps t = en ps t := by omega
  have b1 : bg qs 1 = 1 := by simp only [bg]; rw [ho0]; rfl
  have e1 : en qs 1 = 0 := by simp only [en]; rw [ho0]; rfl
  have l1 : elB qs 1 = 0 := by simp only [elB]; rw [ho0]; rfl
  have s1 : suB qs 1 = false := by simp only [suB]; rw [ho0]; rfl
  have lp : elB ps (t + 1) = 0 := by simp only [elB]; rw [ht]; rfl
  have sp : suB ps (t + 1) = false := by simp only [suB]; rw [ht]; rfl
  have hen : ∀ j, j < m → en ps (t + 1 + j) = en ps t := by
    intro j
    induction j with
    | zero => intro _; exact et
    | succ j ih =>
      intro hj
      have := ih (by omega)
      rw [← Nat.add_assoc]
      simp only [en]
      rw [this, if_neg (by have := hno (1 + j) (by omega); rw [← Nat.add_assoc] at this; exact this)]
      rfl
  have hbgp : ∀ j, j < m → bg ps (t + 1 + j) = bg ps t + 1 := fun j hj => by
    have h1 := bg_mono ps (t + 1) j
    have h2 := S.up (t + 1 + j) (by omega)
    rw [hen j hj] at h2
    omega
  have ee : en ps (t + m + 1) = en ps t + 1 := by
    simp only [en]
    rw [he]
    have := hen (m - 1) (by omega)
    rw [show t + 1 + (m - 1) = t + m by omega] at this
    rw [this]
    rfl
  have be : bg ps (t + m + 1) = bg ps t + 1 := by
    simp only [bg]
    rw [he]
    have := hbgp (m - 1) (by omega)
    rw [show t + 1 + (m - 1) = t + m by omega] at this
    rw [this]
    rfl
  have hb : ∀ j, j < m → bg qs (1 + j) = 1 ∧ en qs (1 + j) = 0 := fun j hj => by
    have h1 := bg_same ho1 j (by omega)
    have h2 := en_same ho1 j (by omega)
    rw [hbgp j hj, b1, bt] at h1
    rw [hen j hj, e1, et] at h2
    omega
  have hbe : bg qs (m + 1) = 1 ∧ en qs (m + 1) = 1 := by
    have h1 := bg_same ho1 m (Nat.le_refl _)
    have h2 := en_same ho1 m (Nat.le_refl _)
    rw [show t + 1 + m = t + m + 1 by omega, Nat.add_comm 1 m] at h1 h2
    rw [be, b1, bt] at h1
    rw [ee, e1, et] at h2
    omega
  have hi : ∀ j, j < m → inB qs (1 + j) = 1 := fun j hj => by
    unfold inB
    rw [(hb j hj).1, (hb j hj).2]
    rfl
  have hip : ∀ j, j < m → inB ps (t + 1 + j) = bg ps t + 1 := fun j hj => by
    unfold inB
    rw [hbgp j hj, hen j hj, if_neg (by omega)]
  rw [← hq]
  refine ⟨⟨by rw [hlen]; have := F.len; omega, shB_iff.2 ⟨fun k hk => ?_, ?_⟩, allB_of fun k hk => ?_⟩, hbe.1⟩
  · rw [hlen] at hk
    rcases Nat.eq_zero_or_pos k with h | h
    · subst h; simp [bg, en]
    · by_cases e : k = m + 1
      · subst e; rw [hbe.1, hbe.2]; omega
      · have := hb (k - 1) (by omega)
        rw [show 1 + (k - 1) = k by omega] at this
        rw [this.1, this.2]; omega
  · rw [hlen, hbe.1, hbe.2]
  · rw [hlen] at hk
    have hone := F.one (t + k) (by omega)
    rcases Nat.eq_zero_or_pos k with h | h
    · subst h
      have hop : ps[t]!.op = 4 := ht
      have p := oneB_parts hone
      rw [Nat.add_zero] at p
      refine oneB_of ?_ ?_ ?_ ?_ <;> rw [qj 0 hk, Nat.add_zero, sh1_no (by rw [hop]; decide)]
      · exact p.1
      · rw [hop]; rfl
      · rw [hop]; rfl
      · unfold leadsB; rw [hop]; rfl
    · obtain ⟨j, rfl⟩ : ∃ j, k = 1 + j := ⟨k - 1, by omega⟩
      have hj : j < m := by omega
      rw [← Nat.add_assoc] at hone
      refine one_move (d := -(t : Int)) (k := t + 1 + j) (by rw [qj (1 + j) hk, Nat.add_assoc]) (el_same ho1 (by rw [l1, lp]) j (by omega)) (su_same ho1 (by rw [s1, sp]) j (by omega)) ?_ ?_ hone
      · rw [hi j hj, hip j hj]; constructor <;> intro h <;> omega
      · intro hop
        obtain ⟨A, a1, a2, a3, a4⟩ := F.leads (by omega) hop
        rw [a1, hlen]
        rw [hip j hj] at a4
        have hAle : A ≤ t + m := by
          rcases Nat.lt_or_ge (t + m) A with h | h
          · have h2 := en_mono ps (t + m + 1) (A - (t + m + 1))
            rw [show t + m + 1 + (A - (t + m + 1)) = A by omega, ee] at h2
            unfold inB at a4
            split at a4
            · omega
            · have := S.up A a3; omega
          · exact h
        refine ⟨by omega, by omega, ?_⟩
        have := hi (A - t - 1) (by omega)
        rw [show ((A : Int) + -(t : Int)).toNat = 1 + (A - t - 1) by omega, this, hi j hj]

/-- A block is closed. -/
theorem block_ends {ps : List Ins} (F : Fine ps) {t : Nat} (h : t < ps.length) (ht : opA ps t = 4) (hno : ∀ i, i < ps.length - t → opA ps (t + i) ≠ 5) : False := by
  have S := shB_iff.1 F.sh
  have bt : bg ps (t + 1) = bg ps t + 1 := by simp only [bg]; rw [ht]; rfl
  have u0 := S.up t (by omega)
  have hen : ∀ j, j ≤ ps.length - t → en ps (t + j) = en ps t := by
    intro j
    induction j with
    | zero => intro _; rfl
    | succ j ih =>
      intro hj
      rw [← Nat.add_assoc]
      simp only [en]
      rw [ih (by omega), if_neg (hno j (by omega))]
      rfl
  have h1 := bg_mono ps (t + 1) (ps.length - t - 1)
  rw [show t + 1 + (ps.length - t - 1) = ps.length by omega] at h1
  have h2 := hen (ps.length - t) (Nat.le_refl _)
  rw [show t + (ps.length - t) = ps.length by omega] at h2
  have := S.last
  omega

end Go.Proofs.Ytkpbampffndjoaa
