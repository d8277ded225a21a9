/-
  Two acts of a law's own that share no block; what stands behind more acts; back at a mark.
-/
import Derived.Test.YtnjmnbclbjebbaaAcState
namespace Go.Proofs.Ytnjmnbclbjebbaa.Ac
open Go.RowKit Go.Deep Go.Proofs.Ytnjmnbclbjebbaa.Cel Go.Proofs.Ytnjmnbclbjebbaa.Dft

/-- So many more of each, so many opens among them. -/
def Ext (T T2 : AS) (n : Nat) : Prop := ∃ (o e : List Pr) (ns : List Int) (p : List Pr), T2 = ⟨T.out ++ o, T.beh ++ e, T.notes ++ ns, T.ops ++ p⟩ ∧ p.length = n

theorem Ext.refl (T : AS) : Ext T T 0 := ⟨[], [], [], [], by simp, rfl⟩
theorem Ext.add {T T2 : AS} {n : Nat} (h : Ext T T2 n) (x : A3) (h0 : 0 ≤ x.1) (h3 : x.1 ≤ 3) : Ext T (T2.add x) (if ans x = true ∧ x.1 = 3 then n + 1 else n) := by
  obtain ⟨k, a, d⟩ := x
  obtain ⟨o, e, ns, p, rfl, hp⟩ := h
  simp only at h0 h3
  have hk : k = 0 ∨ k = 1 ∨ k = 2 ∨ k = 3 := by omega
  rcases hk with rfl | rfl | rfl | rfl
  · rw [if_neg (fun q => absurd q.2 (by simp))]
    unfold AS.add AS.send
    simp only [if_true]
    split
    · exact ⟨o ++ [(a, u8I d)], e, ns, p, by simp, hp⟩
    · exact ⟨o, e, ns, p, rfl, hp⟩
  · rw [if_neg (fun q => absurd q.2 (by simp))]
    unfold AS.add AS.later
    rw [if_neg (by simp), if_pos rfl]
    split
    · exact ⟨o, e ++ [(a, u8I d)], ns, p, by simp, hp⟩
    · exact ⟨o, e, ns, p, rfl, hp⟩
  · rw [if_neg (fun q => absurd q.2 (by simp))]
    unfold AS.add AS.note
    rw [if_neg (by simp), if_neg (by simp), if_pos rfl]
    exact ⟨o, e, ns ++ [a], p, by simp, hp⟩
  · have ha : ans ((3 : Int), a, d) = okT a := by simp [ans]
    rw [ha]
    unfold AS.add AS.opened
    rw [if_neg (by simp), if_neg (by simp), if_neg (by simp)]
    cases ho : okT a with
    | true =>
      exact ⟨o, e, ns, p ++ [(a, d)], by simp, by simp [hp]⟩
    | false =>
      exact ⟨o, e, ns, p, by simp, by simp [hp]⟩

theorem Ext.back {T T2 : AS} {n : Nat} (h : Ext T T2 n) : T2.back T.mark = T ∧ (T2.ops.drop (T.mark 3).toNat).length = n := by
  obtain ⟨o, e, ns, p, rfl, hp⟩ := h
  unfold AS.back AS.mark
  simp [hp]

structure L2 (w : World) (A B : Nat) (va vb : Vs) (T U : AS) (X : World) : Prop where
  a : AcAt X A va T
  b : AcAt X B vb U
  ap : ∀ k, Ft A va k → ¬ Ft B vb k
  fa : ∀ k, Ft A va k → w.heap.size ≤ k
  fb : ∀ k, Ft B vb k → w.heap.size ≤ k
  bel : Below w.heap.size w X

section
variable {w X Y : World} {A B : Nat} {va vb va' vb' : Vs} {T U T' U' : AS}

theorem L2.grown (h : L2 w A B va vb T U X) (hb : Below X.heap.size X Y) : L2 w A B va vb T U Y :=
  ⟨h.a.grown hb, h.b.grown hb, h.ap, h.fa, h.fb, h.bel.trans (hb.mono h.bel.size)⟩
theorem L2.drew (h : L2 w A B va vb T U X) : L2 w A B va vb T U X.drew := h.grown (Below.refl _ X).drew
theorem L2.past (h : L2 w A B va vb T U X) (o : Obj) : L2 w A B va vb T U (X.alloc o) := h.grown ((Below.refl _ X).alloc (Nat.le_refl _) o)
theorem L2.wroteA (h : L2 w A B va vb T U X) (hA : AcAt Y A va' T') (hw : Wrote (Ft A va) (Ft A va') X Y) : L2 w A B va' vb T' U Y :=
  ⟨hA, h.b.carry fun k hk => hw.block k (h.b.ft_lt hk) (fun hf => h.ap k hf hk), fun k hk hb => by
    rcases hw.own k hk with e | e
    · exact h.ap k e hb
    · have := h.b.ft_lt hb; omega, hw.lo h.bel.size h.fa, h.fb, h.bel.trans (hw.below h.bel.size h.fa)⟩
theorem L2.wroteB (h : L2 w A B va vb T U X) (hB : AcAt Y B vb' U') (hw : Wrote (Ft B vb) (Ft B vb') X Y) : L2 w A B va vb' T U' Y :=
  ⟨h.a.carry fun k hk => hw.block k (h.a.ft_lt hk) (fun hf => h.ap k hk hf), hB, fun k ha hk => by
    rcases hw.own k hk with e | e
    · exact h.ap k ha e
    · have := h.a.ft_lt ha; omega, h.fa, hw.lo h.bel.size h.fb, h.bel.trans (hw.below h.bel.size h.fb)⟩

theorem L2.made (w1 : World) (hb : Below w.heap.size w w1) : L2 w w1.heap.size (w1.heap.size + 1) nilVs nilVs AS.zero AS.zero ((w1.alloc (.cells #[.slice none 0 0, .slice none 0 0, .slice none 0 0, .slice none 0 0] 29)).alloc (.cells #[.slice none 0 0, .slice none 0 0, .slice none 0 0, .slice none 0 0] 29)) := by
  have h1 := AcAt.made w1
  have h2 := AcAt.made (w1.alloc (.cells #[.slice none 0 0, .slice none 0 0, .slice none 0 0, .slice none 0 0] 29))
  rw [World.size_alloc] at h2
  refine ⟨h1.grown ((Below.refl _ _).alloc (Nat.le_refl _) _), h2, fun k hk hk2 => ?_, fun k hk => ?_, fun k hk => ?_, (hb.alloc hb.size _).alloc (by have := hb.size; simp; omega) _⟩
  · have e1 := AcAt.nil_ft _ _ hk
    have e2 := AcAt.nil_ft _ _ hk2
    omega
  · have e1 := AcAt.nil_ft _ _ hk
    have := hb.size
    omega
  · have e1 := AcAt.nil_ft _ _ hk
    have := hb.size
    omega

/-- A block of another type isn't written. -/
theorem other_kept {F' : Nat → Prop} {b C : Nat} {vs : Vs} {t : TypeId} {cs : Array Value} (h : AcAt X b vs T) (hx : X.heap[C]? = some (.cells cs t (0, 0))) (h0 : t ≠ 29) (h1 : t ≠ 59) (h2 : t ≠ 3) (h3 : t ≠ 56)
    (hw : Wrote (Ft b vs) F' X Y) : Y.heap[C]? = some (.cells cs t (0, 0)) :=
  (hw.block C (Array.getElem?_eq_some_iff.1 hx).1 (h.not_ft hx h0 h1 h2 h3)).trans hx
theorem heap_on {C : Nat} {o : Obj} (hb : Below X.heap.size X Y) (hx : X.heap[C]? = some o) : Y.heap[C]? = some o := (hb.block C (Array.getElem?_eq_some_iff.1 hx).1).trans hx

theorem View.prO {a : Option Addr} {len cap : Nat} {l : List Pr} (h : View X eO 2 a len cap l) (j : Nat) (hj : j < len) : ∃ (hz : j < l.length) (g off : Nat), a = some ⟨g, off, none⟩ ∧ X.cell? ⟨g, off + j * 2, none⟩ = some (.int .i64 l[j].1) ∧ X.cell? ⟨g, off + j * 2 + 1, none⟩ = some (.int .u8 l[j].2) := by
  obtain ⟨g, off, e, hat⟩ := h.at_ (by omega)
  have hz : j < l.length := by rw [h.1]; exact hj
  exact ⟨hz, g, off, e, hat.c j hz 0 _ rfl, hat.c j hz 1 _ rfl⟩
theorem View.prP {a : Option Addr} {len cap : Nat} {l : List Pr} (h : View X eP 2 a len cap l) (j : Nat) (hj : j < len) : ∃ (hz : j < l.length) (g off : Nat), a = some ⟨g, off, none⟩ ∧ X.cell? ⟨g, off + j * 2, none⟩ = some (.int .i64 l[j].1) ∧ X.cell? ⟨g, off + j * 2 + 1, none⟩ = some (.int .i64 l[j].2) := by
  obtain ⟨g, off, e, hat⟩ := h.at_ (by omega)
  have hz : j < l.length := by rw [h.1]; exact hj
  exact ⟨hz, g, off, e, hat.c j hz 0 _ rfl, hat.c j hz 1 _ rfl⟩
set_option maxRecDepth 100000 in
theorem same_out (p : Pr) (w : World) : (Op.equalIn 10000 59 (.agg #[.int .i64 p.1, .int .u8 p.2]) (.agg #[.int .i64 p.1, .int .u8 p.2])).run Try.prog w = .ok true w := by
  have := eq_outD p p w
  rwa [decide_eq_true rfl] at this
set_option maxRecDepth 100000 in
theorem same_open (p : Pr) (w : World) : (Op.equalIn 10000 56 (.agg #[.int .i64 p.1, .int .i64 p.2]) (.agg #[.int .i64 p.1, .int .i64 p.2])).run Try.prog w = .ok true w := by
  have := eq_openD p p w
  rwa [decide_eq_true rfl] at this
end

end Go.Proofs.Ytnjmnbclbjebbaa.Ac
