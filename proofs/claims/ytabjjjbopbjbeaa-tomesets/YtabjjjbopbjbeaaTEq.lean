/-
  Six files by value, held against six others.
-/
import Derived.Test.YtabjjjbopbjbeaaTRef
import Derived.Laws.StructEq
namespace Go.Proofs.Ytabjjjbopbjbeaa.Tom
open Go.RowKit Cel

set_option maxRecDepth 100000 in
theorem eq_file (d : Nat) (f g : Bool × ByteArray) (w : World) : (Op.equalIn (d + 1 + 1) 29 (.agg #[.bool f.1, .string f.2]) (.agg #[.bool g.1, .string g.2])).run Try.prog w = .ok (decide (f = g)) w := by
  obtain ⟨a, s⟩ := f
  obtain ⟨b, t⟩ := g
  by_cases ha : a = b
  · subst ha
    by_cases hs : s = t
    · subst hs
      rw [decide_eq_true rfl]
      simp [go_sem]
    · have hd : ¬ (a, s) = (a, t) := fun h => hs (congrArg Prod.snd h)
      have hl : ¬ s.toList = t.toList := fun h => by
        rw [Fil.toList_txt, Fil.toList_txt] at h
        exact hs (bytes_eq h)
      rw [decide_eq_false hd]
      simp [go_sem, hl]
  · have hd : ¬ (a, s) = (b, t) := fun h => ha (congrArg Prod.fst h)
    rw [decide_eq_false hd]
    simp [go_sem, ha]

/-- Six files by value. -/
abbrev six6 (a b c d e f : Bool × ByteArray) : Array Value := #[.bool a.1, .string a.2, .bool b.1, .string b.2, .bool c.1, .string c.2, .bool d.1, .string d.2, .bool e.1, .string e.2, .bool f.1, .string f.2]

set_option maxRecDepth 100000 in
theorem part_six (a b c d e f : Bool × ByteArray) (w : World) :
    (part 29 (six6 a b c d e f) 0).run Try.prog w = .ok (.agg #[.bool a.1, .string a.2]) w ∧ (part 29 (six6 a b c d e f) 2).run Try.prog w = .ok (.agg #[.bool b.1, .string b.2]) w ∧
    (part 29 (six6 a b c d e f) 4).run Try.prog w = .ok (.agg #[.bool c.1, .string c.2]) w ∧ (part 29 (six6 a b c d e f) 6).run Try.prog w = .ok (.agg #[.bool d.1, .string d.2]) w ∧
    (part 29 (six6 a b c d e f) 8).run Try.prog w = .ok (.agg #[.bool e.1, .string e.2]) w ∧ (part 29 (six6 a b c d e f) 10).run Try.prog w = .ok (.agg #[.bool f.1, .string f.2]) w :=
  ⟨rfl, rfl, rfl, rfl, rfl, rfl⟩

set_option maxRecDepth 100000 in
theorem size_file (w : World) : (sizeOf 29).run Try.prog w = .ok 2 w := rfl

set_option maxRecDepth 100000 in
theorem eq_sixD (D : Nat) (a b c d e f a' b' c' d' e' f' : Bool × ByteArray) (w : World) :
    (Op.equalIn (D + 1 + 1 + 1) 30 (.agg (six6 a b c d e f)) (.agg (six6 a' b' c' d' e' f'))).run Try.prog w = .ok (decide ([a, b, c, d, e, f] = [a', b', c', d', e', f'])) w := by
  obtain ⟨p0, p1, p2, p3, p4, p5⟩ := part_six a b c d e f w
  obtain ⟨q0, q1, q2, q3, q4, q5⟩ := part_six a' b' c' d' e' f' w
  generalize six6 a b c d e f = xs at *
  generalize six6 a' b' c' d' e' f' = ys at *
  rw [Op.equalIn]
  simp only [Sem.run_bind, run_underlying Try.underlying30, Result.andThen_ok, size_file]
  have hE : ∀ (f g : Bool × ByteArray), (Op.equalIn (D + 2) 29 (.agg #[.bool f.1, .string f.2]) (.agg #[.bool g.1, .string g.2])).run Try.prog w = .ok (decide (f = g)) w := fun f g => eq_file D f g w
  have hr : List.range' 0 6 1 = [0, 1, 2, 3, 4, 5] := rfl
  have hs : ([:6] : Std.Legacy.Range).start = 0 := rfl
  have hz : ([:6] : Std.Legacy.Range).size = 6 := rfl
  have ht : ([:6] : Std.Legacy.Range).step = 1 := rfl
  rw [Std.Legacy.Range.forIn_eq_forIn_range', hs, hz, ht, hr]
  by_cases h0 : a = a'
  · rw [h0] at p0
    by_cases h1 : b = b'
    · rw [h1] at p1
      by_cases h2 : c = c'
      · rw [h2] at p2
        by_cases h3 : d = d'
        · rw [h3] at p3
          by_cases h4 : e = e'
          · rw [h4] at p4
            by_cases h5 : f = f'
            · rw [h5] at p5
              simp [List.forIn_cons, List.forIn_nil, Sem.run_bind, Sem.run_pure, Sem.run_ite, p0, p1, p2, p3, p4, p5, q0, q1, q2, q3, q4, q5, hE, h0, h1, h2, h3, h4, h5]
            · simp [List.forIn_cons, Sem.run_bind, Sem.run_pure, Sem.run_ite, p0, q0, p1, q1, p2, q2, p3, q3, p4, q4, p5, q5, hE, h0, h1, h2, h3, h4, h5]
          · simp [List.forIn_cons, Sem.run_bind, Sem.run_pure, Sem.run_ite, p0, q0, p1, q1, p2, q2, p3, q3, p4, q4, hE, h0, h1, h2, h3, h4]
        · simp [List.forIn_cons, Sem.run_bind, Sem.run_pure, Sem.run_ite, p0, q0, p1, q1, p2, q2, p3, q3, hE, h0, h1, h2, h3]
      · simp [List.forIn_cons, Sem.run_bind, Sem.run_pure, Sem.run_ite, p0, q0, p1, q1, p2, q2, hE, h0, h1, h2]
    · simp [List.forIn_cons, Sem.run_bind, Sem.run_pure, Sem.run_ite, p0, q0, p1, q1, hE, h0, h1]
  · simp [List.forIn_cons, Sem.run_bind, Sem.run_pure, Sem.run_ite, p0, q0, hE, h0]

set_option maxRecDepth 100000 in
theorem eq_six (a b c d e f a' b' c' d' e' f' : Bool × ByteArray) (w : World) :
    (Op.equal 30 (.agg (six6 a b c d e f)) (.agg (six6 a' b' c' d' e' f'))).run Try.prog w = .ok (decide ([a, b, c, d, e, f] = [a', b', c', d', e', f'])) w := eq_sixD 9997 a b c d e f a' b' c' d' e' f' w

end Go.Proofs.Ytabjjjbopbjbeaa.Tom
