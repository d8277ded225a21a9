/-
  A reader in memory, and the walks of its calls.
-/
import Derived.Test.YtdngehfebmaegaaYLead
namespace Go.Proofs.Ytdngehfebmaegaa.Sty
open Go.RowKit



/-- Nothing but block r has turned. -/
structure Only (r : Nat) (w w' : World) : Prop where
  os : w'.os = w.os
  tape : w'.tape = w.tape
  output : w'.output = w.output
  size : w'.heap.size = w.heap.size
  block : ∀ k, k ≠ r → w'.heap[k]? = w.heap[k]?

theorem Only.refl (r : Nat) (w : World) : Only r w w := ⟨rfl, rfl, rfl, rfl, fun _ _ => rfl⟩
theorem Only.trans {r : Nat} {a b c : World} (h : Only r a b) (k : Only r b c) : Only r a c :=
  ⟨k.os.trans h.os, k.tape.trans h.tape, k.output.trans h.output, k.size.trans h.size, fun i hi => (k.block i hi).trans (h.block i hi)⟩
theorem Only.setCell (r o : Nat) (w : World) (v : Value) : Only r w (w.setCell ⟨r, o, none⟩ v) :=
  ⟨rfl, rfl, rfl, by simp [World.setCell], fun k hk => Below.heap_setCell _ _ _ _ hk⟩
theorem Only.below {r B : Nat} {w w' : World} (h : Only r w w') (hB : B ≤ r) : Below B w w' :=
  ⟨h.os, h.tape, h.output, by rw [h.size]; exact Nat.le_refl _, fun k hk => h.block k (by omega)⟩

section
variable {w : World} {r : Nat} {s : ByteArray} {bad : Bool}
end

/-- The number that one without a sign stands for. -/
def unfI (u : Nat) : Int := if u % 2 = 1 then -((u / 2 : Nat) : Int) - 1 else ((u / 2 : Nat) : Int)

theorem unfI_foldN {x : Int} : unfI (foldN x) = x := by
  unfold unfI foldN
  split <;> split <;> omega





theorem and_one (u : Nat) (hu : u < 18446744073709551616) : bits BinOp.and IntKind.u64 (u : Int) 1 = ((u % 2 : Nat) : Int) := by
  have h := bits_and_u64_nat u 1 hu (by omega)
  rw [Nat.and_one_is_mod] at h
  exact h

theorem extract_list (s : ByteArray) (k : Nat) : (s.extract k s.size).data.toList = s.data.toList.drop k := by
  simp
  exact List.take_of_length_le (by simp)
theorem extract_head (s : ByteArray) (k : Nat) : (s.extract 0 k).data.toList = s.data.toList.take k := by
  simp

theorem lead_nil : Lead [] 0 0 := lead_none (k := 0) (.inl rfl) (fun j hj => by omega)

theorem Lead.size_le {l : List UInt8} {n sz : Nat} (h : Lead l n sz) : sz ≤ l.length := by
  rcases h with ⟨rfl, _, _⟩ | ⟨_, rfl, h⟩
  · exact Nat.zero_le _
  · exact h.length_le

theorem Lead.lt {l : List UInt8} {n sz : Nat} (h : Lead l n sz) : n < 18446744073709551616 := by
  rcases h with ⟨_, rfl, _⟩ | ⟨h, _, _⟩
  · omega
  · exact h

theorem size_list (s : ByteArray) : s.data.toList.length = s.size := by simp

/-- What is left behind a number: nothing where there is none. -/
def leftN (l : List UInt8) (sz : Nat) : List UInt8 := if sz = 0 then [] else l.drop sz



/-- Whether a number of at most 'most' is read. -/
def okN (bad : Bool) (n sz : Nat) (most : Int) : Bool := !bad && decide (sz ≠ 0) && decide (0 ≤ most) && decide ((n : Int) ≤ most)

theorem okN_true {bad : Bool} {n sz : Nat} {most : Int} (h0 : bad = false) (h1 : sz ≠ 0) (h2 : 0 ≤ most) (h3 : (n : Int) ≤ most) : okN bad n sz most = true := by
  simp [okN, h0, h1, h2, h3]
theorem okN_neg {bad : Bool} {n sz : Nat} {most : Int} (h : most < 0) : okN bad n sz most = false := by
  unfold okN
  rw [decide_eq_false (by omega : ¬ 0 ≤ most)]
  simp
theorem okN_more {bad : Bool} {n sz : Nat} {most : Int} (h : most < (n : Int)) : okN bad n sz most = false := by
  unfold okN
  rw [decide_eq_false (by omega : ¬ (n : Int) ≤ most)]
  simp
theorem okN_none {bad : Bool} {n sz : Nat} {most : Int} (h : sz = 0) : okN bad n sz most = false := by
  simp [okN, h]

theorem Lead.none {l : List UInt8} {n sz : Nat} (h : Lead l n sz) (hz : sz = 0) : n = 0 := by
  rcases h with ⟨_, h0, _⟩ | ⟨_, h0, _⟩
  · exact h0
  · have := wide_pos n; omega



/-- What a reader is behind a number that may be refused. -/
def leftIf (ok : Bool) (l : List UInt8) (sz : Nat) : List UInt8 := if ok then l.drop sz else []



/-- Whether n bytes are read. -/
def okR (bad : Bool) (l : List UInt8) (n : Int) : Bool := !bad && decide (0 ≤ n) && decide (n ≤ (l.length : Int))





/-- Whether a text of at most 'most' bytes is read. -/
def okT (bad : Bool) (l : List UInt8) (n sz : Nat) (most : Int) : Bool := okN bad n sz most && decide (n ≤ (l.drop sz).length)



end Go.Proofs.Ytdngehfebmaegaa.Sty
