/-
  Texts that came in; what a reader does with texts that were cut.
-/
import Derived.Test.YtjenalblcdmpaaaAgain
import Derived.Test.YtjenalblcdmpaaaLists
namespace Go.Proofs.Ytjenalblcdmpaaa
open Go.ChangeShapes Go.WideShapes Go.ChangeAt Go.RowKit Go.Deep

/-- The texts ts lie in memory from g, off on. -/
structure TextsAt (w : World) (g off : Nat) (ts : List ByteArray) : Prop where
  lt : g < w.heap.size
  cell : ∀ j (h : j < ts.length), w.cell? ⟨g, off + j, none⟩ = some (.string ts[j])

theorem TextsAt.carry {w w' : World} {g off : Nat} {ts : List ByteArray} (h : TextsAt w g off ts) (hb : w'.heap[g]? = w.heap[g]?) (hs : w.heap.size ≤ w'.heap.size) : TextsAt w' g off ts :=
  ⟨Nat.lt_of_lt_of_le h.lt hs, fun j k => (World.cell?_of_block (w := w) hb).trans (h.cell j k)⟩

def IsTexts (w : World) (a : Option Addr) (len cap : Nat) (ts : List ByteArray) : Prop :=
  ts.length = len ∧ (ts = [] ∧ (a = none → cap = 0) ∨ ∃ g off, a = some ⟨g, off, none⟩ ∧ TextsAt w g off ts)

theorem open_texts {H : Type} {enc : TypeId × Value → H} {w : World} {a : Option Addr} {len cap fuel : Nat} {x : DataW H × List MemPlace}
    (h : DataW.trod enc Try.prog w 0 (fun _ => true) true fuel 50 [.slice a len cap] = some x) : ∃ ts, IsTexts w a len cap ts := by
  rcases open_strs Try.underlying50 Try.underlying9 Try.cells9 h with ⟨hcs, _⟩ | ⟨a', len', cap', m, Sx, hcs, _, hl, hm, hmm, _, hx⟩
  · simp at hcs
    obtain ⟨rfl, rfl, rfl⟩ := hcs
    exact ⟨[], rfl, .inl ⟨rfl, fun _ => rfl⟩⟩
  · simp at hcs
    obtain ⟨rfl, rfl, rfl⟩ := hcs
    have hlm : len ≤ m := by rw [hmm]; simpa using hl
    by_cases h0 : len = 0
    · exact ⟨[], h0.symm, .inl ⟨rfl, fun e => by cases e⟩⟩
    obtain ⟨g', off', e, hg⟩ := plain_of_cell (hx 0 (by omega)).1
    obtain ⟨g, off, rfl⟩ : ∃ g off, a' = ⟨g, off, none⟩ := by
      obtain ⟨g, off, sp⟩ := a'
      have hs := congrArg Addr.spot e
      unfold Addr.add at hs
      cases sp with
      | none => exact ⟨g, off, rfl⟩
      | some y => simp at hs
    rw [add_plain3] at e
    have hgg : g = g' := congrArg Addr.block e
    subst hgg
    refine ⟨(List.range len).map Sx, by simp, .inr ⟨g, off, rfl, hg, fun j hj => ?_⟩⟩
    have hj' : j < len := by simpa using hj
    have := (hx j (by omega)).1
    rw [add_plain3] at this
    simpa using this

def sumT : List ByteArray → Nat
  | [] => 0
  | s :: r => s.size + sumT r

theorem sumT_append (a b : List ByteArray) : sumT (a ++ b) = sumT a + sumT b := by
  induction a with
  | nil => simp [sumT]
  | cons s r ih => simp [sumT, ih]; omega
theorem sumT_take_succ (l : List ByteArray) (k : Nat) (h : k < l.length) : sumT (l.take (k + 1)) = sumT (l.take k) + l[k].size := by
  rw [List.take_succ_eq_append_getElem h, sumT_append]
  simp [sumT]
theorem sumT_take_le (l : List ByteArray) (k : Nat) : sumT (l.take k) ≤ sumT l := by
  have h := congrArg sumT (List.take_append_drop k l)
  rw [sumT_append] at h
  omega
theorem sumT_get (l : List ByteArray) (k : Nat) (h : k < l.length) : l[k].size ≤ sumT l := by
  have h1 := sumT_take_succ l k h
  have h2 := sumT_take_le l (k + 1)
  omega
theorem textsB_le (l : List ByteArray) (h : sumT l ≤ 4096) : (textsB l).length ≤ 10 * l.length + sumT l := by
  induction l with
  | nil => simp [textsB]
  | cons s r ih =>
    simp only [sumT] at h
    have h1 := ih (by omega)
    have h2 := wide_len (n := s.size) (by omega)
    simp only [textsB, textB, sumT, List.length_append, List.length_cons, size_list]
    omega
theorem textsB_drop (l : List ByteArray) (k : Nat) (h : k < l.length) : textsB (l.drop k) = textB l[k] ++ textsB (l.drop (k + 1)) := by
  rw [List.drop_eq_getElem_cons h]
  rfl
theorem textB_pos (t : ByteArray) : 1 ≤ (textB t).length := by
  have := wide_pos t.size
  simp [textB]
  omega

/-- What is left of texts that were cut: less than all of them. -/
def Less (p l : List UInt8) : Prop := p <+: l ∧ p.length < l.length

theorem less_step {p l : List UInt8} {t : ByteArray} {n sz : Nat} {most : Int} (h : Less p (textB t ++ l)) (hl : Lead p n sz) (hok : okT false p n sz most = true) : Less (leftIf true p (sz + n)) l := by
  unfold okT at hok
  rw [Bool.and_eq_true] at hok
  obtain ⟨h1, h2⟩ := hok
  have h2' : n ≤ (p.drop sz).length := by simpa using h2
  have hz : sz ≠ 0 := by
    intro e
    rw [okN_none e] at h1
    cases h1
  obtain ⟨hp, hlt⟩ := h
  have hw : wide n <+: p := by
    rcases hl with ⟨e, _⟩ | ⟨_, _, h⟩
    · exact absurd e hz
    · exact h
  have hsz : sz = (wide n).length := by
    rcases hl with ⟨e, _⟩ | ⟨_, h, _⟩
    · exact absurd e hz
    · exact h
  have hnt : n = t.size := by
    refine prefix_unique (hw.trans hp) ?_
    rw [textB, List.append_assoc]
    exact List.prefix_append _ _
  subst hnt
  obtain ⟨r, hr⟩ := hp
  have hlen : (textB t).length = sz + t.size := by rw [hsz, textB, List.length_append, size_list]
  have hpl : sz + t.size ≤ p.length := by
    have := hl.size_le
    rw [List.length_drop] at h2'
    omega
  have e : p.drop (sz + t.size) ++ r = l := by
    have := congrArg (List.drop (sz + t.size)) hr
    rw [List.drop_append_of_le_length hpl, ← hlen, List.drop_left, hlen] at this
    exact this
  refine ⟨⟨r, e⟩, ?_⟩
  show (p.drop (sz + t.size)).length < l.length
  have h3 := congrArg List.length e
  have h4 := congrArg List.length hr
  rw [List.length_append] at h3 h4
  rw [List.length_append] at hlt h4
  rw [List.length_drop] at h3 ⊢
  omega

set_option maxHeartbeats 400000 in
set_option maxRecDepth 100000 in
theorem text_none (w : World) (b cap : Nat) (a : Option Addr) :
    Calls Try.prog 25 #[.pointer (some ⟨b, 0, none⟩), .slice a 0 cap] w fun e w' => e = .returned (.tuple #[]) ∧ w' = w := by
  go_enter Try.func25, Try.ntmps25
  go_wp2
  go_loop [8] (fun i => i = .int .i64 0) (fun _ => 0)
  case atStart => rfl
  case round =>
    subst hrel
    go_wp2
    go_end0
    exact ⟨rfl, rfl⟩

end Go.Proofs.Ytjenalblcdmpaaa
