/-
  Texts that came in; what appends alone come to, and what lasts of them.
-/
import Derived.Test.YtofnnoghnmhlnaaDTwo
namespace Go.Proofs.Ytofnnoghnmhlnaa
open Go.ChangeShapes Go.WideShapes Go.ChangeAt Go.RowKit Go.Deep

/-- The texts ts lie in memory from g, off on. -/
structure TextsAt (w : World) (g off : Nat) (ts : List ByteArray) : Prop where
  lt : g < w.heap.size
  cell : ∀ j (h : j < ts.length), w.cell? ⟨g, off + j, none⟩ = some (.string ts[j])

theorem TextsAt.carry {w w' : World} {g off : Nat} {ts : List ByteArray} (h : TextsAt w g off ts) (hb : w'.heap[g]? = w.heap[g]?) (hs : w.heap.size ≤ w'.heap.size) : TextsAt w' g off ts :=
  ⟨Nat.lt_of_lt_of_le h.lt hs, fun j k => (World.cell?_of_block (w := w) hb).trans (h.cell j k)⟩

def IsTexts (w : World) (a : Option Addr) (len cap : Nat) (ts : List ByteArray) : Prop :=
  ts.length = len ∧ (ts = [] ∧ (a = none → cap = 0) ∨ ∃ g off, a = some ⟨g, off, none⟩ ∧ TextsAt w g off ts)

theorem IsTexts.at_ {w : World} {a : Option Addr} {len cap : Nat} {ts : List ByteArray} (h : IsTexts w a len cap ts) (k : Nat) (hk : k < len) : ∃ g off, a = some ⟨g, off, none⟩ ∧ TextsAt w g off ts := by
  obtain ⟨hl, ⟨rfl, _⟩ | ⟨g, off, e, hat⟩⟩ := h
  · simp at hl; omega
  · exact ⟨g, off, e, hat⟩

theorem open_texts {H : Type} {enc : TypeId × Value → H} {w : World} {a : Option Addr} {len cap fuel : Nat} {x : DataW H × List MemPlace}
    (h : DataW.trod enc Try.prog w 0 (fun _ => true) true fuel 46 [.slice a len cap] = some x) : ∃ ts, IsTexts w a len cap ts := by
  rcases open_strs Try.underlying46 Try.underlying9 Try.cells9 h with ⟨hcs, _⟩ | ⟨a', len', cap', m, Sx, hcs, _, hl, hm, hmm, _, hx⟩
  · simp at hcs
    obtain ⟨rfl, rfl, rfl⟩ := hcs
    exact ⟨[], rfl, .inl ⟨rfl, fun _ => rfl⟩⟩
  · simp at hcs
    obtain ⟨rfl, rfl, rfl⟩ := hcs
    have hlm : len ≤ m := by rw [hmm]; simpa using hl
    by_cases h0 : len = 0
    · exact ⟨[], h0.symm, .inl ⟨rfl, fun e => by cases e⟩⟩
    obtain ⟨g', off', e, hg⟩ := plain_of_cell (hx 0 (by omega)).1
    obtain ⟨g, off, rfl⟩ : ∃ g off, a' = ⟨g, off, none⟩ := by
      obtain ⟨g, off, sp⟩ := a'
      have hs := congrArg Addr.spot e
      unfold Addr.add at hs
      cases sp with
      | none => exact ⟨g, off, rfl⟩
      | some y => simp at hs
    rw [add_plain3] at e
    have hgg : g = g' := congrArg Addr.block e
    subst hgg
    refine ⟨(List.range len).map Sx, by simp, .inr ⟨g, off, rfl, hg, fun j hj => ?_⟩⟩
    have hj' : j < len := by simpa using hj
    have := (hx j (by omega)).1
    rw [add_plain3] at this
    simpa using this

def sumT : List ByteArray → Nat
  | [] => 0
  | s :: r => s.size + sumT r

theorem sumT_append (a b : List ByteArray) : sumT (a ++ b) = sumT a + sumT b := by
  induction a with
  | nil => simp [sumT]
  | cons s r ih => simp [sumT, ih]; omega
theorem sumT_take_succ (l : List ByteArray) (k : Nat) (h : k < l.length) : sumT (l.take (k + 1)) = sumT (l.take k) + l[k].size := by
  rw [List.take_succ_eq_append_getElem h, sumT_append]
  simp [sumT]

/-- Appends to area 0 alone. -/
def apps (l : List ByteArray) : List Ch := l.map fun s => ⟨false, false, s⟩

theorem apps_length (l : List ByteArray) : (apps l).length = l.length := by simp [apps]
theorem apps_take (l : List ByteArray) (k : Nat) : (apps l).take k = apps (l.take k) := by simp [apps, List.map_take]
theorem apps_succ (l : List ByteArray) (k : Nat) (h : k < l.length) : apps (l.take (k + 1)) = apps (l.take k) ++ [⟨false, false, l[k]⟩] := by
  rw [List.take_succ_eq_append_getElem h]
  unfold apps
  rw [List.map_append]
  rfl

theorem txt_apps (l : List ByteArray) : (txt false (apps l)).data.toList = l.flatMap fun s => s.data.toList := by
  have key : ∀ (l : List ByteArray) (x : ByteArray), ((apps l).foldl (fun x c => c.on false x) x).data.toList = x.data.toList ++ l.flatMap fun s => s.data.toList := by
    intro l
    induction l with
    | nil => intro x; simp [apps]
    | cons s r ih =>
      intro x
      have h1 := ih (x ++ s)
      simp only [apps, List.map_cons, List.foldl_cons] at h1 ⊢
      rw [show (⟨false, false, s⟩ : Ch).on false x = x ++ s from rfl, h1]
      simp
  have h := key l ⟨#[]⟩
  simpa [txt] using h

theorem txt_apps_size (l : List ByteArray) : (txt false (apps l)).size = sumT l := by
  have h : (txt false (apps l)).size = (txt false (apps l)).data.toList.length := by simp
  rw [h, txt_apps]
  induction l with
  | nil => rfl
  | cons s r ih => simp [sumT] at ih ⊢; omega

/-- A beginning of a text. -/
theorem cut_of_pre {s t : ByteArray} {r : List UInt8} (h : t.data.toList = s.data.toList ++ r) : s.size ≤ t.size ∧ t.extract 0 s.size = s := by
  have h1 : t.data.toList.length = s.data.toList.length + r.length := by rw [h]; simp
  have e1 : t.data.toList.length = t.size := by simp
  have e2 : s.data.toList.length = s.size := by simp
  refine ⟨by omega, ?_⟩
  apply ByteArray.ext
  apply Array.toList_inj.1
  simp only [ByteArray.data_extract, Array.toList_extract, List.extract, List.drop_zero, Nat.sub_zero]
  rw [h, List.take_append_of_le_length (by omega), List.take_of_length_le (by omega)]

theorem apps_pre (l : List ByteArray) (i j : Nat) (h : i ≤ j) : ∃ r, (txt false (apps (l.take j))).data.toList = (txt false (apps (l.take i))).data.toList ++ r := by
  rw [txt_apps, txt_apps]
  obtain ⟨d, rfl⟩ : ∃ d, j = i + d := ⟨j - i, by omega⟩
  rw [List.take_add, List.flatMap_append]
  exact ⟨_, rfl⟩

/-- With no part of the next one kept, the areas have what whole changes come to. -/
theorem txt_whole (a : Bool) (dn ws : List Ch) (k : Int) : txt a (dn ++ kept ws k 0) = txt a (dn ++ ws.take (near k ws.length)) := by
  unfold kept
  rw [← List.append_assoc]
  cases hc : ws[near k ws.length]? with
  | none => simp
  | some c =>
    simp only [torn]
    cases hr : c.reset with
    | true => simp
    | false =>
      have h1 : near 0 c.bytes.size = 0 := by unfold near; simp
      rw [if_neg (by simp), txt_one, h1, extract_zero]
      unfold Ch.on
      by_cases e : c.one = a
      · simp [e, empty_join]
      · simp [e]

theorem near_mono {a b : Int} (h : a ≤ b) (n : Nat) : near a n ≤ near b n := by unfold near; omega

end Go.Proofs.Ytofnnoghnmhlnaa
