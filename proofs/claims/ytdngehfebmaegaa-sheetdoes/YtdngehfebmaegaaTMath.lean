/-
  The bytes of six files: the numbers of those that are there, and their texts; when bytes are those of files, and of which. No program in sight.
-/
import Derived.Test.YtdngehfebmaegaaYAgain
namespace Go.Proofs.Ytdngehfebmaegaa.Tom
open Go.Proofs.Ytdngehfebmaegaa.Sty

/-- A file that can be. -/
def CanF (f : Bool × ByteArray) : Prop := (f.1 = true ∧ f.2.size ≤ 32) ∨ f = (false, ⟨#[]⟩)

theorem canF_no {f : Bool × ByteArray} (h : CanF f) (hf : f.1 = false) : f = (false, ⟨#[]⟩) := by
  rcases h with ⟨h, _⟩ | h
  · rw [hf] at h; cases h
  · exact h
theorem canF_le {f : Bool × ByteArray} (h : CanF f) : f.2.size ≤ 32 := by
  rcases h with ⟨_, h⟩ | h
  · exact h
  · rw [h]; decide

/-- The bytes of one file. -/
def fB (i : Nat) (f : Bool × ByteArray) : List UInt8 := if f.1 then wide i ++ textB f.2 else []

/-- The bytes of files, by numbers from i on. -/
def fromB : Nat → List (Bool × ByteArray) → List UInt8
  | _, [] => []
  | i, f :: r => fB i f ++ fromB (i + 1) r

theorem fB_yes (i : Nat) {f : Bool × ByteArray} (h : f.1 = true) : fB i f = wide i ++ textB f.2 := by unfold fB; rw [if_pos h]
theorem fB_no (i : Nat) {f : Bool × ByteArray} (h : f.1 = false) : fB i f = [] := by unfold fB; rw [if_neg (by simp [h])]

theorem fromB_append (A B : List (Bool × ByteArray)) : ∀ i, fromB i (A ++ B) = fromB i A ++ fromB (i + A.length) B := by
  induction A with
  | nil => intro i; rfl
  | cons f r ih =>
    intro i
    show fB i f ++ fromB (i + 1) (r ++ B) = (fB i f ++ fromB (i + 1) r) ++ fromB (i + (r.length + 1)) B
    rw [ih (i + 1), List.append_assoc, show i + 1 + r.length = i + (r.length + 1) by omega]

theorem fromB_none (A : List (Bool × ByteArray)) : ∀ i, (∀ f, f ∈ A → f.1 = false) → fromB i A = [] := by
  induction A with
  | nil => intro i _; rfl
  | cons f r ih =>
    intro i h
    show fB i f ++ fromB (i + 1) r = []
    rw [fB_no i (h f (by simp)), ih (i + 1) (fun g hg => h g (by simp [hg]))]
    rfl

/-- Where files begin: with none, or with the first one that is there. -/
theorem fromB_first (A : List (Bool × ByteArray)) : ∀ i, (fromB i A = [] ∧ ∀ f, f ∈ A → f.1 = false) ∨
    ∃ k, k < A.length ∧ A[k]!.1 = true ∧ (∀ j, j < k → A[j]!.1 = false) ∧ fromB i A = wide (i + k) ++ (textB A[k]!.2 ++ fromB (i + k + 1) (A.drop (k + 1))) := by
  induction A with
  | nil => intro i; exact .inl ⟨rfl, by simp⟩
  | cons f r ih =>
    intro i
    cases hf : f.1 with
    | true =>
      refine .inr ⟨0, by simp, by simpa using hf, by simp, ?_⟩
      show fB i f ++ fromB (i + 1) r = _
      rw [fB_yes i hf]
      simp
    | false =>
      rcases ih (i + 1) with ⟨h1, h2⟩ | ⟨k, hk, h1, h2, h3⟩
      · refine .inl ⟨?_, ?_⟩
        · show fB i f ++ fromB (i + 1) r = _
          rw [fB_no i hf, h1]; rfl
        · intro g hg
          rcases List.mem_cons.1 hg with rfl | hg
          · exact hf
          · exact h2 g hg
      · refine .inr ⟨k + 1, by simpa using hk, by simpa using h1, ?_, ?_⟩
        · intro j hj
          cases j with
          | zero => simpa using hf
          | succ j => simpa using h2 j (by omega)
        · show fB i f ++ fromB (i + 1) r = _
          rw [fB_no i hf, h3]
          have e1 : i + 1 + k = i + (k + 1) := by omega
          rw [e1]
          simp

theorem wide_cons (n : Nat) (r : List UInt8) : wide n ++ r ≠ [] := fun h => by
  have h1 := congrArg List.length h
  have h2 := wide_pos n
  simp at h1
  rw [h1.1] at h2
  simp at h2

theorem wide_same {a b : Nat} {r s : List UInt8} (h : wide a ++ r = wide b ++ s) : a = b ∧ r = s := by
  have e : a = b := prefix_unique (l := wide a ++ r) (List.prefix_append _ _) (by rw [h]; exact List.prefix_append _ _)
  subst e
  exact ⟨rfl, List.append_cancel_left h⟩

theorem bytes_eq {s t : ByteArray} (h : s.data.toList = t.data.toList) : s = t := by
  apply ByteArray.ext
  exact Array.toList_inj.1 h

theorem list_len (s : ByteArray) : s.data.toList.length = s.size := by simp

theorem text_same {s t : ByteArray} {r q : List UInt8} (h : textB s ++ r = textB t ++ q) : s = t ∧ r = q := by
  unfold textB at h
  rw [List.append_assoc, List.append_assoc] at h
  obtain ⟨h1, h2⟩ := wide_same h
  have h3 := List.append_inj h2 (by rw [list_len, list_len, h1])
  exact ⟨bytes_eq h3.1, h3.2⟩

/-- Unlike files have unlike bytes. -/
theorem fromB_inj (A : List (Bool × ByteArray)) : ∀ (i : Nat) (B : List (Bool × ByteArray)), A.length = B.length → (∀ f, f ∈ A → CanF f) → (∀ f, f ∈ B → CanF f) → fromB i A = fromB i B → A = B := by
  induction A with
  | nil =>
    intro i B hl _ _ _
    exact (List.length_eq_zero_iff.1 hl.symm).symm
  | cons f r ih =>
    intro i B hl hA hB h
    match B, hl with
    | g :: s, hl =>
      have hl2 : r.length = s.length := by simpa using hl
      have hA2 : ∀ f, f ∈ r → CanF f := fun x hx => hA x (by simp [hx])
      have hB2 : ∀ f, f ∈ s → CanF f := fun x hx => hB x (by simp [hx])
      have h' : fB i f ++ fromB (i + 1) r = fB i g ++ fromB (i + 1) s := h
      have alone : ∀ (t : List (Bool × ByteArray)) (q : List UInt8), wide i ++ q ≠ fromB (i + 1) t := by
        intro t q e
        rcases fromB_first t (i + 1) with ⟨h1, _⟩ | ⟨k, _, _, _, h3⟩
        · rw [h1] at e; exact wide_cons _ _ e
        · rw [h3] at e
          have := (wide_same e).1
          omega
      cases hf : f.1 with
      | true =>
        cases hg : g.1 with
        | true =>
          rw [fB_yes i hf, fB_yes i hg, List.append_assoc, List.append_assoc] at h'
          obtain ⟨_, h2⟩ := wide_same h'
          obtain ⟨h3, h4⟩ := text_same h2
          rw [ih (i + 1) s hl2 hA2 hB2 h4]
          have e : f = g := Prod.ext (hf.trans hg.symm) h3
          rw [e]
        | false =>
          rw [fB_yes i hf, fB_no i hg, List.append_assoc] at h'
          exact absurd h' (alone s _)
      | false =>
        cases hg : g.1 with
        | true =>
          rw [fB_no i hf, fB_yes i hg, List.append_assoc] at h'
          exact absurd h'.symm (alone r _)
        | false =>
          rw [fB_no i hf, fB_no i hg] at h'
          rw [ih (i + 1) s hl2 hA2 hB2 h', canF_no (hA f (by simp)) hf, canF_no (hB g (by simp)) hg]

/-- Six files that can be. -/
structure Six (F : List (Bool × ByteArray)) : Prop where
  len : F.length = 6
  can : ∀ f, f ∈ F → CanF f

theorem Six.at_ {F : List (Bool × ByteArray)} (h : Six F) (j : Nat) (hj : j < 6) : CanF F[j]! := by
  rw [getElem!_pos F j (by rw [h.len]; exact hj)]
  exact h.can _ (List.getElem_mem _)
theorem Six.set {F : List (Bool × ByteArray)} (h : Six F) (j : Nat) {f : Bool × ByteArray} (hf : CanF f) : Six (F.set j f) :=
  ⟨by rw [List.length_set]; exact h.len, fun g hg => by
    rcases List.mem_or_eq_of_mem_set hg with h1 | h1
    · exact h.can g h1
    · rw [h1]; exact hf⟩
theorem Six.same {F G : List (Bool × ByteArray)} (h : Six F) (k : Six G) (e : fromB 0 F = fromB 0 G) : F = G := fromB_inj F 0 G (h.len.trans k.len.symm) h.can k.can e
theorem Six.ext {F G : List (Bool × ByteArray)} (h : Six F) (k : Six G) (e : ∀ j, j < 6 → F[j]! = G[j]!) : F = G := by
  apply List.ext_getElem (h.len.trans k.len.symm)
  intro j h1 h2
  have := e j (by rw [← h.len]; exact h1)
  rw [getElem!_pos F j h1, getElem!_pos G j h2] at this
  exact this

/-- No file is there. -/
def noF : List (Bool × ByteArray) := List.replicate 6 (false, ⟨#[]⟩)
theorem noF_six : Six noF := ⟨rfl, fun _ hf => .inr (List.eq_of_mem_replicate hf)⟩
theorem noF_get (j : Nat) (h : j < 6) : noF[j]! = (false, ⟨#[]⟩) := by
  rw [getElem!_pos noF j h]
  exact List.getElem_replicate _
theorem noF_bytes : fromB 0 noF = [] := fromB_none _ 0 (fun _ hf => by rw [List.eq_of_mem_replicate hf])

theorem set_get (F : List (Bool × ByteArray)) (i j : Nat) (f : Bool × ByteArray) (hi : i < F.length) : (F.set i f)[j]! = if i = j then f else F[j]! := by
  by_cases e : i = j
  · subst e
    rw [if_pos rfl, getElem!_pos _ i (by simpa using hi)]
    simp
  · rw [if_neg e]
    by_cases hj : j < F.length
    · rw [getElem!_pos _ j (by simpa using hj), getElem!_pos F j hj, List.getElem_set_ne e]
    · rw [getElem!_neg _ j (by simpa using hj), getElem!_neg F j hj]

/-- One file more, behind all that are there. -/
theorem fromB_more (F : List (Bool × ByteArray)) (i : Nat) (f : Bool × ByteArray) (hi : i < F.length) (h : ∀ j, i ≤ j → j < F.length → F[j]!.1 = false) : fromB 0 (F.set i f) = fromB 0 F ++ fB i f := by
  have hz : ∀ k, i ≤ k → fromB k (F.drop k) = [] := fun k hk => fromB_none _ k (fun g hg => by
    obtain ⟨j, hj, e⟩ := List.mem_iff_getElem.1 hg
    rw [List.length_drop] at hj
    have h1 := h (k + j) (by omega) (by omega)
    rw [getElem!_pos F (k + j) (by omega)] at h1
    rw [List.getElem_drop] at e
    rw [← e]
    exact h1)
  have e0 : fromB 0 F = fromB 0 (F.take i) := by
    have h1 := fromB_append (F.take i) (F.drop i) 0
    rw [List.take_append_drop, List.length_take, Nat.min_eq_left (by omega), Nat.zero_add, hz i (Nat.le_refl _), List.append_nil] at h1
    exact h1
  have e1 : F.set i f = F.take i ++ f :: F.drop (i + 1) := by
    rw [List.set_eq_take_append_cons_drop, if_pos hi]
  rw [e1, fromB_append, e0, List.length_take, Nat.min_eq_left (by omega), Nat.zero_add]
  show _ ++ (fB i f ++ fromB (i + 1) (F.drop (i + 1))) = _
  rw [hz (i + 1) (by omega), List.append_nil]

/-- Bytes b are read up to rest: F are the files that were told, all of numbers below 'least'. -/
structure Told (b : List UInt8) (F : List (Bool × ByteArray)) (least : Nat) (rest : List UInt8) : Prop where
  six : Six F
  most : least ≤ 6
  none_ : ∀ j, least ≤ j → j < 6 → F[j]!.1 = false
  last : least = 0 ∨ F[least - 1]!.1 = true
  same : b = fromB 0 F ++ rest
  only : ∀ G, Six G → fromB 0 G = b → (∀ j, j < least → G[j]! = F[j]!) ∧ rest = fromB least (G.drop least)

theorem Told.start (b : List UInt8) : Told b noF 0 b :=
  ⟨noF_six, by omega, fun j _ hj => by rw [noF_get j hj], .inl rfl, by rw [noF_bytes]; rfl, fun G _ h => ⟨fun j hj => by omega, by rw [List.drop_zero, h]⟩⟩

section
variable {b : List UInt8} {F : List (Bool × ByteArray)} {least : Nat} {rest : List UInt8}

/-- What is left, if b are the bytes of files. -/
theorem Told.parse (h : Told b F least rest) (hr : rest ≠ []) (G : List (Bool × ByteArray)) (hG : Six G) (e : fromB 0 G = b) :
    ∃ (i : Nat) (t : ByteArray), least ≤ i ∧ i < 6 ∧ t.size ≤ 32 ∧ G[i]! = (true, t) ∧ (∀ j, least ≤ j → j < i → G[j]!.1 = false) ∧ rest = wide i ++ (textB t ++ fromB (i + 1) (G.drop (i + 1))) := by
  obtain ⟨_, h2⟩ := h.only G hG e
  rcases fromB_first (G.drop least) least with ⟨h3, _⟩ | ⟨k, hk, h4, h5, h6⟩
  · rw [h3] at h2
    exact absurd h2 hr
  · rw [List.length_drop, hG.len] at hk
    have at_ : ∀ j, j < 6 - least → (G.drop least)[j]! = G[least + j]! := fun j hj => by
      rw [getElem!_pos _ j (by rw [List.length_drop, hG.len]; exact hj), getElem!_pos G (least + j) (by rw [hG.len]; omega), List.getElem_drop]
    rw [at_ k hk] at h4 h6
    rw [List.drop_drop] at h6
    have e1 : least + (k + 1) = least + k + 1 := by omega
    rw [e1] at h6
    refine ⟨least + k, G[least + k]!.2, by omega, by omega, canF_le (hG.at_ _ (by omega)), Prod.ext h4 rfl, fun j hj1 hj2 => ?_, h2.trans h6⟩
    obtain ⟨m, rfl⟩ : ∃ m, j = least + m := ⟨j - least, by omega⟩
    have h7 := h5 m (by omega)
    rw [at_ m (by omega)] at h7
    exact h7

theorem small64 {n : Nat} (h : n ≤ 32) : n < 18446744073709551616 := by omega

/-- What Lead tells of what is left, if b are the bytes of files. -/
theorem Told.leads (h : Told b F least rest) (hr : rest ≠ []) {i k n m : Nat} (h1 : Lead rest i k) (h2 : k ≠ 0 → Lead (rest.drop k) n m) (G : List (Bool × ByteArray)) (hG : Six G) (e : fromB 0 G = b) :
    k ≠ 0 ∧ i < 6 ∧ least ≤ i ∧ m ≠ 0 ∧ n ≤ 32 ∧ n ≤ ((rest.drop k).drop m).length ∧ G[i]! = (true, ⟨(((rest.drop k).drop m).take n).toArray⟩) ∧ (∀ j, least ≤ j → j < i → G[j]!.1 = false) ∧ ((rest.drop k).drop m).drop n = fromB (i + 1) (G.drop (i + 1)) := by
  obtain ⟨i', t, a1, a2, a3, a4, a5, a6⟩ := h.parse hr G hG e
  rw [a6] at h1
  obtain ⟨e1, e2⟩ := h1.unique (lead_wide (small64 (by omega)) _)
  have hk : k ≠ 0 := by rw [e2]; have := wide_pos i'; omega
  have e3 : rest.drop k = textB t ++ fromB (i' + 1) (G.drop (i' + 1)) := by rw [a6, e2]; exact List.drop_left
  have h2' := h2 hk
  rw [e3] at h2'
  have e4 : textB t ++ fromB (i' + 1) (G.drop (i' + 1)) = wide t.size ++ (t.data.toList ++ fromB (i' + 1) (G.drop (i' + 1))) := by unfold textB; rw [List.append_assoc]
  rw [e4] at h2'
  obtain ⟨e5, e6⟩ := h2'.unique (lead_wide (small64 a3) _)
  have e7 : (rest.drop k).drop m = t.data.toList ++ fromB (i' + 1) (G.drop (i' + 1)) := by rw [e3, e4, e6]; exact List.drop_left
  have hl : t.data.toList.length = n := by rw [list_len, e5]
  refine ⟨hk, by omega, by omega, ?_, by omega, ?_, ?_, by rw [e1]; exact a5, ?_⟩
  · rw [e6]; have := wide_pos t.size; omega
  · rw [e7, List.length_append, hl]; omega
  · rw [e7, ← hl, List.take_left, e1]
    exact a4
  · rw [e7, ← hl, e1]; exact List.drop_left

theorem Told.fails (h : Told b F least rest) (hr : rest ≠ []) {i k n m : Nat} (h1 : Lead rest i k) (h2 : k ≠ 0 → Lead (rest.drop k) n m)
    (hbad : k = 0 ∨ 6 ≤ i ∨ i < least ∨ m = 0 ∨ 32 < n ∨ ((rest.drop k).drop m).length < n) : ∀ G, Six G → fromB 0 G ≠ b := fun G hG e => by
  obtain ⟨a1, a2, a3, a4, a5, a6, _⟩ := h.leads hr h1 h2 G hG e
  rcases hbad with h | h | h | h | h | h <;> omega

theorem Lead.spells {l : List UInt8} {n sz : Nat} (h : Lead l n sz) (hz : sz ≠ 0) : l = wide n ++ l.drop sz ∧ sz = (wide n).length := by
  rcases h with ⟨rfl, _⟩ | ⟨_, rfl, h⟩
  · exact absurd rfl hz
  · refine ⟨?_, rfl⟩
    obtain ⟨q, rfl⟩ := h
    rw [List.drop_left]

theorem Told.more (h : Told b F least rest) (hr : rest ≠ []) {i k n m : Nat} (h1 : Lead rest i k) (h2 : Lead (rest.drop k) n m) (hk : k ≠ 0) (hi : i < 6) (hl : least ≤ i) (hm : m ≠ 0) (hn : n ≤ 32) (hlen : n ≤ ((rest.drop k).drop m).length) :
    Told b (F.set i (true, ⟨(((rest.drop k).drop m).take n).toArray⟩)) (i + 1) (((rest.drop k).drop m).drop n) := by
  have hsz : (⟨(((rest.drop k).drop m).take n).toArray⟩ : ByteArray).size = n := by
    show (((rest.drop k).drop m).take n).toArray.size = n
    rw [List.size_toArray, List.length_take]
    omega
  have hF : i < F.length := by rw [h.six.len]; exact hi
  refine ⟨h.six.set i (.inl ⟨rfl, by rw [hsz]; exact hn⟩), by omega, fun j hj1 hj2 => ?_, .inr ?_, ?_, fun G hG e => ?_⟩
  · rw [set_get F i j _ hF, if_neg (by omega)]
    exact h.none_ j (by omega) hj2
  · rw [set_get F i _ _ hF, if_pos (by omega)]
  · rw [fromB_more F i _ hF (fun j hj1 hj2 => h.none_ j (by omega) (by rw [← h.six.len]; exact hj2)), fB_yes i rfl]
    have s1 := (Lead.spells h1 hk).1
    have s2 := (Lead.spells h2 hm).1
    have hsame := h.same
    unfold textB
    rw [hsz]
    show b = fromB 0 F ++ (wide i ++ (wide n ++ ((rest.drop k).drop m).take n)) ++ ((rest.drop k).drop m).drop n
    rw [List.append_assoc, List.append_assoc, List.append_assoc, List.take_append_drop, ← s2, ← s1]
    exact hsame
  · obtain ⟨_, _, _, _, _, _, a7, a8, a9⟩ := h.leads hr h1 (fun _ => h2) G hG e
    refine ⟨fun j hj => ?_, a9⟩
    rw [set_get F i j _ hF]
    by_cases e1 : i = j
    · rw [if_pos e1, ← e1]; exact a7
    · rw [if_neg e1]
      by_cases e2 : j < least
      · exact (h.only G hG e).1 j e2
      · have g1 := canF_no (hG.at_ j (by omega)) (a8 j (by omega) (by omega))
        have g2 := canF_no (h.six.at_ j (by omega)) (h.none_ j (by omega) (by omega))
        rw [g1, g2]

theorem Told.done (h : Told b F least []) : fromB 0 F = b := by rw [h.same, List.append_nil]

end

end Go.Proofs.Ytdngehfebmaegaa.Tom
