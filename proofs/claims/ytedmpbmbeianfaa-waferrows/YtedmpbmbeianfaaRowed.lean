/-
  Texts that came in; the walks of the law's own 'great', of Row, the program's and the document's: the same bytes, for every list that is not too great.
-/
import Derived.Test.YtedmpbmbeianfaaBuilds
namespace Go.Proofs.Ytedmpbmbeianfaa
open Go.ChangeShapes Go.WideShapes Go.ChangeAt Go.RowKit Go.Deep

theorem Try.cells9 : Try.prog.cellsOf 9 = 1 := by kernel_rfl

theorem plain_of_cell {w : World} {a : Addr} {v : Value} (h : w.cell? a = some v) : ∃ g off, a = ⟨g, off, none⟩ ∧ g < w.heap.size := by
  obtain ⟨g, off, sp⟩ := a
  have hlt := World.block_lt_of_cell? w ⟨g, off, sp⟩ h
  cases sp with
  | none => exact ⟨g, off, rfl, hlt⟩
  | some x =>
    simp only [World.cell?] at h
    split at h <;> simp at h

theorem add_plain3 (g off j : Nat) : (⟨g, off, none⟩ : Addr).add j = ⟨g, off + j, none⟩ := by unfold Addr.add; split <;> simp_all

/-- The texts ts lie in memory from g, off on. -/
structure TextsAt (w : World) (g off : Nat) (ts : List ByteArray) : Prop where
  lt : g < w.heap.size
  cell : ∀ j (h : j < ts.length), w.cell? ⟨g, off + j, none⟩ = some (.string ts[j])

theorem TextsAt.carry {w w' : World} {g off : Nat} {ts : List ByteArray} (h : TextsAt w g off ts) (hb : w'.heap[g]? = w.heap[g]?) (hs : w.heap.size ≤ w'.heap.size) : TextsAt w' g off ts :=
  ⟨Nat.lt_of_lt_of_le h.lt hs, fun j k => (World.cell?_of_block (w := w) hb).trans (h.cell j k)⟩

def IsTexts (w : World) (a : Option Addr) (len cap : Nat) (ts : List ByteArray) : Prop :=
  ts.length = len ∧ (ts = [] ∧ (a = none → cap = 0) ∨ ∃ g off, a = some ⟨g, off, none⟩ ∧ TextsAt w g off ts)

theorem open_texts {H : Type} {enc : TypeId × Value → H} {w : World} {a : Option Addr} {len cap fuel : Nat} {x : DataW H × List MemPlace}
    (h : DataW.trod enc Try.prog w 0 (fun _ => true) true fuel 30 [.slice a len cap] = some x) : ∃ ts, IsTexts w a len cap ts := by
  rcases open_strs Try.underlying30 Try.underlying9 Try.cells9 h with ⟨hcs, _⟩ | ⟨a', len', cap', m, Sx, hcs, _, hl, hm, hmm, _, hx⟩
  · simp at hcs
    obtain ⟨rfl, rfl, rfl⟩ := hcs
    exact ⟨[], rfl, .inl ⟨rfl, fun _ => rfl⟩⟩
  · simp at hcs
    obtain ⟨rfl, rfl, rfl⟩ := hcs
    have hlm : len ≤ m := by rw [hmm]; simpa using hl
    by_cases h0 : len = 0
    · exact ⟨[], h0.symm, .inl ⟨rfl, fun e => by cases e⟩⟩
    obtain ⟨g', off', e, hg⟩ := plain_of_cell (hx 0 (by omega)).1
    obtain ⟨g, off, rfl⟩ : ∃ g off, a' = ⟨g, off, none⟩ := by
      obtain ⟨g, off, sp⟩ := a'
      have hs := congrArg Addr.spot e
      unfold Addr.add at hs
      cases sp with
      | none => exact ⟨g, off, rfl⟩
      | some y => simp at hs
    rw [add_plain3] at e
    have hgg : g = g' := congrArg Addr.block e
    subst hgg
    refine ⟨(List.range len).map Sx, by simp, .inr ⟨g, off, rfl, hg, fun j hj => ?_⟩⟩
    have hj' : j < len := by simpa using hj
    have := (hx j (by omega)).1
    rw [add_plain3] at this
    simpa using this

def sumT : List ByteArray → Nat
  | [] => 0
  | s :: r => s.size + sumT r

theorem sumT_append (a b : List ByteArray) : sumT (a ++ b) = sumT a + sumT b := by
  induction a with
  | nil => simp [sumT]
  | cons s r ih => simp [sumT, ih]; omega
theorem sumT_take_succ (l : List ByteArray) (k : Nat) (h : k < l.length) : sumT (l.take (k + 1)) = sumT (l.take k) + l[k].size := by
  rw [List.take_succ_eq_append_getElem h, sumT_append]
  simp [sumT]
theorem sumT_take_le (l : List ByteArray) (k : Nat) : sumT (l.take k) ≤ sumT l := by
  have h := congrArg sumT (List.take_append_drop k l)
  rw [sumT_append] at h
  omega
theorem sumT_get (l : List ByteArray) (k : Nat) (h : k < l.length) : l[k].size ≤ sumT l := by
  have h1 := sumT_take_succ l k h
  have h2 := sumT_take_le l (k + 1)
  omega

/-- Records, one behind the other. -/
def rowB : List ByteArray → List UInt8
  | [] => []
  | s :: r => recB s.data.toList ++ rowB r

theorem rowB_append (a b : List ByteArray) : rowB (a ++ b) = rowB a ++ rowB b := by
  induction a with
  | nil => rfl
  | cons s r ih => simp [rowB, ih]

theorem rowB_take_succ (l : List ByteArray) (k : Nat) (h : k < l.length) : rowB (l.take (k + 1)) = rowB (l.take k) ++ recB l[k].data.toList := by
  rw [List.take_succ_eq_append_getElem h, rowB_append]
  simp [rowB]

theorem recB_le (l : List UInt8) : (recB l).length ≤ l.length + 6 := by
  by_cases h : 1024 < l.length
  · unfold recB
    rw [if_pos h]
    simp
  · rw [recB_length h]
    exact Nat.le_refl _

theorem rowB_le (l : List ByteArray) : (rowB l).length ≤ 6 * l.length + sumT l := by
  induction l with
  | nil => simp [rowB]
  | cons s r ih =>
    have h := recB_le s.data.toList
    rw [size_list] at h
    simp [rowB, sumT]
    omega

theorem rowB_take_le (l : List ByteArray) (k : Nat) : (rowB (l.take k)).length ≤ 6 * l.length + sumT l := by
  have h := rowB_le (l.take k)
  have h2 := sumT_take_le l k
  have h3 := List.length_take_le k l
  have h4 : (l.take k).length ≤ l.length := by rw [List.length_take]; omega
  omega

set_option maxHeartbeats 400000 in
theorem great_none (a : Option Addr) (cap : Nat) (w : World) :
    Calls Try.prog 16 #[.slice a 0 cap] w fun e w' => e = .returned (.bool false) ∧ w' = w := by
  go_enter Try.func16, Try.ntmps16
  go_wp2
  go_loop [11] (fun i => i = .int .i64 0) (fun _ => 0)
  case atStart => rfl
  case round =>
    subst hrel
    go_wp2
    go_ret
    exact ⟨rfl, rfl⟩

set_option maxHeartbeats 400000 in
theorem great_some (g off len cap : Nat) (ts : List ByteArray) (w : World) (hlen : ts.length = len) (hat : TextsAt w g off ts) :
    Calls Try.prog 16 #[.slice (some ⟨g, off, none⟩) len cap] w fun e w' => w' = w ∧ (e = .returned (.bool true) ∨ (e = .returned (.bool false) ∧ len ≤ 20 ∧ sumT ts ≤ 2048)) := by
  by_cases h20 : 20 < len
  · go_enter Try.func16, Try.ntmps16
    go_wp2
    go_ret
    exact ⟨rfl, .inl rfl⟩
  have HL := Hid.mk hlen
  clear hlen
  go_enter Try.func16, Try.ntmps16
  go_wp2
  go_loop [3, 5, 11] (fun n _x i => ∃ k : Nat, k ≤ len ∧ i = .int .i64 k ∧ n = .int .i64 (sumT (ts.take k) : Nat) ∧ sumT (ts.take k) ≤ 2048) (fun _ _ i => len - (intOf i).toNat)
  case atStart => exact ⟨0, Nat.zero_le _, rfl, rfl, by simp [sumT]⟩
  case round =>
    obtain ⟨k, hk, rfl, rfl, hsum⟩ := hrel
    by_cases hlt : k < len
    · have hkt : k < ts.length := by rw [HL.out]; exact hlt
      have hstep := sumT_take_succ ts k hkt
      obtain ⟨t, ht⟩ : ∃ t, t = ts[k] := ⟨_, rfl⟩
      have c := hat.cell k hkt
      rw [← ht] at hstep c
      have HS := Hid.mk hstep
      clear ht hstep
      go_wp2_with fail
      · go_ret
        exact ⟨rfl, .inl rfl⟩
      · go_ret
        exact ⟨rfl, .inl rfl⟩
      · go_round
        case rel => exact ⟨k + 1, by omega, by go_num, by rw [HS.out]; go_num, by rw [HS.out]; omega⟩
        case measure => simp [intOf]; omega
    · have hkl : k = len := by omega
      rw [hkl, List.take_of_length_le (by rw [HL.out]; exact Nat.le_refl _)] at hsum
      have HF := Hid.mk hsum
      clear hsum
      go_wp2
      go_ret
      exact ⟨rfl, .inr ⟨rfl, by omega, HF.out⟩⟩

theorem great_any (a : Option Addr) (len cap : Nat) (ts : List ByteArray) (w : World) (h : IsTexts w a len cap ts) :
    Calls Try.prog 16 #[.slice a len cap] w fun e w' => w' = w ∧ (e = .returned (.bool true) ∨ (e = .returned (.bool false) ∧ len ≤ 20 ∧ sumT ts ≤ 2048)) := by
  by_cases h0 : len = 0
  · have ht : ts = [] := List.length_eq_zero_iff.1 (by rw [h.1, h0])
    subst h0 ht
    exact (great_none a cap w).mono fun e w' ⟨he, hw⟩ => ⟨hw, .inr ⟨he, by omega, by simp [sumT]⟩⟩
  · obtain ⟨hl, ⟨rfl, _⟩ | ⟨g, off, rfl, hat⟩⟩ := h
    · exact absurd hl.symm h0
    · exact great_some g off len cap ts w hl hat

set_option maxHeartbeats 400000 in
theorem row_none (a : Option Addr) (cap : Nat) (w : World) :
    Calls Try.prog 17 #[.slice a 0 cap] w fun e w' => e = .returned (.string ⟨#[]⟩) ∧ Below w.heap.size w w' := by
  have hb := Bld.new w
  go_enter Try.func17, Try.ntmps17
  go_wp2
  go_loop [8] (fun i => i = .int .i64 0) (fun _ => 0)
  case atStart => rfl
  case round =>
    subst hrel
    go_wp2_with fail
    refine (string_any _ _ _ _ hb).mono ?_
    rintro e w1 ⟨rfl, hb1⟩
    have HB : Hid (Below w.heap.size w w1) := Hid.mk (((Below.refl w.heap.size w).alloc (Nat.le_refl _) _).trans hb1)
    clear hb1 hb
    go_wp2
    go_ret
    exact ⟨rfl, HB.out⟩

set_option maxHeartbeats 400000 in
theorem row_some (g off len cap : Nat) (ts : List ByteArray) (w : World) (hlen : ts.length = len) (hat : TextsAt w g off ts) (hsm : len ≤ 1000) (hsum : sumT ts ≤ 1000000) :
    Calls Try.prog 17 #[.slice (some ⟨g, off, none⟩) len cap] w fun e w' => e = .returned (.string ⟨(rowB ts).toArray⟩) ∧ Below w.heap.size w w' := by
  have hb0 := Bld.new w
  have HL := Hid.mk hlen
  have HC := Hid.mk hat
  have hgl := hat.lt
  clear hlen hat
  go_enter Try.func17, Try.ntmps17
  go_wp2
  go_loopw [5, 8] (fun _ i wr => ∃ k : Nat, k ≤ len ∧ i = .int .i64 k ∧ Bld wr w.heap.size w.heap.size (rowB (ts.take k)) ∧ Below w.heap.size w wr) (fun _ i _ => len - (intOf i).toNat)
  case atStart => exact ⟨0, Nat.zero_le _, rfl, hb0, (Below.refl w.heap.size w).alloc (Nat.le_refl _) _⟩
  case round =>
    obtain ⟨k, hk, rfl, hbl, hbel⟩ := hrel
    clear hb0
    by_cases hlt : k < len
    · have hkt : k < ts.length := by rw [HL.out]; exact hlt
      have hstep := rowB_take_succ ts k hkt
      have hle := rowB_take_le ts k
      rw [HL.out] at hle
      have hts := sumT_get ts k hkt
      obtain ⟨t, ht⟩ : ∃ t, t = ts[k] := ⟨_, rfl⟩
      have c : wr.cell? ⟨g, off + k, none⟩ = some (.string t) := by
        rw [World.cell?_of_block (w := w) (hbel.block g hgl), HC.out.cell k hkt, ht]
      rw [← ht] at hstep hts
      have HS := Hid.mk hstep
      clear ht hstep
      go_wp2_with fail
      refine (close_any _ t (by omega)).mono ?_
      rintro e w1 ⟨rfl, hb1⟩
      obtain ⟨r, hr⟩ : ∃ r : ByteArray, r = ⟨(recB t.data.toList).toArray⟩ := ⟨_, rfl⟩
      rw [← hr]
      have hrz : r.size ≤ t.size + 6 := by rw [hr, str_size]; have h := recB_le t.data.toList; rw [size_list] at h; exact h
      have HR : Hid (r.data.toList = recB t.data.toList) := Hid.mk (by rw [hr])
      have hbl1 := hbl.carry hb1
      have hbel1 := hbel.trans (hb1.mono hbel.size)
      clear hr hbl hbel hb1 c
      go_wp2_with fail
      refine (writeString_any _ _ _ _ r hbl1 (by omega) hbel1.size).mono ?_
      rintro e w2 ⟨rfl, hbl2, hb2⟩
      rw [HR.out, ← HS.out] at hbl2
      have hbel2 := hbel1.trans hb2
      clear hbl1 hbel1 hb2
      go_wp2
      go_roundw
      case rel => exact ⟨k + 1, by omega, by go_num, hbl2, hbel2⟩
      case measure => simp [intOf]; omega
    · have hkl : k = len := by omega
      rw [hkl, List.take_of_length_le (by rw [HL.out]; exact Nat.le_refl _)] at hbl
      go_wp2_with fail
      refine (string_any _ _ _ _ hbl).mono ?_
      rintro e w1 ⟨rfl, hb1⟩
      have hbel1 := hbel.trans hb1
      clear hb1 hbel hbl
      go_wp2
      go_ret
      exact ⟨rfl, hbel1⟩

theorem row_any (a : Option Addr) (len cap : Nat) (ts : List ByteArray) (w : World) (h : IsTexts w a len cap ts) (hsm : len ≤ 1000) (hsum : sumT ts ≤ 1000000) :
    Calls Try.prog 17 #[.slice a len cap] w fun e w' => e = .returned (.string ⟨(rowB ts).toArray⟩) ∧ Below w.heap.size w w' := by
  by_cases h0 : len = 0
  · have ht : ts = [] := List.length_eq_zero_iff.1 (by rw [h.1, h0])
    subst h0 ht
    exact row_none a cap w
  · obtain ⟨hl, ⟨rfl, _⟩ | ⟨g, off, rfl, hat⟩⟩ := h
    · exact absurd hl.symm h0
    · exact row_some g off len cap ts w hl hat hsm hsum

set_option maxHeartbeats 400000 in
theorem refRow_none (a : Option Addr) (cap : Nat) (w : World) :
    Calls Try.prog 20 #[.slice a 0 cap] w fun e w' => e = .returned (.string ⟨#[]⟩) ∧ Below w.heap.size w w' := by
  go_enter Try.func20, Try.ntmps20
  go_wp2
  go_loop [3, 8] (fun s i => s = .string ⟨#[]⟩ ∧ i = .int .i64 0) (fun _ _ => 0)
  case atStart => exact ⟨rfl, rfl⟩
  case round =>
    obtain ⟨rfl, rfl⟩ := hrel
    go_wp2
    go_ret
    exact ⟨rfl, Below.refl _ _⟩

set_option maxHeartbeats 400000 in
theorem refRow_some (g off len cap : Nat) (ts : List ByteArray) (w : World) (hlen : ts.length = len) (hat : TextsAt w g off ts) (hsm : len ≤ 1000) (hsum : sumT ts ≤ 1000000) :
    Calls Try.prog 20 #[.slice (some ⟨g, off, none⟩) len cap] w fun e w' => e = .returned (.string ⟨(rowB ts).toArray⟩) ∧ Below w.heap.size w w' := by
  have HL := Hid.mk hlen
  have HC := Hid.mk hat
  have hgl := hat.lt
  clear hlen hat
  go_enter Try.func20, Try.ntmps20
  go_wp2
  go_loopw [3, 5, 8] (fun s _ i wr => ∃ (k : Nat) (b : ByteArray), k ≤ len ∧ i = .int .i64 k ∧ s = .string b ∧ b.data.toList = rowB (ts.take k) ∧ Below w.heap.size w wr) (fun _ _ i _ => len - (intOf i).toNat)
  case atStart => exact ⟨0, ⟨#[]⟩, Nat.zero_le _, rfl, rfl, rfl, Below.refl _ _⟩
  case round =>
    obtain ⟨k, b, hk, rfl, rfl, hbl, hbel⟩ := hrel
    by_cases hlt : k < len
    · have hkt : k < ts.length := by rw [HL.out]; exact hlt
      have hstep := rowB_take_succ ts k hkt
      have hle := rowB_take_le ts k
      rw [HL.out, ← hbl, size_list] at hle
      have hts := sumT_get ts k hkt
      obtain ⟨t, ht⟩ : ∃ t, t = ts[k] := ⟨_, rfl⟩
      have c : wr.cell? ⟨g, off + k, none⟩ = some (.string t) := by
        rw [World.cell?_of_block (w := w) (hbel.block g hgl), HC.out.cell k hkt, ht]
      rw [← ht] at hstep hts
      have HS := Hid.mk hstep
      have HB := Hid.mk hbl
      clear ht hstep hbl
      go_wp2_with fail
      refine (refClose_any _ t (by omega)).mono ?_
      rintro e w1 ⟨rfl, hb1⟩
      obtain ⟨r, hr⟩ : ∃ r : ByteArray, r = ⟨(recB t.data.toList).toArray⟩ := ⟨_, rfl⟩
      rw [← hr]
      have hrz : r.size ≤ t.size + 6 := by rw [hr, str_size]; have h := recB_le t.data.toList; rw [size_list] at h; exact h
      have HR : Hid (r.data.toList = recB t.data.toList) := Hid.mk (by rw [hr])
      have hbel1 := hbel.trans (hb1.mono hbel.size)
      have HJ : Hid ((b ++ r).data.toList = rowB (ts.take (k + 1))) := Hid.mk (by rw [HS.out, ← HB.out, ← HR.out]; simp)
      clear hr hbel hb1 c
      go_wp2
      go_roundw
      case rel => exact ⟨k + 1, b ++ r, by omega, by go_num, rfl, HJ.out, hbel1⟩
      case measure => simp [intOf]; omega
    · have hkl : k = len := by omega
      rw [hkl, List.take_of_length_le (by rw [HL.out]; exact Nat.le_refl _)] at hbl
      have HB := Hid.mk hbl
      clear hbl
      go_wp2
      go_ret
      exact ⟨by rw [← HB.out]; rfl, hbel⟩

theorem refRow_any (a : Option Addr) (len cap : Nat) (ts : List ByteArray) (w : World) (h : IsTexts w a len cap ts) (hsm : len ≤ 1000) (hsum : sumT ts ≤ 1000000) :
    Calls Try.prog 20 #[.slice a len cap] w fun e w' => e = .returned (.string ⟨(rowB ts).toArray⟩) ∧ Below w.heap.size w w' := by
  by_cases h0 : len = 0
  · have ht : ts = [] := List.length_eq_zero_iff.1 (by rw [h.1, h0])
    subst h0 ht
    exact refRow_none a cap w
  · obtain ⟨hl, ⟨rfl, _⟩ | ⟨g, off, rfl, hat⟩⟩ := h
    · exact absurd hl.symm h0
    · exact refRow_some g off len cap ts w hl hat hsm hsum

end Go.Proofs.Ytedmpbmbeianfaa
