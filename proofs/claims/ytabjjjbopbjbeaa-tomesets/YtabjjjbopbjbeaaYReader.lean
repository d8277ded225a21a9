/-
  A reader in memory, and the walks of its calls.
-/
import Derived.Test.YtabjjjbopbjbeaaYLead
namespace Go.Proofs.Ytabjjjbopbjbeaa.Sty
open Go.RowKit

/-- The reader in block r has s left; a bad one has nothing left. -/
structure Rd (w : World) (r : Nat) (s : ByteArray) (bad : Bool) : Prop where
  at_ : w.heap[r]? = some (.cells #[.string s, .bool bad] 89 (0, 0))
  none_ : bad = true → s.data.toList = []

/-- Nothing but block r has turned. -/
structure Only (r : Nat) (w w' : World) : Prop where
  os : w'.os = w.os
  tape : w'.tape = w.tape
  output : w'.output = w.output
  size : w'.heap.size = w.heap.size
  block : ∀ k, k ≠ r → w'.heap[k]? = w.heap[k]?

theorem Only.refl (r : Nat) (w : World) : Only r w w := ⟨rfl, rfl, rfl, rfl, fun _ _ => rfl⟩
theorem Only.trans {r : Nat} {a b c : World} (h : Only r a b) (k : Only r b c) : Only r a c :=
  ⟨k.os.trans h.os, k.tape.trans h.tape, k.output.trans h.output, k.size.trans h.size, fun i hi => (k.block i hi).trans (h.block i hi)⟩
theorem Only.setCell (r o : Nat) (w : World) (v : Value) : Only r w (w.setCell ⟨r, o, none⟩ v) :=
  ⟨rfl, rfl, rfl, by simp [World.setCell], fun k hk => Below.heap_setCell _ _ _ _ hk⟩
theorem Only.below {r B : Nat} {w w' : World} (h : Only r w w') (hB : B ≤ r) : Below B w w' :=
  ⟨h.os, h.tape, h.output, by rw [h.size]; exact Nat.le_refl _, fun k hk => h.block k (by omega)⟩

section
variable {w : World} {r : Nat} {s : ByteArray} {bad : Bool}
theorem Rd.lt (h : Rd w r s bad) : r < w.heap.size := (Array.getElem?_eq_some_iff.1 h.at_).1
theorem Rd.c0 (h : Rd w r s bad) : w.cell? ⟨r, 0, none⟩ = some (.string s) := by simp [World.cell?, h.at_]
theorem Rd.c1 (h : Rd w r s bad) : w.cell? ⟨r, 1, none⟩ = some (.bool bad) := by simp [World.cell?, h.at_]
theorem Rd.f0 (h : Rd w r s bad) : w.frozen? ⟨r, 0, none⟩ = false := by simp [World.frozen?, h.at_]
theorem Rd.f1 (h : Rd w r s bad) : w.frozen? ⟨r, 1, none⟩ = false := by simp [World.frozen?, h.at_]
theorem Rd.new (w : World) (s : ByteArray) : Rd (w.alloc (.cells #[.string s, .bool false] 89)) w.heap.size s false := ⟨heap_alloc_new w _, fun h => by cases h⟩
theorem Rd.carry {w' : World} (h : Rd w r s bad) (hb : w'.heap[r]? = w.heap[r]?) : Rd w' r s bad := ⟨hb.trans h.at_, h.none_⟩
theorem Rd.rest (h : Rd w r s false) (s' : ByteArray) : Rd (w.setCell ⟨r, 0, none⟩ (.string s')) r s' false :=
  ⟨by simp [World.setCell, Array.getElem?_modify, h.at_], fun h => by cases h⟩
theorem Rd.spoilt (h : Rd w r s bad) : Rd ((w.setCell ⟨r, 0, none⟩ (.string ⟨#[]⟩)).setCell ⟨r, 1, none⟩ (.bool true)) r ⟨#[]⟩ true :=
  ⟨by simp [World.setCell, Array.getElem?_modify, h.at_], fun _ => rfl⟩
end

/-- The number that one without a sign stands for. -/
def unfI (u : Nat) : Int := if u % 2 = 1 then -((u / 2 : Nat) : Int) - 1 else ((u / 2 : Nat) : Int)

theorem unfI_foldN {x : Int} : unfI (foldN x) = x := by
  unfold unfI foldN
  split <;> split <;> omega

set_option maxHeartbeats 400000 in
set_option maxRecDepth 100000 in
theorem spoil_any (w : World) (r : Nat) (s : ByteArray) (bad : Bool) (h : Rd w r s bad) :
    Calls Try.prog 44 #[.pointer (some ⟨r, 0, none⟩)] w fun e w' => e = .returned (.tuple #[]) ∧ Rd w' r ⟨#[]⟩ true ∧ Only r w w' := by
  have c0 := h.c0
  have c1 := h.c1
  have f0 := h.f0
  have f1 := h.f1
  go_enter Try.func44, Try.ntmps44
  go_wp2
  go_end0
  exact ⟨rfl, h.spoilt, (Only.setCell _ _ _ _).trans (Only.setCell _ _ _ _)⟩

set_option maxHeartbeats 400000 in
set_option maxRecDepth 100000 in
theorem spoil_nil (w : World) :
    Calls Try.prog 44 #[.pointer none] w fun e w' => e = .returned (.tuple #[]) ∧ w' = w := by
  go_enter Try.func44, Try.ntmps44
  go_wp2
  go_end0
  exact ⟨rfl, rfl⟩

theorem and_one (u : Nat) (hu : u < 18446744073709551616) : bits BinOp.and IntKind.u64 (u : Int) 1 = ((u % 2 : Nat) : Int) := by
  have h := bits_and_u64_nat u 1 hu (by omega)
  rw [Nat.and_one_is_mod] at h
  exact h

theorem extract_list (s : ByteArray) (k : Nat) : (s.extract k s.size).data.toList = s.data.toList.drop k := by
  simp
  exact List.take_of_length_le (by simp)
theorem extract_head (s : ByteArray) (k : Nat) : (s.extract 0 k).data.toList = s.data.toList.take k := by
  simp

theorem lead_nil : Lead [] 0 0 := lead_none (k := 0) (.inl rfl) (fun j hj => by omega)

theorem Lead.size_le {l : List UInt8} {n sz : Nat} (h : Lead l n sz) : sz ≤ l.length := by
  rcases h with ⟨rfl, _, _⟩ | ⟨_, rfl, h⟩
  · exact Nat.zero_le _
  · exact h.length_le

theorem Lead.lt {l : List UInt8} {n sz : Nat} (h : Lead l n sz) : n < 18446744073709551616 := by
  rcases h with ⟨_, rfl, _⟩ | ⟨h, _, _⟩
  · omega
  · exact h

theorem size_list (s : ByteArray) : s.data.toList.length = s.size := by simp

/-- What is left behind a number: nothing where there is none. -/
def leftN (l : List UInt8) (sz : Nat) : List UInt8 := if sz = 0 then [] else l.drop sz

set_option maxHeartbeats 400000 in
set_option maxRecDepth 100000 in
theorem rnum_any (w : World) (r : Nat) (s : ByteArray) (bad : Bool) (h : Rd w r s bad) :
    Calls Try.prog 43 #[.pointer (some ⟨r, 0, none⟩)] w fun e w' => ∃ (n sz : Nat) (s' : ByteArray), e = .returned (.int .u64 n) ∧ Lead s.data.toList n sz ∧ Rd w' r s' (bad || decide (sz = 0)) ∧ s'.data.toList = leftN s.data.toList sz ∧ Only r w w' := by
  have c0 := h.c0
  have f0 := h.f0
  cases bad with
  | true =>
    go_enter Try.func43, Try.ntmps43
    go_wp2_with fail
    refine (bad_any _ r true h.c1).mono ?_
    rintro e w1 ⟨rfl, rfl⟩
    go_wp2
    go_ret
    have h0 := h.none_ rfl
    exact ⟨0, 0, s, rfl, by rw [h0]; exact lead_nil, h, by rw [h0]; rfl, Only.refl _ _⟩
  | false =>
    go_enter Try.func43, Try.ntmps43
    go_wp2_with fail
    refine (bad_any _ r false h.c1).mono ?_
    rintro e w1 ⟨rfl, rfl⟩
    go_wp2_with fail
    refine (leading_any _ s).mono ?_
    rintro e w2 ⟨n, sz, rfl, hl, rfl⟩
    have HL := Hid.mk hl
    clear hl
    by_cases hz : sz = 0
    · subst hz
      go_wp2_with fail
      refine (spoil_any _ r s false h).mono ?_
      rintro e w3 ⟨rfl, h3, ho3⟩
      go_wp2
      go_ret
      have hn0 : n = 0 := by
        rcases HL.out with ⟨_, h0, _⟩ | ⟨_, h0, _⟩
        · exact h0
        · have := wide_pos n; omega
      exact ⟨0, 0, _, rfl, by have := HL.out; rw [hn0] at this; exact this, h3, rfl, ho3⟩
    · have hz1 : ((sz : Int) == 0) = false := by simp; omega
      have hsz : sz ≤ s.size := by have := HL.out.size_le; rw [size_list] at this; exact this
      have hsz1 : (sz : Int) ≤ (s.size : Int) := by omega
      go_wp2
      go_ret
      exact ⟨n, sz, _, rfl, HL.out, by simpa [hz] using h.rest _, by unfold leftN; rw [if_neg hz]; exact extract_list s sz, Only.setCell _ _ _ _⟩

/-- Whether a number of at most 'most' is read. -/
def okN (bad : Bool) (n sz : Nat) (most : Int) : Bool := !bad && decide (sz ≠ 0) && decide (0 ≤ most) && decide ((n : Int) ≤ most)

theorem okN_true {bad : Bool} {n sz : Nat} {most : Int} (h0 : bad = false) (h1 : sz ≠ 0) (h2 : 0 ≤ most) (h3 : (n : Int) ≤ most) : okN bad n sz most = true := by
  simp [okN, h0, h1, h2, h3]
theorem okN_neg {bad : Bool} {n sz : Nat} {most : Int} (h : most < 0) : okN bad n sz most = false := by
  unfold okN
  rw [decide_eq_false (by omega : ¬ 0 ≤ most)]
  simp
theorem okN_more {bad : Bool} {n sz : Nat} {most : Int} (h : most < (n : Int)) : okN bad n sz most = false := by
  unfold okN
  rw [decide_eq_false (by omega : ¬ (n : Int) ≤ most)]
  simp
theorem okN_none {bad : Bool} {n sz : Nat} {most : Int} (h : sz = 0) : okN bad n sz most = false := by
  simp [okN, h]

theorem Lead.none {l : List UInt8} {n sz : Nat} (h : Lead l n sz) (hz : sz = 0) : n = 0 := by
  rcases h with ⟨_, h0, _⟩ | ⟨_, h0, _⟩
  · exact h0
  · have := wide_pos n; omega

theorem Rd.bad_none {w : World} {r n sz : Nat} {s : ByteArray} {bad : Bool} (h : Rd w r s bad) (hl : Lead s.data.toList n sz) (hz : sz ≠ 0) : bad = false := by
  cases bad with
  | false => rfl
  | true =>
    have h0 := h.none_ rfl
    have := hl.size_le
    rw [h0] at this
    simp at this
    exact absurd this hz

/-- What a reader is behind a number that may be refused. -/
def leftIf (ok : Bool) (l : List UInt8) (sz : Nat) : List UInt8 := if ok then l.drop sz else []

set_option maxHeartbeats 400000 in
set_option maxRecDepth 100000 in
theorem rnat_any (w : World) (r : Nat) (s : ByteArray) (bad : Bool) (most : Int) (hm : most ≤ 9223372036854775807) (h : Rd w r s bad) :
    Calls Try.prog 33 #[.pointer (some ⟨r, 0, none⟩), .int .i64 most] w fun e w' => ∃ (n sz : Nat) (s' : ByteArray), Lead s.data.toList n sz ∧
      e = .returned (.int .i64 (if okN bad n sz most then (n : Int) else 0)) ∧ Rd w' r s' (!okN bad n sz most) ∧ s'.data.toList = leftIf (okN bad n sz most) s.data.toList sz ∧ Only r w w' := by
  by_cases hneg : most < 0
  · go_enter Try.func33, Try.ntmps33
    go_wp2_with fail
    refine (rnum_any _ r s bad h).mono ?_
    rintro e w1 ⟨n, sz, s1, rfl, hl, h1, hs1, ho1⟩
    have HL := Hid.mk hl
    clear hl hs1
    go_wp2_with fail
    refine (spoil_any _ r s1 _ h1).mono ?_
    rintro e w2 ⟨rfl, h2, ho2⟩
    go_wp2
    go_ret
    refine ⟨n, sz, ⟨#[]⟩, HL.out, ?_, ?_, ?_, ho1.trans ho2⟩
    · rw [okN_neg hneg]; rfl
    · rw [okN_neg hneg]; exact h2
    · rw [okN_neg hneg]; rfl
  · go_enter Try.func33, Try.ntmps33
    go_wp2_with fail
    refine (rnum_any _ r s bad h).mono ?_
    rintro e w1 ⟨n, sz, s1, rfl, hl, h1, hs1, ho1⟩
    have hnl := hl.lt
    have HL := Hid.mk hl
    have HS := Hid.mk hs1
    clear hl hs1
    by_cases hmore : most < (n : Int)
    · go_wp2_with fail
      refine (spoil_any _ r s1 _ h1).mono ?_
      rintro e w2 ⟨rfl, h2, ho2⟩
      go_wp2
      go_ret
      refine ⟨n, sz, ⟨#[]⟩, HL.out, ?_, ?_, ?_, ho1.trans ho2⟩
      · rw [okN_more hmore]; rfl
      · rw [okN_more hmore]; exact h2
      · rw [okN_more hmore]; rfl
    · have hmost : (n : Int) ≤ most := by omega
      go_wp2
      go_ret
      refine ⟨n, sz, s1, HL.out, ?_, ?_, ?_, ho1⟩
      · by_cases hz : sz = 0
        · rw [okN_none hz, HL.out.none hz]; rfl
        · rw [okN_true (h.bad_none HL.out hz) hz (by omega) hmost]; rfl
      · by_cases hz : sz = 0
        · rw [okN_none hz]
          simpa [hz] using h1
        · rw [okN_true (h.bad_none HL.out hz) hz (by omega) hmost]
          have hb := h.bad_none HL.out hz
          simpa [hz, hb] using h1
      · by_cases hz : sz = 0
        · rw [okN_none hz, HS.out, hz]; rfl
        · rw [okN_true (h.bad_none HL.out hz) hz (by omega) hmost, HS.out]
          simp [leftN, leftIf, hz]

/-- Whether n bytes are read. -/
def okR (bad : Bool) (l : List UInt8) (n : Int) : Bool := !bad && decide (0 ≤ n) && decide (n ≤ (l.length : Int))

set_option maxHeartbeats 400000 in
set_option maxRecDepth 100000 in
theorem rraw_any (w : World) (r : Nat) (s : ByteArray) (bad : Bool) (n : Int) (hR : Rd w r s bad) :
    Calls Try.prog 45 #[.pointer (some ⟨r, 0, none⟩), .int .i64 n] w fun e w' => ∃ (t s' : ByteArray), e = .returned (.string t) ∧ t.data.toList = (if okR bad s.data.toList n then s.data.toList.take n.toNat else []) ∧
      Rd w' r s' (!okR bad s.data.toList n) ∧ s'.data.toList = leftIf (okR bad s.data.toList n) s.data.toList n.toNat ∧ Only r w w' := by
  have c0 := hR.c0
  have f0 := hR.f0
  have hl := size_list s
  by_cases hok : okR bad s.data.toList n = true
  · have hb : bad = false ∧ 0 ≤ n ∧ n ≤ (s.size : Int) := by
      unfold okR at hok
      simp at hok
      obtain ⟨⟨h1, h2⟩, h3⟩ := hok
      exact ⟨h1, h2, h3⟩
    obtain ⟨rfl, h0, h1⟩ := hb
    rw [hok]
    obtain ⟨k, rfl⟩ := Int.eq_ofNat_of_zero_le h0
    have hk : k ≤ s.size := by omega
    clear hok
    go_enter Try.func45, Try.ntmps45
    go_wp2_with fail
    refine (bad_any _ r false hR.c1).mono ?_
    rintro e w1 ⟨rfl, rfl⟩
    go_wp2
    go_ret
    exact ⟨_, rfl, extract_head s k, _, hR.rest _, extract_list s k, Only.setCell _ _ _ _⟩
  · have hno : okR bad s.data.toList n = false := by simpa using hok
    rw [hno]
    have HN := Hid.mk hno
    clear hok hno
    have fin : ∀ (e : Ending) (w' : World), (e = .returned (.string ⟨#[]⟩) ∧ Rd w' r ⟨#[]⟩ true ∧ Only r w w') → ∃ (t s' : ByteArray), e = .returned (.string t) ∧ t.data.toList = (if false = true then s.data.toList.take n.toNat else []) ∧
      Rd w' r s' (!false) ∧ s'.data.toList = leftIf false s.data.toList n.toNat ∧ Only r w w' := fun e w' ⟨h1, h2, h3⟩ => ⟨⟨#[]⟩, ⟨#[]⟩, h1, rfl, h2, rfl, h3⟩
    refine Calls.mono ?_ fin
    clear fin
    cases bad with
    | true =>
      go_enter Try.func45, Try.ntmps45
      go_wp2_with fail
      refine (bad_any _ r true hR.c1).mono ?_
      rintro e w1 ⟨rfl, rfl⟩
      go_wp2_with fail
      refine (spoil_any _ r s _ hR).mono ?_
      rintro e w2 ⟨rfl, h2, ho2⟩
      go_wp2
      go_ret
      exact ⟨rfl, h2, ho2⟩
    | false =>
      have hn : n < 0 ∨ (s.size : Int) < n := by
        have := HN.out
        unfold okR at this
        simp at this
        omega
      by_cases h0 : n < 0
      · go_enter Try.func45, Try.ntmps45
        go_wp2_with fail
        refine (bad_any _ r false hR.c1).mono ?_
        rintro e w1 ⟨rfl, rfl⟩
        go_wp2_with fail
        refine (spoil_any _ r s _ hR).mono ?_
        rintro e w2 ⟨rfl, h2, ho2⟩
        go_wp2
        go_ret
        exact ⟨rfl, h2, ho2⟩
      · have h1 : (s.size : Int) < n := by omega
        clear hn
        go_enter Try.func45, Try.ntmps45
        go_wp2_with fail
        refine (bad_any _ r false hR.c1).mono ?_
        rintro e w1 ⟨rfl, rfl⟩
        go_wp2_with fail
        refine (spoil_any _ r s _ hR).mono ?_
        rintro e w2 ⟨rfl, h2, ho2⟩
        go_wp2
        go_ret
        exact ⟨rfl, h2, ho2⟩



/-- Whether a text of at most 'most' bytes is read. -/
def okT (bad : Bool) (l : List UInt8) (n sz : Nat) (most : Int) : Bool := okN bad n sz most && decide (n ≤ (l.drop sz).length)

set_option maxHeartbeats 400000 in
set_option maxRecDepth 100000 in
theorem rtext_any (w : World) (r : Nat) (s : ByteArray) (bad : Bool) (most : Int) (hm : most ≤ 9223372036854775807) (h : Rd w r s bad) :
    Calls Try.prog 34 #[.pointer (some ⟨r, 0, none⟩), .int .i64 most] w fun e w' => ∃ (n sz : Nat) (t s' : ByteArray), Lead s.data.toList n sz ∧
      e = .returned (.string t) ∧ t.data.toList = (if okT bad s.data.toList n sz most then (s.data.toList.drop sz).take n else []) ∧
      Rd w' r s' (!okT bad s.data.toList n sz most) ∧ s'.data.toList = leftIf (okT bad s.data.toList n sz most) s.data.toList (sz + n) ∧ Only r w w' := by
  go_enter Try.func34, Try.ntmps34
  go_wp2_with fail
  refine (rnat_any _ r s bad most hm h).mono ?_
  rintro e w1 ⟨n, sz, s1, hl, rfl, h1, hs1, ho1⟩
  have HL := Hid.mk hl
  cases hk : okN bad n sz most with
  | false =>
    rw [hk] at h1 hs1
    have hT : okT bad s.data.toList n sz most = false := by simp [okT, hk]
    have HT := Hid.mk hT
    simp only [if_false, Bool.false_eq_true]
    clear hl hs1 hk hT
    go_wp2_with fail
    refine (rraw_any _ r s1 _ _ h1).mono ?_
    rintro e w2 ⟨t, s2, rfl, ht, h2, hs2, ho2⟩
    have ht' : t.data.toList = [] := by rw [ht]; simp [okR]
    have hs2' : s2.data.toList = [] := by rw [hs2]; simp [okR, leftIf]
    have h2' : Rd w2 r s2 true := by simpa [okR] using h2
    have HX := Hid.mk (show t.data.toList = [] ∧ s2.data.toList = [] ∧ Rd w2 r s2 true from ⟨ht', hs2', h2'⟩)
    clear ht hs2 h2 ht' hs2' h2'
    go_wp2
    go_ret
    refine ⟨n, sz, t, s2, HL.out, rfl, ?_, ?_, ?_, ho1.trans ho2⟩
    · rw [HT.out]; exact HX.out.1
    · rw [HT.out]; exact HX.out.2.2
    · rw [HT.out]; exact HX.out.2.1
  | true =>
    rw [hk] at h1 hs1
    have hs1' : s1.data.toList = s.data.toList.drop sz := hs1
    have hT : okT bad s.data.toList n sz most = okR false s1.data.toList (n : Int) := by
      simp only [okR, okT, hk, hs1']
      simp
    have HT := Hid.mk hT
    have HS := Hid.mk hs1'
    simp only [if_true]
    clear hl hs1 hk hT hs1'
    go_wp2_with fail
    refine (rraw_any _ r s1 _ _ h1).mono ?_
    rintro e w2 ⟨t, s2, rfl, ht, h2, hs2, ho2⟩
    have HX := Hid.mk ht
    have HY := Hid.mk hs2
    have HZ := Hid.mk h2
    clear ht hs2 h2
    go_wp2
    go_ret
    refine ⟨n, sz, t, s2, HL.out, rfl, ?_, ?_, ?_, ho1.trans ho2⟩
    · rw [HT.out, ← HS.out]; exact HX.out
    · rw [HT.out]; exact HZ.out
    · rw [HT.out]
      have := HY.out
      simp only [leftIf, HS.out, List.drop_drop, Int.toNat_natCast] at this ⊢
      exact this

end Go.Proofs.Ytabjjjbopbjbeaa.Sty
