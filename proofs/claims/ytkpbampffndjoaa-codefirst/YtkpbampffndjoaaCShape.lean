/-
  The walks of the document's Shaped and Block.
-/
import Derived.Test.YtkpbampffndjoaaCAlive
import Derived.Test.YtkpbampffndjoaaCLast
namespace Go.Proofs.Ytkpbampffndjoaa
open Go.RowKit

theorem up_next {ps : List Ins} {k : Nat} (h : upB ps k = true) (h1 : en ps (k + 1) ≤ bg ps (k + 1)) (h2 : bg ps (k + 1) ≤ en ps (k + 1) + 1) : upB ps (k + 1) = true := by
  simp only [upB, h, h1, h2, decide_true, Bool.and_self]

set_option maxHeartbeats 3200000 in
set_option maxRecDepth 100000 in
theorem shaped_any {w : World} {a : Option Addr} {len cap : Nat} {ps : List Ins} (hp : IsIns w a len cap ps) (hl48 : len ≤ 48) :
    Calls Try.prog 13 #[.slice a len cap] w fun e w' => e = .returned (.bool (shB ps)) ∧ Below w.heap.size w w' := by
  have HP := Hid.mk hp
  have HL := Hid.mk hp.1
  have hb := Below.refl w.heap.size w
  clear hp
  go_enter Try.func13, Try.ntmps13
  go_wp2
  go_loopw [3, 5, 8] (fun o _x idx wr => ∃ k : Nat, k ≤ len ∧ idx = .int .i64 k ∧ upB ps k = true ∧ Below w.heap.size w wr ∧ (o = .int .i64 0 ∧ bg ps k = en ps k ∨ o = .int .i64 1 ∧ bg ps k = en ps k + 1)) (fun _ _ idx _ => len - (intOf idx).toNat)
  case atStart => exact ⟨0, Nat.zero_le _, rfl, rfl, hb, .inl ⟨rfl, rfl⟩⟩
  case round =>
    obtain ⟨k, hk, rfl, hup, hbr, ho⟩ := hrel
    have HU := Hid.mk hup
    clear hup
    by_cases hlt : k < len
    · obtain ⟨g, off, hae, hat⟩ := (HP.out.carry hbr).at_ (by omega)
      subst hae
      have hkt : k < ps.length := by rw [HL.out]; exact hlt
      have c0 := hat.op k hkt
      have c1 := hat.a k hkt
      have c2 := hat.b k hkt
      have c3 := hat.c k hkt
      have nb : bg ps (k + 1) = bg ps k + if ps[k]!.op = 4 then 1 else 0 := rfl
      have ne : en ps (k + 1) = en ps k + if ps[k]!.op = 5 then 1 else 0 := rfl
      obtain ⟨x, hx⟩ : ∃ x, x = ps[k]! := ⟨_, rfl⟩
      rw [← hx] at c0 c1 c2 c3 nb ne
      obtain ⟨op, xa, xb, xc⟩ := x
      dsimp only at c0 c1 c2 c3 nb ne
      have NB := Hid.mk nb
      have NE := Hid.mk ne
      have HLT := Hid.mk hlt
      have HKT := Hid.mk hkt
      clear hx hat hkt nb ne
      by_cases h4 : op = 4
      · subst h4
        have n1 := NB.out
        have n2 := NE.out
        rw [if_pos rfl] at n1
        rw [if_neg (by decide)] at n2
        rcases ho with ⟨rfl, ho⟩ | ⟨rfl, ho⟩
        · have e1 : bg ps (k + 1) = en ps (k + 1) + 1 := by omega
          have E1 := Hid.mk e1
          clear n1 n2 ho e1
          go_wp2
          go_roundw
          case rel => exact ⟨k + 1, HLT.out, by go_num, up_next HU.out (by have := E1.out; omega) (by have := E1.out; omega), hbr.alloc hbr.size _, .inr ⟨rfl, E1.out⟩⟩
          case measure => have := HLT.out; simp [intOf]; omega
        · have e1 : shB ps = false := shB_no (k := k + 1) HKT.out (by omega)
          have E1 := Hid.mk e1
          clear n1 n2 ho e1
          go_wp2
          go_ret
          exact ⟨by rw [E1.out]; rfl, hbr.alloc hbr.size _⟩
      by_cases h5 : op = 5
      · subst h5
        have n1 := NB.out
        have n2 := NE.out
        rw [if_neg (by decide)] at n1
        rw [if_pos rfl] at n2
        rcases ho with ⟨rfl, ho⟩ | ⟨rfl, ho⟩
        · have e1 : shB ps = false := shB_no (k := k + 1) HKT.out (by omega)
          have E1 := Hid.mk e1
          clear n1 n2 ho e1
          go_wp2
          go_ret
          exact ⟨by rw [E1.out]; rfl, hbr.alloc hbr.size _⟩
        · have e1 : bg ps (k + 1) = en ps (k + 1) := by omega
          have E1 := Hid.mk e1
          clear n1 n2 ho e1
          go_wp2
          go_roundw
          case rel => exact ⟨k + 1, HLT.out, by go_num, up_next HU.out (by have := E1.out; omega) (by have := E1.out; omega), hbr.alloc hbr.size _, .inl ⟨rfl, E1.out⟩⟩
          case measure => have := HLT.out; simp [intOf]; omega
      have n1 := NB.out
      have n2 := NE.out
      rw [if_neg h4] at n1
      rw [if_neg h5] at n2
      have z4 : (op == 4) = false := by simpa using h4
      have z5 : (op == 5) = false := by simpa using h5
      rcases ho with ⟨rfl, ho⟩ | ⟨rfl, ho⟩
      · have e1 : bg ps (k + 1) = en ps (k + 1) := by omega
        have E1 := Hid.mk e1
        clear n1 n2 ho e1
        go_wp2
        go_roundw
        case rel => exact ⟨k + 1, HLT.out, by go_num, up_next HU.out (by have := E1.out; omega) (by have := E1.out; omega), hbr.alloc hbr.size _, .inl ⟨rfl, E1.out⟩⟩
        case measure => have := HLT.out; simp [intOf]; omega
      · have e1 : bg ps (k + 1) = en ps (k + 1) + 1 := by omega
        have E1 := Hid.mk e1
        clear n1 n2 ho e1
        go_wp2
        go_roundw
        case rel => exact ⟨k + 1, HLT.out, by go_num, up_next HU.out (by have := E1.out; omega) (by have := E1.out; omega), hbr.alloc hbr.size _, .inr ⟨rfl, E1.out⟩⟩
        case measure => have := HLT.out; simp [intOf]; omega
    · obtain rfl : k = len := by omega
      rcases ho with ⟨rfl, ho⟩ | ⟨rfl, ho⟩
      · have e1 : shB ps = true := by unfold shB; rw [HL.out, HU.out, ho]; simp
        have E1 := Hid.mk e1
        clear ho e1
        go_wp2
        go_ret
        exact ⟨by rw [E1.out]; rfl, hbr⟩
      · have e1 : shB ps = false := by unfold shB; rw [HL.out, ho]; simp
        have E1 := Hid.mk e1
        clear ho e1
        go_wp2
        go_ret
        exact ⟨by rw [E1.out]; rfl, hbr⟩

set_option maxHeartbeats 3200000 in
set_option maxRecDepth 100000 in
theorem block_any {w : World} {a : Option Addr} {len cap : Nat} {ps : List Ins} (hp : IsIns w a len cap ps) (hl48 : len ≤ 48) {i : Nat} (hi : i < len) :
    Calls Try.prog 21 #[.slice a len cap, .int .i64 i] w fun e w' => e = .returned (.int .i64 (blkV ps i)) ∧ Below w.heap.size w w' := by
  have HL := Hid.mk hp.1
  have hb := Below.refl w.heap.size w
  obtain ⟨g, off, hae, hat⟩ := hp.at_ (by omega)
  subst hae
  clear hp
  have HAT := Hid.mk hat
  have c0 := hat.op i (by rw [HL.out]; exact hi)
  have hbk : blkV ps i = if ps[i]!.op = 4 then -1 else lastB ps i := rfl
  obtain ⟨op, hop⟩ : ∃ op, op = ps[i]!.op := ⟨_, rfl⟩
  rw [← hop] at c0 hbk
  clear hop hat
  go_enter Try.func21, Try.ntmps21
  by_cases h4 : op = 4
  · subst h4
    have HB := Hid.mk hbk
    clear hbk
    go_wp2
    go_ret
    exact ⟨by rw [HB.out]; rfl, hb⟩
  rw [if_neg h4] at hbk
  have HB := Hid.mk hbk
  have z4 : (op == 4) = false := by simpa using h4
  clear hbk
  go_wp2
  clear c0
  go_loopw [5] (fun v wr => ∃ k : Nat, k ≤ i ∧ v = .int .i64 ((k : Int) - 1) ∧ lastB ps i = lastB ps k ∧ Below w.heap.size w wr) (fun v _ => (intOf v + 1).toNat)
  case atStart => exact ⟨i, Nat.le_refl _, by go_num, rfl, hb⟩
  case round =>
    obtain ⟨k, hk, rfl, hlk, hbr⟩ := hrel
    cases k with
    | zero =>
      have HK := Hid.mk hlk
      clear hlk
      go_wp2
      go_ret
      exact ⟨by rw [HB.out, HK.out]; rfl, hbr⟩
    | succ k =>
      have e1 : ((k + 1 : Nat) : Int) - 1 = (k : Int) := by omega
      rw [e1]
      have hkt : k < ps.length := by rw [HL.out]; omega
      have d0 := (HAT.out.grown hbr).op k hkt
      have nl : lastB ps (k + 1) = if ps[k]!.op = 5 then -1 else if ps[k]!.op = 4 then (k : Int) else lastB ps k := rfl
      rw [← hlk] at nl
      obtain ⟨y, hy⟩ : ∃ y, y = ps[k]!.op := ⟨_, rfl⟩
      rw [← hy] at d0 nl
      have NL := Hid.mk nl
      clear hy nl hlk e1 hkt
      by_cases y5 : y = 5
      · subst y5
        go_wp2
        go_ret
        exact ⟨by rw [HB.out, NL.out]; rfl, hbr⟩
      have z5 : (y == 5) = false := by simpa using y5
      by_cases y4 : y = 4
      · subst y4
        go_wp2
        go_ret
        exact ⟨by rw [HB.out, NL.out]; rfl, hbr⟩
      have w4 : (y == 4) = false := by simpa using y4
      go_wp2
      go_roundw
      case rel => exact ⟨k, by omega, by go_num, by rw [NL.out, if_neg y5, if_neg y4], hbr⟩
      case measure => simp [intOf]

end Go.Proofs.Ytkpbampffndjoaa
