/-
  StylusParts: for every two lists of items the law returns true: what is written by one behind what was written by another one is what both write. No condition.
-/
import Derived.Test.YtjenalblcdmpaaaJoins
namespace Go.Proofs.Ytjenalblcdmpaaa.stylusParts
open Go.ChangeShapes Go.WideShapes Go.ChangeAt Go.RowKit

theorem lo_join {a b : List It} (ha : ∀ j (h : j < a.length), -9223372036854775808 ≤ a[j].n) (hb : ∀ j (h : j < b.length), -9223372036854775808 ≤ b[j].n) : ∀ j (h : j < (a ++ b).length), -9223372036854775808 ≤ (a ++ b)[j].n := by
  intro j h
  rw [List.getElem_append]
  split
  · exact ha j _
  · exact hb _ _
theorem hi_join {a b : List It} (ha : ∀ j (h : j < a.length), a[j].n ≤ 9223372036854775807) (hb : ∀ j (h : j < b.length), b[j].n ≤ 9223372036854775807) : ∀ j (h : j < (a ++ b).length), (a ++ b)[j].n ≤ 9223372036854775807 := by
  intro j h
  rw [List.getElem_append]
  split
  · exact ha j _
  · exact hb _ _

theorem IsItems.lo {w : World} {a : Option Addr} {len cap : Nat} {its : List It} (h : IsItems w a len cap its) : ∀ j (h : j < its.length), -9223372036854775808 ≤ its[j].n := by
  obtain ⟨_, ⟨rfl, _⟩ | ⟨_, _, _, hat⟩⟩ := h
  · intro j h; simp at h
  · exact hat.lo
theorem IsItems.hi {w : World} {a : Option Addr} {len cap : Nat} {its : List It} (h : IsItems w a len cap its) : ∀ j (h : j < its.length), its[j].n ≤ 9223372036854775807 := by
  obtain ⟨_, ⟨rfl, _⟩ | ⟨_, _, _, hat⟩⟩ := h
  · intro j h; simp at h
  · exact hat.hi

theorem itemsB_len {l : List It} (hlo : ∀ j (h : j < l.length), -9223372036854775808 ≤ l[j].n) (hhi : ∀ j (h : j < l.length), l[j].n ≤ 9223372036854775807) (hs : sumS l ≤ 4096) : (itemsB l).length ≤ 10 * l.length + sumS l := by
  have h := itemsB_take_le l hlo hhi hs l.length (Nat.le_refl _)
  rw [List.take_length] at h
  exact h

theorem ret_same (xs ys : List It) : Ending.returned (.bool (itemsB (xs ++ ys) == ((⟨(itemsB xs).toArray⟩ : ByteArray) ++ (⟨(itemsB ys).toArray⟩ : ByteArray)).toList)) = .returned (.bool true) := by
  rw [join_bytes, itemsB_append]
  simp [go_sem]

set_option maxHeartbeats 400000 in
theorem walk (a : Option Addr) (la ca : Nat) (xs : List It) (b : Option Addr) (lb cb : Nat) (ys : List It) (w : World) (ha : IsItems w a la ca xs) (hb : IsItems w b lb cb ys) :
    Calls Try.prog 7 #[.slice a la ca, .slice b lb cb] w fun e w' => e = .returned (.bool true) ∧ Below w.heap.size w w' := by
  cases hga : greatB xs with
  | true =>
    go_enter Try.func7, Try.ntmps7
    go_wp2_with fail
    refine (alive_any _).mono ?_
    rintro e w1 ⟨rfl, hb1⟩
    have ha1 := ha.carry hb1
    go_wp2_with fail
    refine (great_is _ a la ca xs ha1).mono ?_
    rintro e w2 ⟨rfl, hb2⟩
    have hbb := hb1.trans (hb2.mono hb1.size)
    rw [hga]
    clear ha1 hb1 hb2 hga
    go_wp2
    go_ret
    exact ⟨rfl, hbb⟩
  | false =>
    cases hgb : greatB ys with
    | true =>
      go_enter Try.func7, Try.ntmps7
      go_wp2_with fail
      refine (alive_any _).mono ?_
      rintro e w1 ⟨rfl, hb1⟩
      have ha1 := ha.carry hb1
      have hb0 := hb.carry hb1
      go_wp2_with fail
      refine (great_is _ a la ca xs ha1).mono ?_
      rintro e w2 ⟨rfl, hb2⟩
      have hbb := hb1.trans (hb2.mono hb1.size)
      have hb00 := hb0.carry hb2
      rw [hga]
      clear ha1 hb1 hb2 hga hb0
      go_wp2_with fail
      refine (great_is _ b lb cb ys hb00).mono ?_
      rintro e w3 ⟨rfl, hb3⟩
      have hbb3 := hbb.trans (hb3.mono hbb.size)
      rw [hgb]
      clear hb3 hbb hgb hb00
      go_wp2
      go_ret
      exact ⟨rfl, hbb3⟩
    | false =>
      have hla : xs.length = la := ha.1
      have hlb : ys.length = lb := hb.1
      have na := not_great hga
      have nb := not_great hgb
      have la50 : la ≤ 50 := by omega
      have lb50 : lb ≤ 50 := by omega
      go_enter Try.func7, Try.ntmps7
      go_wp2_with fail
      refine (alive_any _).mono ?_
      rintro e w1 ⟨rfl, hb1⟩
      have ha1 := ha.carry hb1
      have hb0 := hb.carry hb1
      go_wp2_with fail
      refine (great_is _ a la ca xs ha1).mono ?_
      rintro e w2 ⟨rfl, hb2⟩
      have hbb := hb1.trans (hb2.mono hb1.size)
      have hb00 := hb0.carry hb2
      have ha00 := ha1.carry hb2
      rw [hga]
      clear ha1 hb1 hb2 hb0
      go_wp2_with fail
      refine (great_is _ b lb cb ys hb00).mono ?_
      rintro e w3 ⟨rfl, hb3⟩
      have hbb3 := hbb.trans (hb3.mono hbb.size)
      have hb01 := hb00.carry hb3
      have ha01 := ha00.carry hb3
      rw [hgb]
      clear hb3 hbb hb00 ha00
      by_cases h50 : 50 < la + lb
      · have hlt : (50 : Int) < (la : Int) + (lb : Int) := by omega
        go_wp2
        go_ret
        exact ⟨rfl, hbb3⟩
      have hlt : (la : Int) + (lb : Int) ≤ 50 := by omega
      have HGA := Hid.mk hga
      have HGB := Hid.mk hgb
      have HLA := Hid.mk hla
      have HLB := Hid.mk hlb
      clear hga hgb hla hlb
      go_wp2_with fail
      refine (put_is _ a la ca xs ha01 HGA.out).mono ?_
      rintro e w4 ⟨rfl, hb4⟩
      have hbb4 := hbb3.trans (hb4.mono hbb3.size)
      have hb02 := hb01.carry hb4
      have ha02 := ha01.carry hb4
      clear hb4 hbb3 hb01 ha01
      go_wp2_with fail
      refine (put_is _ b lb cb ys hb02 HGB.out).mono ?_
      rintro e w5 ⟨rfl, hb5⟩
      have hbb5 := hbb4.trans (hb5.mono hbb4.size)
      have hb03 := hb02.carry hb5
      have ha03 := ha02.carry hb5
      clear hb5 hbb4 hb02 ha02
      have hlo := lo_join (IsItems.lo ha03) (IsItems.lo hb03)
      have hhi := hi_join (IsItems.hi ha03) (IsItems.hi hb03)
      have HO := Hid.mk hlo
      have HI := Hid.mk hhi
      clear hlo hhi
      go_wp2_with (at_builtin; refine wpList_append_items _ rfl (.tmp 38) (.tmp 39) rfl w5.heap.size _ 0 [] rfl ?o1 a la ca xs rfl ?i1 (by omega) (by simp) ?_)
      case o1 => exact World.ownsRow_made w5 #[] 0 (Nat.le_refl _) (Nat.zero_le _) rfl
      case i1 => exact ha03.carry ((Below.refl _ _).alloc (Nat.le_refl _) _)
      intro v1 w6 hown1 hg1
      have hb56 : Below w5.heap.size w5 w6 := ((Below.refl _ _).alloc (Nat.le_refl _) _).grown hg1 (by simp) (fun k hk => by simp [Value.ownBlock] at hk; omega)
      have hb04 := hb03.carry hb56
      clear hg1 ha03 hb03
      go_wp2_with (at_builtin; refine wpList_append_items _ rfl (.tmp 40) (.tmp 41) rfl w5.heap.size v1 la (itemCells xs) rfl (by simpa using hown1) b lb cb ys rfl hb04 (by omega) hb56.size ?_)
      intro v2 w7 hown2 hg2
      have hb57 : Below w5.heap.size w5 w7 := hb56.grown hg2 hb56.size (fun k hk => (hown1.lt k hk).1)
      have hbb7 := hbb5.trans (hb57.mono hbb5.size)
      rw [← itemCells_append] at hown2
      obtain ⟨a2, c2, rfl, hit⟩ := items_of_row hown2 HO.out HI.out
      clear hb56 hb57 hg2 hown1 hown2 hb04 hbb5
      have hl2 : (xs ++ ys).length ≤ 50 := by rw [List.length_append, HLA.out, HLB.out]; omega
      have hs2 : sumS (xs ++ ys) ≤ 4096 := by rw [sumS_append]; omega
      have HL2 := Hid.mk hl2
      have HS2 := Hid.mk hs2
      clear hl2 hs2
      go_wp2_with fail
      refine (put_sum _ a2 (la + lb) c2 (xs ++ ys) hit HL2.out HS2.out).mono ?_
      rintro e w8 ⟨rfl, hb8⟩
      have hbb8 := hbb7.trans (hb8.mono hbb7.size)
      clear hb8 hbb7 hit
      have hx := itemsB_len (IsItems.lo ha) (IsItems.hi ha) (by omega)
      have hy := itemsB_len (IsItems.lo hb) (IsItems.hi hb) (by omega)
      have hx1 : (itemsB xs).length ≤ 3000 := by omega
      have hy1 : (itemsB ys).length ≤ 3000 := by omega
      clear hx hy
      go_wp2
      go_ret
      exact ⟨ret_same xs ys, hbb8⟩

set_option maxRecDepth 100000 in
theorem lifted (os : Os) (started : os.Started) (H : Type) (enc : TypeId × Value → H) :
    ReturnsInHanded {} Try.checked os 7 .any (Rows.stylusPartsSpec.pre6 enc Try.prog Try.f7 Rows.stylusPartsRow.domain false) (Rows.stylusPartsSpec.post enc Try.prog Try.f7 false true false false) := by
  refine returnsInHanded_of_change (C := Try.checked) own started (by kernel_rfl) Try.func7
    (ChangeSpec.witness6 (enc := enc) (C := Try.checked) false ⟨#[], #[.slice none 0 0, .slice none 0 0], []⟩ 8 (by kernel_rfl) (by kernel_rfl) (by kernel_rfl) (by kernel_rfl)) ?_
  intro W base args ds gs before hval0 hW hcnd _
  have hval : ∀ (j : Nat) t v, Try.f7.params[j]? = some t → args[j]? = some v → Value.okWide Try.prog W .any base t v := hval0
  have hW' := hW
  obtain ⟨p, q, hA0, hV, rfl, hfz, hnd⟩ := hW
  have hA : DataW.TrodAll enc Try.prog W 0 (fun _ => true) true Try.f7.params.toList args.toList ds p := hA0
  rw [Try.params7] at hA hval
  obtain ⟨v0, vs0, d0, ds0, p0, q0, hargs, rfl, rfl, h0, r0⟩ := trodAll_cons hA
  obtain ⟨v1, vs1, d1, ds1, p1, q1, rfl, rfl, rfl, h1, r1⟩ := trodAll_cons r0
  obtain ⟨rfl, rfl, rfl⟩ := trodAll_nil r1
  obtain rfl : args = #[v0, v1] := by cases args; simp_all
  obtain ⟨rfl, rfl⟩ := trodVars_none hV
  obtain ⟨a0, len0, cap0, rfl⟩ := okWide_slice Try.underlying22 (hval 0 22 v0 rfl rfl)
  obtain ⟨a1, len1, cap1, rfl⟩ := okWide_slice Try.underlying22 (hval 1 22 v1 rfl rfl)
  have k0 := h0
  have k1 := h1
  have lt0 : ∀ x ∈ p0, x.block < W.heap.size := by obtain ⟨m, hm⟩ := k0; exact DataW.trod_lt m _ _ _ hm
  have lt1 : ∀ x ∈ p1, x.block < W.heap.size := by obtain ⟨m, hm⟩ := k1; exact DataW.trod_lt m _ _ _ hm
  obtain ⟨xs, w0⟩ : ∃ its, IsItems W a0 len0 cap0 its := by
    obtain ⟨fuel, hf⟩ := h0
    exact open_items hf
  obtain ⟨ys, w1⟩ : ∃ its, IsItems W a1 len1 cap1 its := by
    obtain ⟨fuel, hf⟩ := h1
    exact open_items hf
  clear hA0 hval0
  refine (walk a0 len0 cap0 xs a1 len1 cap1 ys W w0 w1).mono fun e W' ⟨he, bel⟩ => ?_
  subst he
  exact ⟨_, rfl, _, _, _, [], _, [], hW', trodAll_mk1 (shut_bool Try.underlying4 _), (trodAll_cons_mk (Below.trod laidOut (by kernel_rfl) (of_decide_eq_true (by kernel_rfl)) k0 bel lt0) (trodAll_cons_mk (Below.trod laidOut (by kernel_rfl) (of_decide_eq_true (by kernel_rfl)) k1 bel lt1) trodAll_mk0)), rfl, bel.frame _, fun h => by cases h⟩

theorem over : Rows.stylusPartsRow.holds Try.pinned (OpenSpec.ofChange Rows.stylusPartsSpec) :=
  OpenClaim.holds_of_wide 7 Try.f7 rfl rfl rfl rfl rfl rfl rfl ⟨rfl, rfl, rfl, rfl, rfl⟩ rfl rfl rfl rfl rfl (by kernel_rfl) Try.func7 (by kernel_rfl)
    (of_decide_eq_true (by kernel_rfl)) (by unfold Func.isWrapper; first | (rw [if_pos (by decide +kernel)]; kernel_rfl) | (rw [if_neg (by decide +kernel)]; exact ⟨rfl, rfl⟩))
    (fun os started H enc _ => lifted os started H enc)

end Go.Proofs.Ytjenalblcdmpaaa.stylusParts

namespace Go.Proofs.Ytjenalblcdmpaaa
/-- The statement. -/
theorem parts_holds : Rows.StylusPartsSaid := stylusParts.over
#print axioms parts_holds
end Go.Proofs.Ytjenalblcdmpaaa
