/-
  WalOther: for every script of calls and every text, the law returns true: what a log does on its area leaves the other area as it is. No condition.
-/
import Derived.Test.YtejmameebhbcbaaLScript
namespace Go.Proofs.Ytejmameebhbcbaa.walOther
open Go.ChangeShapes Go.WideShapes Go.ChangeAt Go.RowKit Go.Deep
open Go.ChangeMaps (open_string shut_string)

/-- Changes of area 0 alone. -/
def Zero (ws : List Ch) : Prop := ∀ c ∈ ws, c.one = false

theorem Zero.nil : Zero [] := fun c hc => by simp at hc
theorem Zero.snoc {ws : List Ch} (h : Zero ws) {c : Ch} (hc : c.one = false) : Zero (ws ++ [c]) := fun d hd => by
  rcases List.mem_append.1 hd with h1 | h1
  · exact h d h1
  · simp at h1; rw [h1]; exact hc

theorem txt_zero (dn : List Ch) : ∀ ws, Zero ws → txt true (dn ++ ws) = txt true dn := by
  have key : ∀ (ws : List Ch) (x : ByteArray), Zero ws → ws.foldl (fun x c => c.on true x) x = x := by
    intro ws
    induction ws with
    | nil => intro x _; rfl
    | cons c r ih =>
      intro x h
      have h1 : c.on true x = x := by unfold Ch.on; rw [if_neg (by rw [h c (by simp)]; simp)]
      rw [List.foldl_cons, h1]
      exact ih x fun d hd => h d (by simp [hd])
  intro ws h
  unfold txt
  rw [List.foldl_append]
  exact key ws _ h

theorem Zero.kept {ws : List Ch} (h : Zero ws) (k p : Int) : Zero (kept ws k p) := fun c hc => by
  unfold Go.Proofs.Ytejmameebhbcbaa.kept at hc
  rcases List.mem_append.1 hc with h1 | h1
  · exact h c (List.mem_of_mem_take h1)
  · cases he : ws[near k ws.length]? with
    | none => rw [he] at h1; simp at h1
    | some d =>
      rw [he] at h1
      have hd := h d (List.mem_of_getElem? he)
      simp only [torn] at h1
      split at h1
      · simp at h1
      · simp at h1; rw [h1]; exact hd

theorem Zero.step {ws : List Ch} (h : Zero ws) (tn : Bool) (s : ByteArray) (dn : List Ch) : Zero (stepL false tn s dn ws).2 := by
  unfold stepL
  split
  · exact h
  split
  · exact h
  split
  · exact h
  · exact h.snoc rfl

/-- The law's state behind k calls. -/
structure St (w wr : World) (lb b k : Nat) (v : Value) (tn : Bool) (dn ws : List Ch) (other : ByteArray) : Prop where
  m : ML w.heap.size w wr lb b v false tn dn ws
  t : txt true dn = other
  z : Zero ws
  n : ws.length ≤ k

set_option maxHeartbeats 3200000 in
theorem walk (a : Option Addr) (len cap : Nat) (cs : List Cl) (other : ByteArray) (w : World) (ha : IsCls w a len cap cs) :
    Calls Try.prog 6 #[.slice a len cap, .string other] w fun e w' => e = .returned (.bool true) ∧ Below w.heap.size w w' := by
  go_enter Try.func6, Try.ntmps6
  go_wp2_with fail
  refine (alive_any w).mono ?_
  rintro e w1 ⟨rfl, hb1⟩
  go_wp2_with fail
  refine (great_any (ha.carry hb1)).mono ?_
  rintro e w2 ⟨hb2, rfl | ⟨rfl, hl50, hsum⟩⟩
  · go_wp2
    go_ret
    exact ⟨rfl, hb1.trans (hb2.mono hb1.size)⟩
  have hb := hb1.trans (hb2.mono hb1.size)
  clear hb1 hb2
  by_cases hot : 1024 < other.size
  · go_wp2
    go_ret
    exact ⟨rfl, hb⟩
  have h0 := Mine.new hb hb.size
  go_wp2_with fail
  refine (new_any w2).mono ?_
  rintro e w3 ⟨rfl, hw3⟩
  rw [← hw3] at h0
  clear hw3
  have hfit : (txt true (([] : List Ch) ++ [])).size + other.size ≤ 16384 := by
    rw [List.append_nil, txt_nil]
    show 0 + other.size ≤ 16384
    omega
  go_wp2_with fail
  refine (append_yes true other h0.has hfit (by decide)).mono ?_
  rintro e w4 ⟨rfl, v4, h4, hw4⟩
  have m4 := h0.step h4 hw4
  clear h4 hw4 h0 hfit
  go_wp2_with fail
  refine (sync_any m4.has).mono ?_
  rintro e w5 ⟨rfl, h5, hw5⟩
  have m5 := m4.step h5 hw5
  obtain ⟨dn, hdn⟩ : ∃ dn : List Ch, dn = [] ++ ([] ++ [⟨true, false, other⟩]) := ⟨_, rfl⟩
  rw [← hdn] at m5
  have ht : txt true dn = other := by
    rw [hdn]
    show (⟨#[]⟩ : ByteArray) ++ other = other
    exact ByteArray.empty_append
  clear h5 hw5 m4 hdn
  obtain ⟨L, hL⟩ := all_exists _ (txt false (dn ++ [])).data.toList (Nat.le_refl _)
  go_wp2_with fail
  refine (walOpen_yes false m5.has L hL).mono ?_
  rintro e w6 ⟨rfl, hl6, hb6⟩
  have m6 := m5.opened hl6 hb6
  have st0 : St w w6 _ _ 0 _ _ dn [] other := ⟨m6, ht, Zero.nil, Nat.zero_le _⟩
  clear hl6 hb6 m5 m6 hL ht
  have HS := Hid.mk hsum
  clear hsum
  go_wp2
  go_loopw [6, 9, 32] (fun l _ i wr => ∃ (k lb : Nat) (v : Value) (tn : Bool) (dn ws : List Ch), k ≤ len ∧ i = .int .i64 k ∧ l = .pointer (some ⟨lb, 0, none⟩) ∧ St w wr lb w2.heap.size k v tn dn ws other) (fun _ _ i _ => len - (intOf i).toNat)
  case atStart => exact ⟨0, _, _, _, _, _, Nat.zero_le _, rfl, rfl, st0⟩
  case round =>
    clear st0
    obtain ⟨k, lb, v, tn, dn, ws, hk, rfl, rfl, st⟩ := hrel
    by_cases hlt : k < len
    · obtain ⟨g, off, rfl, hat⟩ := ha.at_ k hlt
      obtain ⟨c, c0, c1, c2, c3, hsz, -⟩ := round_facts hat ha.1 st.m.d.below HS.out k hlt
      have HK := Hid.mk hlt
      have hn := st.n
      obtain ⟨q, s, kp, pt⟩ := c
      dsimp only at c0 c1 c2 c3 hsz
      have hA := st.m.grow ((Below.refl _ _).alloc (Nat.le_refl _) (.cells #[.int .i64 q, .string s, .int .i64 kp, .int .i64 pt] 38))
      clear hat
      by_cases q0 : q = 0
      · have z0 : (q == 0) = true := by simp [q0]
        clear q0
        go_wp2_with fail
        refine (logAppend_any s hA.l hA.d.has (by omega) (by omega)).mono ?_
        rintro e w7 ⟨rfl, v7, h7, hw7⟩
        have s7 : St w w7 lb w2.heap.size (k + 1) v7 tn dn _ other := ⟨hA.step h7 hw7, st.t, st.z.step tn s dn, by have := stepL_len false tn s dn ws; omega⟩
        have HS7 := Hid.mk s7
        clear h7 hw7 s7 hA st
        go_wp2
        go_roundw
        case rel => exact ⟨k + 1, lb, v7, tn, dn, _, HK.out, by go_num, rfl, HS7.out⟩
        case measure =>
          have := HK.out
          simp [intOf]
          omega
      have z0 : (q == 0) = false := by simp [q0]
      by_cases q1 : q = 1
      · have z1 : (q == 1) = true := by simp [q1]
        clear q0 q1
        go_wp2_with fail
        refine (force_any hA.l hA.d.has).mono ?_
        rintro e w7 ⟨rfl, h7, hw7⟩
        have s7 : St w w7 lb w2.heap.size (k + 1) _ tn (dn ++ ws) [] other := ⟨hA.step h7 hw7, by rw [txt_zero dn ws st.z]; exact st.t, Zero.nil, Nat.zero_le _⟩
        have HS7 := Hid.mk s7
        clear h7 hw7 s7 hA st
        go_wp2
        go_roundw
        case rel => exact ⟨k + 1, lb, _, tn, _, _, HK.out, by go_num, rfl, HS7.out⟩
        case measure =>
          have := HK.out
          simp [intOf]
          omega
      have z1 : (q == 1) = false := by simp [q1]
      by_cases q2 : q = 2
      · have z2 : (q == 2) = true := by simp [q2]
        clear q0 q1 q2
        go_wp2_with fail
        refine (clear_any hA.l hA.d.has (by omega)).mono ?_
        rintro e w7 ⟨rfl, v7, h7, hl7, hw7⟩
        have s7 : St w w7 lb w2.heap.size (k + 1) v7 false dn _ other := ⟨hA.stepL h7 hl7 hw7, st.t, st.z.snoc rfl, by simp; omega⟩
        have HS7 := Hid.mk s7
        clear h7 hl7 hw7 s7 hA st
        go_wp2
        go_roundw
        case rel => exact ⟨k + 1, lb, v7, false, dn, _, HK.out, by go_num, rfl, HS7.out⟩
        case measure =>
          have := HK.out
          simp [intOf]
          omega
      have z2 : (q == 2) = false := by simp [q2]
      by_cases q3 : q = 3
      · have z3 : (q == 3) = true := by simp [q3]
        clear q0 q1 q2 q3
        go_wp2_with fail
        refine (crash_any hA.d.has (by omega) kp pt).mono ?_
        rintro e w7 ⟨rfl, h7, hw7⟩
        have m7 := hA.d.step h7 hw7
        have ht7 : txt true (dn ++ kept ws kp pt) = other := by rw [txt_zero dn _ (st.z.kept kp pt)]; exact st.t
        clear h7 hw7 hA st
        obtain ⟨L7, hL7⟩ := all_exists _ (txt false (dn ++ kept ws kp pt ++ [])).data.toList (Nat.le_refl _)
        go_wp2_with fail
        refine (walOpen_yes false m7.has L7 hL7).mono ?_
        rintro e w8 ⟨rfl, hl8, hb8⟩
        have s8 : St w w8 w7.heap.size w2.heap.size (k + 1) _ _ (dn ++ kept ws kp pt) [] other := ⟨m7.opened hl8 hb8, ht7, Zero.nil, Nat.zero_le _⟩
        have HS8 := Hid.mk s8
        clear hl8 hb8 m7 hL7 s8 ht7
        go_wp2
        go_roundw
        case rel => exact ⟨k + 1, _, _, _, _, _, HK.out, by go_num, rfl, HS8.out⟩
        case measure =>
          have := HK.out
          simp [intOf]
          omega
      · have z3 : (q == 3) = false := by simp [q3]
        have HS7 : Hid (St w (wr.alloc (.cells #[.int .i64 q, .string s, .int .i64 kp, .int .i64 pt] 38)) lb w2.heap.size (k + 1) v tn dn ws other) := Hid.mk ⟨hA, st.t, st.z, by omega⟩
        clear q0 q1 q2 q3 hA st
        go_wp2
        go_roundw
        case rel => exact ⟨k + 1, lb, v, tn, dn, ws, HK.out, by go_num, rfl, HS7.out⟩
        case measure =>
          have := HK.out
          simp [intOf]
          omega
    · have e1 : txt true (dn ++ ws) = other := by rw [txt_zero dn ws st.z]; exact st.t
      have E1 := Hid.mk e1
      have E2 := Hid.mk st.t
      have HB := Hid.mk st.m.d.below
      have HH := st.m.d.has
      clear e1 st
      go_wp2_with fail
      refine (read_yes true HH).mono ?_
      rintro e w8 ⟨rfl, hw8⟩
      rw [hw8, E1.out]
      clear hw8
      go_wp2_with fail
      refine (safe_yes true HH).mono ?_
      rintro e w9 ⟨rfl, hw9⟩
      rw [hw9, E2.out]
      clear hw9
      go_wp2
      go_ret
      exact ⟨rfl, HB.out⟩

set_option maxRecDepth 100000 in
theorem lifted (os : Os) (started : os.Started) (H : Type) (enc : TypeId × Value → H) :
    ReturnsInHanded {} Try.checked os 6 .any (Rows.walOtherSpec.pre6 enc Try.prog Try.f6 Rows.walOtherRow.domain false) (Rows.walOtherSpec.post enc Try.prog Try.f6 false true false false) := by
  refine returnsInHanded_of_change (C := Try.checked) own started (by kernel_rfl) Try.func6
    (ChangeSpec.witness6 (enc := enc) (C := Try.checked) false ⟨#[], #[.slice none 0 0, .string .empty], []⟩ 8 (by kernel_rfl) (by kernel_rfl) (by kernel_rfl) (by kernel_rfl)) ?_
  intro W base args ds gs before hval0 hW hcnd _
  have hval : ∀ (j : Nat) t v, Try.f6.params[j]? = some t → args[j]? = some v → Value.okWide Try.prog W .any base t v := hval0
  have hW' := hW
  obtain ⟨p, q, hA0, hV, rfl, hfz, hnd⟩ := hW
  have hA : DataW.TrodAll enc Try.prog W 0 (fun _ => true) true Try.f6.params.toList args.toList ds p := hA0
  rw [Try.params6] at hA hval
  obtain ⟨v0, vs0, d0, ds0, p0, q0, hargs, rfl, rfl, h0, r0⟩ := trodAll_cons hA
  obtain ⟨v1, vs1, d1, ds1, p1, q1, rfl, rfl, rfl, h1, r1⟩ := trodAll_cons r0
  obtain ⟨rfl, rfl, rfl⟩ := trodAll_nil r1
  obtain rfl : args = #[v0, v1] := by cases args; simp_all
  obtain ⟨rfl, rfl⟩ := trodVars_none hV
  obtain ⟨a0, len0, cap0, rfl⟩ := okWide_slice Try.underlying22 (hval 0 22 v0 rfl rfl)
  have k0 := h0
  have lt0 : ∀ x ∈ p0, x.block < W.heap.size := by obtain ⟨m, hm⟩ := k0; exact DataW.trod_lt m _ _ _ hm
  obtain ⟨ts0, w0⟩ : ∃ ts, IsCls W a0 len0 cap0 ts := by
    obtain ⟨fuel, hf⟩ := h0
    exact open_cls hf
  obtain ⟨s1, rfl, rfl, rfl, w1⟩ := open_string Try.underlying9 (hval 1 9 v1 rfl rfl) h1
  clear hA0 hval0
  refine (walk a0 len0 cap0 ts0 s1 W w0).mono fun e W' ⟨he, bel⟩ => ?_
  subst he
  exact ⟨_, rfl, _, _, _, [], _, [], hW', trodAll_mk1 (shut_bool Try.underlying4 _), (trodAll_cons_mk (Below.trod laidOut (by kernel_rfl) (of_decide_eq_true (by kernel_rfl)) k0 bel lt0) (trodAll_cons_mk (shut_string Try.underlying9 w1) trodAll_mk0)), rfl, bel.frame _, fun h => by cases h⟩

theorem over : Rows.walOtherRow.holds Try.pinned (OpenSpec.ofChange Rows.walOtherSpec) :=
  OpenClaim.holds_of_wide 6 Try.f6 rfl rfl rfl rfl rfl rfl rfl ⟨rfl, rfl, rfl, rfl, rfl⟩ rfl rfl rfl rfl rfl (by kernel_rfl) Try.func6 (by kernel_rfl)
    (of_decide_eq_true (by kernel_rfl)) (by unfold Func.isWrapper; first | (rw [if_pos (by decide +kernel)]; kernel_rfl) | (rw [if_neg (by decide +kernel)]; exact ⟨rfl, rfl⟩))
    (fun os started H enc _ => lifted os started H enc)

end Go.Proofs.Ytejmameebhbcbaa.walOther

namespace Go.Proofs.Ytejmameebhbcbaa
/-- The statement. -/
theorem walOther_holds : Rows.WalOtherSaid := walOther.over
#print axioms walOther_holds
end Go.Proofs.Ytejmameebhbcbaa
