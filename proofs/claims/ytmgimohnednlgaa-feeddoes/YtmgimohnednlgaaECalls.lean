/-
  The walks of Left, At and Take.
-/
import Derived.Test.YtmgimohnednlgaaESmall
namespace Go.Proofs.Ytmgimohnednlgaa.Fee
open Go.RowKit Go.Proofs.Ytmgimohnednlgaa.Cel

section
variable {w : World} {A : Lie} {f : Nat → Sk}

set_option maxHeartbeats 800000 in
set_option maxRecDepth 100000 in
theorem left_yes (i : Nat) (hi : i < 3) (h : FeedAt w A f) :
    Calls Try.prog 14 #[.pointer (some ⟨A.b, 0, none⟩), .int .i64 i] w fun e w' => e = .returned (.string (f i).left) ∧ ∃ n, w' = w.drewN n := by
  have H := Hid.mk h
  have hp := (h.good i hi).le
  go_enter Try.func14, Try.ntmps14
  go_wp2_with fail
  refine (place_yes i hi h).mono ?_
  rintro e w1 ⟨rfl, n, hn⟩
  have H1 := Hid.mk (H.out.drewN n)
  rw [← hn] at H1
  have HN := Hid.mk hn
  clear hn h
  go_wp2_with fail
  refine (all_yes i hi H1.out).mono ?_
  rintro e w2 ⟨rfl, hw2⟩
  rw [hw2]
  clear hw2 w2
  rcases H.out.kind i hi with ⟨hv, hb, hc⟩ | ⟨g, cap, hv, hcap, hm⟩
  · have he : (f i).left = ⟨#[]⟩ := by unfold Sk.left; rw [hb]; simp
    have cn := conv_nil w1
    have HE := Hid.mk he
    rw [hv, hc]
    clear hv hb hc he hp
    go_wp2
    go_ret
    exact ⟨by rw [HE.out]; rfl, n, HN.out⟩
  · rw [hv]
    obtain ⟨P, hP⟩ : ∃ P, P = (f i).place := ⟨_, rfl⟩
    obtain ⟨L, hL⟩ : ∃ L, L = (f i).bs.length := ⟨_, rfl⟩
    obtain ⟨x, hx⟩ : ∃ x : ByteArray, x = (f i).left := ⟨_, rfl⟩
    rw [← hP, ← hL] at hp
    rw [← hL] at hcap
    rw [← hP, ← hL]
    obtain ⟨D, hD⟩ : ∃ D, D = L - P := ⟨_, rfl⟩
    obtain ⟨Q, hQ⟩ : ∃ Q, (if cap = P then (some ⟨g, 0, none⟩ : Option Addr) else some ⟨g, P, none⟩) = Q := ⟨_, rfl⟩
    have hcn : (convert 47 9 (.slice Q (L - P) (cap - P))).run Try.prog w1 = .ok (.string x) w1 := by
      rw [← hQ, hx]
      split
      · next e =>
        have hLP : L - P = 0 := by omega
        have hbs : (f i).left = ⟨([] : List UInt8).toArray⟩ := by
          unfold Sk.left
          rw [List.drop_of_length_le (by omega)]
        rw [hbs, hLP]
        exact conv_bytes (w := w1) (g := g) (off := 0) (cap := cap - P) [] 0 rfl fun j hj => by simp at hj
      · have hb : (f i).left = ⟨((f i).bs.drop P).toArray⟩ := by unfold Sk.left; rw [hP]
        rw [hb]
        refine conv_bytes (w := w1) (g := g) (off := P) (cap := cap - P) ((f i).bs.drop P) (L - P) (by rw [hL]; simp) fun j hj => ?_
        rw [List.getElem_drop]
        exact H1.out.cells i hi hv (P + j) (by rw [List.length_drop] at hj; omega)
    have q0 : (0 : Int) ≤ (P : Int) := Int.natCast_nonneg _
    have q1 : (P : Int) ≤ (L : Int) := by omega
    have q2 : (L : Int) ≤ (cap : Int) := by omega
    have q3 : P ≤ L := hp
    have HX := Hid.mk hx
    clear hx hP hL hv hD H H1
    go_wp2
    go_ret
    exact ⟨by rw [HX.out]; rfl, n, HN.out⟩

set_option maxHeartbeats 400000 in
set_option maxRecDepth 100000 in
theorem left_no (s : Int) (hs : Not3 s) (h : FeedAt w A f) :
    Calls Try.prog 14 #[.pointer (some ⟨A.b, 0, none⟩), .int .i64 s] w fun e w' => e = .returned (.string ⟨#[]⟩) ∧ w' = w := by
  have cn := conv_nil w
  go_enter Try.func14, Try.ntmps14
  go_wp2_with fail
  refine (place_no s hs h).mono ?_
  rintro e w1 ⟨rfl, rfl⟩
  go_wp2_with fail
  refine (all_no _ s hs _).mono ?_
  rintro e w2 ⟨rfl, rfl⟩
  go_wp2
  go_ret
  exact ⟨rfl, rfl⟩

set_option maxHeartbeats 400000 in
set_option maxRecDepth 100000 in
theorem left_nil (s : Int) (w : World) :
    Calls Try.prog 14 #[.pointer none, .int .i64 s] w fun e w' => e = .returned (.string ⟨#[]⟩) ∧ w' = w := by
  have cn := conv_nil w
  go_enter Try.func14, Try.ntmps14
  go_wp2_with fail
  refine (place_nil s _).mono ?_
  rintro e w1 ⟨rfl, rfl⟩
  go_wp2_with fail
  refine (all_nil s _).mono ?_
  rintro e w2 ⟨rfl, rfl⟩
  go_wp2
  go_ret
  exact ⟨rfl, rfl⟩

set_option maxHeartbeats 400000 in
set_option maxRecDepth 100000 in
theorem at_in (i : Nat) (hi : i < 3) (p : Nat) (h : FeedAt w A f) (hp : p < (f i).bs.length) :
    Calls Try.prog 15 #[.pointer (some ⟨A.b, 0, none⟩), .int .i64 i, .int .i64 p] w fun e w' => e = .returned (.int .i64 ((f i).byte p)) ∧ w' = w := by
  rw [Sk.byte_in _ p hp]
  rcases h.kind i hi with ⟨_, hb, _⟩ | ⟨g, cap, hv, hcap, hm⟩
  · rw [hb] at hp; simp at hp
  have c := h.cells i hi hv p hp
  obtain ⟨x, hx⟩ : ∃ x : UInt8, x = (f i).bs[p] := ⟨_, rfl⟩
  have hx2 : (x.toNat : Int) < 256 := by have := x.toNat_lt; omega
  have hx3 : (0 : Int) ≤ (x.toNat : Int) := Int.natCast_nonneg _
  rw [← hx] at c ⊢
  obtain ⟨y, hy⟩ : ∃ y : Int, y = (x.toNat : Int) := ⟨_, rfl⟩
  rw [← hy] at c hx2 hx3 ⊢
  have H := Hid.mk h
  have HV := Hid.mk hv
  clear h hv hx hy
  obtain ⟨L, hL⟩ : ∃ L, L = (f i).bs.length := ⟨_, rfl⟩
  rw [← hL] at hp hcap HV
  clear hL
  have q0 : ¬ (p : Int) < 0 := by omega
  have q1 : ¬ (L : Int) ≤ (p : Int) := by omega
  go_enter Try.func15, Try.ntmps15
  go_wp2_with fail
  refine (all_yes i hi H.out).mono ?_
  rintro e w1 ⟨rfl, hw1⟩
  rw [hw1, HV.out]
  clear hw1 w1
  go_wp2
  go_ret
  exact ⟨rfl, rfl⟩

set_option maxHeartbeats 400000 in
set_option maxRecDepth 100000 in
theorem at_out (i : Nat) (hi : i < 3) (p : Int) (h : FeedAt w A f) (hp : ¬ (0 ≤ p ∧ p < ((f i).bs.length : Int))) :
    Calls Try.prog 15 #[.pointer (some ⟨A.b, 0, none⟩), .int .i64 i, .int .i64 p] w fun e w' => e = .returned (.int .i64 ((f i).byte p)) ∧ w' = w := by
  rw [Sk.byte_out _ p hp]
  by_cases h0 : p < 0
  · clear hp
    go_enter Try.func15, Try.ntmps15
    go_wp2_with fail
    refine (all_yes i hi h).mono ?_
    rintro e w1 ⟨rfl, rfl⟩
    go_wp2
    go_ret
    exact ⟨rfl, rfl⟩
  · have h1 : ((f i).bs.length : Int) ≤ p := by omega
    clear hp
    obtain ⟨a, cap, hv⟩ := h.sl i hi
    obtain ⟨L, hL⟩ : ∃ L, L = (f i).bs.length := ⟨_, rfl⟩
    rw [← hL] at h1 hv
    have h2 : (0 : Int) ≤ p := by omega
    go_enter Try.func15, Try.ntmps15
    go_wp2_with fail
    refine (all_yes i hi h).mono ?_
    rintro e w1 ⟨rfl, rfl⟩
    rw [hv]
    clear h hv hL
    go_wp2
    go_ret
    exact ⟨rfl, rfl⟩

set_option maxRecDepth 100000 in
theorem at_yes (i : Nat) (hi : i < 3) (p : Int) (h : FeedAt w A f) :
    Calls Try.prog 15 #[.pointer (some ⟨A.b, 0, none⟩), .int .i64 i, .int .i64 p] w fun e w' => e = .returned (.int .i64 ((f i).byte p)) ∧ w' = w := by
  by_cases hp : 0 ≤ p ∧ p < ((f i).bs.length : Int)
  · obtain ⟨n, rfl⟩ : ∃ n : Nat, p = (n : Int) := ⟨p.toNat, by omega⟩
    exact at_in i hi n h (by omega)
  · exact at_out i hi p h hp

set_option maxHeartbeats 400000 in
set_option maxRecDepth 100000 in
theorem at_no (a : Addr) (s : Int) (hs : Not3 s) (p : Int) (w : World) :
    Calls Try.prog 15 #[.pointer (some a), .int .i64 s, .int .i64 p] w fun e w' => e = .returned (.int .i64 (-1)) ∧ w' = w := by
  by_cases h0 : p < 0
  · go_enter Try.func15, Try.ntmps15
    go_wp2_with fail
    refine (all_no a s hs _).mono ?_
    rintro e w1 ⟨rfl, rfl⟩
    go_wp2
    go_ret
    exact ⟨rfl, rfl⟩
  · have h2 : (0 : Int) ≤ p := by omega
    go_enter Try.func15, Try.ntmps15
    go_wp2_with fail
    refine (all_no a s hs _).mono ?_
    rintro e w1 ⟨rfl, rfl⟩
    go_wp2
    go_ret
    exact ⟨rfl, rfl⟩

set_option maxHeartbeats 400000 in
set_option maxRecDepth 100000 in
theorem at_nil (s p : Int) (w : World) :
    Calls Try.prog 15 #[.pointer none, .int .i64 s, .int .i64 p] w fun e w' => e = .returned (.int .i64 (-1)) ∧ w' = w := by
  by_cases h0 : p < 0
  · go_enter Try.func15, Try.ntmps15
    go_wp2_with fail
    refine (all_nil s _).mono ?_
    rintro e w1 ⟨rfl, rfl⟩
    go_wp2
    go_ret
    exact ⟨rfl, rfl⟩
  · have h2 : (0 : Int) ≤ p := by omega
    go_enter Try.func15, Try.ntmps15
    go_wp2_with fail
    refine (all_nil s _).mono ?_
    rintro e w1 ⟨rfl, rfl⟩
    go_wp2
    go_ret
    exact ⟨rfl, rfl⟩

/-- May the place be that? -/
def okT (y : Sk) (p : Int) : Bool := decide ((y.place : Int) ≤ p) && decide (p ≤ (y.bs.length : Int))

set_option maxHeartbeats 800000 in
set_option maxRecDepth 100000 in
theorem take_yes (i : Nat) (hi : i < 3) (p : Nat) (v : Int) (h : FeedAt w A f) (h1 : (f i).place ≤ p) (h2 : p ≤ (f i).bs.length) :
    Calls Try.prog 10 #[.pointer (some ⟨A.b, 0, none⟩), .int .i64 i, .int .i64 p, .int .i64 v] w fun e w' => e = .returned (.bool true) ∧
      FeedAt w' A (upd f i ((f i).took p v)) ∧ Wrote A w A w' := by
  have H := Hid.mk h
  have H2 := Hid.mk h2
  obtain ⟨P, hP⟩ : ∃ P, P = (f i).place := ⟨_, rfl⟩
  rw [← hP] at h1
  have HP := Hid.mk hP
  have q1 : (P : Int) ≤ (p : Int) := by omega
  clear h hP
  go_enter Try.func10, Try.ntmps10
  go_wp2_with fail
  refine (place_yes i hi H.out).mono ?_
  rintro e w1 ⟨rfl, n, hn⟩
  have H1 := Hid.mk (H.out.drewN n)
  have W1 := Hid.mk ((Wrote.refl A w).drewN n)
  rw [← hn] at H1 W1
  rw [← HP.out]
  clear hn
  go_wp2_with fail
  refine (all_yes i hi H1.out).mono ?_
  rintro e w2 ⟨rfl, hw2⟩
  rw [hw2]
  clear hw2 w2
  obtain ⟨a, cap, hv⟩ := H.out.sl i hi
  rw [hv]
  obtain ⟨L, hL⟩ : ∃ L, L = (f i).bs.length := ⟨_, rfl⟩
  rw [← hL] at h2
  rw [← hL]
  have q2 : (p : Int) ≤ (L : Int) := by omega
  have q3 : p ≤ L := h2
  clear hv h2 H hL h1
  go_wp2_with fail
  refine (row_yes H1.out).mono ?_
  rintro e w2 ⟨rfl, hw2⟩
  rw [hw2]
  clear hw2 w2
  go_wp2_with fail
  refine (I.set_yes H1.out.row i hi p v).mono ?_
  rintro e w2 ⟨rfl, hr2, ho2⟩
  have R := Hid.mk (H1.out.setP hi H2.out hr2 ho2)
  clear hr2 ho2
  go_wp2
  go_ret
  exact ⟨rfl, R.out.1, W1.out.trans R.out.2⟩

set_option maxHeartbeats 800000 in
set_option maxRecDepth 100000 in
theorem take_bad (i : Nat) (hi : i < 3) (p v : Int) (h : FeedAt w A f) (hp : ¬ (((f i).place : Int) ≤ p ∧ p ≤ ((f i).bs.length : Int))) :
    Calls Try.prog 10 #[.pointer (some ⟨A.b, 0, none⟩), .int .i64 i, .int .i64 p, .int .i64 v] w fun e w' => e = .returned (.bool false) ∧ ∃ n, w' = w.drewN n := by
  have H := Hid.mk h
  clear h
  by_cases h1 : ((f i).place : Int) ≤ p
  · have h2 : ((f i).bs.length : Int) < p := by omega
    have h3 : ¬ p ≤ ((f i).bs.length : Int) := by omega
    have h4 : ¬ p ≤ 0 := by omega
    clear hp
    go_enter Try.func10, Try.ntmps10
    go_wp2_with fail
    refine (place_yes i hi H.out).mono ?_
    rintro e w1 ⟨rfl, n, hn⟩
    have H1 := Hid.mk (H.out.drewN n)
    rw [← hn] at H1
    have HN := Hid.mk hn
    clear hn
    go_wp2_with fail
    refine (all_yes i hi H1.out).mono ?_
    rintro e w2 ⟨rfl, hw2⟩
    rw [hw2]
    clear hw2 w2
    obtain ⟨a, cap, hv⟩ := H.out.sl i hi
    rw [hv]
    obtain ⟨L, hL⟩ : ∃ L, L = (f i).bs.length := ⟨_, rfl⟩
    rw [← hL] at h3
    rw [← hL]
    clear hv h2 h4 hL h1
    go_wp2
    go_ret
    exact ⟨rfl, n, HN.out⟩
  · clear hp
    go_enter Try.func10, Try.ntmps10
    go_wp2_with fail
    refine (place_yes i hi H.out).mono ?_
    rintro e w1 ⟨rfl, n, hn⟩
    have HN := Hid.mk hn
    clear hn
    go_wp2
    go_ret
    exact ⟨rfl, n, HN.out⟩

set_option maxHeartbeats 800000 in
set_option maxRecDepth 100000 in
theorem take_no (s : Int) (hs : Not3 s) (p v : Int) (h : FeedAt w A f) :
    Calls Try.prog 10 #[.pointer (some ⟨A.b, 0, none⟩), .int .i64 s, .int .i64 p, .int .i64 v] w fun e w' => e = .returned (.bool false) ∧ w' = w := by
  by_cases h1 : 0 ≤ p
  · by_cases h2 : p ≤ 0
    · go_enter Try.func10, Try.ntmps10
      go_wp2_with fail
      refine (place_no s hs h).mono ?_
      rintro e w1 ⟨rfl, rfl⟩
      go_wp2_with fail
      refine (all_no _ s hs _).mono ?_
      rintro e w1 ⟨rfl, rfl⟩
      go_wp2_with fail
      refine (row_yes h).mono ?_
      rintro e w1 ⟨rfl, rfl⟩
      go_wp2_with fail
      refine (I.set_no h.row s hs p v).mono ?_
      rintro e w1 ⟨rfl, rfl⟩
      go_wp2
      go_ret
      exact ⟨rfl, rfl⟩
    · go_enter Try.func10, Try.ntmps10
      go_wp2_with fail
      refine (place_no s hs h).mono ?_
      rintro e w1 ⟨rfl, rfl⟩
      go_wp2_with fail
      refine (all_no _ s hs _).mono ?_
      rintro e w1 ⟨rfl, rfl⟩
      go_wp2
      go_ret
      exact ⟨rfl, rfl⟩
  · go_enter Try.func10, Try.ntmps10
    go_wp2_with fail
    refine (place_no s hs h).mono ?_
    rintro e w1 ⟨rfl, rfl⟩
    go_wp2
    go_ret
    exact ⟨rfl, rfl⟩

set_option maxHeartbeats 800000 in
set_option maxRecDepth 100000 in
theorem take_nil (s p v : Int) (w : World) :
    Calls Try.prog 10 #[.pointer none, .int .i64 s, .int .i64 p, .int .i64 v] w fun e w' => e = .returned (.bool false) ∧ w' = w := by
  by_cases h1 : 0 ≤ p
  · by_cases h2 : p ≤ 0
    · go_enter Try.func10, Try.ntmps10
      go_wp2_with fail
      refine (place_nil s _).mono ?_
      rintro e w1 ⟨rfl, rfl⟩
      go_wp2_with fail
      refine (all_nil s _).mono ?_
      rintro e w1 ⟨rfl, rfl⟩
      go_wp2_with fail
      refine (row_nil _).mono ?_
      rintro e w1 ⟨rfl, rfl⟩
      go_wp2_with fail
      refine (I.set_nil s p v _).mono ?_
      rintro e w1 ⟨rfl, rfl⟩
      go_wp2
      go_ret
      exact ⟨rfl, rfl⟩
    · go_enter Try.func10, Try.ntmps10
      go_wp2_with fail
      refine (place_nil s _).mono ?_
      rintro e w1 ⟨rfl, rfl⟩
      go_wp2_with fail
      refine (all_nil s _).mono ?_
      rintro e w1 ⟨rfl, rfl⟩
      go_wp2
      go_ret
      exact ⟨rfl, rfl⟩
  · go_enter Try.func10, Try.ntmps10
    go_wp2_with fail
    refine (place_nil s _).mono ?_
    rintro e w1 ⟨rfl, rfl⟩
    go_wp2
    go_ret
    exact ⟨rfl, rfl⟩

end

end Go.Proofs.Ytmgimohnednlgaa.Fee
