/-
  The walks of All, Trace, Left and Pump.
-/
import Derived.Deep.QuietTactic
import Derived.WalkSmall
import Derived.Test.YtjiljencdhbchaaXSmall
namespace Go.Proofs.Ytjiljencdhbchaa
open Go.RowKit

theorem add_plain (g off j : Nat) : (⟨g, off, none⟩ : Addr).add j = ⟨g, off + j, none⟩ := by unfold Addr.add; split <;> simp_all

set_option maxRecDepth 100000 in
/-- Bytes that lie in a row, as a text. -/
theorem conv_bytes {w : World} {g off cap : Nat} (l : List UInt8) (n : Nat) (hn : l.length = n) (h : ∀ j (hj : j < l.length), w.cell? ⟨g, off + j, none⟩ = some (.int .u8 (l[j].toNat : Int))) :
    (convert 43 9 (.slice (some ⟨g, off, none⟩) n cap)).run Try.prog w = .ok (.string ⟨l.toArray⟩) w := by
  subst hn
  exact run_convert_bytes_back (P := Try.prog) w 43 9 5 ⟨g, off, none⟩ cap l Try.underlying43 Try.underlying5 Try.underlying9 fun j hj => by rw [add_plain]; exact h j hj

set_option maxRecDepth 100000 in
theorem conv_nil (w : World) : (convert 43 9 (.slice none 0 0)).run Try.prog w = .ok (.string ⟨#[]⟩) w :=
  run_convert_bytes_nil (P := Try.prog) w 43 5 Try.underlying43 Try.underlying5 0 0 9 Try.underlying9

section
variable {w : World} {b : Nat} {vs : Nat → Value} {f : Nat → Wy}

/-- A way's slice is nil, and there are no bytes; or it has its row. -/
theorem Wir.kind (h : Wir w b vs f) (i : Nat) (hi : i < 3) : (vs i = .slice none 0 0 ∧ (f i).bs = [] ∧ (f i).came = 0 ∧ (f i).gone = 0) ∨ ∃ g cap, vs i = .slice (some ⟨g, 0, none⟩) (f i).bs.length cap ∧ (f i).bs.length ≤ cap ∧ cap ≤ maxLen := by
  have hg := h.good i hi
  rcases (h.owns i hi).2 with ⟨e, h0⟩ | ⟨g, cap, cur, e, _, _, r1, r2, _⟩
  · have h1 := hg.le
    have h2 := hg.len
    exact .inl ⟨e, List.length_eq_zero_iff.1 h0, by omega, by omega⟩
  · exact .inr ⟨g, cap, e, r1, r2⟩

set_option maxHeartbeats 400000 in
set_option maxRecDepth 100000 in
theorem all_yes (i : Nat) (hi : i < 3) (h : Wir w b vs f) :
    Calls Try.prog 20 #[.pointer (some ⟨b, 0, none⟩), .int .i64 i] w fun e w' => e = .returned (.string (f i).all) ∧ w' = w := by
  have cv := h.cv i hi
  rcases h.kind i hi with ⟨hv, hb, _⟩ | ⟨g, cap, hv, _⟩
  · rw [hv] at cv
    have cn := conv_nil w
    have he : (f i).all = ⟨#[]⟩ := by unfold Wy.all; rw [hb]
    rw [he]
    clear he hb hv h
    go_enter Try.func20, Try.ntmps20
    go_wp2_with fail
    refine (way_yes b i hi _).mono ?_
    rintro e w1 ⟨rfl, rfl⟩
    go_wp2
    go_ret
    exact ⟨rfl, rfl⟩
  · rw [hv] at cv
    have cn := conv_bytes (w := w) (g := g) (off := 0) (cap := cap) (f i).bs _ rfl fun j hj => by rw [Nat.zero_add]; exact h.cells i hi hv j hj
    clear hv h
    show Calls _ _ _ _ fun e w' => e = .returned (.string ⟨(f i).bs.toArray⟩) ∧ w' = w
    go_enter Try.func20, Try.ntmps20
    go_wp2_with fail
    refine (way_yes b i hi _).mono ?_
    rintro e w1 ⟨rfl, rfl⟩
    go_wp2
    go_ret
    exact ⟨rfl, rfl⟩

set_option maxHeartbeats 400000 in
set_option maxRecDepth 100000 in
theorem trace_yes (i : Nat) (hi : i < 3) (h : Wir w b vs f) :
    Calls Try.prog 19 #[.pointer (some ⟨b, 0, none⟩), .int .i64 i] w fun e w' => e = .returned (.string (f i).trace) ∧ ∃ n, w' = w.drewN n := by
  have cv := h.cv i hi
  have cc := h.cc i hi
  have hcl := (h.good i hi).cl
  rcases h.kind i hi with ⟨hv, hb, hc, _⟩ | ⟨g, cap, hv, hcap, _⟩
  · rw [hv] at cv
    rw [hc] at cc
    have cn := fun n => conv_nil (w.drewN n)
    have he : (f i).trace = ⟨#[]⟩ := by unfold Wy.trace; rw [hb]; simp
    rw [he]
    clear he hb hv h hc hcl
    go_enter Try.func19, Try.ntmps19
    go_wp2_with fail
    refine (way_yes b i hi _).mono ?_
    rintro e w1 ⟨rfl, rfl⟩
    go_wp2_with fail
    go_quiet (fail)
    go_wp2
    go_ret
    exact ⟨rfl, _, rfl⟩
  · rw [hv] at cv
    have hl : ((f i).bs.take (f i).came).length = (f i).came := by simp; omega
    have cn := fun n => conv_bytes (w := w.drewN n) (g := g) (off := 0) (cap := cap) ((f i).bs.take (f i).came) (f i).came hl fun j hj => by
      rw [Nat.zero_add, List.getElem_take]
      exact h.cells i hi hv j (by omega)
    have q1 : ((f i).came : Int) ≤ (cap : Int) := by omega
    obtain ⟨C, hC⟩ : ∃ C, C = (f i).came := ⟨_, rfl⟩
    obtain ⟨s, hs⟩ : ∃ s : ByteArray, s = ⟨((f i).bs.take (f i).came).toArray⟩ := ⟨_, rfl⟩
    show Calls _ _ _ _ fun e w' => e = .returned (.string ⟨((f i).bs.take (f i).came).toArray⟩) ∧ ∃ n, w' = w.drewN n
    rw [← hs] at cn ⊢
    rw [← hC] at cn cc q1
    have q0 : (0 : Int) ≤ (C : Int) := Int.natCast_nonneg _
    clear hv h hcl hs hl hC hcap
    go_enter Try.func19, Try.ntmps19
    go_wp2_with fail
    refine (way_yes b i hi _).mono ?_
    rintro e w1 ⟨rfl, rfl⟩
    go_wp2_with fail
    go_quiet (fail)
    go_wp2
    go_ret
    exact ⟨rfl, _, rfl⟩

set_option maxHeartbeats 400000 in
set_option maxRecDepth 100000 in
theorem left_yes (i : Nat) (hi : i < 3) (h : Wir w b vs f) :
    Calls Try.prog 21 #[.pointer (some ⟨b, 0, none⟩), .int .i64 i] w fun e w' => e = .returned (.int .i64 (((f i).bs.length - (f i).came : Nat) : Int)) ∧ ∃ n, w' = w.drewN n := by
  have cv := h.cv i hi
  have cc := h.cc i hi
  have hcl := (h.good i hi).cl
  rcases h.kind i hi with ⟨hv, hb, hc, _⟩ | ⟨g, cap, hv, hcap, hm⟩
  · rw [hv] at cv
    rw [hc] at cc
    have he : (f i).bs.length - (f i).came = 0 := by rw [hb, hc]; rfl
    rw [he]
    clear he hb hv h hc hcl
    go_enter Try.func21, Try.ntmps21
    go_wp2_with fail
    refine (way_yes b i hi _).mono ?_
    rintro e w1 ⟨rfl, rfl⟩
    go_wp2_with fail
    go_quiet (fail)
    go_wp2
    go_ret
    exact ⟨rfl, _, rfl⟩
  · rw [hv] at cv
    obtain ⟨C, hC⟩ : ∃ C, C = (f i).came := ⟨_, rfl⟩
    obtain ⟨L, hL⟩ : ∃ L, L = (f i).bs.length := ⟨_, rfl⟩
    rw [← hL] at cv hcl hcap ⊢
    rw [← hC] at cc hcl ⊢
    obtain ⟨D, hD⟩ : ∃ D, D = L - C := ⟨_, rfl⟩
    rw [← hD]
    have e1 : IntKind.i64.wrap ((L : Int) - (C : Int)) = (D : Int) := by
      unfold maxLen at hm
      rw [IntKind.wrap_i64]
      omega
    clear hD
    clear hv h hcl hL hC hcap hm
    go_enter Try.func21, Try.ntmps21
    go_wp2_with fail
    refine (way_yes b i hi _).mono ?_
    rintro e w1 ⟨rfl, rfl⟩
    go_wp2_with fail
    go_quiet (fail)
    go_wp2
    go_ret
    exact ⟨rfl, _, rfl⟩

end

end Go.Proofs.Ytjiljencdhbchaa
