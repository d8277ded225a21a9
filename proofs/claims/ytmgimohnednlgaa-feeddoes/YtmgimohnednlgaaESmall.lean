/-
  The walks of there, all, row, Place and Text; their nil twins.
-/
import Derived.Test.YtmgimohnednlgaaEMem
namespace Go.Proofs.Ytmgimohnednlgaa.Fee
open Go.RowKit Go.Proofs.Ytmgimohnednlgaa.Cel

/-- Is there such a socket? -/
def isS (s : Int) : Bool := decide (0 ≤ s) && decide (s ≤ 2)

theorem isS_yes {s : Int} (h : isS s = true) : ∃ i : Nat, i < 3 ∧ s = (i : Int) := by
  simp [isS] at h
  exact ⟨s.toNat, by omega, by omega⟩
theorem isS_of {i : Nat} (h : i < 3) : isS (i : Int) = true := by simp [isS]; omega

/-- No such socket. -/
def Not3 (s : Int) : Prop := ¬ (0 ≤ s ∧ s < 3)
theorem isS_no {s : Int} (h : isS s = false) : Not3 s := by
  simp [isS] at h
  unfold Not3
  omega

set_option maxHeartbeats 400000 in
set_option maxRecDepth 100000 in
theorem there_yes (i : Nat) (hi : i < 3) (w : World) :
    Calls Try.prog 18 #[.int .i64 i] w fun e w' => e = .returned (.bool true) ∧ w' = w := by
  have h1 : (i : Int) < 3 := by omega
  have h0 : (0 : Int) ≤ i := by omega
  go_enter Try.func18, Try.ntmps18
  go_wp2
  go_ret
  exact ⟨rfl, rfl⟩

set_option maxHeartbeats 400000 in
set_option maxRecDepth 100000 in
theorem there_no (s : Int) (hs : Not3 s) (w : World) :
    Calls Try.prog 18 #[.int .i64 s] w fun e w' => e = .returned (.bool false) ∧ w' = w := by
  by_cases h0 : 0 ≤ s
  · have h1 : ¬ s < 3 := fun h => hs ⟨h0, h⟩
    clear hs
    go_enter Try.func18, Try.ntmps18
    go_wp2
    go_ret
    exact ⟨rfl, rfl⟩
  · clear hs
    go_enter Try.func18, Try.ntmps18
    go_wp2
    go_ret
    exact ⟨rfl, rfl⟩

section
variable {w : World} {A : Lie} {f : Nat → Sk}

set_option maxHeartbeats 400000 in
set_option maxRecDepth 100000 in
theorem all_yes (i : Nat) (hi : i < 3) (h : FeedAt w A f) :
    Calls Try.prog 19 #[.pointer (some ⟨A.b, 0, none⟩), .int .i64 i] w fun e w' => e = .returned (A.vs i) ∧ w' = w := by
  have cv := h.cv i hi
  have q0 : ¬ (i : Int) < 0 := by omega
  have q1 : (i : Int) < 3 := by omega
  obtain ⟨b, hb⟩ : ∃ b, b = A.b := ⟨_, rfl⟩
  obtain ⟨v, hv⟩ : ∃ v, v = A.vs i := ⟨_, rfl⟩
  rw [← hb, ← hv] at cv
  rw [← hb, ← hv]
  clear hb hv h
  go_enter Try.func19, Try.ntmps19
  go_wp2_with fail
  refine (there_yes i hi _).mono ?_
  rintro e w1 ⟨rfl, rfl⟩
  go_wp2
  go_ret
  exact ⟨rfl, rfl⟩

set_option maxHeartbeats 400000 in
set_option maxRecDepth 100000 in
theorem all_no (a : Addr) (s : Int) (hs : Not3 s) (w : World) :
    Calls Try.prog 19 #[.pointer (some a), .int .i64 s] w fun e w' => e = .returned (.slice none 0 0) ∧ w' = w := by
  go_enter Try.func19, Try.ntmps19
  go_wp2_with fail
  refine (there_no s hs _).mono ?_
  rintro e w1 ⟨rfl, rfl⟩
  go_wp2
  go_ret
  exact ⟨rfl, rfl⟩

set_option maxHeartbeats 400000 in
set_option maxRecDepth 100000 in
theorem all_nil (s : Int) (w : World) :
    Calls Try.prog 19 #[.pointer none, .int .i64 s] w fun e w' => e = .returned (.slice none 0 0) ∧ w' = w := by
  go_enter Try.func19, Try.ntmps19
  go_wp2
  go_ret
  exact ⟨rfl, rfl⟩

set_option maxHeartbeats 400000 in
set_option maxRecDepth 100000 in
theorem row_yes (h : FeedAt w A f) :
    Calls Try.prog 20 #[.pointer (some ⟨A.b, 0, none⟩)] w fun e w' => e = .returned (.pointer (some ⟨A.r, 0, none⟩)) ∧ w' = w := by
  have c := h.cr
  obtain ⟨b, hb⟩ : ∃ b, b = A.b := ⟨_, rfl⟩
  rw [← hb] at c
  rw [← hb]
  clear h hb
  go_enter Try.func20, Try.ntmps20
  go_wp2
  go_ret
  exact ⟨rfl, rfl⟩

set_option maxHeartbeats 400000 in
set_option maxRecDepth 100000 in
theorem row_nil (w : World) :
    Calls Try.prog 20 #[.pointer none] w fun e w' => e = .returned (.pointer none) ∧ w' = w := by
  go_enter Try.func20, Try.ntmps20
  go_wp2
  go_ret
  exact ⟨rfl, rfl⟩

set_option maxRecDepth 100000 in
theorem row_get_yes (i : Nat) (hi : i < 3) (h : FeedAt w A f) :
    Calls Try.prog 22 #[.pointer (some ⟨A.r, 0, none⟩), .int .i64 (i : Nat)] w fun e w' => e = .returned (.tuple #[.int .i64 ((f i).place : Int), .int .i64 (f i).ver]) ∧ ∃ n, w' = w.drewN n := by
  have hg := I.get_yes h.row i hi
  rw [rowOf_get f i hi] at hg
  exact hg

set_option maxHeartbeats 400000 in
set_option maxRecDepth 100000 in
theorem place_yes (i : Nat) (hi : i < 3) (h : FeedAt w A f) :
    Calls Try.prog 16 #[.pointer (some ⟨A.b, 0, none⟩), .int .i64 i] w fun e w' => e = .returned (.tuple #[.int .i64 ((f i).place : Int), .int .i64 (f i).ver]) ∧ ∃ n, w' = w.drewN n := by
  go_enter Try.func16, Try.ntmps16
  go_wp2_with fail
  refine (row_yes h).mono ?_
  rintro e w1 ⟨rfl, rfl⟩
  go_wp2_with fail
  refine (row_get_yes i hi h).mono ?_
  rintro e w2 ⟨rfl, n, hn⟩
  go_wp2
  go_ret2
  exact ⟨rfl, n, rfl⟩

set_option maxHeartbeats 400000 in
set_option maxRecDepth 100000 in
theorem place_no (s : Int) (hs : Not3 s) (h : FeedAt w A f) :
    Calls Try.prog 16 #[.pointer (some ⟨A.b, 0, none⟩), .int .i64 s] w fun e w' => e = .returned (.tuple #[.int .i64 0, .int .i64 0]) ∧ w' = w := by
  go_enter Try.func16, Try.ntmps16
  go_wp2_with fail
  refine (row_yes h).mono ?_
  rintro e w1 ⟨rfl, rfl⟩
  go_wp2_with fail
  refine (I.get_no h.row s hs).mono ?_
  rintro e w2 ⟨rfl, hn⟩
  go_wp2
  go_ret2
  exact ⟨rfl, rfl⟩

set_option maxHeartbeats 400000 in
set_option maxRecDepth 100000 in
theorem place_nil (s : Int) (w : World) :
    Calls Try.prog 16 #[.pointer none, .int .i64 s] w fun e w' => e = .returned (.tuple #[.int .i64 0, .int .i64 0]) ∧ w' = w := by
  go_enter Try.func16, Try.ntmps16
  go_wp2_with fail
  refine (row_nil _).mono ?_
  rintro e w1 ⟨rfl, rfl⟩
  go_wp2_with fail
  refine (I.get_nil s _).mono ?_
  rintro e w2 ⟨rfl, hn⟩
  go_wp2
  go_ret2
  exact ⟨rfl, rfl⟩

set_option maxRecDepth 100000 in
/-- Bytes that lie in a row, as a text. -/
theorem conv_bytes {w : World} {g off cap : Nat} (l : List UInt8) (n : Nat) (hn : l.length = n) (h : ∀ j (hj : j < l.length), w.cell? ⟨g, off + j, none⟩ = some (.int .u8 (l[j].toNat : Int))) :
    (convert 47 9 (.slice (some ⟨g, off, none⟩) n cap)).run Try.prog w = .ok (.string ⟨l.toArray⟩) w := by
  subst hn
  exact run_convert_bytes_back (P := Try.prog) w 47 9 5 ⟨g, off, none⟩ cap l Try.underlying47 Try.underlying5 Try.underlying9 fun j hj => by rw [add_plain]; exact h j hj

set_option maxRecDepth 100000 in
theorem conv_nil (w : World) : (convert 47 9 (.slice none 0 0)).run Try.prog w = .ok (.string ⟨#[]⟩) w :=
  run_convert_bytes_nil (P := Try.prog) w 47 5 Try.underlying47 Try.underlying5 0 0 9 Try.underlying9

set_option maxRecDepth 100000 in
theorem conv_all (i : Nat) (hi : i < 3) (h : FeedAt w A f) : (convert 47 9 (A.vs i)).run Try.prog w = .ok (.string (f i).text) w := by
  rcases h.kind i hi with ⟨hv, hb, _⟩ | ⟨g, cap, hv, _⟩
  · rw [hv, conv_nil]
    unfold Sk.text
    rw [hb]
  · rw [hv]
    exact conv_bytes (w := w) (g := g) (off := 0) (cap := cap) (f i).bs _ rfl fun j hj => by rw [Nat.zero_add]; exact h.cells i hi hv j hj

set_option maxHeartbeats 400000 in
set_option maxRecDepth 100000 in
theorem text_yes (i : Nat) (hi : i < 3) (h : FeedAt w A f) :
    Calls Try.prog 13 #[.pointer (some ⟨A.b, 0, none⟩), .int .i64 i] w fun e w' => e = .returned (.string (f i).text) ∧ w' = w := by
  have cn := conv_all i hi h
  have H := Hid.mk h
  clear h
  go_enter Try.func13, Try.ntmps13
  go_wp2_with fail
  refine (all_yes i hi H.out).mono ?_
  rintro e w1 ⟨rfl, rfl⟩
  go_wp2
  go_ret
  exact ⟨rfl, rfl⟩

set_option maxHeartbeats 400000 in
set_option maxRecDepth 100000 in
theorem text_no (a : Addr) (s : Int) (hs : Not3 s) (w : World) :
    Calls Try.prog 13 #[.pointer (some a), .int .i64 s] w fun e w' => e = .returned (.string ⟨#[]⟩) ∧ w' = w := by
  have cn := conv_nil w
  go_enter Try.func13, Try.ntmps13
  go_wp2_with fail
  refine (all_no a s hs _).mono ?_
  rintro e w1 ⟨rfl, rfl⟩
  go_wp2
  go_ret
  exact ⟨rfl, rfl⟩

set_option maxHeartbeats 400000 in
set_option maxRecDepth 100000 in
theorem text_nil (s : Int) (w : World) :
    Calls Try.prog 13 #[.pointer none, .int .i64 s] w fun e w' => e = .returned (.string ⟨#[]⟩) ∧ w' = w := by
  have cn := conv_nil w
  go_enter Try.func13, Try.ntmps13
  go_wp2_with fail
  refine (all_nil s _).mono ?_
  rintro e w1 ⟨rfl, rfl⟩
  go_wp2
  go_ret
  exact ⟨rfl, rfl⟩

end

end Go.Proofs.Ytmgimohnednlgaa.Fee
