/-
  The walk of (*Stylus).Text over a list of texts that lies apart from the stylus.
-/
import Derived.Test.YtdngehfebmaegaaYRaws
namespace Go.Proofs.Ytdngehfebmaegaa.Sty
open Go.RowKit

/-- A text's bytes: how many, and these. -/
def textB (s : ByteArray) : List UInt8 := wide s.size ++ s.data.toList
def textsB : List ByteArray → List UInt8
  | [] => []
  | s :: r => textB s ++ textsB r

theorem textsB_append (a b : List ByteArray) : textsB (a ++ b) = textsB a ++ textsB b := by
  induction a with
  | nil => rfl
  | cons s r ih => simp [textsB, ih]

theorem textsB_take_succ (ts : List ByteArray) (k : Nat) (h : k < ts.length) : textsB (ts.take (k + 1)) = textsB (ts.take k) ++ textB ts[k] := by
  rw [List.take_succ_eq_append_getElem h, textsB_append]
  simp [textsB]

theorem textsB_split (ts : List ByteArray) (k : Nat) (h : k < ts.length) : (textsB ts).length = (textsB (ts.take k)).length + (textB ts[k]).length + (textsB (ts.drop (k + 1))).length := by
  have e : ts = ts.take k ++ (ts[k] :: ts.drop (k + 1)) := by
    rw [← List.drop_eq_getElem_cons h, List.take_append_drop]
  have h2 := congrArg (fun l => (textsB l).length) e
  simp only [textsB_append, List.length_append, textsB] at h2
  omega

theorem natB_len (s : ByteArray) : natB (s.size : Int) = wide s.size := by
  unfold natB
  rw [if_neg (by omega), Int.toNat_natCast]

set_option maxHeartbeats 400000 in
set_option maxRecDepth 100000 in
theorem text_any (w : World) (b : Nat) (v : Value) (bs : List UInt8) (g off len cap : Nat) (ts : List ByteArray) (hlen : ts.length = len) (hp : Pen w b v bs)
    (hl : bs.length + (textsB ts).length ≤ 1099511627776) (hc : ∀ j (h : j < ts.length), w.cell? ⟨g, off + j, none⟩ = some (.string ts[j]))
    (hgl : g < w.heap.size) (hgb : g ≠ b) (hgv : v.ownBlock ≠ some g) (hsm : len ≤ 1099511627776) :
    Calls Try.prog 29 #[.pointer (some ⟨b, 0, none⟩), .slice (some ⟨g, off, none⟩) len cap] w fun e w' =>
      e = .returned (.tuple #[]) ∧ ∃ v', Pen w' b v' (bs ++ textsB ts) ∧ Wrote b v w v' w' := by
  have HL := Hid.mk hlen
  clear hlen
  go_enter Try.func29, Try.ntmps29
  go_wp2
  go_loopw [8] (fun i wr => ∃ (k : Nat) (u : Value), k ≤ len ∧ i = .int .i64 k ∧ Pen wr b u (bs ++ textsB (ts.take k)) ∧ Wrote b v w u wr) (fun i _ => len - (intOf i).toNat)
  case atStart => exact ⟨0, v, Nat.zero_le _, rfl, by simpa [textsB] using hp, Wrote.refl _ _ _⟩
  case round =>
    obtain ⟨k, u, hk, rfl, hpr, hwr⟩ := hrel
    by_cases hlt : k < len
    · have hkt : k < ts.length := by rw [HL.out]; exact hlt
      have hsp := textsB_split ts k hkt
      have hstep := textsB_take_succ ts k hkt
      obtain ⟨s, hs⟩ : ∃ s, s = ts[k] := ⟨_, rfl⟩
      rw [← hs] at hsp hstep
      have hcell : wr.cell? ⟨g, off + k, none⟩ = some (.string s) := by
        rw [World.cell?_of_block (w := w) (hwr.block g hgl hgb hgv), hc k hkt, ← hs]
      have HS := Hid.mk hstep
      clear hs hstep hc
      have hsz : (textB s).length = (wide s.size).length + s.size := by simp [textB]
      have hlen2 : bs.length + (textsB (ts.take k)).length + (wide s.size).length + s.size ≤ 1099511627776 := by omega
      clear hsp hsz
      have hs0 : s.size ≤ 1099511627776 := by omega
      go_wp2_with fail
      refine (nat_any _ b wr.heap.size u _ (s.size : Int) (by omega) (hpr.alloc _) (by rw [List.length_append]; omega) (by simp)).mono ?_
      rintro e w1 ⟨rfl, u1, hp1, hw1⟩
      have hw1' := hw1.behind_alloc
      clear hw1
      rw [natB_len] at hp1
      go_wp2_with fail
      refine (raw_any _ b u1 _ s hp1 (by simp only [List.length_append]; omega)).mono ?_
      rintro e w2 ⟨rfl, u2, hp2, hw2⟩
      go_wp2
      go_roundw
      case rel => exact ⟨k + 1, u2, by omega, by go_num, by rw [HS.out]; simpa [textB] using hp2, (hwr.trans hw1').trans hw2⟩
      case measure => simp [intOf]; omega
    · go_wp2
      go_end0
      have hkl : k = len := by omega
      rw [hkl, List.take_of_length_le (by rw [HL.out]; exact Nat.le_refl _)] at hpr
      exact ⟨rfl, u, hpr, hwr⟩

end Go.Proofs.Ytdngehfebmaegaa.Sty
