/-
  Calls as they lie in memory; the walk of the law's own 'great'.
-/
import Derived.Test.YtjiljencdhbchaaXMine
import Derived.ProofKit
import Derived.OpenShut
import Derived.Deep.Strs
namespace Go.Proofs.Ytjiljencdhbchaa
open Go.ChangeShapes Go.WideShapes Go.ChangeAt Go.RowKit Go.Deep

set_option maxRecDepth 100000 in
theorem own : ownKnob Try.prog.godebug = none := by kernel_rfl
set_option maxRecDepth 100000 in
theorem laidOut : laidOutB Try.prog = true := by kernel_rfl
set_option maxRecDepth 100000 in
theorem Try.cells34 : Try.prog.cellsOf 34 = 4 := by kernel_rfl
set_option maxRecDepth 100000 in
theorem Try.cells3 : Try.prog.cellsOf 3 = 1 := by kernel_rfl
set_option maxRecDepth 100000 in
theorem Try.cells9 : Try.prog.cellsOf 9 = 1 := by kernel_rfl

structure Cl where
  kind : Int
  sock : Int
  s : ByteArray
  n : Int

def clV (c : Cl) : Value := .agg #[.int .i64 c.kind, .int .i64 c.sock, .string c.s, .int .i64 c.n]

/-- The calls cs lie in memory from g, off on. -/
structure ClsAt (w : World) (g off : Nat) (cs : List Cl) : Prop where
  lt : g < w.heap.size
  kind : ∀ j (h : j < cs.length), w.cell? ⟨g, off + j * 4, none⟩ = some (.int .i64 cs[j].kind)
  sock : ∀ j (h : j < cs.length), w.cell? ⟨g, off + j * 4 + 1, none⟩ = some (.int .i64 cs[j].sock)
  s : ∀ j (h : j < cs.length), w.cell? ⟨g, off + j * 4 + 2, none⟩ = some (.string cs[j].s)
  n : ∀ j (h : j < cs.length), w.cell? ⟨g, off + j * 4 + 3, none⟩ = some (.int .i64 cs[j].n)
  le : ∀ j (h : j < cs.length), cs[j].n ≤ 9223372036854775807

theorem ClsAt.carry {w w' : World} {g off : Nat} {cs : List Cl} (h : ClsAt w g off cs) (hb : w'.heap[g]? = w.heap[g]?) (hs : w.heap.size ≤ w'.heap.size) : ClsAt w' g off cs :=
  ⟨Nat.lt_of_lt_of_le h.lt hs, fun j k => (World.cell?_of_block (w := w) hb).trans (h.kind j k), fun j k => (World.cell?_of_block (w := w) hb).trans (h.sock j k),
    fun j k => (World.cell?_of_block (w := w) hb).trans (h.s j k), fun j k => (World.cell?_of_block (w := w) hb).trans (h.n j k), h.le⟩

def sumS : List Cl → Nat
  | [] => 0
  | c :: r => c.s.size + sumS r

theorem sumS_append (a b : List Cl) : sumS (a ++ b) = sumS a + sumS b := by
  induction a with
  | nil => simp [sumS]
  | cons s r ih => simp [sumS, ih]; omega
theorem sumS_take_succ (l : List Cl) (k : Nat) (h : k < l.length) : sumS (l.take (k + 1)) = sumS (l.take k) + l[k].s.size := by
  rw [List.take_succ_eq_append_getElem h, sumS_append]
  simp [sumS]
theorem sumS_take_le (l : List Cl) (k : Nat) : sumS (l.take k) ≤ sumS l := by
  have h := congrArg sumS (List.take_append_drop k l)
  rw [sumS_append] at h
  omega
theorem sumS_get (l : List Cl) (k : Nat) (h : k < l.length) : l[k].s.size ≤ sumS l := by
  have h1 := sumS_take_succ l k h
  have h2 := sumS_take_le l (k + 1)
  omega

/-- What is told of a list of calls that came in. -/
def IsCls (w : World) (a : Option Addr) (len cap : Nat) (cs : List Cl) : Prop :=
  cs.length = len ∧ (cs = [] ∧ (a = none → cap = 0) ∨ ∃ g off, a = some ⟨g, off, none⟩ ∧ ClsAt w g off cs)

theorem IsCls.carry {w w' : World} {a : Option Addr} {len cap : Nat} {cs : List Cl} (h : IsCls w a len cap cs) (hb : Below w.heap.size w w') : IsCls w' a len cap cs := by
  obtain ⟨hl, ⟨rfl, hc⟩ | ⟨g, off, rfl, hat⟩⟩ := h
  · exact ⟨hl, .inl ⟨rfl, hc⟩⟩
  · exact ⟨hl, .inr ⟨g, off, rfl, hat.carry (hb.block g hat.lt) hb.size⟩⟩

theorem plain_of_cell {w : World} {a : Addr} {v : Value} (h : w.cell? a = some v) : ∃ g off, a = ⟨g, off, none⟩ ∧ g < w.heap.size := by
  obtain ⟨g, off, sp⟩ := a
  have hlt := World.block_lt_of_cell? w ⟨g, off, sp⟩ h
  cases sp with
  | none => exact ⟨g, off, rfl, hlt⟩
  | some x =>
    simp only [World.cell?] at h
    split at h <;> simp at h

theorem add_plain3 (g off j : Nat) : (⟨g, off, none⟩ : Addr).add j = ⟨g, off + j, none⟩ := by unfold Addr.add; split <;> simp_all

theorem wf_le {n : Int} (h : (Lit.int .i64 n).wf = true) : n ≤ 9223372036854775807 := by
  simp [Lit.wf] at h
  omega

set_option maxRecDepth 100000 in
/-- A call's cells, opened. -/
theorem open_cl {H : Type} {enc : TypeId × Value → H} {w : World} {n : Nat} {cs : List Value} {x : DataW H × List MemPlace}
    (h : DataW.trod enc Try.prog w 0 (fun _ => true) true n 34 cs = some x) : ∃ c : Cl, cs = [.int .i64 c.kind, .int .i64 c.sock, .string c.s, .int .i64 c.n] ∧ c.n ≤ 9223372036854775807 := by
  obtain ⟨xs, m, _, _, hlen, hxs, hf⟩ := DataW.trod_struct Try.underlying34 h
  rw [Try.cells34] at hlen
  match cs, hlen, xs, hxs with
  | [v0, v1, v2, v3], _, [y0, y1, y2, y3], _ =>
    have g0 := hf 0 _ rfl
    have g1 := hf 1 _ rfl
    have g2 := hf 2 _ rfl
    have g3 := hf 3 _ rfl
    simp [Try.cells3, Try.cells9] at g0 g1 g2 g3
    obtain ⟨q0, e0, _, _⟩ := DataW.trod_int Try.underlying3 g0
    obtain ⟨q1, e1, _, _⟩ := DataW.trod_int Try.underlying3 g1
    obtain ⟨q2, e2, _, _⟩ := DataW.trod_string Try.underlying9 g2
    obtain ⟨q3, e3, _, w3⟩ := DataW.trod_int Try.underlying3 g3
    simp at e0 e1 e2 e3
    subst e0 e1 e2 e3
    exact ⟨⟨q0, q1, q2, q3⟩, rfl, wf_le w3⟩

set_option maxRecDepth 100000 in
theorem open_cls {H : Type} {enc : TypeId × Value → H} {w : World} {a : Option Addr} {len cap fuel : Nat} {x : DataW H × List MemPlace}
    (h : DataW.trod enc Try.prog w 0 (fun _ => true) true fuel 22 [.slice a len cap] = some x) : ∃ cs, IsCls w a len cap cs := by
  rcases open_slice Try.underlying22 h with ⟨hcs, _⟩ | ⟨a', len', cap', m, n, D, Pl, hcs, _, hl, hm, hmm, _, hx⟩
  · simp at hcs
    obtain ⟨rfl, rfl, rfl⟩ := hcs
    exact ⟨[], rfl, .inl ⟨rfl, fun _ => rfl⟩⟩
  · simp at hcs
    obtain ⟨rfl, rfl, rfl⟩ := hcs
    rw [Try.cells34] at hx
    have hlm : len ≤ m := by rw [hmm]; simpa using hl
    have each : ∀ i, i < len → ∃ it : Cl, w.cell? (a'.add (i * 4)) = some (.int .i64 it.kind) ∧ w.cell? (a'.add (i * 4 + 1)) = some (.int .i64 it.sock) ∧ w.cell? (a'.add (i * 4 + 2)) = some (.string it.s) ∧
        w.cell? (a'.add (i * 4 + 3)) = some (.int .i64 it.n) ∧ it.n ≤ 9223372036854775807 := by
      intro i hi
      obtain ⟨cs', h1, h2⟩ := hx i (by omega)
      obtain ⟨_, hlen, hcell⟩ := World.cells?_some h1
      obtain ⟨c, rfl, hle⟩ := open_cl h2
      have c0 := hcell 0 (by decide)
      have c1 := hcell 1 (by decide)
      have c2 := hcell 2 (by decide)
      have c3 := hcell 3 (by decide)
      rw [Deep.add_add] at c0 c1 c2 c3
      exact ⟨c, by simpa using c0, by simpa using c1, by simpa using c2, by simpa using c3, hle⟩
    by_cases h0 : len = 0
    · exact ⟨[], h0.symm, .inl ⟨rfl, fun e => by cases e⟩⟩
    obtain ⟨it0, k0, _⟩ := each 0 (by omega)
    obtain ⟨g', off', e, hg⟩ := plain_of_cell k0
    obtain ⟨g, off, rfl⟩ : ∃ g off, a' = ⟨g, off, none⟩ := by
      obtain ⟨g, off, sp⟩ := a'
      have hs := congrArg Addr.spot e
      unfold Addr.add at hs
      cases sp with
      | none => exact ⟨g, off, rfl⟩
      | some y => simp at hs
    rw [add_plain3] at e
    have hgg : g = g' := congrArg Addr.block e
    subst hgg
    have hne : Inhabited Cl := ⟨⟨0, 0, ByteArray.empty, 0⟩⟩
    obtain ⟨f, hf⟩ := choose_lt (α := Cl) each
    refine ⟨(List.range len).map f, by simp, .inr ⟨g, off, rfl, hg, fun j hj => ?_, fun j hj => ?_, fun j hj => ?_, fun j hj => ?_, fun j hj => ?_⟩⟩
    all_goals
      have hj' : j < len := by simpa using hj
      have hfj := hf j hj'
      rw [add_plain3, add_plain3, add_plain3, add_plain3] at hfj
      simp only [List.getElem_map, List.getElem_range]
    · exact hfj.1
    · exact hfj.2.1
    · exact hfj.2.2.1
    · exact hfj.2.2.2.1
    · exact hfj.2.2.2.2

set_option maxHeartbeats 400000 in
set_option maxRecDepth 100000 in
theorem great_none (a : Option Addr) (cap : Nat) (w : World) :
    Calls Try.prog 9 #[.slice a 0 cap] w fun e w' => e = .returned (.bool false) ∧ w' = w := by
  go_enter Try.func9, Try.ntmps9
  go_wp2
  go_loop [11] (fun i => i = .int .i64 0) (fun _ => 0)
  case atStart => rfl
  case round =>
    subst hrel
    go_wp2
    go_ret
    exact ⟨rfl, rfl⟩

set_option maxHeartbeats 400000 in
set_option maxRecDepth 100000 in
theorem great_some (g off len cap : Nat) (cs : List Cl) (w : World) (hlen : cs.length = len) (hat : ClsAt w g off cs) :
    Calls Try.prog 9 #[.slice (some ⟨g, off, none⟩) len cap] w fun e w' => Below w.heap.size w w' ∧ (e = .returned (.bool true) ∨ (e = .returned (.bool false) ∧ len ≤ 80 ∧ sumS cs ≤ 2048)) := by
  by_cases h80 : 80 < len
  · go_enter Try.func9, Try.ntmps9
    go_wp2
    go_ret
    exact ⟨Below.refl _ _, .inl rfl⟩
  have HL := Hid.mk hlen
  clear hlen
  go_enter Try.func9, Try.ntmps9
  go_wp2
  go_loopw [3, 5, 11] (fun n _x i wr => ∃ k : Nat, k ≤ len ∧ i = .int .i64 k ∧ n = .int .i64 (sumS (cs.take k) : Nat) ∧ sumS (cs.take k) ≤ 2048 ∧ Below w.heap.size w wr) (fun _ _ i _ => len - (intOf i).toNat)
  case atStart => exact ⟨0, Nat.zero_le _, rfl, rfl, by simp [sumS], Below.refl _ _⟩
  case round =>
    obtain ⟨k, hk, rfl, rfl, hsum, hb⟩ := hrel
    by_cases hlt : k < len
    · have hkt : k < cs.length := by rw [HL.out]; exact hlt
      have hatr : ClsAt wr g off cs := hat.carry (hb.block g hat.lt) hb.size
      have hstep := sumS_take_succ cs k hkt
      obtain ⟨it, hit⟩ : ∃ it, it = cs[k] := ⟨_, rfl⟩
      have c0 := hatr.kind k hkt
      have c1 := hatr.sock k hkt
      have c2 := hatr.s k hkt
      have c3 := hatr.n k hkt
      rw [← hit] at hstep c0 c1 c2 c3
      obtain ⟨q0, q1, s, q3⟩ := it
      dsimp only at hstep c0 c1 c2 c3
      have HS := Hid.mk hstep
      clear hstep hit hatr
      go_wp2_with fail
      · go_ret
        exact ⟨hb.alloc hb.size _, .inl rfl⟩
      · go_ret
        exact ⟨hb.alloc hb.size _, .inl rfl⟩
      · go_roundw
        case rel => exact ⟨k + 1, by omega, by go_num, by rw [HS.out]; go_num, by rw [HS.out]; omega, hb.alloc hb.size _⟩
        case measure => simp [intOf]; omega
    · have hkl : k = len := by omega
      rw [hkl, List.take_of_length_le (by rw [HL.out]; exact Nat.le_refl _)] at hsum
      have HF := Hid.mk hsum
      clear hsum
      go_wp2
      go_ret
      exact ⟨hb, .inr ⟨rfl, by omega, HF.out⟩⟩

set_option maxRecDepth 100000 in
theorem great_any {a : Option Addr} {len cap : Nat} {cs : List Cl} {w : World} (h : IsCls w a len cap cs) :
    Calls Try.prog 9 #[.slice a len cap] w fun e w' => Below w.heap.size w w' ∧ (e = .returned (.bool true) ∨ (e = .returned (.bool false) ∧ len ≤ 80 ∧ sumS cs ≤ 2048)) := by
  obtain ⟨hl, ⟨rfl, _⟩ | ⟨g, off, rfl, hat⟩⟩ := h
  · have h0 : len = 0 := hl.symm
    subst h0
    exact (great_none a cap w).mono fun e w' ⟨he, hw⟩ => ⟨by rw [hw]; exact Below.refl _ _, .inr ⟨he, by omega, by simp [sumS]⟩⟩
  · exact great_some g off len cap cs w hl hat

theorem IsCls.at_ {w : World} {a : Option Addr} {len cap : Nat} {cs : List Cl} (h : IsCls w a len cap cs) (k : Nat) (hk : k < len) : ∃ g off, a = some ⟨g, off, none⟩ ∧ ClsAt w g off cs := by
  obtain ⟨hl, ⟨rfl, _⟩ | ⟨g, off, e, hat⟩⟩ := h
  · simp at hl; omega
  · exact ⟨g, off, e, hat⟩

/-- All that a round of a script's loop asks. -/
theorem round_facts {w0 wr : World} {g off len : Nat} {cs : List Cl} (hat : ClsAt w0 g off cs) (hlen : cs.length = len) (hb : Below w0.heap.size w0 wr) (hsum : sumS cs ≤ 2048) (k : Nat) (hk : k < len) :
    ∃ c : Cl, wr.cell? ⟨g, off + k * 4, none⟩ = some (.int .i64 c.kind) ∧ wr.cell? ⟨g, off + k * 4 + 1, none⟩ = some (.int .i64 c.sock) ∧
      wr.cell? ⟨g, off + k * 4 + 2, none⟩ = some (.string c.s) ∧ wr.cell? ⟨g, off + k * 4 + 3, none⟩ = some (.int .i64 c.n) ∧ sumS (cs.take k) + c.s.size ≤ 2048 ∧ sumS (cs.take (k + 1)) = sumS (cs.take k) + c.s.size := by
  have hkt : k < cs.length := by rw [hlen]; exact hk
  have hatr : ClsAt wr g off cs := hat.carry (hb.block g hat.lt) hb.size
  have h1 := sumS_take_succ cs k hkt
  have h2 := sumS_take_le cs (k + 1)
  exact ⟨cs[k], hatr.kind k hkt, hatr.sock k hkt, hatr.s k hkt, hatr.n k hkt, by omega, h1⟩

theorem round_n {w0 : World} {g off len : Nat} {cs : List Cl} (hat : ClsAt w0 g off cs) (hlen : cs.length = len) {wr : World} (hb : Below w0.heap.size w0 wr) (hsum : sumS cs ≤ 2048) (k : Nat) (hk : k < len) :
    ∃ c : Cl, wr.cell? ⟨g, off + k * 4, none⟩ = some (.int .i64 c.kind) ∧ wr.cell? ⟨g, off + k * 4 + 1, none⟩ = some (.int .i64 c.sock) ∧
      wr.cell? ⟨g, off + k * 4 + 2, none⟩ = some (.string c.s) ∧ wr.cell? ⟨g, off + k * 4 + 3, none⟩ = some (.int .i64 c.n) ∧ sumS (cs.take k) + c.s.size ≤ 2048 ∧ sumS (cs.take (k + 1)) = sumS (cs.take k) + c.s.size ∧ c.n ≤ 9223372036854775807 := by
  have hkt : k < cs.length := by rw [hlen]; exact hk
  have hatr : ClsAt wr g off cs := hat.carry (hb.block g hat.lt) hb.size
  have h1 := sumS_take_succ cs k hkt
  have h2 := sumS_take_le cs (k + 1)
  exact ⟨cs[k], hatr.kind k hkt, hatr.sock k hkt, hatr.s k hkt, hatr.n k hkt, by omega, h1, hat.le k hkt⟩

/-- A call's box in memory, behind calls on wires. -/
structure Box (w : World) (k : Nat) (c : Cl) : Prop where
  at_ : w.heap[k]? = some (.cells #[.int .i64 c.kind, .int .i64 c.sock, .string c.s, .int .i64 c.n] 34 (0, 0))

theorem Box.new (w : World) (c : Cl) : Box (w.alloc (.cells #[.int .i64 c.kind, .int .i64 c.sock, .string c.s, .int .i64 c.n] 34)) w.heap.size c := ⟨heap_alloc_new w _⟩
theorem Box.keep {w w' : World} {k : Nat} {c : Cl} (h : Box w k c) (hk : Keeps w w') : Box w' k c := ⟨hk k _ _ _ h.at_ (by decide) (by decide)⟩
theorem Box.c0 {w : World} {k : Nat} {c : Cl} (h : Box w k c) : w.cell? ⟨k, 0, none⟩ = some (.int .i64 c.kind) := by simp [World.cell?, h.at_]
theorem Box.c1 {w : World} {k : Nat} {c : Cl} (h : Box w k c) : w.cell? ⟨k, 1, none⟩ = some (.int .i64 c.sock) := by simp [World.cell?, h.at_]
theorem Box.c2 {w : World} {k : Nat} {c : Cl} (h : Box w k c) : w.cell? ⟨k, 2, none⟩ = some (.string c.s) := by simp [World.cell?, h.at_]
theorem Box.c3 {w : World} {k : Nat} {c : Cl} (h : Box w k c) : w.cell? ⟨k, 3, none⟩ = some (.int .i64 c.n) := by simp [World.cell?, h.at_]

/-- What a call makes of a way. -/
theorem stPush_at {f : Nat → Wy} {s : Int} {x : ByteArray} (hs : isS s = true) : stPush f s x s.toNat = (f s.toNat).push x.data.toList := by simp [stPush, hs, upd]
theorem stPump_at {f : Nat → Wy} {s : Int} (hs : isS s = true) : stPump f s s.toNat = (f s.toNat).pump := by simp [stPump, hs, upd]
theorem stTake_at {f : Nat → Wy} {s n : Int} (hs : isS s = true) : stTake f s n s.toNat = (f s.toNat).take n := by simp [stTake, hs, upd]
theorem unlike {s t : Int} (hs : isS s = true) (ht : isS t = true) (h : t ≠ s) : s.toNat ≠ t.toNat := by
  simp [isS] at hs ht
  omega
theorem stPush_far {f : Nat → Wy} {s t : Int} {x : ByteArray} (hs : isS s = true) (h : t ≠ s) : stPush f t x s.toNat = f s.toNat := by
  unfold stPush
  split
  · next ht => exact upd_other _ _ _ _ (unlike hs ht h)
  · rfl
theorem stPump_far {f : Nat → Wy} {s t : Int} (hs : isS s = true) (h : t ≠ s) : stPump f t s.toNat = f s.toNat := by
  unfold stPump
  split
  · next ht => exact upd_other _ _ _ _ (unlike hs ht h)
  · rfl
theorem stTake_far {f : Nat → Wy} {s t n : Int} (hs : isS s = true) (h : t ≠ s) : stTake f t n s.toNat = f s.toNat := by
  unfold stTake
  split
  · next ht => exact upd_other _ _ _ _ (unlike hs ht h)
  · rfl
theorem cutF_toNat {f : Nat → Wy} {s : Int} (hs : isS s = true) : cutF f 3 s.toNat = (f s.toNat).crash := by
  obtain ⟨i, hi, rfl⟩ := isS_yes hs
  unfold cutF
  rw [if_pos (by simpa using hi)]

end Go.Proofs.Ytjiljencdhbchaa
