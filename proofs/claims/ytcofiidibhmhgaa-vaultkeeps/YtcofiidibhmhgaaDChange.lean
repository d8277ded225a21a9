/-
  The walk of change: a change done to what the areas have now, and behind those that wait.
-/
import Derived.Deep.RegionLaw
import Derived.Test.YtcofiidibhmhgaaDDo
namespace Go.Proofs.Ytcofiidibhmhgaa
open Go.RowKit

set_option maxRecDepth 100000 in
theorem Try.info59 : (Try.prog.info? 59).map (fun i => (i.zero, i.size, i.bytes)) = some (some (.agg #[.int .i64 0, .bool false, .string ⟨#[]⟩]), 3, 32) := by kernel_rfl

section
variable {w w' : World} {b : Nat} {v : Value} {n0 n1 s0 s1 x : ByteArray} {ws : List Ch}

theorem Dsk.drew (h : Dsk w b v n0 n1 s0 s1 ws) : Dsk w.drew b v n0 n1 s0 s1 ws := h.carry rfl fun _ _ => rfl
theorem Dsk.alloc (h : Dsk w b v n0 n1 s0 s1 ws) (o : Obj) : Dsk (w.alloc o) b v n0 n1 s0 s1 ws :=
  h.carry (Below.heap_alloc _ _ _ h.lt) fun k hk => Below.heap_alloc _ _ _ (h.own_lt k hk)

theorem Dsk.set0 (o : Bool) (h : Dsk w b v n0 n1 s0 s1 ws) (hs : Set1 b (0 + (if o then 1 else 0)) (.string x) w w') : Dsk w' b v (if o then n0 else x) (if o then x else n1) s0 s1 ws := by
  refine ⟨?_, h.apart, ownsRow_carry h.owns fun k hk => hs.block k (h.own_lt k hk) (fun e => h.apart (by rw [← e]; exact hk))⟩
  rw [hs.cell _ _ _ h.at_]
  cases o <;> simp

theorem Dsk.set2 (o : Bool) (h : Dsk w b v n0 n1 s0 s1 ws) (hs : Set1 b (2 + (if o then 1 else 0)) (.string x) w w') : Dsk w' b v n0 n1 (if o then s0 else x) (if o then x else s1) ws := by
  refine ⟨?_, h.apart, ownsRow_carry h.owns fun k hk => hs.block k (h.own_lt k hk) (fun e => h.apart (by rw [← e]; exact hk))⟩
  rw [hs.cell _ _ _ h.at_]
  cases o <;> simp

/-- What the append and the store into the field leave. -/
theorem Dsk.wrote {w1 : World} {ob : Obj} {g n cap : Nat} {c : Ch} (h : Dsk w b v n0 n1 s0 s1 ws)
    (hown : w1.ownsRow 0 59 3 (.slice (some ⟨g, 0, none⟩) n cap) n (chC ws ++ chC [c])) (hn : n = (ws ++ [c]).length)
    (hgrow : (w.alloc ob).drew.grownBy w1 v.ownBlock) (hat : v.ownBlock = some g ∨ w.heap.size ≤ g) :
    Dsk (w1.setCell ⟨b, 4, none⟩ (.slice (some ⟨g, 0, none⟩) n cap)) b (.slice (some ⟨g, 0, none⟩) n cap) n0 n1 s0 s1 (ws ++ [c]) ∧
      Wrote b v w (.slice (some ⟨g, 0, none⟩) n cap) (w1.setCell ⟨b, 4, none⟩ (.slice (some ⟨g, 0, none⟩) n cap)) := by
  subst hn
  have hlt := h.lt
  have hgb : g ≠ b := by
    rcases hat with e | e
    · intro e'; subst e'; exact h.apart e
    · omega
  have hsz : ∀ k, k < w.heap.size → k < ((w.alloc ob).drew).heap.size := fun k hk => by show k < (w.alloc ob).heap.size; simp; omega
  have hdr : ∀ k, k < w.heap.size → ((w.alloc ob).drew).heap[k]? = w.heap[k]? := fun k hk => Below.heap_alloc _ _ _ hk
  have hb1 : w1.heap[b]? = some (.cells #[.string n0, .string n1, .string s0, .string s1, v] 55 (0, 0)) := by
    rw [hgrow.block b (hsz b hlt) (fun e => h.apart e.symm), hdr b hlt]
    exact h.at_
  refine ⟨⟨?_, ?_, ?_⟩, ?_⟩
  · rw [heap_set _ hb1]; simp
  · simp [Value.ownBlock, hgb]
  · refine ⟨by rw [chC_length], ?_⟩
    rcases hown.2 with ⟨e, _⟩ | ⟨g', cap', cur, e, h0, hg, r1, r2, r3, r4⟩
    · cases e
    · cases e
      refine .inr ⟨g, cap, cur, rfl, h0, ?_, r1, r2, r3, by rw [chC_append]; exact r4⟩
      rw [Below.heap_setCell _ _ _ _ hgb]
      exact hg
  · refine ⟨hgrow.os, hgrow.tape, hgrow.output, ?_, fun k hk hkb hkv => ?_, fun k hk => ?_⟩
    · have := hgrow.size
      have h2 : w.heap.size ≤ ((w.alloc ob).drew).heap.size := by show _ ≤ (w.alloc ob).heap.size; simp
      simp only [World.setCell, Array.size_modify]
      omega
    · rw [Below.heap_setCell _ _ _ _ hkb, hgrow.block k (hsz k hk) (fun e => hkv e.symm), hdr k hk]
    · simp [Value.ownBlock] at hk
      subst hk
      exact hat

end

set_option maxHeartbeats 1600000 in
set_option maxRecDepth 100000 in
theorem change_raw (w : World) (b : Nat) (v : Value) (n0 n1 s0 s1 : ByteArray) (ws : List Ch) (o r : Bool) (bs : ByteArray) (h : Dsk w b v n0 n1 s0 s1 ws) (k0 : n0.size ≤ 16384) (k1 : n1.size ≤ 16384) (k2 : bs.size ≤ 16384) (hl : ws.length ≤ 1000000) :
    Calls Try.prog 28 #[.pointer (some ⟨b, 0, none⟩), .agg #[.int .i64 (ar o), .bool r, .string bs]] w fun e w' => e = .returned (.tuple #[]) ∧
      ∃ v', Dsk w' b v' ((⟨o, r, bs⟩ : Ch).on false n0) ((⟨o, r, bs⟩ : Ch).on true n1) s0 s1 (ws ++ [⟨o, r, bs⟩]) ∧ Wrote b v w v' w' := by
  obtain ⟨i0, hi, hz0, hz1, hz2⟩ := info_parts Try.info59
  have hD := (h.alloc (.cells #[.int .i64 (ar o), .bool r, .string bs] 59)).drew
  have hlt := h.lt
  go_enter Try.func28, Try.ntmps28
  go_wp2_with fail
  go_region_with ((go_at_call 40; refine (do_any _ b 0 o r bs n0 n1 hD.c0 hD.c1 (hD.fz 0) (hD.fz 1) k0 k1 (fun _ => k2)).mono ?_; rintro e w1 ⟨rfl, hs1⟩))
  have hD1 := hD.set0 o hs1
  have hw1 : Wrote b v w v w1 := (Wrote.of_below (((Below.refl _ _).alloc (Nat.le_refl _) _).drew)).trans hs1.wrote
  have hbx : w1.heap[w.heap.size]? = some (.cells #[.int .i64 (ar o), .bool r, .string bs] 59 (0, 0)) := by
    rw [hs1.block w.heap.size (by show _ < (w.alloc _).heap.size; simp) (by omega)]
    exact heap_alloc_new w _
  have hsz : w.heap.size < w1.heap.size := (Array.getElem?_eq_some_iff.1 hbx).1
  have x0 : w1.cell? ⟨w.heap.size, 0, none⟩ = some (.int .i64 (ar o)) := by simp [World.cell?, hbx]
  have x1 : w1.cell? ⟨w.heap.size, 1, none⟩ = some (.bool r) := by simp [World.cell?, hbx]
  have x2 : w1.cell? ⟨w.heap.size, 2, none⟩ = some (.string bs) := by simp [World.cell?, hbx]
  have c4 := hD1.c4
  have f4 := hD1.fz 4
  have hlt1 := hD1.lt
  have ag := h.apart
  have ak : v.ownBlock ≠ some w.heap.size := fun e => Nat.lt_irrefl _ (h.own_lt _ e)
  have hown := hD1.owns
  have HD := Hid.mk hD1
  have HW := Hid.mk hw1
  clear hD1 hw1 hs1 hD h hbx
  go_wp2_with fail
  go_region_law
    ((refine step_append_lies _ (by rfl) _ _ _ (by rfl) 0 59 i0 _ 3 32 Try.underlying53 hi hz0 hz1 hz2 rfl (by omega) v ws.length (chC ws) (by rfl) ((hown.alloc _).drew)
        ⟨w1.heap.size, 0, none⟩ 1 1 [.int .i64 (ar o), .bool r, .string bs] (by rfl) (by rfl) (World.news_of_block (cs := #[.int .i64 (ar o), .bool r, .string bs]) (t := 59) (fr := (0, 0)) (heap_alloc_new w1 _)) (by simp [Value.oneCell'])
        (by omega) (by unfold maxLen; omega) (by omega) (Nat.zero_le _) (w1.heap.size + 1) (by simp) ?_; intro gg cap w2 hown1 hgrow hat hlt2; have c5 : w2.cell? ⟨b, 4, none⟩ = some v := (hgrow.cell_far ⟨b, 4, none⟩ (by simp; omega) (Ne.symm ag)).trans (by simp [World.cell?_alloc_some, c4]); have f5 : w2.frozen? ⟨b, 4, none⟩ = false := (hgrow.frozen_far ⟨b, 4, none⟩ (by simp; omega) (Ne.symm ag)).trans (by simp [World.frozen?_alloc_past, hlt1, f4])))
  all_goals
    go_wp2
    go_end0
    have R := (HD.out).wrote (c := ⟨o, r, bs⟩) hown1 (by simp) hgrow (by rcases hat with e | e; exact .inl e; exact .inr (by omega))
    refine ⟨rfl, _, ?_, HW.out.trans R.2⟩
    have R1 := R.1
    clear R HD HW hown hown1 hgrow hat
    cases o <;> cases r <;> exact R1

set_option maxRecDepth 100000 in
/-- A change that fits waits behind the others. -/
theorem change_any {w : World} {b : Nat} {v : Value} {dn ws : List Ch} (c : Ch) (h : Has w b v dn ws) (hc : ∀ a, (c.on a (txt a (dn ++ ws))).size ≤ 16384) (hb : c.bytes.size ≤ 16384) (hl : ws.length ≤ 1000000) :
    Calls Try.prog 28 #[.pointer (some ⟨b, 0, none⟩), .agg #[.int .i64 (ar c.one), .bool c.reset, .string c.bytes]] w fun e w' => e = .returned (.tuple #[]) ∧
      ∃ v', Has w' b v' dn (ws ++ [c]) ∧ Wrote b v w v' w' := by
  refine (change_raw w b v _ _ _ _ ws c.one c.reset c.bytes h.dsk (h.fits.all _) (h.fits.all _) hb hl).mono fun e w' ⟨he, v', hd, hw⟩ => ⟨he, v', ⟨?_, ?_⟩, hw⟩
  · rw [← List.append_assoc, txt_one, txt_one]
    exact hd
  · rw [← List.append_assoc]
    exact h.fits.one hc

end Go.Proofs.Ytcofiidibhmhgaa
