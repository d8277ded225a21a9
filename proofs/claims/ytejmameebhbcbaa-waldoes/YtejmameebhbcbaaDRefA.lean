/-
  The document's disk, in memory; the walks of its Text, Append and Reset.
-/
import Derived.Test.YtejmameebhbcbaaDLow
namespace Go.Proofs.Ytejmameebhbcbaa
open Go.RowKit

theorem Try.info80 : (Try.prog.info? 80).map (fun i => (i.zero, i.size, i.bytes)) = some (some (.agg #[.int .i64 0, .bool false, .string ⟨#[]⟩]), 3, 32) := by kernel_rfl

/-- The document's disk in block m: all changes, and how many are safe. -/
structure Ref (w : World) (m : Nat) (v : Value) (all : List Ch) (sf : Nat) : Prop where
  at_ : w.heap[m]? = some (.cells #[v, .int .i64 (sf : Nat)] 51 (0, 0))
  apart : v.ownBlock ≠ some m
  owns : w.ownsRow 0 80 3 v all.length (chC all)
  le : sf ≤ all.length

section
variable {w w' : World} {m : Nat} {v : Value} {all : List Ch} {sf : Nat}

theorem Ref.lt (h : Ref w m v all sf) : m < w.heap.size := (Array.getElem?_eq_some_iff.1 h.at_).1
theorem Ref.own_lt (h : Ref w m v all sf) : ∀ k, v.ownBlock = some k → k < w.heap.size := fun k hk => (h.owns.lt k hk).2
theorem Ref.c0 (h : Ref w m v all sf) : w.cell? ⟨m, 0, none⟩ = some v := by simp [World.cell?, h.at_]
theorem Ref.c1 (h : Ref w m v all sf) : w.cell? ⟨m, 1, none⟩ = some (.int .i64 (sf : Nat)) := by simp [World.cell?, h.at_]
theorem Ref.fz (h : Ref w m v all sf) (i : Nat) : w.frozen? ⟨m, i, none⟩ = false := by simp [World.frozen?, h.at_]
theorem Ref.carry (h : Ref w m v all sf) (hb : w'.heap[m]? = w.heap[m]?) (hv : ∀ k, v.ownBlock = some k → w'.heap[k]? = w.heap[k]?) : Ref w' m v all sf :=
  ⟨hb.trans h.at_, h.apart, ownsRow_carry h.owns hv, h.le⟩
theorem Ref.grown (h : Ref w m v all sf) (hb : Below w.heap.size w w') : Ref w' m v all sf := h.carry (hb.block m h.lt) fun k hk => hb.block k (h.own_lt k hk)
theorem Ref.beside {b2 : Nat} {v2 v2' : Value} (h : Ref w m v all sf) (k : Wrote b2 v2 w v2' w') (hb : m ≠ b2) (hb2 : v2.ownBlock ≠ some m)
    (hv : ∀ k, v.ownBlock = some k → k ≠ b2 ∧ v2.ownBlock ≠ some k) : Ref w' m v all sf :=
  h.carry (k.block m h.lt hb hb2) fun i hi => k.block i (h.own_lt i hi) (hv i hi).1 (hv i hi).2

/-- Another row, laid anew, and stored. -/
theorem Ref.laid {w2 : World} {g n cap : Nat} {all' : List Ch} (h : Ref w m v all sf) (hown : w2.ownsRow w.heap.size 80 3 (.slice (some ⟨g, 0, none⟩) n cap) n (chC all')) (hn : n = all'.length) (hle : sf ≤ all'.length) (hb : Below w.heap.size w w2) :
    Ref (w2.setCell ⟨m, 0, none⟩ (.slice (some ⟨g, 0, none⟩) n cap)) m (.slice (some ⟨g, 0, none⟩) n cap) all' sf ∧ Wrote m v w (.slice (some ⟨g, 0, none⟩) n cap) (w2.setCell ⟨m, 0, none⟩ (.slice (some ⟨g, 0, none⟩) n cap)) := by
  subst hn
  have hg := (hown.lt g rfl).1
  have hlt := h.lt
  have hgm : g ≠ m := by omega
  have hb2 : w2.heap[m]? = some (.cells #[v, .int .i64 (sf : Nat)] 51 (0, 0)) := by rw [hb.block m hlt]; exact h.at_
  refine ⟨⟨?_, by simp [Value.ownBlock, hgm], ?_, hle⟩, ?_⟩
  · rw [heap_set _ hb2]; simp
  · exact ownsRow_carry (ownsRow_low hown) fun k hk => by
      simp [Value.ownBlock] at hk
      subst hk
      exact Below.heap_setCell _ _ _ _ hgm
  · exact ((Wrote.of_below hb).set 0 _).turn fun k hk => by
      simp [Value.ownBlock] at hk
      subst hk
      exact .inr hg

theorem Ref.new (w : World) : Ref (w.alloc (.cells #[.slice none 0 0, .int .i64 0] 51)) w.heap.size (.slice none 0 0) [] 0 :=
  ⟨heap_alloc_new w _, by simp [Value.ownBlock], World.ownsRow_nil _ _ _ _, Nat.zero_le _⟩

theorem Ref.at_ch {g n cap : Nat} (h : Ref w m (.slice (some ⟨g, 0, none⟩) n cap) all sf) (j : Nat) (hj : j < all.length) :
    w.cell? ⟨g, j * 3, none⟩ = some (.int .i64 (ar all[j].one)) ∧ w.cell? ⟨g, j * 3 + 1, none⟩ = some (.bool all[j].reset) ∧ w.cell? ⟨g, j * 3 + 2, none⟩ = some (.string all[j].bytes) := by
  have hn : n = all.length := by
    rcases h.owns.2 with ⟨e, _⟩ | ⟨g', cap', cur, e, _⟩
    · cases e
    · cases e; rfl
  subst hn
  obtain ⟨e0, e1, e2⟩ := chC_at all j hj
  have hadd : ∀ i, (⟨g, 0, none⟩ : Addr).add i = ⟨g, i, none⟩ := fun i => by unfold Addr.add; split <;> simp_all
  have k0 := h.owns.cells (g := g) rfl _ _ e0
  have k1 := h.owns.cells (g := g) rfl _ _ e1
  have k2 := h.owns.cells (g := g) rfl _ _ e2
  rw [hadd] at k0 k1 k2
  exact ⟨k0, k1, k2⟩

theorem Ref.shape (h : Ref w m v all sf) (hp : 0 < all.length) : ∃ g cap, v = .slice (some ⟨g, 0, none⟩) all.length cap := by
  rcases h.owns.2 with ⟨rfl, h0⟩ | ⟨g, cap, cur, rfl, _⟩
  · omega
  · exact ⟨g, cap, rfl⟩

end

theorem txt_take_one (o : Bool) (l : List Ch) (k : Nat) (h : k < l.length) : txt o (l.take (k + 1)) = l[k].on o (txt o (l.take k)) := by
  rw [List.take_succ_eq_append_getElem h, txt_one]

set_option maxHeartbeats 1600000 in
theorem text_any {w : World} {m : Nat} {v : Value} {all : List Ch} {sf : Nat} (o : Bool) (n : Nat) (h : Ref w m v all sf) (hf : Fits all) (hn : n ≤ all.length) (hl : all.length ≤ 1000000) :
    Calls Try.prog 24 #[.pointer (some ⟨m, 0, none⟩), .int .i64 (ar o), .int .i64 n] w fun e w' => e = .returned (.string (txt o (all.take n))) ∧ w' = w := by
  go_enter Try.func24, Try.ntmps24
  go_wp2
  go_loop [7, 8] (fun s i => ∃ k : Nat, k ≤ n ∧ i = .int .i64 k ∧ s = .string (txt o (all.take k))) (fun _ i => n - (intOf i).toNat)
  case atStart => exact ⟨0, Nat.zero_le _, rfl, rfl⟩
  case round =>
    obtain ⟨k, hk, rfl, rfl⟩ := hrel
    by_cases hlt : k < n
    · have hka : k < all.length := by omega
      obtain ⟨g, cap, rfl⟩ := h.shape (by omega)
      obtain ⟨x0, x1, x2⟩ := h.at_ch k hka
      have c0 := h.c0
      have z0 := (hf.take k).all o
      have z1 := hf.bytes k hka
      have t0 := txt_take_one o all k hka
      obtain ⟨c, hc⟩ : ∃ c, c = all[k] := ⟨_, rfl⟩
      rw [← hc] at x0 x1 x2 z1 t0
      obtain ⟨s, hs⟩ : ∃ s, s = txt o (all.take k) := ⟨_, rfl⟩
      rw [← hs] at z0 t0
      rw [← hs]
      obtain ⟨o', r, bs⟩ := c
      dsimp only at x0 x1 x2 z1
      have HT := Hid.mk t0
      have HK := Hid.mk hlt
      have H := Hid.mk h
      have i0 : (0 : Int) ≤ (k : Int) := Int.natCast_nonneg _
      have i1 : (k : Int) < (all.length : Int) := by omega
      clear hc hs t0 h
      by_cases ho : o' = o
      · subst ho
        cases r with
        | true =>
          have e : (⟨o', true, bs⟩ : Ch).on o' s = ⟨#[]⟩ := by simp [Ch.on]
          rw [e] at HT
          clear e
          cases o' <;>
          · unfold ar at x0 ⊢
            simp only [↓reduceIte, Bool.false_eq_true] at x0 ⊢
            go_wp2
            go_round
            case rel => exact ⟨k + 1, HK.out, by go_num, by rw [HT.out]⟩
            case measure =>
              have := HK.out
              simp [intOf]
              omega
        | false =>
          have z2 := z1 rfl
          have e : (⟨o', false, bs⟩ : Ch).on o' s = s ++ bs := by simp [Ch.on]
          rw [e] at HT
          clear e z1
          cases o' <;>
          · unfold ar at x0 ⊢
            simp only [↓reduceIte, Bool.false_eq_true] at x0 ⊢
            go_wp2
            go_round
            case rel => exact ⟨k + 1, HK.out, by go_num, by rw [HT.out]⟩
            case measure =>
              have := HK.out
              simp [intOf]
              omega
      · have e : (⟨o', r, bs⟩ : Ch).on o s = s := by simp [Ch.on, ho]
        rw [e] at HT
        clear e z1
        cases o <;> cases o' <;> first | (exact absurd rfl ho) | skip
        all_goals
          unfold ar at x0 ⊢
          simp only [↓reduceIte, Bool.false_eq_true] at x0 ⊢
          go_wp2
          go_round
          case rel => exact ⟨k + 1, HK.out, by go_num, by rw [HT.out]⟩
          case measure =>
            have := HK.out
            simp [intOf]
            omega
    · have hkn : k = n := by omega
      subst hkn
      go_wp2
      go_ret
      exact ⟨rfl, rfl⟩

end Go.Proofs.Ytejmameebhbcbaa
