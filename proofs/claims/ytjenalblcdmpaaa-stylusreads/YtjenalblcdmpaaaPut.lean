/-
  The walk of the law's own 'put': what the stylus has written, and what the document says, are the same bytes.
-/
import Derived.Test.YtjenalblcdmpaaaItems
namespace Go.Proofs.Ytjenalblcdmpaaa
open Go.RowKit

/-- What is written of an item. -/
def itemB (i : It) : List UInt8 := if i.kind = 0 then natB i.n else if i.kind = 1 then intB i.n else if i.kind = 2 then i.s.data.toList else if i.kind = 3 then textB i.s else []
def itemsB : List It → List UInt8
  | [] => []
  | i :: r => itemB i ++ itemsB r

theorem itemsB_append (a b : List It) : itemsB (a ++ b) = itemsB a ++ itemsB b := by
  induction a with
  | nil => rfl
  | cons s r ih => simp [itemsB, ih]

theorem itemsB_take_succ (l : List It) (k : Nat) (h : k < l.length) : itemsB (l.take (k + 1)) = itemsB (l.take k) ++ itemB l[k] := by
  rw [List.take_succ_eq_append_getElem h, itemsB_append]
  simp [itemsB]

theorem natB_le {x : Int} (h1 : x ≤ 9223372036854775807) : (natB x).length ≤ 10 := by
  unfold natB
  split
  · simp
  · exact wide_len (by omega)
theorem intB_le {x : Int} (h0 : -9223372036854775808 ≤ x) (h1 : x ≤ 9223372036854775807) : (intB x).length ≤ 10 := wide_len (foldN_lt h0 h1)

theorem itemB_le {i : It} (h0 : -9223372036854775808 ≤ i.n) (h1 : i.n ≤ 9223372036854775807) (hs : i.s.size ≤ 1099511627776) : (itemB i).length ≤ 10 + i.s.size := by
  have a := natB_le h1
  have b := intB_le h0 h1
  have c := wide_len (n := i.s.size) (by omega)
  unfold itemB
  split
  · omega
  split
  · omega
  split
  · simp
  split
  · simp [textB]; omega
  · simp

theorem itemsB_take_le (l : List It) (hlo : ∀ j (h : j < l.length), -9223372036854775808 ≤ l[j].n) (hhi : ∀ j (h : j < l.length), l[j].n ≤ 9223372036854775807) (hs : sumS l ≤ 4096) :
    ∀ k, k ≤ l.length → (itemsB (l.take k)).length ≤ 10 * k + sumS (l.take k) := by
  intro k
  induction k with
  | zero => intro _; simp [itemsB]
  | succ k ih =>
    intro hk
    have h1 := ih (by omega)
    have h2 := sumS_take_succ l k (by omega)
    have h3 := sumS_take_le l (k + 1)
    have h4 := itemB_le (hlo k (by omega)) (hhi k (by omega)) (by omega)
    rw [itemsB_take_succ l k (by omega), List.length_append]
    omega

theorem Pen.below {w w' : World} {b : Nat} {v : Value} {bs : List UInt8} (h : Pen w b v bs) (hb : Below w.heap.size w w') : Pen w' b v bs :=
  h.carry (hb.block b h.lt) fun k hk => hb.block k (h.own_lt k hk)

/-- What a write in a round leaves: the round's own item, what was there ahead of the call, where the stylus' row lies. -/
theorem put_step {B : Nat} {w wr w1 : World} {v v' : Value} {ds : List UInt8} {cs : Array Value} (hBw : B = w.heap.size) (hb : Below B w wr) (hpr : Pen wr B v ds) (hown : ∀ j, v.ownBlock = some j → B ≤ j)
    (hw1 : Wrote B v (wr.alloc (.cells cs 30)) v' w1) :
    (∀ i, w1.cell? ⟨wr.heap.size, i, none⟩ = cs[i]?) ∧ Below B w w1 ∧ (∀ j, v'.ownBlock = some j → B ≤ j) ∧ wr.heap.size < w1.heap.size := by
  have hlt := hpr.lt
  have hsz : wr.heap.size < w1.heap.size := by have := hw1.size; simp at this; omega
  refine ⟨fun i => ?_, ?_, ?_, hsz⟩
  · rw [World.cell?_of_block (w := wr.alloc (.cells cs 30)) (hw1.block wr.heap.size (by simp) (by omega) (fun e => by have := hpr.own_lt _ e; omega))]
    simp
  · exact hb.trans (hw1.behind_alloc.below (by omega) (Nat.le_refl _) hown)
  · exact hw1.own_from (by simp; omega) hown

set_option maxHeartbeats 800000 in
set_option maxRecDepth 100000 in
theorem put_any (w : World) (g off len cap : Nat) (its : List It) (hlen : its.length = len) (h50 : len ≤ 50) (hsum : sumS its ≤ 4096) (hat : ItemsAt w g off its) :
    Calls Try.prog 11 #[.slice (some ⟨g, off, none⟩) len cap] w fun e w' => e = .returned (.tuple #[.string ⟨(itemsB its).toArray⟩, .string ⟨(itemsB its).toArray⟩]) ∧ Below w.heap.size w w' := by
  have hbound := itemsB_take_le its hat.lo hat.hi hsum
  have hp0 := Pen.new w
  have HL := Hid.mk hlen
  have HB := Hid.mk hbound
  clear hlen hbound
  go_enter Try.func11, Try.ntmps11
  go_wp2
  go_loopw [5, 7, 12] (fun want _x i wr => ∃ (k : Nat) (v : Value), k ≤ len ∧ i = .int .i64 k ∧ want = .string ⟨(itemsB (its.take k)).toArray⟩ ∧ Pen wr w.heap.size v (itemsB (its.take k)) ∧
      (∀ j, v.ownBlock = some j → w.heap.size ≤ j) ∧ Below w.heap.size w wr) (fun _ _ i _ => len - (intOf i).toNat)
  case atStart => exact ⟨0, _, Nat.zero_le _, rfl, rfl, hp0, by simp [Value.ownBlock], (Below.refl _ _).alloc (Nat.le_refl _) _⟩
  case round =>
    obtain ⟨k, v, hk, rfl, rfl, hpr, hown, hb⟩ := hrel
    clear hp0
    by_cases hlt : k < len
    · have hkt : k < its.length := by rw [HL.out]; exact hlt
      have hatr : ItemsAt wr g off its := hat.carry (hb.block g hat.lt) hb.size
      have hstep := itemsB_take_succ its k hkt
      have hstep2 := sumS_take_succ its k hkt
      have hle1 := sumS_take_le its (k + 1)
      have hle := HB.out k (by omega)
      obtain ⟨it, hit⟩ : ∃ it, it = its[k] := ⟨_, rfl⟩
      have c0 := hatr.kind k hkt
      have c1 := hatr.n k hkt
      have c2 := hatr.s k hkt
      have b0 := hatr.lo k hkt
      have b1 := hatr.hi k hkt
      rw [← hit] at hstep hstep2 c0 c1 c2 b0 b1
      obtain ⟨ds, hds⟩ : ∃ ds, ds = itemsB (its.take k) := ⟨_, rfl⟩
      rw [← hds] at hstep hle hpr
      rw [← hds]
      obtain ⟨q, n, s⟩ := it
      dsimp only at hstep2 c0 c1 c2 b0 b1
      have HS := Hid.mk hstep
      have hs1 : s.size ≤ 4096 := by omega
      have hd1 : ds.length ≤ 4596 := by omega
      have hsz := hb.size
      have hpl := hpr.lt
      clear hstep hit hatr hds hstep2 hle1 hle
      by_cases q0 : q = 0
      · subst q0
        have hq : itemB ⟨0, n, s⟩ = natB n := by simp [itemB]
        rw [hq] at HS
        clear hq
        have hnl := natB_le b1
        go_wp2_with fail
        refine (nat_any _ w.heap.size (wr.heap.size + 1) v ds n b1 ((hpr.alloc _).alloc _) (by omega) (by rw [World.cell?_alloc_at _ _ _ _ (by simp)]; rfl)).mono ?_
        rintro e w1 ⟨rfl, v1, hp1, hw1⟩
        obtain ⟨hx, hb1, hown1, hlt1⟩ := put_step rfl hb hpr hown hw1.behind_alloc
        have hx1 := hx 1
        simp at hx1
        clear hx hw1 hpr hb c0 c1 c2
        go_wp2_with fail
        refine (refNat_any _ n b1).mono ?_
        rintro e w2 ⟨rfl, hb2⟩
        have hp2 := hp1.below hb2
        have hb3 := hb1.trans (hb2.mono hb1.size)
        clear hp1 hb1 hb2 hx1
        go_wp2
        go_roundw
        case rel => exact ⟨k + 1, v1, by omega, by go_num, by rw [HS.out]; exact congrArg Value.string (join_bytes _ _), by rw [HS.out]; exact hp2, hown1, hb3⟩
        case measure => simp [intOf]; omega
      by_cases q1 : q = 1
      · subst q1
        have hq : itemB ⟨1, n, s⟩ = intB n := by simp [itemB]
        rw [hq] at HS
        clear hq
        have hnl := intB_le b0 b1
        go_wp2_with fail
        refine (int_any _ w.heap.size (wr.heap.size + 1) v ds n b0 b1 ((hpr.alloc _).alloc _) (by omega) (by rw [World.cell?_alloc_at _ _ _ _ (by simp)]; rfl)).mono ?_
        rintro e w1 ⟨rfl, v1, hp1, hw1⟩
        obtain ⟨hx, hb1, hown1, hlt1⟩ := put_step rfl hb hpr hown hw1.behind_alloc
        have hx1 := hx 1
        simp at hx1
        clear hx hw1 hpr hb c0 c1 c2
        go_wp2_with fail
        refine (refInt_any _ n b0 b1).mono ?_
        rintro e w2 ⟨rfl, hb2⟩
        have hp2 := hp1.below hb2
        have hb3 := hb1.trans (hb2.mono hb1.size)
        clear hp1 hb1 hb2 hx1
        go_wp2
        go_roundw
        case rel => exact ⟨k + 1, v1, by omega, by go_num, by rw [HS.out]; exact congrArg Value.string (join_bytes _ _), by rw [HS.out]; exact hp2, hown1, hb3⟩
        case measure => simp [intOf]; omega
      by_cases q2 : q = 2
      · subst q2
        have hq : itemB ⟨2, n, s⟩ = s.data.toList := by simp [itemB]
        rw [hq] at HS
        clear hq
        go_wp2_with fail
        refine (raw_any _ w.heap.size v ds s (hpr.alloc _) (by omega)).mono ?_
        rintro e w1 ⟨rfl, v1, hp1, hw1⟩
        obtain ⟨hx, hb1, hown1, hlt1⟩ := put_step rfl hb hpr hown hw1
        have hx2 := hx 2
        simp at hx2
        clear hx hw1 hpr hb c0 c1 c2
        go_wp2
        go_roundw
        case rel => exact ⟨k + 1, v1, by omega, by go_num, by rw [HS.out]; exact congrArg Value.string (join_str _ _), by rw [HS.out]; exact hp1, hown1, hb1⟩
        case measure => simp [intOf]; omega
      by_cases q3 : q = 3
      · subst q3
        have hq : itemB ⟨3, n, s⟩ = textB s := by simp [itemB]
        rw [hq] at HS
        clear hq
        have hnl : (textB s).length ≤ 10 + s.size := by
          have := wide_len (n := s.size) (by omega)
          simp [textB]; omega
        go_wp2_with fail
        refine (text_any _ w.heap.size v ds (wr.heap.size + 1) 0 1 1 [s] rfl ((hpr.alloc _).alloc _) (by simp [textsB]; omega) ?_ (by simp) (by omega) (fun e => by have := hpr.own_lt _ e; omega) (by omega)).mono ?_
        · intro j hj
          have h0 : j = 0 := by simpa using hj
          subst h0
          rw [World.cell?_alloc_at _ _ _ _ (by simp)]
          rfl
        rintro e w1 ⟨rfl, v1, hp1, hw1⟩
        obtain ⟨hx, hb1, hown1, hlt1⟩ := put_step rfl hb hpr hown hw1.behind_alloc
        have hx2 := hx 2
        simp at hx2
        simp only [textsB, List.append_nil] at hp1
        clear hx hw1 hpr hb c0 c1 c2
        go_wp2_with fail
        refine (refText_any _ s (by omega)).mono ?_
        rintro e w2 ⟨rfl, hb2⟩
        have hp2 := hp1.below hb2
        have hb3 := hb1.trans (hb2.mono hb1.size)
        clear hp1 hb1 hb2 hx2
        go_wp2
        go_roundw
        case rel => exact ⟨k + 1, v1, by omega, by go_num, by rw [HS.out]; exact congrArg Value.string (join_bytes _ _), by rw [HS.out]; exact hp2, hown1, hb3⟩
        case measure => simp [intOf]; omega
      have hq : itemB ⟨q, n, s⟩ = [] := by simp [itemB, q0, q1, q2, q3]
      rw [hq, List.append_nil] at HS
      clear hq
      have z0 : (q == 0) = false := by simp [q0]
      have z1 : (q == 1) = false := by simp [q1]
      have z2 : (q == 2) = false := by simp [q2]
      have z3 : (q == 3) = false := by simp [q3]
      go_wp2
      go_roundw
      case rel => exact ⟨k + 1, v, by omega, by go_num, by rw [HS.out], by rw [HS.out]; exact hpr.alloc _, hown, hb.alloc hb.size _⟩
      case measure => simp [intOf]; omega
    · have hkl : k = len := by omega
      rw [hkl, List.take_of_length_le (by rw [HL.out]; exact Nat.le_refl _)] at hpr
      rw [hkl, List.take_of_length_le (by rw [HL.out]; exact Nat.le_refl _)]
      subst hkl
      go_wp2_with fail
      refine (bytes_any _ _ _ _ hpr).mono ?_
      rintro e w1 ⟨rfl, rfl⟩
      go_wp2
      go_ret2
      exact ⟨rfl, hb⟩

set_option maxHeartbeats 800000 in
set_option maxRecDepth 100000 in
theorem put_none (w : World) (a : Option Addr) (cap : Nat) :
    Calls Try.prog 11 #[.slice a 0 cap] w fun e w' => e = .returned (.tuple #[.string ⟨#[]⟩, .string ⟨#[]⟩]) ∧ Below w.heap.size w w' := by
  have hp0 := Pen.new w
  go_enter Try.func11, Try.ntmps11
  go_wp2
  go_loop [5, 12] (fun s i => s = .string ⟨#[]⟩ ∧ i = .int .i64 0) (fun _ _ => 0)
  case atStart => exact ⟨rfl, rfl⟩
  case round =>
    obtain ⟨rfl, rfl⟩ := hrel
    go_wp2_with fail
    refine (bytes_any _ _ _ _ hp0).mono ?_
    rintro e w1 ⟨rfl, h1⟩
    have hb : Below w.heap.size w w1 := by rw [h1]; exact (Below.refl _ _).alloc (Nat.le_refl _) _
    clear h1 hp0
    go_wp2
    go_ret2
    exact ⟨rfl, hb⟩

end Go.Proofs.Ytjenalblcdmpaaa
