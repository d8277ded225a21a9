/-
  Acts of a law's own beside the document's row of all.
-/
import Derived.Test.YtnjmnbclbjebbaaAcOpen
import Derived.Test.YtnjmnbclbjebbaaAcBack
namespace Go.Proofs.Ytnjmnbclbjebbaa.Ac
open Go.RowKit Go.Deep Go.Proofs.Ytnjmnbclbjebbaa.Cel Go.Proofs.Ytnjmnbclbjebbaa.Dft

set_option maxRecDepth 100000 in
theorem ix0 (w : World) (a b c d : Int) : (Instr.index 33 (.agg #[.int .i64 a, .int .i64 b, .int .i64 c, .int .i64 d]) (.int .i64 0)).run Try.prog w = .ok (.int .i64 a) w := rfl
set_option maxRecDepth 100000 in
theorem ix1 (w : World) (a b c d : Int) : (Instr.index 33 (.agg #[.int .i64 a, .int .i64 b, .int .i64 c, .int .i64 d]) (.int .i64 1)).run Try.prog w = .ok (.int .i64 b) w := rfl
set_option maxRecDepth 100000 in
theorem ix2 (w : World) (a b c d : Int) : (Instr.index 33 (.agg #[.int .i64 a, .int .i64 b, .int .i64 c, .int .i64 d]) (.int .i64 2)).run Try.prog w = .ok (.int .i64 c) w := rfl
set_option maxRecDepth 100000 in
theorem ix3 (w : World) (a b c d : Int) : (Instr.index 33 (.agg #[.int .i64 a, .int .i64 b, .int .i64 c, .int .i64 d]) (.int .i64 3)).run Try.prog w = .ok (.int .i64 d) w := rfl

structure LS (w : World) (b : Nat) (vs : Vs) (v : Value) (all : List A3) (X : World) : Prop where
  at_ : AcAt X b vs (toAS all)
  row : Held X w.heap.size 32 3 v all.length (flat eA all)
  ft : ∀ k, Ft b vs k → w.heap.size ≤ k
  bel : Below w.heap.size w X
  kinds : Kinds all

section
variable {w X Y : World} {b : Nat} {vs vs' : Vs} {v : Value} {all : List A3} {T : AS}

theorem LS.grown (h : LS w b vs v all X) (hb : Below X.heap.size X Y) : LS w b vs v all Y :=
  ⟨h.at_.grown hb, h.row.grown hb, h.ft, h.bel.trans (hb.mono h.bel.size), h.kinds⟩
theorem LS.drew (h : LS w b vs v all X) : LS w b vs v all X.drew := h.grown (Below.refl _ X).drew
theorem LS.past (h : LS w b vs v all X) (o : Obj) : LS w b vs v all (X.alloc o) := h.grown ((Below.refl _ X).alloc (Nat.le_refl _) o)

/-- Rows of acts aren't written by what writes the acts' own rows. -/
theorem acts_kept {F' : Nat → Prop} {B n : Nat} {u : Value} {xs : List Value} (h : AcAt X b vs T) (hr : Held X B 32 3 u n xs) (hw : Wrote (Ft b vs) F' X Y) : Held Y B 32 3 u n xs :=
  hr.carry fun k hk => by
    obtain ⟨cs, hc⟩ := hr.block hk
    exact hw.block k (hr.lt k hk).2 (h.not_ft hc (by decide) (by decide) (by decide) (by decide))

/-- Behind a call that writes them. -/
theorem LS.wrote (h : LS w b vs v all X) (hw : Wrote (Ft b vs) (Ft b vs') X Y) : Held Y w.heap.size 32 3 v all.length (flat eA all) ∧ (∀ k, Ft b vs' k → w.heap.size ≤ k) ∧ Below w.heap.size w Y :=
  ⟨acts_kept h.at_ h.row hw, hw.lo h.bel.size h.ft, h.bel.trans (hw.below h.bel.size h.ft)⟩

theorem LS.no (h : LS w b vs v all X) {x : A3} (hx : ans x = false) (hA : AcAt Y b vs' ((toAS all).add x)) (hw : Wrote (Ft b vs) (Ft b vs') X Y) : LS w b vs' v all Y := by
  obtain ⟨h1, h2, h3⟩ := h.wrote hw
  rw [add_no _ _ hx] at hA
  exact ⟨hA, h1, h2, h3, h.kinds⟩

/-- Between the act and the row's growth. -/
structure LM (w : World) (b : Nat) (vs : Vs) (v : Value) (all : List A3) (T : AS) (X : World) : Prop where
  at_ : AcAt X b vs T
  row : Held X w.heap.size 32 3 v all.length (flat eA all)
  ft : ∀ k, Ft b vs k → w.heap.size ≤ k
  bel : Below w.heap.size w X
  kinds : Kinds all
theorem LS.mid (h : LS w b vs v all X) (hA : AcAt Y b vs' T) (hw : Wrote (Ft b vs) (Ft b vs') X Y) : LM w b vs' v all T Y :=
  ⟨hA, (h.wrote hw).1, (h.wrote hw).2.1, (h.wrote hw).2.2, h.kinds⟩
theorem LM.grown (h : LM w b vs v all T X) (hb : Below X.heap.size X Y) : LM w b vs v all T Y :=
  ⟨h.at_.grown hb, h.row.grown hb, h.ft, h.bel.trans (hb.mono h.bel.size), h.kinds⟩
theorem LM.past (h : LM w b vs v all T X) (o : Obj) : LM w b vs v all T (X.alloc o) := h.grown ((Below.refl _ X).alloc (Nat.le_refl _) o)

/-- The row grew by the act. -/
theorem LM.yes {x : A3} (h : LM w b vs v all ((toAS all).add x) X) (h0 : 0 ≤ x.1) (h3 : x.1 ≤ 3) (hx : ans x = true) {u : Value} 
    (hu : Held Y w.heap.size 32 3 u (all.length + 1) (flat eA all ++ eA x)) (hg : X.grownBy Y v.ownBlock) : LS w b vs u (all ++ [x]) Y := by
  have hA := h.at_
  rw [← toAS_add all x h0 h3 hx] at hA
  refine ⟨hA.carry fun k hk => hg.block k (hA.ft_lt hk) (fun e => ?_), ?_, h.ft, h.bel.grown hg h.bel.size (fun r e => (h.row.lt r e).1), h.kinds.snoc x h0 h3⟩
  · obtain ⟨cs, hc⟩ := h.row.block e.symm
    exact hA.not_ft hc (by decide) (by decide) (by decide) (by decide) hk
  · rw [List.length_append, flat_append, flat_one]
    exact hu

/-- Behind Back, and behind Flush. -/
theorem LM.back {m : Nat → Int} {u : Value} (h : LM w b vs v all ((toAS all).back m) X) (hu : Held X w.heap.size 32 3 u (firstL m all).1.length (flat eA (firstL m all).1)) : LS w b vs u (firstL m all).1 X :=
  ⟨by rw [stay_back]; exact h.at_, hu, h.ft, h.bel, h.kinds.stay m⟩
theorem LM.flush {m : Nat → Int} {u : Value} (h : LM w b vs v all (toAS all).flush X) (h0 : m 0 = all.length) (h1 : m 1 = 0) (h2 : m 2 = 0) (h3 : m 3 = 0) (hu : Held X w.heap.size 32 3 u (firstL m all).2.1.length (flat eA (firstL m all).2.1)) : LS w b vs u (firstL m all).2.1 X :=
  ⟨by rw [gone_flush m all (by rw [h0]; simp) h1 h2 h3]; exact h.at_, hu, h.ft, h.bel, h.kinds.gone m⟩

def mF (a b c d : Int) : Nat → Int := fun i => match i with | 0 => a | 1 => b | 2 => c | _ => d

theorem count_mark (all : List A3) : mA (countL all) = mA (toAS all).mark := by
  unfold mA
  rw [countL_mark all 0 (by decide), countL_mark all 1 (by decide), countL_mark all 2 (by decide), countL_mark all 3 (by decide)]
set_option maxRecDepth 100000 in
theorem mark_same (f : Nat → Int) (w : World) : (Op.equalIn 10000 42 (.agg (mA f)) (.agg (mA f))).run Try.prog w = .ok true w := by
  have := eq_markD 9998 f f w
  rw [decide_eq_true ⟨rfl, rfl, rfl, rfl⟩] at this
  exact this
theorem own_nums {B n : Nat} {u : Value} {l : List Int} (h : X.ownsRow B 3 1 u n (flat eI l)) (hn : n = l.length) : ∃ a cap, u = .slice a n cap ∧ View X eI 1 a n cap l := by
  obtain ⟨a, cap, rfl⟩ := row_shape h
  exact ⟨a, cap, rfl, own_view eI_len h hn⟩
theorem View.num {a : Option Addr} {len cap : Nat} {l : List Int} (h : View X eI 1 a len cap l) (j : Nat) (hj : j < len) : ∃ (hz : j < l.length) (g off : Nat), a = some ⟨g, off, none⟩ ∧ X.cell? ⟨g, off + j, none⟩ = some (.int .i64 l[j]) := by
  obtain ⟨g, off, e, hat⟩ := h.at_ (by omega)
  have hz : j < l.length := by rw [h.1]; exact hj
  have := hat.c j hz 0 _ rfl
  rw [Nat.mul_one] at this
  exact ⟨hz, g, off, e, this⟩
theorem back_opens (m : Nat → Int) (all : List A3) : amendsL ((toAS all).ops.drop (m 3).toNat) = (undoL (firstL m all).2.1).map prOf := by
  rw [← gone_ops]
  exact (undoL_pr _).symm
theorem undo_opens (all : List A3) : amendsL (toAS all).ops = (undoL all).map prOf := (undoL_pr _).symm

/-- A held row, in slice form, that can be read. -/
theorem Held.acts {B : Nat} {u : Value} {l : List A3} (h : Held X B 32 3 u l.length (flat eA l)) : ∃ a cap, u = .slice a l.length cap ∧ View X eA 3 a l.length cap l := by
  obtain ⟨a, cap, e, _⟩ := h.shape
  subst e
  exact ⟨a, cap, rfl, Held.view eA_len h⟩
/-- An own row in slice form, that can be read. -/
theorem own_acts {B : Nat} {u : Value} {l : List A3} (h : X.ownsRow B 32 3 u l.length (flat eA l)) : ∃ a cap, u = .slice a l.length cap ∧ View X eA 3 a l.length cap l := (Held.of_own h).acts
theorem own_actsN {B n : Nat} {u : Value} {l : List A3} (h : X.ownsRow B 32 3 u n (flat eA l)) (hn : n = l.length) : ∃ a cap, u = .slice a n cap ∧ View X eA 3 a n cap l := by
  obtain ⟨a, cap, rfl⟩ := row_shape h
  exact ⟨a, cap, rfl, own_view eA_len h hn⟩
theorem own_opens {B n : Nat} {u : Value} {l : List Pr} (h : X.ownsRow B 56 2 u n (flat eP l)) (hn : n = l.length) : ∃ a cap, u = .slice a n cap ∧ View X eP 2 a n cap l := by
  obtain ⟨a, cap, rfl⟩ := row_shape h
  exact ⟨a, cap, rfl, own_view eP_len h hn⟩
theorem own_outs {B n : Nat} {u : Value} {l : List Pr} (h : X.ownsRow B 59 2 u n (flat eO l)) (hn : n = l.length) : ∃ a cap, u = .slice a n cap ∧ View X eO 2 a n cap l := by
  obtain ⟨a, cap, rfl⟩ := row_shape h
  exact ⟨a, cap, rfl, own_view eO_len h hn⟩
theorem Held.down {B C n size : Nat} {e : TypeId} {u : Value} {xs : List Value} (h : Held X B e size u n xs) (hc : C ≤ B) : Held X C e size u n xs :=
  h.low C fun k hk => Nat.le_trans hc (h.lt k hk).1

/-- A step's box isn't written either. -/
theorem box_kept {F' : Nat → Prop} {C : Nat} {cs : Array Value} (h : AcAt X b vs T) (hx : X.heap[C]? = some (.cells cs 35 (0, 0))) (hw : Wrote (Ft b vs) F' X Y) : Y.heap[C]? = some (.cells cs 35 (0, 0)) :=
  (hw.block C (Array.getElem?_eq_some_iff.1 hx).1 (h.not_ft hx (by decide) (by decide) (by decide) (by decide))).trans hx

theorem LS.len (h : LS w b vs v all X) : ∃ a cap, v = .slice a all.length cap ∧ View X eA 3 a all.length cap all := by
  obtain ⟨a, cap, e, _⟩ := h.row.shape
  have hr := h.row
  rw [e] at hr
  exact ⟨a, cap, e, Held.view eA_len hr⟩

end

end Go.Proofs.Ytnjmnbclbjebbaa.Ac
