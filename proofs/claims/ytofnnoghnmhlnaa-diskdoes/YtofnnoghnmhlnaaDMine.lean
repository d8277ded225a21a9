/-
  A disk of the law's own: all its blocks are new ones; a script done to it.
-/
import Derived.Test.YtofnnoghnmhlnaaDDoes
namespace Go.Proofs.Ytofnnoghnmhlnaa
open Go.RowKit

/-- The disk in block b has these changes done, and these wait; it lies at B or behind it, and all below B is as it was. -/
structure Mine (B : Nat) (w0 w : World) (b : Nat) (v : Value) (dn ws : List Ch) : Prop where
  has : Has w b v dn ws
  le : B ≤ b
  own : ∀ k, v.ownBlock = some k → B ≤ k
  below : Below B w0 w

section
variable {B : Nat} {w0 w w' : World} {b : Nat} {v v' : Value} {dn ws dn' ws' : List Ch}

theorem Mine.lo (h : Mine B w0 w b v dn ws) : B ≤ w.heap.size := Nat.le_trans h.le (Nat.le_of_lt h.has.lt)

theorem Mine.step (h : Mine B w0 w b v dn ws) (h1 : Has w' b v' dn' ws') (hw : Wrote b v w v' w') : Mine B w0 w' b v' dn' ws' :=
  ⟨h1, h.le, hw.own_from h.lo h.own, h.below.trans (hw.below h.lo h.le h.own)⟩

theorem Mine.grow (h : Mine B w0 w b v dn ws) (hb : Below w.heap.size w w') : Mine B w0 w' b v dn ws :=
  ⟨h.has.grown hb, h.le, h.own, h.below.trans (hb.mono h.lo)⟩

theorem Mine.alloc (h : Mine B w0 w b v dn ws) (o : Obj) : Mine B w0 (w.alloc o) b v dn ws := h.grow ((Below.refl _ _).alloc (Nat.le_refl _) _)

end

theorem Mine.new {B : Nat} {w0 w : World} (hb : Below B w0 w) (hB : B ≤ w.heap.size) :
    Mine B w0 (w.alloc (.cells #[.string ⟨#[]⟩, .string ⟨#[]⟩, .string ⟨#[]⟩, .string ⟨#[]⟩, .slice none 0 0] 52)) w.heap.size (.slice none 0 0) [] [] :=
  ⟨Has.new w, hB, by simp [Value.ownBlock], hb.alloc hB _⟩

/-- What a script makes of a disk. -/
def runs : List Cl → List Ch → List Ch → Res
  | [], dn, ws => ⟨0, dn, ws⟩
  | c :: r, dn, ws => runs r (step c dn ws).dn (step c dn ws).ws

theorem runs_append (a r : List Cl) : ∀ dn ws, runs (a ++ r) dn ws = runs r (runs a dn ws).dn (runs a dn ws).ws := by
  induction a with
  | nil => intro dn ws; rfl
  | cons c a ih => intro dn ws; exact ih _ _

theorem runs_take_succ (l : List Cl) (k : Nat) (h : k < l.length) (dn ws : List Ch) :
    (runs (l.take (k + 1)) dn ws).dn = (step l[k] (runs (l.take k) dn ws).dn (runs (l.take k) dn ws).ws).dn ∧ (runs (l.take (k + 1)) dn ws).ws = (step l[k] (runs (l.take k) dn ws).dn (runs (l.take k) dn ws).ws).ws := by
  rw [List.take_succ_eq_append_getElem h, runs_append]
  exact ⟨rfl, rfl⟩

theorem runs_ws (l : List Cl) : ∀ dn ws, (runs l dn ws).ws.length ≤ ws.length + l.length := by
  induction l with
  | nil => intro dn ws; exact Nat.le_refl _
  | cons c r ih =>
    intro dn ws
    have h1 := ih (step c dn ws).dn (step c dn ws).ws
    have h2 := step_ws c dn ws
    simp only [runs, List.length_cons]
    omega

theorem IsCls.at_ {w : World} {a : Option Addr} {len cap : Nat} {cs : List Cl} (h : IsCls w a len cap cs) (k : Nat) (hk : k < len) : ∃ g off, a = some ⟨g, off, none⟩ ∧ ClsAt w g off cs := by
  obtain ⟨hl, ⟨rfl, _⟩ | ⟨g, off, e, hat⟩⟩ := h
  · simp at hl; omega
  · exact ⟨g, off, e, hat⟩

/-- All that a round of a script's loop asks. -/
theorem round_facts {w0 wr : World} {g off len : Nat} {cs : List Cl} (hat : ClsAt w0 g off cs) (hlen : cs.length = len) (hb : Below w0.heap.size w0 wr) (hsum : sumS cs ≤ 32768) (k : Nat) (hk : k < len) :
    ∃ c : Cl, wr.cell? ⟨g, off + k * 5, none⟩ = some (.int .i64 c.kind) ∧ wr.cell? ⟨g, off + k * 5 + 1, none⟩ = some (.int .i64 c.area) ∧ wr.cell? ⟨g, off + k * 5 + 2, none⟩ = some (.string c.s) ∧
      wr.cell? ⟨g, off + k * 5 + 3, none⟩ = some (.int .i64 c.keep) ∧ wr.cell? ⟨g, off + k * 5 + 4, none⟩ = some (.int .i64 c.part) ∧ c.s.size ≤ 32768 ∧ cs.take (k + 1) = cs.take k ++ [c] ∧
      (∀ dn ws, (runs (cs.take (k + 1)) dn ws).dn = (step c (runs (cs.take k) dn ws).dn (runs (cs.take k) dn ws).ws).dn) ∧ (∀ dn ws, (runs (cs.take (k + 1)) dn ws).ws = (step c (runs (cs.take k) dn ws).dn (runs (cs.take k) dn ws).ws).ws) := by
  have hkt : k < cs.length := by rw [hlen]; exact hk
  have hatr : ClsAt wr g off cs := hat.carry (hb.block g hat.lt) hb.size
  exact ⟨cs[k], hatr.kind k hkt, hatr.area k hkt, hatr.s k hkt, hatr.keep k hkt, hatr.part k hkt, Nat.le_trans (sumS_get cs k hkt) hsum, List.take_succ_eq_append_getElem hkt,
    fun dn ws => (runs_take_succ cs k hkt dn ws).1, fun dn ws => (runs_take_succ cs k hkt dn ws).2⟩

theorem runs_len {cs : List Cl} {len : Nat} (hlen : cs.length = len) (h60 : len ≤ 60) (k : Nat) : (runs (cs.take k) [] []).ws.length ≤ 60 := by
  have h1 := runs_ws (cs.take k) [] []
  have h2 : (cs.take k).length ≤ cs.length := by rw [List.length_take]; omega
  simp at h1
  omega

end Go.Proofs.Ytofnnoghnmhlnaa
