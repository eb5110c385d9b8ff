/- A production in a box: what is told of it at each later world. Conditions: none.
ShapeForms answers true. Conditions: the production lies in memory, its texts are no longer than may be.
How a law's row follows from its walk: the call answers true and leaves all that was there. Conditions: the law answers one bool; its parameters can be read. -/
import Derived.Test.YtmnpcpgdhaplaaaRefShape
import Derived.Test.YtmnpcpgdhaplaaaHvPl
import Derived.Test.YtmnpcpgdhaplaaaWake
import Derived.Test.YtmnpcpgdhaplaaaBase
import Derived.ProofKit
import Derived.OpenShut
import Derived.JoinedOf
import Derived.JoinedAt
import Derived.ChangeSame
import Derived.Carry
import Derived.WideKeyArgs
import Derived.ReadAgain
import Derived.ChangeSlices
namespace Go.Proofs.Ytmnpcpgdhaplaaa
open Go Go.RowKit

abbrev prodCells (p : ProdV) : List Value := [.string p.name, .slice p.conds.a p.conds.n p.conds.c, .slice p.acts.a p.acts.n p.acts.c]

/-- A production's box, and what its world keeps. -/
structure PBox (w : World) (p : ProdV) (W0 : World) : Prop where
  below : Below w.heap.size w W0
  box : W0.heap[w.heap.size]? = some (.cells #[.string p.name, .slice p.conds.a p.conds.n p.conds.c, .slice p.acts.a p.acts.n p.acts.c] 25 (0, 0))

theorem pbox (w : World) (p : ProdV) : PBox w p (w.alloc (.cells #[.string p.name, .slice p.conds.a p.conds.n p.conds.c, .slice p.acts.a p.acts.n p.acts.c] 25)) :=
  ⟨(Below.refl w.heap.size w).alloc (Nat.le_refl _) _, heap_alloc_new w _⟩
theorem PBox.next {w W0 W : World} {p : ProdV} (h : PBox w p W0) (hB : Below W0.heap.size W0 W) : PBox w p W := ⟨h.below.trans (hB.mono h.below.size), (hB.block _ (lt_of_block h.box)).trans h.box⟩
theorem PBox.cells {w W0 : World} {p : ProdV} (h : PBox w p W0) : W0.cell? ⟨w.heap.size, 0, none⟩ = some (.string p.name) ∧ W0.cell? ⟨w.heap.size, 1, none⟩ = some (.slice p.conds.a p.conds.n p.conds.c) ∧ W0.cell? ⟨w.heap.size, 2, none⟩ = some (.slice p.acts.a p.acts.n p.acts.c) := prod_cells h.box

end Go.Proofs.Ytmnpcpgdhaplaaa

namespace Go.Proofs.Ytmnpcpgdhaplaaa
open Go Go.RowKit

set_option pp.deepTerms true
set_option pp.maxSteps 1000000
set_option maxRecDepth 100000 in
set_option maxHeartbeats 1600000 in
theorem forms_T (w : World) (p : ProdV) (h : ProdOk 0 w.heap.size w p) (hf : ProdFit p) :
    Calls Try.prog 3 #[.agg #[.string p.name, .slice p.conds.a p.conds.n p.conds.c, .slice p.acts.a p.acts.n p.acts.c]] w fun e w' => e = .returned (.bool true) ∧ Below w.heap.size w w' := by
  have hP0 := pbox w p
  have hhv : ∀ W, Below w.heap.size w W → Calls Try.prog 11 #[.agg #[.string p.name, .slice p.conds.a p.conds.n p.conds.c, .slice p.acts.a p.acts.n p.acts.c]] W fun e w' => (∃ b : Bool, e = .returned (.bool b) ∧ (b = false → Light p)) ∧ Below W.heap.size W w' := fun W hW => heavy_T W 0 w.heap.size p (h.keep (KeepIn.of_below hW (Nat.le_refl _))) hW.size
  have hsh : ∀ W, Below w.heap.size w W → Light p → Calls Try.prog 13 #[.agg #[.string p.name, .slice p.conds.a p.conds.n p.conds.c, .slice p.acts.a p.acts.n p.acts.c]] W fun e w' => e = .returned (.tuple #[.int .i64 (shapeP p).1, .int .i64 (shapeP p).2]) ∧ Below W.heap.size W w' := fun W hW hl =>
    shape_T W 0 w.heap.size p (h.keep (KeepIn.of_below hW (Nat.le_refl _))) hW.size hl.sizes.1 hl.sizes.2.1
  have hrs : ∀ W, Below w.heap.size w W → Light p → Calls Try.prog 14 #[.agg #[.string p.name, .slice p.conds.a p.conds.n p.conds.c, .slice p.acts.a p.acts.n p.acts.c]] W fun e w' => e = .returned (.tuple #[.int .i64 (shapeP p).1, .int .i64 (shapeP p).2]) ∧ Below W.heap.size W w' := fun W hW hl =>
    refshape_T W 0 w.heap.size p (h.keep (KeepIn.of_below hW (Nat.le_refl _))) hW.size hl.sizes.1 hl.sizes.2.1 hf
  have Hsh := Lib.hid hsh
  have Hrs := Lib.hid hrs
  have Hhv := Lib.hid hhv
  clear hsh hrs h hhv
  go_enter Try.func3, Try.ntmps3
  go_wp2_with fail
  generalize (w.alloc (.cells #[.string p.name, .slice p.conds.a p.conds.n p.conds.c, .slice p.acts.a p.acts.n p.acts.c] 25)) = W0 at hP0 ⊢
  refine (Hhv.out W0 hP0.below).mono ?_
  rintro e w1 ⟨⟨b, rfl, hb⟩, hB1⟩
  have hP1 := hP0.next hB1
  have Hb := Lib.hid hb
  clear hb
  cases b
  case true =>
    go_wp2_with fail
    refine (wakes_T w1).mono ?_
    rintro e w2 ⟨rfl, hB2⟩
    go_wp2_with fail
    go_ret
    exact ⟨rfl, (hP1.next hB2).below⟩
  have hl := Hb.out (by trivial)
  obtain ⟨c0, c1, c2⟩ := hP1.cells
  go_wp2_with fail
  refine (Hsh.out w1 hP1.below hl).mono ?_
  rintro e w2 ⟨rfl, hB2⟩
  have hP2 := hP1.next hB2
  clear c0 c1 c2
  obtain ⟨c0, c1, c2⟩ := hP2.cells
  go_wp2_with fail
  refine (Hrs.out w2 hP2.below hl).mono ?_
  rintro e w3 ⟨rfl, hB3⟩
  have hP3 := hP2.next hB3
  go_wp2_with fail
  refine (wakes_T w3).mono ?_
  rintro e w4 ⟨rfl, hB4⟩
  go_wp2_with fail
  go_ret
  exact ⟨rfl, (hP3.next hB4).below⟩

end Go.Proofs.Ytmnpcpgdhaplaaa

namespace Go.Proofs.Ytmnpcpgdhaplaaa
open Go Go.RowKit Go.ChangeShapes Go.WideShapes Go.ChangeAt

section
variable {H : Type} {enc : TypeId × Value → H} {P : Program}

theorem trodAll_stays (hl : laidOutB P = true) {W W' : World} {sp : Nat → Bool} : ∀ {ts : List TypeId} {vs : List Value} {ds : List (DataW H)} {ps : List MemPlace},
    (∀ t ∈ ts, P.readableRec t = true ∧ t < P.types.size) → DataW.TrodAll enc P W 0 (fun _ => true) true ts vs ds ps → (∀ p ∈ ps, W.sameAt W' p) → (∀ p ∈ ps, sp p.block = true) → DataW.TrodAll enc P W' 0 sp true ts vs ds ps
  | [], _, _, _, _, h, _, _ => by
    obtain ⟨rfl, rfl, rfl⟩ := trodAll_nil h
    exact trodAll_mk0
  | t :: ts, _, _, _, hr, h, hsame, hs => by
    obtain ⟨v, vs, d, ds, p, q, rfl, rfl, rfl, h0, h1⟩ := trodAll_cons h
    exact trodAll_cons_mk (WideElems.Trod_stays hl (hr t (by simp)).1 (hr t (by simp)).2 h0 (fun x hx => hsame x (by simp [hx])) (fun x hx => hs x (by simp [hx])))
      (trodAll_stays hl (fun t' ht' => hr t' (by simp [ht'])) h1 (fun x hx => hsame x (by simp [hx])) (fun x hx => hs x (by simp [hx])))

/-- What the row asks behind the call. -/
theorem law_post {f : Func} {s : ChangeSpec} {W W' : World} {args : Array Value} {ds gs : List (DataW H)} {before : List MemPlace} {tb : TypeId}
    (hl : laidOutB P = true) (hrd : ∀ t ∈ f.params.toList, P.readableRec t = true ∧ t < P.types.size) (hr : f.resultTypes = #[tb]) (htb : P.underlying tb = some .bool) (hvars : s.vars = [])
    (hW : DataW.Whole enc P f.params.toList s.vars false W args.toList ds gs before) (hs : s.fn H (ds ++ gs) = { results := [.lit (.bool true)], args := ds }) (hB : Below W.heap.size W W') :
    s.post enc P f false true false false W args (.bool true) W' := by
  have hlt : ∀ p ∈ before, p.block < W.heap.size := fun p hp => hW.lt p hp
  have hW' := hW
  obtain ⟨p, q, hA, hV, rfl, -, -⟩ := hW
  rw [hvars] at hV
  obtain ⟨rfl, rfl⟩ := trodVars_none hV
  refine ⟨ds, [], p ++ [], [], p, [], hW', ?_, ?_, ?_, ?_, fun h => by cases h⟩
  · rw [hs, hr]
    exact ⟨[], [], ⟨1, by simp [DataW.trod, Value.cells, htb]⟩, rfl, rfl⟩
  · rw [hs]
    exact trodAll_stays hl hrd hA (fun x hx => hB.same (hlt x (by simp [hx]))) (fun x hx => by simpa using hlt x (by simp [hx]))
  · rw [hs, hvars]
    rfl
  · exact World.keptBut_mono (fun x hx => ⟨hx, .inr (.inl (by simpa using hx))⟩) (hB.frame (· ∈ p ++ []))
end

theorem own : ownKnob Try.prog.godebug = none := by kernel_rfl
theorem laidOut : laidOutB Try.prog = true := by kernel_rfl

end Go.Proofs.Ytmnpcpgdhaplaaa
