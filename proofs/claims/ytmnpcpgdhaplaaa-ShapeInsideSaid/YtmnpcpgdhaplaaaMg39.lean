/- What ShapeInside answers. Conditions: none.
How a law's row follows from its walk: the call answers true and leaves all that was there. Conditions: the law answers one bool; its parameters can be read.
ShapeInside returns true, whatever it is given, and what it is given reads as it did. Conditions: none. -/
import Derived.Test.YtmnpcpgdhaplaaaIns00
import Derived.Test.YtmnpcpgdhaplaaaIns01
import Derived.Test.YtmnpcpgdhaplaaaIns02
import Derived.Test.YtmnpcpgdhaplaaaIns03
import Derived.Test.YtmnpcpgdhaplaaaIns10
import Derived.Test.YtmnpcpgdhaplaaaIns11
import Derived.Test.YtmnpcpgdhaplaaaIns12
import Derived.Test.YtmnpcpgdhaplaaaIns13
import Derived.Test.YtmnpcpgdhaplaaaIns20
import Derived.Test.YtmnpcpgdhaplaaaIns21
import Derived.Test.YtmnpcpgdhaplaaaIns22
import Derived.Test.YtmnpcpgdhaplaaaIns23
import Derived.Test.YtmnpcpgdhaplaaaMg1
import Derived.ProofKit
import Derived.OpenShut
import Derived.JoinedOf
import Derived.JoinedAt
import Derived.ChangeSame
import Derived.Carry
import Derived.WideKeyArgs
import Derived.ReadAgain
import Derived.ChangeSlices
import Derived.Test.YtmnpcpgdhaplaaaRows
namespace Go.Proofs.Ytmnpcpgdhaplaaa
open Go Go.RowKit

theorem inside_T (w : World) (a b : Int) : Calls Try.prog 10 #[.int .i64 a, .int .i64 b] w fun e w' => e = .returned (.bool true) ∧ Below w.heap.size w w' := by
  obtain ⟨h1, h2⟩ := wm_lt a 3 (by decide)
  obtain ⟨h3, h4⟩ := wm_lt b 4 (by decide)
  have h5 : wm a 3 = 0 ∨ wm a 3 = 1 ∨ wm a 3 = 2 := by omega
  have h6 : wm b 4 = 0 ∨ wm b 4 = 1 ∨ wm b 4 = 2 ∨ wm b 4 = 3 := by omega
  rcases h5 with h5 | h5 | h5 <;> rcases h6 with h6 | h6 | h6 | h6
  · exact ins_00 w a b h5 h6
  · exact ins_01 w a b h5 h6
  · exact ins_02 w a b h5 h6
  · exact ins_03 w a b h5 h6
  · exact ins_10 w a b h5 h6
  · exact ins_11 w a b h5 h6
  · exact ins_12 w a b h5 h6
  · exact ins_13 w a b h5 h6
  · exact ins_20 w a b h5 h6
  · exact ins_21 w a b h5 h6
  · exact ins_22 w a b h5 h6
  · exact ins_23 w a b h5 h6

end Go.Proofs.Ytmnpcpgdhaplaaa

namespace Go.Proofs.Ytmnpcpgdhaplaaa
open Go Go.RowKit Go.ChangeShapes Go.WideShapes Go.ChangeAt

section
variable {H : Type} {enc : TypeId × Value → H} {P : Program}

theorem trodAll_stays (hl : laidOutB P = true) {W W' : World} {sp : Nat → Bool} : ∀ {ts : List TypeId} {vs : List Value} {ds : List (DataW H)} {ps : List MemPlace},
    (∀ t ∈ ts, P.readableRec t = true ∧ t < P.types.size) → DataW.TrodAll enc P W 0 (fun _ => true) true ts vs ds ps → (∀ p ∈ ps, W.sameAt W' p) → (∀ p ∈ ps, sp p.block = true) → DataW.TrodAll enc P W' 0 sp true ts vs ds ps
  | [], _, _, _, _, h, _, _ => by
    obtain ⟨rfl, rfl, rfl⟩ := trodAll_nil h
    exact trodAll_mk0
  | t :: ts, _, _, _, hr, h, hsame, hs => by
    obtain ⟨v, vs, d, ds, p, q, rfl, rfl, rfl, h0, h1⟩ := trodAll_cons h
    exact trodAll_cons_mk (WideElems.Trod_stays hl (hr t (by simp)).1 (hr t (by simp)).2 h0 (fun x hx => hsame x (by simp [hx])) (fun x hx => hs x (by simp [hx])))
      (trodAll_stays hl (fun t' ht' => hr t' (by simp [ht'])) h1 (fun x hx => hsame x (by simp [hx])) (fun x hx => hs x (by simp [hx])))

/-- What the row asks behind the call. -/
theorem law_post {f : Func} {s : ChangeSpec} {W W' : World} {args : Array Value} {ds gs : List (DataW H)} {before : List MemPlace} {tb : TypeId}
    (hl : laidOutB P = true) (hrd : ∀ t ∈ f.params.toList, P.readableRec t = true ∧ t < P.types.size) (hr : f.resultTypes = #[tb]) (htb : P.underlying tb = some .bool) (hvars : s.vars = [])
    (hW : DataW.Whole enc P f.params.toList s.vars false W args.toList ds gs before) (hs : s.fn H (ds ++ gs) = { results := [.lit (.bool true)], args := ds }) (hB : Below W.heap.size W W') :
    s.post enc P f false true false false W args (.bool true) W' := by
  have hlt : ∀ p ∈ before, p.block < W.heap.size := fun p hp => hW.lt p hp
  have hW' := hW
  obtain ⟨p, q, hA, hV, rfl, -, -⟩ := hW
  rw [hvars] at hV
  obtain ⟨rfl, rfl⟩ := trodVars_none hV
  refine ⟨ds, [], p ++ [], [], p, [], hW', ?_, ?_, ?_, ?_, fun h => by cases h⟩
  · rw [hs, hr]
    exact ⟨[], [], ⟨1, by simp [DataW.trod, Value.cells, htb]⟩, rfl, rfl⟩
  · rw [hs]
    exact trodAll_stays hl hrd hA (fun x hx => hB.same (hlt x (by simp [hx]))) (fun x hx => by simpa using hlt x (by simp [hx]))
  · rw [hs, hvars]
    rfl
  · exact World.keptBut_mono (fun x hx => ⟨hx, .inr (.inl (by simpa using hx))⟩) (hB.frame (· ∈ p ++ []))
end

theorem own : ownKnob Try.prog.godebug = none := by kernel_rfl
theorem laidOut : laidOutB Try.prog = true := by kernel_rfl

end Go.Proofs.Ytmnpcpgdhaplaaa

namespace Go.Proofs.Ytmnpcpgdhaplaaa
open Go Go.RowKit Go.ChangeShapes Go.WideShapes Go.ChangeAt

set_option maxRecDepth 100000 in
theorem inside_lifted (os : Os) (started : os.Started) (H : Type) (enc : TypeId × Value → H) :
    ReturnsInHanded {} Try.checked os 10 .any (Rows.shapeInsideSpec.pre6 enc Try.prog Try.f10 Rows.shapeInsideRow.domain false)
      (Rows.shapeInsideSpec.post enc Try.prog Try.f10 false true false false) := by
  refine returnsInHanded_of_change (C := Try.checked) own started (by kernel_rfl) Try.func10
    (ChangeSpec.witness6 (enc := enc) (C := Try.checked) false ⟨#[], #[.int .i64 0, .int .i64 0], []⟩ 8 (by kernel_rfl) (by kernel_rfl) (by kernel_rfl) (by kernel_rfl)) ?_
  intro W base args ds gs before hval0 hW _ _
  have hval : ∀ (j : Nat) t v, Try.f10.params[j]? = some t → args[j]? = some v → Value.okWide Try.prog W .any base t v := hval0
  have hW' := hW
  obtain ⟨p, q, hA0, hV, -, -, -⟩ := hW
  have hA : DataW.TrodAll enc Try.prog W 0 (fun _ => true) true Try.f10.params.toList args.toList ds p := hA0
  rw [Try.params10] at hA hval
  obtain ⟨v0, vs, d0, ds0, p0, q0, hargs, rfl, rfl, h0, hr⟩ := trodAll_cons hA
  obtain ⟨v1, vs1, d1, ds1, p1, q1, rfl, rfl, rfl, h1, hr1⟩ := trodAll_cons hr
  obtain ⟨rfl, rfl, rfl⟩ := trodAll_nil hr1
  obtain rfl : args = #[v0, v1] := by cases args; simp_all
  obtain ⟨rfl, rfl⟩ := trodVars_none hV
  obtain ⟨n0, rfl, -, -, -⟩ := open_int (k := .i64) Try.underlying3 (hval 0 3 v0 rfl rfl) h0
  obtain ⟨n1, rfl, -, -, -⟩ := open_int (k := .i64) Try.underlying3 (hval 1 3 v1 rfl rfl) h1
  refine (inside_T W n0 n1).mono fun e W' ⟨he, hB⟩ => ?_
  subst he
  exact ⟨_, rfl, law_post laidOut (by rw [Try.params10]; decide +kernel) (by kernel_rfl) Try.underlying4 rfl hW' rfl hB⟩

set_option maxRecDepth 100000 in
theorem inside_holds : Rows.ShapeInsideSaid :=
  OpenClaim.holds_of_wide 10 Try.f10 rfl rfl rfl rfl rfl rfl rfl ⟨rfl, rfl, rfl, rfl, rfl⟩ rfl rfl rfl rfl rfl (by kernel_rfl) Try.func10 (by kernel_rfl)
    (of_decide_eq_true (by kernel_rfl)) (by unfold Func.isWrapper; first | (rw [if_pos (by decide +kernel)]; kernel_rfl) | (rw [if_neg (by decide +kernel)]; exact ⟨rfl, rfl⟩))
    (fun os started H enc _ => inside_lifted os started H enc)

end Go.Proofs.Ytmnpcpgdhaplaaa
