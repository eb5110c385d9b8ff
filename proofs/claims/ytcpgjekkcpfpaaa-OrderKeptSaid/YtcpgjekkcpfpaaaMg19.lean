/- What New of a set answers. Conditions: the list lies in memory; at most 700000 members.
What == and != of two symbols answer. Conditions: none.
How a law's row follows from its walk: the call answers true and leaves all that was there. Conditions: the law answers one bool; its parameters can be read. -/
import Derived.Test.YtcpgjekkcpfpaaaMg18
import Derived.Test.YtcpgjekkcpfpaaaBase
import Derived.Laws.StructEq
import Derived.ProofKit
import Derived.OpenShut
import Derived.JoinedOf
import Derived.JoinedAt
import Derived.ChangeSame
import Derived.Carry
import Derived.WideKeyArgs
import Derived.ReadAgain
import Derived.ChangeSlices
namespace Go.Proofs.Ytcpgjekkcpfpaaa.S
open Go Go.RowKit

/-- The values xs lie one behind the other in block b, from off on. -/
def Elems (w : World) (b off : Nat) (xs : List SymV) : Prop := ∀ i x, xs[i]? = some x → w.cell? ⟨b, off + i * 3, none⟩ = some (.int .i64 x.k) ∧ w.cell? ⟨b, off + i * 3 + 1, none⟩ = some (.string x.t) ∧ w.cell? ⟨b, off + i * 3 + 2, none⟩ = some (.int .i64 x.n)

/-- v is a slice of the values xs. -/
def SliceOf (w : World) (v : Value) (xs : List SymV) : Prop :=
  ∃ a cap, v = .slice a xs.length cap ∧ (xs = [] ∨ ∃ b off, a = some ⟨b, off, none⟩ ∧ Elems w b off xs)

theorem Elems.below {w w' : World} {b off : Nat} {xs : List SymV} (h : Elems w b off xs) {B : Nat} (hB : Below B w w') (hb : b < B) : Elems w' b off xs := by
  intro i x hx
  have h0 := h i x hx
  simp only [← hB.cell (p := ⟨b, _, none⟩) hb] at h0
  exact h0

theorem SliceOf.below {w w' : World} {v : Value} {xs : List SymV} (h : SliceOf w v xs) (hB : Below w.heap.size w w') : SliceOf w' v xs := by
  obtain ⟨a, cap, rfl, h⟩ := h
  refine ⟨a, cap, rfl, ?_⟩
  rcases h with h | ⟨b, off, rfl, h⟩
  · exact .inl h
  · cases xs with
    | nil => exact .inl rfl
    | cons x xs =>
      refine .inr ⟨b, off, rfl, h.below hB ?_⟩
      exact World.block_lt_of_cell? w _ (h 0 x rfl).1

theorem putl_length (xs l : List SymV) : (xs.foldl (put symCmp) l).length ≤ l.length + xs.length := by
  induction xs generalizing l with
  | nil => simp
  | cons x xs ih =>
    have := ih (put symCmp l x)
    have := length_put symCmp l x
    simp; omega

set_option maxHeartbeats 800000 in
theorem new_T (w : World) (v : Value) (xs : List SymV) (h : SliceOf w v xs) (hs : xs.length ≤ 700000) :
    Calls Try.prog 15 #[v] w fun e w' => ∃ s, e = .returned (.pointer (some ⟨s, 0, none⟩)) ∧ w.heap.size ≤ s ∧ SetAt w' s (xs.foldl (put symCmp) []) ∧ Below w.heap.size w w' := by
  obtain ⟨a, cap, rfl, hc⟩ := h
  have hB0 : Below w.heap.size w (w.alloc (.cells #[.pointer none] 61)) := (Below.refl _ w).alloc (Nat.le_refl _) _
  have hS0 : SetAt (w.alloc (.cells #[.pointer none] 61)) w.heap.size [] := ⟨.nil, none, heap_alloc_new w _, rfl, rfl, List.Pairwise.nil⟩
  have HS0 := Lib.hid hS0
  clear hS0
  go_enter Try.func15, Try.ntmps15
  go_wp2_with fail
  go_loopg [10] xs.length (fun k i wr => ∃ j : Nat, i = .int .i64 j ∧ j ≤ xs.length ∧ Hid (k = xs.length - j) ∧ Hid (SetAt wr w.heap.size ((xs.take j).foldl (put symCmp) [])) ∧ Below w.heap.size w wr)
  case atStart => exact ⟨0, rfl, by omega, Lib.hid rfl, HS0, hB0⟩
  case round =>
    obtain ⟨j, rfl, hj, Hk, HS, hB⟩ := hrel
    by_cases hlt : j < xs.length
    · rcases hc with rfl | ⟨b, off, rfl, hel⟩
      · simp at hlt
      · obtain ⟨x, hx⟩ : ∃ x, xs[j]? = some x := ⟨xs[j], by simp [hlt]⟩
        have hm := hel j x hx
        have hm1 := (hel.below hB (World.block_lt_of_cell? w _ hm.1)) j x hx
        have Hx := Lib.hid hx
        clear hx hm
        have hB1 : Below wr.heap.size wr (wr.alloc (.cells #[.int .i64 x.k, .string x.t, .int .i64 x.n] 27)) := (Below.refl _ wr).alloc (Nat.le_refl _) _
        have hlen : ((xs.take j).foldl (put symCmp) []).length ≤ 800000 := by have := putl_length (xs.take j) []; simp at this; omega
        go_wp2_with fail
        refine (put_T _ _ _ x (HS.out.below hB1) hlen).mono ?_
        rintro e w2 ⟨rfl, hS2, hb2⟩
        have HS2 := Lib.hid hS2
        clear hS2
        go_wp2_with fail
        go_roundg (xs.length - (j + 1))
        case measure => rw [Hk.out]; omega
        case rel =>
          refine ⟨j + 1, by go_num, by omega, Lib.hid rfl, Lib.hid ?_, below_but (hB.trans (hB1.mono hB.size)) hb2 (Nat.le_refl _) (Nat.le_trans hB.size hB1.size)⟩
          have e : xs.take (j + 1) = xs.take j ++ [x] := by rw [List.take_add_one, Hx.out]; rfl
          rw [e, List.foldl_append]
          exact HS2.out
    · obtain rfl : j = xs.length := by omega
      have hs' := HS.out
      rw [List.take_length] at hs'
      have HS' := Lib.hid hs'
      clear hs'
      go_wp2_with fail
      go_ret
      exact ⟨w.heap.size, rfl, Nat.le_refl _, HS'.out, hB⟩

end Go.Proofs.Ytcpgjekkcpfpaaa.S

namespace Go.Proofs.Ytcpgjekkcpfpaaa
open Go Go.RowKit

theorem toList_inj {a b : ByteArray} (h : a.toList = b.toList) : a = b := by
  rw [ByteArray.toList_eq, ByteArray.toList_eq] at h
  cases a; cases b; simp_all

/-- Are all three fields the same? -/
def same (x y : SymV) : Bool := x.k == y.k && (x.t.toList == y.t.toList && x.n == y.n)

theorem same_iff {x y : SymV} : same x y = true ↔ x = y := by
  simp only [same, Bool.and_eq_true, beq_iff_eq]
  constructor
  · rintro ⟨h1, h2, h3⟩
    have := toList_inj h2
    cases x; cases y; simp_all
  · rintro rfl; simp

theorem sym_under : Try.prog.underlying 27 = some (.struct (Try.prog.fieldsOf 27)) := by kernel_rfl
theorem sym_held : Try.prog.stoodInHeld 27 = false := by kernel_rfl
theorem sym_guard : Try.prog.eqGuardType Try.prog.depth 27 = false := by kernel_rfl

theorem sym_equal (x y : SymV) (w : World) : (Op.equalIn 10000 27 (.agg #[.int .i64 x.k, .string x.t, .int .i64 x.n]) (.agg #[.int .i64 y.k, .string y.t, .int .i64 y.n])).run Try.prog w = .ok (same x y) w := by
  rw [run_equalIn_struct _ 9999 _ _ _ sym_under sym_held]
  simp only [Program.fieldsOf, Try.underlying27]
  simp [go_sem, Op.eqFields]
  by_cases h1 : x.k = y.k <;> by_cases h2 : x.t.toList = y.t.toList <;> by_cases h3 : x.n = y.n <;> simp [same, h1, h2, h3]

theorem sym_equal' (k k' n n' : Int) (t t' : ByteArray) (w : World) : (Op.equalIn 10000 27 (.agg #[.int .i64 k, .string t, .int .i64 n]) (.agg #[.int .i64 k', .string t', .int .i64 n'])).run Try.prog w = .ok (same ⟨k, t, n⟩ ⟨k', t', n'⟩) w := sym_equal ⟨k, t, n⟩ ⟨k', t', n'⟩ w
theorem sym_eql (k k' n n' : Int) (t t' : ByteArray) (w : World) : (binOp .eql 27 (.agg #[.int .i64 k, .string t, .int .i64 n]) (.agg #[.int .i64 k', .string t', .int .i64 n'])).run Try.prog w = .ok (.bool (same ⟨k, t, n⟩ ⟨k', t', n'⟩)) w := by
  rw [run_eql_struct, sym_equal ⟨k, t, n⟩ ⟨k', t', n'⟩ w]; rfl
theorem sym_neq (k k' n n' : Int) (t t' : ByteArray) (w : World) : (binOp .neq 27 (.agg #[.int .i64 k, .string t, .int .i64 n]) (.agg #[.int .i64 k', .string t', .int .i64 n'])).run Try.prog w = .ok (.bool (!same ⟨k, t, n⟩ ⟨k', t', n'⟩)) w := by
  rw [run_neq_struct, sym_equal ⟨k, t, n⟩ ⟨k', t', n'⟩ w]; rfl
end Go.Proofs.Ytcpgjekkcpfpaaa

namespace Go.Proofs.Ytcpgjekkcpfpaaa
open Go Go.RowKit Go.ChangeShapes Go.WideShapes Go.ChangeAt

section
variable {H : Type} {enc : TypeId × Value → H} {P : Program}

theorem trodAll_stays (hl : laidOutB P = true) {W W' : World} {sp : Nat → Bool} : ∀ {ts : List TypeId} {vs : List Value} {ds : List (DataW H)} {ps : List MemPlace},
    (∀ t ∈ ts, P.readableRec t = true ∧ t < P.types.size) → DataW.TrodAll enc P W 0 (fun _ => true) true ts vs ds ps → (∀ p ∈ ps, W.sameAt W' p) → (∀ p ∈ ps, sp p.block = true) → DataW.TrodAll enc P W' 0 sp true ts vs ds ps
  | [], _, _, _, _, h, _, _ => by
    obtain ⟨rfl, rfl, rfl⟩ := trodAll_nil h
    exact trodAll_mk0
  | t :: ts, _, _, _, hr, h, hsame, hs => by
    obtain ⟨v, vs, d, ds, p, q, rfl, rfl, rfl, h0, h1⟩ := trodAll_cons h
    exact trodAll_cons_mk (WideElems.Trod_stays hl (hr t (by simp)).1 (hr t (by simp)).2 h0 (fun x hx => hsame x (by simp [hx])) (fun x hx => hs x (by simp [hx])))
      (trodAll_stays hl (fun t' ht' => hr t' (by simp [ht'])) h1 (fun x hx => hsame x (by simp [hx])) (fun x hx => hs x (by simp [hx])))

/-- What the row asks behind the call. -/
theorem law_post {f : Func} {s : ChangeSpec} {W W' : World} {args : Array Value} {ds gs : List (DataW H)} {before : List MemPlace} {tb : TypeId}
    (hl : laidOutB P = true) (hrd : ∀ t ∈ f.params.toList, P.readableRec t = true ∧ t < P.types.size) (hr : f.resultTypes = #[tb]) (htb : P.underlying tb = some .bool) (hvars : s.vars = [])
    (hW : DataW.Whole enc P f.params.toList s.vars false W args.toList ds gs before) (hs : s.fn H (ds ++ gs) = { results := [.lit (.bool true)], args := ds }) (hB : Below W.heap.size W W') :
    s.post enc P f false true false false W args (.bool true) W' := by
  have hlt : ∀ p ∈ before, p.block < W.heap.size := fun p hp => hW.lt p hp
  have hW' := hW
  obtain ⟨p, q, hA, hV, rfl, -, -⟩ := hW
  rw [hvars] at hV
  obtain ⟨rfl, rfl⟩ := trodVars_none hV
  refine ⟨ds, [], p ++ [], [], p, [], hW', ?_, ?_, ?_, ?_, fun h => by cases h⟩
  · rw [hs, hr]
    exact ⟨[], [], ⟨1, by simp [DataW.trod, Value.cells, htb]⟩, rfl, rfl⟩
  · rw [hs]
    exact trodAll_stays hl hrd hA (fun x hx => hB.same (hlt x (by simp [hx]))) (fun x hx => by simpa using hlt x (by simp [hx]))
  · rw [hs, hvars]
    rfl
  · exact World.keptBut_mono (fun x hx => ⟨hx, .inr (.inl (by simpa using hx))⟩) (hB.frame (· ∈ p ++ []))
end

theorem own : ownKnob Try.prog.godebug = none := by kernel_rfl
theorem laidOut : laidOutB Try.prog = true := by kernel_rfl

end Go.Proofs.Ytcpgjekkcpfpaaa
