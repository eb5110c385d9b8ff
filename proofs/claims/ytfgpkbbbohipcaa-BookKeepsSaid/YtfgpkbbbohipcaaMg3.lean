/- Slices of symbols: where they lie. Conditions: none.
What == and != of two symbols answer. Conditions: none.
How a law's row follows from its walk: the call answers true and leaves all that was there. Conditions: the law answers one bool; its parameters can be read.
A list of symbols that a law is given lies in memory. Conditions: the list can be read. -/
import Derived.Test.YtfgpkbbbohipcaaMg1
import Derived.Laws.StructEq
import Derived.ProofKit
import Derived.OpenShut
import Derived.JoinedOf
import Derived.JoinedAt
import Derived.ChangeSame
import Derived.Carry
import Derived.WideKeyArgs
import Derived.ReadAgain
import Derived.ChangeSlices
import Derived.Deep.Slices
namespace Go.Proofs.Ytfgpkbbbohipcaa.S
open Go Go.RowKit

theorem mem_below {w w' : World} {B b : Nat} {x : SymV} (hB : Below B w w') (hb : b < B) (h : w.cell? ⟨b, 0, none⟩ = some (.int .i64 x.k) ∧ w.cell? ⟨b, 1, none⟩ = some (.string x.t) ∧ w.cell? ⟨b, 2, none⟩ = some (.int .i64 x.n)) : w'.cell? ⟨b, 0, none⟩ = some (.int .i64 x.k) ∧ w'.cell? ⟨b, 1, none⟩ = some (.string x.t) ∧ w'.cell? ⟨b, 2, none⟩ = some (.int .i64 x.n) := by
  simp only [← hB.cell (p := ⟨b, _, none⟩) hb] at h
  exact h

theorem mem_new (w : World) (x : SymV) : (w.alloc (.cells #[.int .i64 x.k, .string x.t, .int .i64 x.n] 26)).cell? ⟨w.heap.size, 0, none⟩ = some (.int .i64 x.k) ∧ (w.alloc (.cells #[.int .i64 x.k, .string x.t, .int .i64 x.n] 26)).cell? ⟨w.heap.size, 1, none⟩ = some (.string x.t) ∧ (w.alloc (.cells #[.int .i64 x.k, .string x.t, .int .i64 x.n] 26)).cell? ⟨w.heap.size, 2, none⟩ = some (.int .i64 x.n) := by
  simp only [World.cell?, heap_alloc_new]
  and_intros <;> rfl

/-- The values xs lie one behind the other in block b, from off on. -/
def Elems (w : World) (b off : Nat) (xs : List SymV) : Prop := ∀ i x, xs[i]? = some x → w.cell? ⟨b, off + i * 3, none⟩ = some (.int .i64 x.k) ∧ w.cell? ⟨b, off + i * 3 + 1, none⟩ = some (.string x.t) ∧ w.cell? ⟨b, off + i * 3 + 2, none⟩ = some (.int .i64 x.n)

/-- v is a slice of the values xs. -/
def SliceOf (w : World) (v : Value) (xs : List SymV) : Prop :=
  ∃ a cap, v = .slice a xs.length cap ∧ (xs = [] ∨ ∃ b off, a = some ⟨b, off, none⟩ ∧ Elems w b off xs)

theorem Elems.below {w w' : World} {b off : Nat} {xs : List SymV} (h : Elems w b off xs) {B : Nat} (hB : Below B w w') (hb : b < B) : Elems w' b off xs := by
  intro i x hx
  have h0 := h i x hx
  simp only [← hB.cell (p := ⟨b, _, none⟩) hb] at h0
  exact h0

theorem SliceOf.below {w w' : World} {v : Value} {xs : List SymV} (h : SliceOf w v xs) (hB : Below w.heap.size w w') : SliceOf w' v xs := by
  obtain ⟨a, cap, rfl, h⟩ := h
  refine ⟨a, cap, rfl, ?_⟩
  rcases h with h | ⟨b, off, rfl, h⟩
  · exact .inl h
  · cases xs with
    | nil => exact .inl rfl
    | cons x xs =>
      refine .inr ⟨b, off, rfl, h.below hB ?_⟩
      exact World.block_lt_of_cell? w _ (h 0 x rfl).1

theorem putl_length (xs l : List SymV) : (xs.foldl (put symCmp) l).length ≤ l.length + xs.length := by
  induction xs generalizing l with
  | nil => simp
  | cons x xs ih =>
    have := ih (put symCmp l x)
    have := length_put symCmp l x
    simp; omega

end Go.Proofs.Ytfgpkbbbohipcaa.S

namespace Go.Proofs.Ytfgpkbbbohipcaa
open Go Go.RowKit

theorem toList_inj {a b : ByteArray} (h : a.toList = b.toList) : a = b := by
  rw [ByteArray.toList_eq, ByteArray.toList_eq] at h
  cases a; cases b; simp_all

/-- Are all three fields the same? -/
def same (x y : SymV) : Bool := x.k == y.k && (x.t.toList == y.t.toList && x.n == y.n)

theorem same_iff {x y : SymV} : same x y = true ↔ x = y := by
  simp only [same, Bool.and_eq_true, beq_iff_eq]
  constructor
  · rintro ⟨h1, h2, h3⟩
    have := toList_inj h2
    cases x; cases y; simp_all
  · rintro rfl; simp

theorem sym_under : Try.prog.underlying 26 = some (.struct (Try.prog.fieldsOf 26)) := by kernel_rfl
theorem sym_held : Try.prog.stoodInHeld 26 = false := by kernel_rfl
theorem sym_guard : Try.prog.eqGuardType Try.prog.depth 26 = false := by kernel_rfl

theorem sym_equal (x y : SymV) (w : World) : (Op.equalIn 10000 26 (.agg #[.int .i64 x.k, .string x.t, .int .i64 x.n]) (.agg #[.int .i64 y.k, .string y.t, .int .i64 y.n])).run Try.prog w = .ok (same x y) w := by
  rw [run_equalIn_struct _ 9999 _ _ _ sym_under sym_held]
  simp only [Program.fieldsOf, Try.underlying26]
  simp [go_sem, Op.eqFields]
  by_cases h1 : x.k = y.k <;> by_cases h2 : x.t.toList = y.t.toList <;> by_cases h3 : x.n = y.n <;> simp [same, h1, h2, h3]

theorem sym_equal' (k k' n n' : Int) (t t' : ByteArray) (w : World) : (Op.equalIn 10000 26 (.agg #[.int .i64 k, .string t, .int .i64 n]) (.agg #[.int .i64 k', .string t', .int .i64 n'])).run Try.prog w = .ok (same ⟨k, t, n⟩ ⟨k', t', n'⟩) w := sym_equal ⟨k, t, n⟩ ⟨k', t', n'⟩ w
theorem sym_eql (k k' n n' : Int) (t t' : ByteArray) (w : World) : (binOp .eql 26 (.agg #[.int .i64 k, .string t, .int .i64 n]) (.agg #[.int .i64 k', .string t', .int .i64 n'])).run Try.prog w = .ok (.bool (same ⟨k, t, n⟩ ⟨k', t', n'⟩)) w := by
  rw [run_eql_struct, sym_equal ⟨k, t, n⟩ ⟨k', t', n'⟩ w]; rfl
theorem sym_neq (k k' n n' : Int) (t t' : ByteArray) (w : World) : (binOp .neq 26 (.agg #[.int .i64 k, .string t, .int .i64 n]) (.agg #[.int .i64 k', .string t', .int .i64 n'])).run Try.prog w = .ok (.bool (!same ⟨k, t, n⟩ ⟨k', t', n'⟩)) w := by
  rw [run_neq_struct, sym_equal ⟨k, t, n⟩ ⟨k', t', n'⟩ w]; rfl
end Go.Proofs.Ytfgpkbbbohipcaa

namespace Go.Proofs.Ytfgpkbbbohipcaa
open Go Go.RowKit Go.ChangeShapes Go.WideShapes Go.ChangeAt

section
variable {H : Type} {enc : TypeId × Value → H} {P : Program}

theorem trodAll_stays (hl : laidOutB P = true) {W W' : World} {sp : Nat → Bool} : ∀ {ts : List TypeId} {vs : List Value} {ds : List (DataW H)} {ps : List MemPlace},
    (∀ t ∈ ts, P.readableRec t = true ∧ t < P.types.size) → DataW.TrodAll enc P W 0 (fun _ => true) true ts vs ds ps → (∀ p ∈ ps, W.sameAt W' p) → (∀ p ∈ ps, sp p.block = true) → DataW.TrodAll enc P W' 0 sp true ts vs ds ps
  | [], _, _, _, _, h, _, _ => by
    obtain ⟨rfl, rfl, rfl⟩ := trodAll_nil h
    exact trodAll_mk0
  | t :: ts, _, _, _, hr, h, hsame, hs => by
    obtain ⟨v, vs, d, ds, p, q, rfl, rfl, rfl, h0, h1⟩ := trodAll_cons h
    exact trodAll_cons_mk (WideElems.Trod_stays hl (hr t (by simp)).1 (hr t (by simp)).2 h0 (fun x hx => hsame x (by simp [hx])) (fun x hx => hs x (by simp [hx])))
      (trodAll_stays hl (fun t' ht' => hr t' (by simp [ht'])) h1 (fun x hx => hsame x (by simp [hx])) (fun x hx => hs x (by simp [hx])))

/-- What the row asks behind the call. -/
theorem law_post {f : Func} {s : ChangeSpec} {W W' : World} {args : Array Value} {ds gs : List (DataW H)} {before : List MemPlace} {tb : TypeId}
    (hl : laidOutB P = true) (hrd : ∀ t ∈ f.params.toList, P.readableRec t = true ∧ t < P.types.size) (hr : f.resultTypes = #[tb]) (htb : P.underlying tb = some .bool) (hvars : s.vars = [])
    (hW : DataW.Whole enc P f.params.toList s.vars false W args.toList ds gs before) (hs : s.fn H (ds ++ gs) = { results := [.lit (.bool true)], args := ds }) (hB : Below W.heap.size W W') :
    s.post enc P f false true false false W args (.bool true) W' := by
  have hlt : ∀ p ∈ before, p.block < W.heap.size := fun p hp => hW.lt p hp
  have hW' := hW
  obtain ⟨p, q, hA, hV, rfl, -, -⟩ := hW
  rw [hvars] at hV
  obtain ⟨rfl, rfl⟩ := trodVars_none hV
  refine ⟨ds, [], p ++ [], [], p, [], hW', ?_, ?_, ?_, ?_, fun h => by cases h⟩
  · rw [hs, hr]
    exact ⟨[], [], ⟨1, by simp [DataW.trod, Value.cells, htb]⟩, rfl, rfl⟩
  · rw [hs]
    exact trodAll_stays hl hrd hA (fun x hx => hB.same (hlt x (by simp [hx]))) (fun x hx => by simpa using hlt x (by simp [hx]))
  · rw [hs, hvars]
    rfl
  · exact World.keptBut_mono (fun x hx => ⟨hx, .inr (.inl (by simpa using hx))⟩) (hB.frame (· ∈ p ++ []))
end

theorem own : ownKnob Try.prog.godebug = none := by kernel_rfl
theorem laidOut : laidOutB Try.prog = true := by kernel_rfl

end Go.Proofs.Ytfgpkbbbohipcaa

namespace Go.Proofs.Ytfgpkbbbohipcaa.S
open Go Go.RowKit Go.ChangeShapes Go.WideShapes Go.ChangeAt Go.Deep

noncomputable def fld (i : Nat) : Field := (Try.prog.fieldsOf 26)[i]!
theorem fld_under : Try.prog.underlying 26 = some (.struct #[fld 0, fld 1, fld 2]) := by kernel_rfl
theorem fld_offs : ((fld 0).offset, (fld 1).offset, (fld 2).offset) = (0, 1, 2) := by kernel_rfl
theorem fld_cells : (Try.prog.cellsOf (fld 0).type, Try.prog.cellsOf (fld 1).type, Try.prog.cellsOf (fld 2).type) = (1, 1, 1) := by kernel_rfl
theorem fld_t0 : Try.prog.underlying (fld 0).type = some (.int .i64) := by kernel_rfl
theorem fld_t1 : Try.prog.underlying (fld 1).type = some .string := by kernel_rfl
theorem fld_t2 : Try.prog.underlying (fld 2).type = some (.int .i64) := by kernel_rfl
theorem cells_sym : Try.prog.cellsOf 26 = 3 := by kernel_rfl

set_option maxRecDepth 100000 in
theorem open_sym {H : Type} {enc : TypeId × Value → H} {W : World} {base : Nat} {sp : Nat → Bool} {hd : Bool} {n : Nat} {a : Addr} {cs : List Value} {x : DataW H × List MemPlace}
    (h1 : W.cells? base a 3 = some cs) (h2 : DataW.trod enc Try.prog W base sp hd n 26 cs = some x) :
    ∃ y : SymV, W.cell? a = some (.int .i64 y.k) ∧ W.cell? (a.add 1) = some (.string y.t) ∧ W.cell? (a.add 2) = some (.int .i64 y.n) := by
  obtain ⟨_, hlen, hcell⟩ := World.cells?_some h1
  obtain ⟨xs, k, hk, hxy, _, hxl, hf⟩ := DataW.trod_struct fld_under h2
  have ho := fld_offs
  have hc := fld_cells
  simp only [Prod.mk.injEq] at ho hc
  match xs, hxl, cs, hlen with
  | [y0, y1, y2], _, [v0, v1, v2], _ =>
    have g0 := hf 0 (fld 0) rfl
    have g1 := hf 1 (fld 1) rfl
    have g2 := hf 2 (fld 2) rfl
    simp [ho.1, ho.2.1, ho.2.2, hc.1, hc.2.1, hc.2.2] at g0 g1 g2
    have e0 := hcell 0 (by omega)
    have e1 := hcell 1 (by omega)
    have e2 := hcell 2 (by omega)
    obtain ⟨z0, q0, -⟩ := DataW.trod_int fld_t0 g0
    obtain ⟨z1, q1, -⟩ := DataW.trod_string fld_t1 g1
    obtain ⟨z2, q2, -⟩ := DataW.trod_int fld_t2 g2
    simp only [List.cons.injEq, and_true] at q0 q1 q2
    subst q0 q1 q2
    exact ⟨⟨z0, z1, z2⟩, by simpa [Addr.add] using e0, by simpa using e1, by simpa using e2⟩

set_option maxRecDepth 100000 in
theorem open_syms {H : Type} {enc : TypeId × Value → H} {W : World} {v : Value} {d : DataW H} {ps : List MemPlace} (hval : Value.okWide Try.prog W .any 0 29 v)
    (h : DataW.Trod enc Try.prog W 0 (fun _ => true) true 29 v d ps) : ∃ xs, SliceOf W v xs := by
  obtain ⟨a0, len, cap, rfl⟩ := okWide_slice Try.underlying29 hval
  obtain ⟨fuel, hf⟩ := h
  rcases open_slice Try.underlying29 hf with ⟨hcs, -⟩ | ⟨a, len', cap', m, n, D, Pl, hcs, _, hl, -, hm, -, hx⟩
  · simp [Value.cells] at hcs
    obtain ⟨rfl, rfl, rfl⟩ := hcs
    exact ⟨[], none, 0, rfl, .inl rfl⟩
  · simp [Value.cells] at hcs
    obtain ⟨rfl, rfl, rfl⟩ := hcs
    simp only [if_true] at hm
    subst hm
    rw [cells_sym] at hx
    have each : ∀ i, i < m → ∃ y : SymV, W.cell? (a.add (i * 3)) = some (.int .i64 y.k) ∧ W.cell? ((a.add (i * 3)).add 1) = some (.string y.t) ∧ W.cell? ((a.add (i * 3)).add 2) = some (.int .i64 y.n) := fun i hi => by
      obtain ⟨cs', h1, h2⟩ := hx i hi
      exact open_sym h1 h2
    haveI : Inhabited SymV := ⟨⟨0, ⟨#[]⟩, 0⟩⟩
    obtain ⟨q, hq⟩ := choose_lt each
    have hlen : ((List.range len).map q).length = len := by simp
    refine ⟨(List.range len).map q, some a, m, by rw [hlen], ?_⟩
    by_cases h0 : len = 0
    · exact .inl (by subst h0; simp)
    · obtain ⟨b, off, spot⟩ := a
      obtain rfl : spot = none := by simpa [Addr.add] using World.cell?_spot (hq 0 (by omega)).1
      refine .inr ⟨b, off, rfl, fun i x hx => ?_⟩
      have hi : i < len := by have := (List.getElem?_eq_some_iff.1 hx).1; simpa using this
      have e := hq i (by omega)
      rw [show q i = x by simpa [List.getElem?_map, List.getElem?_range hi] using hx] at e
      simp only [add_plain] at e
      exact e

end Go.Proofs.Ytfgpkbbbohipcaa.S
