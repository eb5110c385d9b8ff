/- A list of symbols that a law is given lies in memory. Conditions: the list can be read.
What the statements' Before, Has, below and Syms answer. Conditions: the lists lie in memory; at most 100000 symbols. -/
import Derived.Test.YtcpgjekkcpfpaaaMg19
import Derived.Deep.Slices
import Derived.WalkLawsBesides
import Derived.WalkSpells
import Derived.Deep.LoopGhost
namespace Go.Proofs.Ytcpgjekkcpfpaaa.S
open Go Go.RowKit Go.ChangeShapes Go.WideShapes Go.ChangeAt Go.Deep

noncomputable def fld (i : Nat) : Field := (Try.prog.fieldsOf 27)[i]!
theorem fld_under : Try.prog.underlying 27 = some (.struct #[fld 0, fld 1, fld 2]) := by kernel_rfl
theorem fld_offs : ((fld 0).offset, (fld 1).offset, (fld 2).offset) = (0, 1, 2) := by kernel_rfl
theorem fld_cells : (Try.prog.cellsOf (fld 0).type, Try.prog.cellsOf (fld 1).type, Try.prog.cellsOf (fld 2).type) = (1, 1, 1) := by kernel_rfl
theorem fld_t0 : Try.prog.underlying (fld 0).type = some (.int .i64) := by kernel_rfl
theorem fld_t1 : Try.prog.underlying (fld 1).type = some .string := by kernel_rfl
theorem fld_t2 : Try.prog.underlying (fld 2).type = some (.int .i64) := by kernel_rfl
theorem cells_sym : Try.prog.cellsOf 27 = 3 := by kernel_rfl

set_option maxRecDepth 100000 in
theorem open_sym {H : Type} {enc : TypeId × Value → H} {W : World} {base : Nat} {sp : Nat → Bool} {hd : Bool} {n : Nat} {a : Addr} {cs : List Value} {x : DataW H × List MemPlace}
    (h1 : W.cells? base a 3 = some cs) (h2 : DataW.trod enc Try.prog W base sp hd n 27 cs = some x) :
    ∃ y : SymV, W.cell? a = some (.int .i64 y.k) ∧ W.cell? (a.add 1) = some (.string y.t) ∧ W.cell? (a.add 2) = some (.int .i64 y.n) := by
  obtain ⟨_, hlen, hcell⟩ := World.cells?_some h1
  obtain ⟨xs, k, hk, hxy, _, hxl, hf⟩ := DataW.trod_struct fld_under h2
  have ho := fld_offs
  have hc := fld_cells
  simp only [Prod.mk.injEq] at ho hc
  match xs, hxl, cs, hlen with
  | [y0, y1, y2], _, [v0, v1, v2], _ =>
    have g0 := hf 0 (fld 0) rfl
    have g1 := hf 1 (fld 1) rfl
    have g2 := hf 2 (fld 2) rfl
    simp [ho.1, ho.2.1, ho.2.2, hc.1, hc.2.1, hc.2.2] at g0 g1 g2
    have e0 := hcell 0 (by omega)
    have e1 := hcell 1 (by omega)
    have e2 := hcell 2 (by omega)
    obtain ⟨z0, q0, -⟩ := DataW.trod_int fld_t0 g0
    obtain ⟨z1, q1, -⟩ := DataW.trod_string fld_t1 g1
    obtain ⟨z2, q2, -⟩ := DataW.trod_int fld_t2 g2
    simp only [List.cons.injEq, and_true] at q0 q1 q2
    subst q0 q1 q2
    exact ⟨⟨z0, z1, z2⟩, by simpa [Addr.add] using e0, by simpa using e1, by simpa using e2⟩

set_option maxRecDepth 100000 in
theorem open_syms {H : Type} {enc : TypeId × Value → H} {W : World} {v : Value} {d : DataW H} {ps : List MemPlace} (hval : Value.okWide Try.prog W .any 0 58 v)
    (h : DataW.Trod enc Try.prog W 0 (fun _ => true) true 58 v d ps) : ∃ xs, SliceOf W v xs := by
  obtain ⟨a0, len, cap, rfl⟩ := okWide_slice Try.underlying58 hval
  obtain ⟨fuel, hf⟩ := h
  rcases open_slice Try.underlying58 hf with ⟨hcs, -⟩ | ⟨a, len', cap', m, n, D, Pl, hcs, _, hl, -, hm, -, hx⟩
  · simp [Value.cells] at hcs
    obtain ⟨rfl, rfl, rfl⟩ := hcs
    exact ⟨[], none, 0, rfl, .inl rfl⟩
  · simp [Value.cells] at hcs
    obtain ⟨rfl, rfl, rfl⟩ := hcs
    simp only [if_true] at hm
    subst hm
    rw [cells_sym] at hx
    have each : ∀ i, i < m → ∃ y : SymV, W.cell? (a.add (i * 3)) = some (.int .i64 y.k) ∧ W.cell? ((a.add (i * 3)).add 1) = some (.string y.t) ∧ W.cell? ((a.add (i * 3)).add 2) = some (.int .i64 y.n) := fun i hi => by
      obtain ⟨cs', h1, h2⟩ := hx i hi
      exact open_sym h1 h2
    haveI : Inhabited SymV := ⟨⟨0, ⟨#[]⟩, 0⟩⟩
    obtain ⟨q, hq⟩ := choose_lt each
    have hlen : ((List.range len).map q).length = len := by simp
    refine ⟨(List.range len).map q, some a, m, by rw [hlen], ?_⟩
    by_cases h0 : len = 0
    · exact .inl (by subst h0; simp)
    · obtain ⟨b, off, spot⟩ := a
      obtain rfl : spot = none := by simpa [Addr.add] using World.cell?_spot (hq 0 (by omega)).1
      refine .inr ⟨b, off, rfl, fun i x hx => ?_⟩
      have hi : i < len := by have := (List.getElem?_eq_some_iff.1 hx).1; simpa using this
      have e := hq i (by omega)
      rw [show q i = x by simpa [List.getElem?_map, List.getElem?_range hi] using hx] at e
      simp only [add_plain] at e
      exact e

end Go.Proofs.Ytcpgjekkcpfpaaa.S

namespace Go.Proofs.Ytcpgjekkcpfpaaa.S
open Go Go.RowKit

theorem scmp_exact : Exact scmp := by
  intro a b
  constructor
  · intro h
    unfold scmp at h
    rcases List.lt_trichotomy' a.toList b.toList with h1 | h1 | h1
    · simp [h1] at h
    · exact toList_inj h1
    · simp [h1, List.lt_asymm h1] at h
  · rintro rfl; exact scmp_lin.refl a

theorem symCmp_exact : Exact symCmp := by
  intro a b
  constructor
  · intro h
    unfold symCmp lex at h
    split at h
    · rename_i h1; exact absurd h h1
    · rename_i h1
      split at h
      · rename_i h2; exact absurd h h2
      · rename_i h2
        have e1 := (icmp_zero).1 (by simpa using h1)
        have e2 := (scmp_exact _ _).1 (by simpa using h2)
        have e3 := (icmp_zero).1 h
        cases a; cases b; simp_all
  · rintro rfl; exact symCmp_lin.refl a

theorem icmp_neg {a b : Int} : icmp a b < 0 ↔ a < b := by unfold icmp; split <;> (try split) <;> omega
theorem scmp_neg {a b : ByteArray} : scmp a b < 0 ↔ Op.bytesLess a.toList b.toList = true := by
  rw [bytesLess_eq, decide_eq_true_iff]
  unfold scmp
  rcases List.lt_trichotomy' a.toList b.toList with h1 | h1 | h1
  · simp [h1]
  · simp [h1, List.lt_irrefl]
  · simp [h1, List.lt_asymm h1]

theorem below_k {x y : SymV} (h : ¬ x.k = y.k) : decide (x.k < y.k) = decide (symCmp x y < 0) := by
  rw [symCmp_k (fun e => h (icmp_zero.1 e))]; simp [icmp_neg]
theorem below_t {x y : SymV} (h : x.k = y.k) (h' : ¬ x.t = y.t) : Op.bytesLess x.t.toList y.t.toList = decide (symCmp x y < 0) := by
  rw [symCmp_t (icmp_zero.2 h) (fun e => h' ((scmp_exact _ _).1 e)), Bool.eq_iff_iff, decide_eq_true_iff]; exact scmp_neg.symm
theorem below_n {x y : SymV} (h : x.k = y.k) (h' : x.t = y.t) : decide (x.n < y.n) = decide (symCmp x y < 0) := by
  rw [symCmp_n (icmp_zero.2 h) ((scmp_exact _ _).2 h')]; simp [icmp_neg]

set_option maxHeartbeats 800000 in
theorem before_T (w : World) (x y : SymV) : Calls Try.prog 40 #[.agg #[.int .i64 x.k, .string x.t, .int .i64 x.n], .agg #[.int .i64 y.k, .string y.t, .int .i64 y.n]] w fun e w' => e = .returned (.bool (decide (symCmp x y < 0))) ∧ Below w.heap.size w w' := by
  by_cases hk : x.k = y.k
  · have Hk := Lib.hid hk
    have Hk1 : (x.k != y.k) = false := by simp [hk]
    clear hk
    by_cases ht : x.t = y.t
    · have Ht := Lib.hid ht
      have Ht1 : (x.t.toList == y.t.toList) = true := by simp [ht]
      clear ht
      go_enter Try.func40, Try.ntmps40
      go_wp2_with fail
      go_ret
      exact ⟨by rw [← below_n Hk.out Ht.out]; rfl, boxes2 w x y⟩
    · have Ht := Lib.hid ht
      have Ht1 : (x.t.toList == y.t.toList) = false := by simpa using fun e => ht (toList_inj e)
      clear ht
      go_enter Try.func40, Try.ntmps40
      go_wp2_with fail
      go_ret
      exact ⟨by rw [← below_t Hk.out Ht.out]; rfl, boxes2 w x y⟩
  · have Hk := Lib.hid hk
    have Hk1 : (x.k != y.k) = true := by simp [hk]
    clear hk
    go_enter Try.func40, Try.ntmps40
    go_wp2_with fail
    go_ret
    exact ⟨by rw [← below_k Hk.out]; rfl, boxes2 w x y⟩

theorem memo_below {w w' : World} {B b o : Nat} {x : SymV} (hB : Below B w w') (hb : b < B) (h : w.cell? ⟨b, o, none⟩ = some (.int .i64 x.k) ∧ w.cell? ⟨b, o + 1, none⟩ = some (.string x.t) ∧ w.cell? ⟨b, o + 2, none⟩ = some (.int .i64 x.n)) : w'.cell? ⟨b, o, none⟩ = some (.int .i64 x.k) ∧ w'.cell? ⟨b, o + 1, none⟩ = some (.string x.t) ∧ w'.cell? ⟨b, o + 2, none⟩ = some (.int .i64 x.n) := by
  obtain ⟨h0, h1, h2⟩ := h
  exact ⟨(hB.cell (p := ⟨b, o, none⟩) hb).trans h0, (hB.cell (p := ⟨b, o + 1, none⟩) hb).trans h1, (hB.cell (p := ⟨b, o + 2, none⟩) hb).trans h2⟩

end Go.Proofs.Ytcpgjekkcpfpaaa.S
