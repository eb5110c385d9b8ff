/- What passAll of a scope does. Conditions: the scope, the conditions lie in memory; at most 4000 variables and tests.
What the statements' own Size answers. Conditions: the conditions lie in memory; at most 100000.
Texts of a production that are no longer than may be, plainly. Conditions: none. -/
import Derived.Test.YtmnpcpgdhaplaaaScPass
import Derived.Test.YtmnpcpgdhaplaaaShShape
import Derived.Test.YtmnpcpgdhaplaaaMg10
namespace Go.Proofs.Ytmnpcpgdhaplaaa
open Go Go.RowKit

set_option pp.deepTerms true
set_option pp.maxSteps 1000000
set_option maxRecDepth 100000 in
set_option maxHeartbeats 3200000 in
theorem passAll_T (lo hi : Nat) : ∀ (k : Nat) (cs : List CondV), sizeL cs ≤ k → ∀ (w : World) (s : Nat) (K : List ByteArray) (sl : SlH) (z : Int), Sc w s K → K.length + wtL cs ≤ 4000 → CondsOk lo hi w sl cs → hi ≤ s → 0 ≤ z → z + sizeL cs ≤ 100000 →
    Calls Try.prog 76 #[.agg #[.pointer (some ⟨s, 0, none⟩)], .slice sl.a sl.n sl.c, .int .i64 z] w (PassPost w s (passL K z cs)) := by
  intro k
  induction k using Nat.strongRecOn with
  | _ k ih =>
  intro cs hk w s K sl z h hK hC hhi hz hzb
  have hB0 := boxSc w s
  have hb0 := heap_alloc_new w (.cells #[.pointer (some ⟨s, 0, none⟩)] 85)
  have h0 := h.below hB0
  have hlt := h.lt
  have hC0 := hC.keep (KeepIn.of_below hB0 (by omega))
  obtain ⟨a, m, cp⟩ := sl
  obtain rfl : m = cs.length := hC.1.1
  have hsl := sizeL_le cs
  rcases hC.1.2 with rfl | ⟨b, off, hlo, hhi2, ha, -⟩
  · go_enter Try.func76, Try.ntmps76
    go_wp2_with fail
    generalize (w.alloc (.cells #[.pointer (some ⟨s, 0, none⟩)] 85)) = W0 at hB0 hb0 h0 ⊢
    go_loopg [2, 14] 0 (fun k pv iv wr => pv = .int .i64 z ∧ iv = .int .i64 0 ∧ wr = W0)
    case atStart => exact ⟨rfl, rfl, rfl⟩
    case round =>
      obtain ⟨rfl, rfl, rfl⟩ := hrel
      go_wp2_with fail
      go_ret2
      exact ⟨by rw [passL_nil]; rfl, by rw [passL_nil]; exact h0, But.of_below hB0⟩
  replace ha : a = some ⟨b, off, none⟩ := ha
  subst ha
  clear hC h
  go_enter Try.func76, Try.ntmps76
  go_wp2_with fail
  generalize (w.alloc (.cells #[.pointer (some ⟨s, 0, none⟩)] 85)) = W0 at hB0 hb0 h0 hC0 ⊢
  have HC := Lib.hid hC0
  clear hC0
  have hsz0 := lt_of_block hb0
  have hpl := fun j => pass_place (sizeL (cs.take j)) (cs.take j) (Nat.le_refl _) K z
  go_loopg [2, 14] cs.length (fun k pv iv wr => ∃ (j : Nat) (zj : Int), pv = .int .i64 zj ∧ iv = .int .i64 j ∧ j ≤ cs.length ∧ Hid (k = cs.length - j ∧ (passL K z (cs.take j)).2.2 = true ∧ zj = (passL K z (cs.take j)).2.1) ∧ Hid (Sc wr s (passL K z (cs.take j)).1) ∧ But s W0 wr)
  case atStart => exact ⟨0, z, rfl, rfl, by omega, Lib.hid ⟨rfl, by simp [passL_nil], by simp [passL_nil]⟩, Lib.hid (by simpa [passL_nil] using h0), But.refl _ _⟩
  case round =>
    obtain ⟨j, zj, rfl, rfl, hj, Hm, HS, hb⟩ := hrel
    have hbs := hb.size
    have qb := (hb.block w.heap.size hsz0 (by omega)).trans hb0
    have q0 := cell_of_one qb
    by_cases hltj : j < cs.length
    · obtain ⟨c, hc⟩ : ∃ c, cs[j]? = some c := ⟨cs[j], by simp [hltj]⟩
      have hCw := HC.out.keep (KeepIn.of_but hb hhi)
      obtain ⟨b', off', -, -, hsa, hcell⟩ := hCw.1.at hc
      obtain ⟨rfl, rfl⟩ : b = b' ∧ off = off' := by simpa using hsa
      have c0 : wr.cell? ⟨b, off + j * 7, none⟩ = _ := hcell 0 _ rfl
      have c1 := hcell 1 _ rfl
      have c2 := hcell 2 _ rfl
      have c3 := hcell 3 _ rfl
      have c4 := hcell 4 _ rfl
      have c5 := hcell 5 _ rfl
      have c6 := hcell 6 _ rfl
      have hcmem : c ∈ cs := List.mem_of_getElem? hc
      have hszc := sizeL_mem hcmem
      have hBc : Below wr.heap.size wr (wr.alloc (.cells #[.int .i64 c.h.kind, .bool c.h.goal, .string c.h.id, .slice c.h.attr.a c.h.attr.n c.h.attr.c, .slice c.h.value.a c.h.value.n c.h.value.c, .bool c.h.acc, .slice c.h.conds.a c.h.conds.n c.h.conds.c] 64)) := boxC wr c
      have hcb := heap_alloc_new wr (.cells #[.int .i64 c.h.kind, .bool c.h.goal, .string c.h.id, .slice c.h.attr.a c.h.attr.n c.h.attr.c, .slice c.h.value.a c.h.value.n c.h.value.c, .bool c.h.acc, .slice c.h.conds.a c.h.conds.n c.h.conds.c] 64)
      have hS1 := HS.out.below hBc
      have hok := (condOkL_iff.1 hCw.2 c hcmem).keep (KeepIn.of_below hBc (by omega))
      have htake : cs.take (j + 1) = cs.take j ++ [c] := by rw [List.take_add_one, hc]; rfl
      have hwt : wtL (cs.take j) + c.wt ≤ wtL cs := by
        have h1 := wtL_take_le cs (j + 1)
        rw [htake, wtL_append, wtL_cons] at h1
        omega
      have hszt : sizeL (cs.take j) + (1 + sizeL c.inner) ≤ sizeL cs := by
        have h1 := sizeL_append (cs.take (j + 1)) (cs.drop (j + 1))
        rw [List.take_append_drop, htake, sizeL_append, sizeL_cons] at h1
        omega
      have hlen := passL_le K z (cs.take j)
      have hpj := hpl j
      have hzj := Hm.out.2.2
      have hpass := pass_T (wr.alloc (.cells #[.int .i64 c.h.kind, .bool c.h.goal, .string c.h.id, .slice c.h.attr.a c.h.attr.n c.h.attr.c, .slice c.h.value.a c.h.value.n c.h.value.c, .bool c.h.acc, .slice c.h.conds.a c.h.conds.n c.h.conds.c] 64)) lo hi s (passL K z (cs.take j)).1 c zj hS1 (by omega) hok hhi (by omega) (by omega)
        (fun w' s' K' z' g1 g2 g3 g4 g5 g6 => ih (sizeL c.inner) (by omega) c.inner (Nat.le_refl _) w' s' K' c.h.conds z' g1 g2 g3 g4 g5 g6)
      have hnx : passL K z (cs.take (j + 1)) = passC (passL K z (cs.take j)).1 zj c := by
        rw [htake, passL_append, Hm.out.2.1, if_pos rfl, passL_cons, passL_nil, ← hzj]
        cases h2 : (passC (passL K z (cs.take j)).1 zj c).2.2
        · simp
        · rw [if_pos rfl]
          generalize passC (passL K z (cs.take j)).1 zj c = r at h2
          obtain ⟨r1, r2, r3⟩ := r
          simp only at h2
          rw [h2]
      have hall : passL K z cs = if (passL K z (cs.take (j + 1))).2.2 then passL (passL K z (cs.take (j + 1))).1 (passL K z (cs.take (j + 1))).2.1 (cs.drop (j + 1)) else passL K z (cs.take (j + 1)) := by
        rw [← passL_append, List.take_append_drop]
      have hbx : But s W0 (wr.alloc (.cells #[.int .i64 c.h.kind, .bool c.h.goal, .string c.h.id, .slice c.h.attr.a c.h.attr.n c.h.attr.c, .slice c.h.value.a c.h.value.n c.h.value.c, .bool c.h.acc, .slice c.h.conds.a c.h.conds.n c.h.conds.c] 64)) := hb.trans (But.of_below hBc)
      have qb1 := (hBc.block _ (by omega)).trans qb
      have q1 := cell_of_one qb1
      obtain ⟨r0, r1, r2, r3, r4, r5, r6⟩ := cond_cells hcb
      have Hnx := Lib.hid hnx
      have Hall := Lib.hid hall
      have Hbx := Lib.hid hbx
      have Hp := Lib.hid hpass
      clear hpass hnx hall hbx hcell hsa hok hCw hc hpj hzj
      cases hok2 : (passC (passL K z (cs.take j)).1 zj c).2.2
      · have Hok := Lib.hid hok2
        have hp2 := Hp.out
        unfold PassPost at hp2
        rw [hok2] at hp2
        go_wp2_with fail
        refine hp2.mono ?_
        rintro e w2 ⟨rfl, hS2, hb2⟩
        go_wp2_with fail
        go_ret2
        have e1 : passL K z cs = passC (passL K z (cs.take j)).1 zj c := by rw [Hall.out, Hnx.out, Hok.out]; rfl
        exact ⟨by rw [e1, Hok.out]; rfl, by rw [e1]; exact hS2, (But.of_below hB0).trans (Hbx.out.trans hb2)⟩
      · have Hok := Lib.hid hok2
        have hp2 := Hp.out
        unfold PassPost at hp2
        rw [hok2] at hp2
        go_wp2_with fail
        refine hp2.mono ?_
        rintro e w2 ⟨rfl, hS2, hb2⟩
        go_wp2_with fail
        go_roundg (cs.length - (j + 1))
        case measure => rw [Hm.out.1]; omega
        case rel => exact ⟨j + 1, _, rfl, by go_num, by omega, Lib.hid ⟨rfl, by rw [Hnx.out, Hok.out], by rw [Hnx.out]⟩, Lib.hid (by rw [Hnx.out]; exact hS2), Hbx.out.trans hb2⟩
    · obtain rfl : j = cs.length := by omega
      rw [List.take_length] at Hm HS
      go_wp2_with fail
      go_ret2
      exact ⟨by rw [← Hm.out.2.2, Hm.out.2.1]; rfl, HS.out, (But.of_below hB0).trans hb⟩

end Go.Proofs.Ytmnpcpgdhaplaaa

namespace Go.Proofs.Ytmnpcpgdhaplaaa
open Go Go.RowKit

theorem sizeL_take {cs : List CondV} {j : Nat} {c : CondV} (h : cs[j]? = some c) : sizeL (cs.take (j + 1)) = sizeL (cs.take j) + (1 + sizeL c.inner) ∧ sizeL (cs.take (j + 1)) ≤ sizeL cs := by
  have htake : cs.take (j + 1) = cs.take j ++ [c] := by rw [List.take_add_one, h]; rfl
  have h1 := sizeL_append (cs.take (j + 1)) (cs.drop (j + 1))
  rw [List.take_append_drop] at h1
  refine ⟨?_, by omega⟩
  rw [htake, sizeL_append, sizeL_cons]
  simp [sizeL]

set_option pp.deepTerms true
set_option pp.maxSteps 1000000
set_option maxRecDepth 100000 in
set_option maxHeartbeats 1600000 in
theorem refsize_T (lo hi : Nat) : ∀ (k : Nat) (cs : List CondV), sizeL cs ≤ k → ∀ (w : World) (sl : SlH), CondsOk lo hi w sl cs → sizeL cs ≤ 100000 →
    Calls Try.prog 43 #[.slice sl.a sl.n sl.c] w fun e w' => e = .returned (.int .i64 (sizeL cs)) ∧ w' = w := by
  intro k
  induction k using Nat.strongRecOn with
  | _ k ih =>
  intro cs hk w sl hC hb
  obtain ⟨a, m, cp⟩ := sl
  obtain rfl : m = cs.length := hC.1.1
  have hsl := sizeL_le cs
  have HC := Lib.hid hC
  clear hC
  go_enter Try.func43, Try.ntmps43
  go_wp2_with fail
  go_loopg [3, 4] cs.length (fun k nv iv wr => ∃ (j : Nat) (n : Int), nv = .int .i64 n ∧ iv = .int .i64 j ∧ j ≤ cs.length ∧ Hid (k = cs.length - j ∧ n = sizeL (cs.take j)) ∧ wr = w)
  case atStart => exact ⟨0, 0, rfl, rfl, by omega, Lib.hid ⟨rfl, rfl⟩, rfl⟩
  case round =>
    obtain ⟨j, n, rfl, rfl, hj, Hm, rfl⟩ := hrel
    by_cases hltj : j < cs.length
    · obtain ⟨c, hc⟩ : ∃ c, cs[j]? = some c := ⟨cs[j], by simp [hltj]⟩
      obtain ⟨b, off, -, -, hsa, hcell⟩ := HC.out.1.at hc
      replace hsa : a = some ⟨b, off, none⟩ := hsa
      subst hsa
      have c6 := hcell 6 _ rfl
      have hcmem : c ∈ cs := List.mem_of_getElem? hc
      have hszc := sizeL_mem hcmem
      have hok := condOkL_iff.1 HC.out.2 c hcmem
      have hin : CondsOk lo hi wr c.h.conds c.inner := by
        cases c
        exact ⟨hok.2.2.1, hok.2.2.2⟩
      have hrec := ih (sizeL c.inner) (by omega) c.inner (Nat.le_refl _) wr c.h.conds hin (by omega)
      obtain ⟨hst, hst2⟩ := sizeL_take hc
      have hn := Hm.out.2
      have hn0 : (0 : Int) ≤ n := by omega
      have hn2 : n + 1 + sizeL c.inner ≤ 100000 := by omega
      have w1 : IntKind.i64.wrap (1 + (sizeL c.inner : Int)) = 1 + sizeL c.inner := IntWalk.i64_in _ (by omega)
      have w2 : IntKind.i64.wrap (n + (1 + (sizeL c.inner : Int))) = n + (1 + sizeL c.inner) := IntWalk.i64_in _ (by omega)
      have Hst := Lib.hid hst
      have Hn := Lib.hid hn
      clear hcell hn hst hok hin
      go_wp2_with fail
      refine hrec.mono ?_
      rintro e w1 ⟨rfl, rfl⟩
      go_wp2_with fail
      go_roundg (cs.length - (j + 1))
      case measure => rw [Hm.out.1]; omega
      case rel => exact ⟨j + 1, n + (1 + sizeL c.inner), by go_num, by go_num, by omega, Lib.hid ⟨rfl, by rw [Hst.out, Hn.out]; omega⟩, rfl⟩
    · obtain rfl : j = cs.length := by omega
      go_wp2_with fail
      go_ret
      exact ⟨by rw [Hm.out.2, List.take_length]; rfl, rfl⟩

end Go.Proofs.Ytmnpcpgdhaplaaa

namespace Go.Proofs.Ytmnpcpgdhaplaaa
open Go Go.RowKit

/-- The texts of a test are no longer than may be. -/
def TestFit (t : TestV) : Prop := t.var.size ≤ maxLen ∧ t.sym.t.size ≤ maxLen ∧ ∀ s ∈ t.syms, s.t.size ≤ maxLen
/-- The texts of a condition itself are no longer than may be. -/
def CondFit (c : CondV) : Prop := c.h.id.size ≤ maxLen ∧ (∀ t ∈ c.h.attrs, TestFit t) ∧ (∀ t ∈ c.h.values, TestFit t)
mutual
def FitC : CondV → Prop
  | .mk h l => CondFit (.mk h l) ∧ FitL l
def FitL : List CondV → Prop
  | [] => True
  | c :: cs => FitC c ∧ FitL cs
end
theorem fitC_eq {c : CondV} : FitC c ↔ CondFit c ∧ FitL c.inner := by cases c; rfl
theorem fitL_iff {cs : List CondV} : FitL cs ↔ ∀ c ∈ cs, FitC c := by
  induction cs with
  | nil => simp [FitL]
  | cons c cs ih => simp [FitL, ih]
def AtomFit (a : AtomV) : Prop := a.var.size ≤ maxLen ∧ a.sym.t.size ≤ maxLen
def ActFit (a : ActV) : Prop := a.id.size ≤ maxLen ∧ AtomFit a.attr ∧ AtomFit a.value.a ∧ AtomFit a.value.b ∧ AtomFit a.other
def ProdFit (p : ProdV) : Prop := p.name.size ≤ maxLen ∧ FitL p.cs ∧ ∀ a ∈ p.xs, ActFit a

end Go.Proofs.Ytmnpcpgdhaplaaa
