/- What the statements' own conds answers, given what their cond answers. Conditions: the conditions lie in memory; at most 100000. -/
import Derived.Test.YtmnpcpgdhaplaaaMg26
namespace Go.Proofs.Ytmnpcpgdhaplaaa
open Go Go.RowKit

def refOut : Option (Int × Int) → Int × Int
  | some r => r
  | none => (-1, 0)

theorem firstBad_ne {l : List (SpotV × CondV)} {r : Int × Int} (h : firstBad l = some r) : r.2 ≠ 0 := by
  obtain ⟨x, -, hx⟩ := List.exists_of_findSome?_eq_some h
  unfold badC at hx
  split at hx
  · cases hx
  · rename_i h1
    cases hx
    simpa using h1

theorem refL_append (n d : Int) (a b : List CondV) : refL n d (a ++ b) = (refL n d a).or (refL (n + sizeL a) d b) := by
  rw [refL_eq _ _ (Nat.le_refl _), refL_eq _ _ (Nat.le_refl _), refL_eq _ _ (Nat.le_refl _), flatL_append]
  unfold firstBad
  rw [List.findSome?_append]
theorem refL_one (n d : Int) (c : CondV) : refL n d [c] = refC n d c := by simp [refL]
theorem refL_take {cs : List CondV} {j : Nat} {c : CondV} (h : cs[j]? = some c) (n d : Int) (h0 : refL n d (cs.take j) = none) : refL n d (cs.take (j + 1)) = refC (n + sizeL (cs.take j)) d c := by
  rw [List.take_add_one, h]
  rw [show (some c).toList = [c] from rfl, refL_append, h0, refL_one]
  rfl
theorem refL_stop {cs : List CondV} {j : Nat} {c : CondV} (h : cs[j]? = some c) (n d : Int) (h0 : refL n d (cs.take j) = none) {r : Int × Int} (h1 : refC (n + sizeL (cs.take j)) d c = some r) : refL n d cs = some r := by
  have e := refL_append n d (cs.take (j + 1)) (cs.drop (j + 1))
  rw [List.take_append_drop, refL_take h n d h0, h1] at e
  simpa using e

set_option pp.deepTerms true
set_option pp.maxSteps 1000000
set_option maxRecDepth 100000 in
set_option maxHeartbeats 3200000 in
theorem refconds_T (lo hi : Nat) (hcond : ∀ (W : World) (c : CondV) (d : Int), CondOk lo hi W c → hi ≤ W.heap.size → CondFit c → Calls Try.prog 72 #[.agg #[.int .i64 c.h.kind, .bool c.h.goal, .string c.h.id, .slice c.h.attr.a c.h.attr.n c.h.attr.c, .slice c.h.value.a c.h.value.n c.h.value.c, .bool c.h.acc, .slice c.h.conds.a c.h.conds.n c.h.conds.c], .int .i64 d] W fun e w' => e = .returned (.int .i64 (condE c d)) ∧ Below W.heap.size W w') :
    ∀ (k : Nat) (cs : List CondV), sizeL cs ≤ k → ∀ (w : World) (sl : SlH) (n d : Int), CondsOk lo hi w sl cs → FitL cs → hi ≤ w.heap.size → 0 ≤ n → n + sizeL cs ≤ 100000 → 0 ≤ d → d + sizeL cs ≤ 100000 →
    Calls Try.prog 44 #[.slice sl.a sl.n sl.c, .int .i64 n, .int .i64 d] w fun e w' => e = .returned (.tuple #[.int .i64 (refOut (refL n d cs)).1, .int .i64 (refOut (refL n d cs)).2]) ∧ Below w.heap.size w w' := by
  intro k
  induction k using Nat.strongRecOn with
  | _ k ih =>
  intro cs hk w sl n d hC hF hhi hn hnb hd hdb
  obtain ⟨a, m, cp⟩ := sl
  obtain rfl : m = cs.length := hC.1.1
  have hsl := sizeL_le cs
  have HC := Lib.hid hC
  have Hcond := Lib.hid hcond
  have HF := Lib.hid hF
  clear hC hcond hF
  go_enter Try.func44, Try.ntmps44
  go_wp2_with fail
  go_loopg [1, 8] cs.length (fun k nv iv wr => ∃ (j : Nat) (z : Int), nv = .int .i64 z ∧ iv = .int .i64 j ∧ j ≤ cs.length ∧ Hid (k = cs.length - j ∧ z = n + sizeL (cs.take j) ∧ refL n d (cs.take j) = none) ∧ Below w.heap.size w wr)
  case atStart => exact ⟨0, n, rfl, rfl, by omega, Lib.hid ⟨rfl, by simp [sizeL], rfl⟩, Below.refl _ _⟩
  case round =>
    obtain ⟨j, z, rfl, rfl, hj, Hm, hBr⟩ := hrel
    by_cases hltj : j < cs.length
    · obtain ⟨c, hc⟩ : ∃ c, cs[j]? = some c := ⟨cs[j], by simp [hltj]⟩
      have hCw := HC.out.keep (KeepIn.of_below hBr hhi)
      obtain ⟨b, off, -, -, hsa, hcell⟩ := hCw.1.at hc
      replace hsa : a = some ⟨b, off, none⟩ := hsa
      subst hsa
      have c0 : wr.cell? ⟨b, off + j * 7, none⟩ = _ := hcell 0 _ rfl
      have c1 := hcell 1 _ rfl
      have c2 := hcell 2 _ rfl
      have c3 := hcell 3 _ rfl
      have c4 := hcell 4 _ rfl
      have c5 := hcell 5 _ rfl
      have c6 := hcell 6 _ rfl
      have hcmem : c ∈ cs := List.mem_of_getElem? hc
      have hszc := sizeL_mem hcmem
      have hok := condOkL_iff.1 hCw.2 c hcmem
      have hfit := fitC_eq.1 (fitL_iff.1 HF.out c hcmem)
      have Hfit := Lib.hid hfit
      have hcall := Hcond.out wr c d hok (Nat.le_trans hhi hBr.size) hfit.1
      have hz := Hm.out.2.1
      obtain ⟨hst, hst2⟩ := sizeL_take hc
      have hz1 : 0 ≤ z ∧ z + 1 + sizeL c.inner ≤ 100000 := by omega
      have Hc := Lib.hid hc
      have Hst := Lib.hid hst
      have Hz := Lib.hid hz
      have Hcw := Lib.hid hCw
      clear hcell hz hst hok hc hCw hfit
      go_wp2_with fail
      refine hcall.mono ?_
      rintro e w2 ⟨rfl, hB2⟩
      have hBr2 := hBr.trans (hB2.mono hBr.size)
      have hC2 := HC.out.keep (KeepIn.of_below hBr2 hhi)
      obtain ⟨b', off', -, -, hsa, hcell⟩ := hC2.1.at Hc.out
      obtain ⟨rfl, rfl⟩ : b = b' ∧ off = off' := by simpa using hsa
      have d6 := hcell 6 _ rfl
      have hok2 := condOkL_iff.1 hC2.2 c hcmem
      have hin : CondsOk lo hi w2 c.h.conds c.inner := by
        cases c
        exact ⟨hok2.2.2.1, hok2.2.2.2⟩
      have Hin := Lib.hid hin
      clear hcell c0 c1 c2 c3 c4 c5 c6 hcall hC2 hok2 hin
      cases he : (condE c d != 0)
      case true =>
        have He := Lib.hid he
        go_wp2_with fail
        go_ret2
        have e1 : refC (n + sizeL (cs.take j)) d c = some (z, condE c d) := by
          have h1 : (condE c d == 0) = false := by simpa using He.out
          rw [refC_eq, h1, ← Hz.out]; rfl
        exact ⟨by rw [refL_stop Hc.out n d Hm.out.2.2 e1]; rfl, hBr2⟩
      have He := Lib.hid he
      have w1 : IntKind.i64.wrap (z + 1) = z + 1 := IntWalk.i64_in _ (by omega)
      have w2' : IntKind.i64.wrap (d + 1) = d + 1 := IntWalk.i64_in _ (by omega)
      have hrec := ih (sizeL c.inner) (by omega) c.inner (Nat.le_refl _) w2 c.h.conds (z + 1) (d + 1) Hin.out Hfit.out.2 (Nat.le_trans hhi hBr2.size) (by omega) (by omega) (by omega) (by omega)
      have e0 : refC (n + sizeL (cs.take j)) d c = refL (z + 1) (d + 1) c.inner := by
        have h1 : (condE c d == 0) = true := by simpa using He.out
        rw [refC_eq, h1, ← Hz.out]; rfl
      have E0 := Lib.hid e0
      clear e0
      go_wp2_with fail
      refine hrec.mono ?_
      rintro e w3 ⟨rfl, hB3⟩
      have hBr3 := hBr2.trans (hB3.mono hBr2.size)
      cases hr : refL (z + 1) (d + 1) c.inner with
      | some r =>
        have Hr := Lib.hid hr
        have hne : (r.2 != 0) = true := by
          have := hr
          rw [refL_eq _ _ (Nat.le_refl _)] at this
          simpa using firstBad_ne this
        have e2 : refOut (some r) = r := rfl
        rw [e2]
        clear hr e2
        go_wp2_with fail
        go_ret2
        exact ⟨by rw [refL_stop Hc.out n d Hm.out.2.2 (E0.out.trans Hr.out)]; rfl, hBr3⟩
      | none =>
        have Hr := Lib.hid hr
        have e2 : refOut none = (-1, 0) := rfl
        rw [e2]
        clear hr e2
        have hC3 := HC.out.keep (KeepIn.of_below hBr3 hhi)
        obtain ⟨b', off', -, -, hsa, hcell⟩ := hC3.1.at Hc.out
        obtain ⟨rfl, rfl⟩ : b = b' ∧ off = off' := by simpa using hsa
        have f6 := hcell 6 _ rfl
        have hok3 := condOkL_iff.1 hC3.2 c hcmem
        have hin : CondsOk lo hi w3 c.h.conds c.inner := by
          cases c
          exact ⟨hok3.2.2.1, hok3.2.2.2⟩
        have hsize := refsize_T lo hi _ c.inner (Nat.le_refl _) w3 c.h.conds hin (by omega)
        have x1 : IntKind.i64.wrap (1 + (sizeL c.inner : Int)) = 1 + sizeL c.inner := IntWalk.i64_in _ (by omega)
        have x2 : IntKind.i64.wrap (z + (1 + (sizeL c.inner : Int))) = z + (1 + sizeL c.inner) := IntWalk.i64_in _ (by omega)
        clear hcell hC3 hok3 hin
        go_wp2_with fail
        refine hsize.mono ?_
        rintro e w4 ⟨rfl, rfl⟩
        go_wp2_with fail
        go_roundg (cs.length - (j + 1))
        case measure => rw [Hm.out.1]; omega
        case rel => exact ⟨j + 1, z + (1 + sizeL c.inner), by go_num, by go_num, by omega, Lib.hid ⟨rfl, by rw [Hst.out, Hz.out]; omega, by rw [refL_take Hc.out n d Hm.out.2.2, E0.out, Hr.out]⟩, hBr3⟩
    · obtain rfl : j = cs.length := by omega
      go_wp2_with fail
      go_ret2
      have e1 : refL n d cs = none := by have := Hm.out.2.2; rwa [List.take_length] at this
      exact ⟨by rw [e1]; rfl, hBr⟩

end Go.Proofs.Ytmnpcpgdhaplaaa
