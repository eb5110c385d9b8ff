/- The statements' own way to the first condition that is not of its form, plainly. Conditions: none.
What the statements' own conds answers, given what their cond answers. Conditions: the conditions lie in memory; at most 100000.
What the statements' own Part, Word, Valid answer. Conditions: none. -/
import Derived.Test.YtmnpcpgdhaplaaaShShape
import Derived.Test.YtmnpcpgdhaplaaaMg19
import Derived.Test.YtmnpcpgdhaplaaaMg6
import Derived.Test.YtmnpcpgdhaplaaaMg7
import Derived.Laws.BytesArg
namespace Go.Proofs.Ytmnpcpgdhaplaaa

mutual
/-- The first of a condition and its inner ones that is wrong, counted from n on, within d others. -/
def refC (n d : Int) : CondV → Option (Int × Int)
  | .mk h l => if condE (.mk h l) d == 0 then refL (n + 1) (d + 1) l else some (n, condE (.mk h l) d)
def refL (n d : Int) : List CondV → Option (Int × Int)
  | [] => none
  | c :: cs => (refC n d c).or (refL (n + c.size) d cs)
end

theorem refC_eq (n d : Int) (c : CondV) : refC n d c = if condE c d == 0 then refL (n + 1) (d + 1) c.inner else some (n, condE c d) := by cases c; rw [refC]; rfl

theorem refL_eq (k : Nat) : ∀ (cs : List CondV), sizeL cs ≤ k → ∀ n d, refL n d cs = firstBad (flatL n d cs) := by
  induction k with
  | zero =>
    intro cs h n d
    have := sizeL_le cs
    obtain rfl : cs = [] := List.length_eq_zero_iff.1 (by omega)
    rfl
  | succ k ih =>
    intro cs
    induction cs with
    | nil => intros; rfl
    | cons c cs ih2 =>
      intro h n d
      rw [sizeL_cons] at h
      have e1 := ih c.inner (by omega) (n + 1) (d + 1)
      have e2 := ih2 (by omega) (n + c.size) d
      rw [CondV.size_eq] at e2
      have e3 : n + ((1 + sizeL c.inner : Nat) : Int) = n + 1 + sizeL c.inner := by omega
      rw [e3] at e2
      rw [refL, refC_eq, flatL_cons, e1, CondV.size_eq, e3, e2]
      unfold firstBad
      rw [List.findSome?_append, List.findSome?_cons]
      unfold badC
      cases hc : (condE c d == 0) <;> simp [hc]

end Go.Proofs.Ytmnpcpgdhaplaaa

namespace Go.Proofs.Ytmnpcpgdhaplaaa
open Go Go.RowKit

def refOut : Option (Int × Int) → Int × Int
  | some r => r
  | none => (-1, 0)

theorem firstBad_ne {l : List (SpotV × CondV)} {r : Int × Int} (h : firstBad l = some r) : r.2 ≠ 0 := by
  obtain ⟨x, -, hx⟩ := List.exists_of_findSome?_eq_some h
  unfold badC at hx
  split at hx
  · cases hx
  · rename_i h1
    cases hx
    simpa using h1

theorem refL_append (n d : Int) (a b : List CondV) : refL n d (a ++ b) = (refL n d a).or (refL (n + sizeL a) d b) := by
  rw [refL_eq _ _ (Nat.le_refl _), refL_eq _ _ (Nat.le_refl _), refL_eq _ _ (Nat.le_refl _), flatL_append]
  unfold firstBad
  rw [List.findSome?_append]
theorem refL_one (n d : Int) (c : CondV) : refL n d [c] = refC n d c := by simp [refL]
theorem refL_take {cs : List CondV} {j : Nat} {c : CondV} (h : cs[j]? = some c) (n d : Int) (h0 : refL n d (cs.take j) = none) : refL n d (cs.take (j + 1)) = refC (n + sizeL (cs.take j)) d c := by
  rw [List.take_add_one, h]
  rw [show (some c).toList = [c] from rfl, refL_append, h0, refL_one]
  rfl
theorem refL_stop {cs : List CondV} {j : Nat} {c : CondV} (h : cs[j]? = some c) (n d : Int) (h0 : refL n d (cs.take j) = none) {r : Int × Int} (h1 : refC (n + sizeL (cs.take j)) d c = some r) : refL n d cs = some r := by
  have e := refL_append n d (cs.take (j + 1)) (cs.drop (j + 1))
  rw [List.take_append_drop, refL_take h n d h0, h1] at e
  simpa using e

set_option pp.deepTerms true
set_option pp.maxSteps 1000000
set_option maxRecDepth 100000 in
set_option maxHeartbeats 3200000 in
theorem refconds_T (lo hi : Nat) (hcond : ∀ (W : World) (c : CondV) (d : Int), CondOk lo hi W c → hi ≤ W.heap.size → CondFit c → Calls Try.prog 72 #[.agg #[.int .i64 c.h.kind, .bool c.h.goal, .string c.h.id, .slice c.h.attr.a c.h.attr.n c.h.attr.c, .slice c.h.value.a c.h.value.n c.h.value.c, .bool c.h.acc, .slice c.h.conds.a c.h.conds.n c.h.conds.c], .int .i64 d] W fun e w' => e = .returned (.int .i64 (condE c d)) ∧ Below W.heap.size W w') :
    ∀ (k : Nat) (cs : List CondV), sizeL cs ≤ k → ∀ (w : World) (sl : SlH) (n d : Int), CondsOk lo hi w sl cs → FitL cs → hi ≤ w.heap.size → 0 ≤ n → n + sizeL cs ≤ 100000 → 0 ≤ d → d + sizeL cs ≤ 100000 →
    Calls Try.prog 44 #[.slice sl.a sl.n sl.c, .int .i64 n, .int .i64 d] w fun e w' => e = .returned (.tuple #[.int .i64 (refOut (refL n d cs)).1, .int .i64 (refOut (refL n d cs)).2]) ∧ Below w.heap.size w w' := by
  intro k
  induction k using Nat.strongRecOn with
  | _ k ih =>
  intro cs hk w sl n d hC hF hhi hn hnb hd hdb
  obtain ⟨a, m, cp⟩ := sl
  obtain rfl : m = cs.length := hC.1.1
  have hsl := sizeL_le cs
  have HC := Lib.hid hC
  have Hcond := Lib.hid hcond
  have HF := Lib.hid hF
  clear hC hcond hF
  go_enter Try.func44, Try.ntmps44
  go_wp2_with fail
  go_loopg [1, 8] cs.length (fun k nv iv wr => ∃ (j : Nat) (z : Int), nv = .int .i64 z ∧ iv = .int .i64 j ∧ j ≤ cs.length ∧ Hid (k = cs.length - j ∧ z = n + sizeL (cs.take j) ∧ refL n d (cs.take j) = none) ∧ Below w.heap.size w wr)
  case atStart => exact ⟨0, n, rfl, rfl, by omega, Lib.hid ⟨rfl, by simp [sizeL], rfl⟩, Below.refl _ _⟩
  case round =>
    obtain ⟨j, z, rfl, rfl, hj, Hm, hBr⟩ := hrel
    by_cases hltj : j < cs.length
    · obtain ⟨c, hc⟩ : ∃ c, cs[j]? = some c := ⟨cs[j], by simp [hltj]⟩
      have hCw := HC.out.keep (KeepIn.of_below hBr hhi)
      obtain ⟨b, off, -, -, hsa, hcell⟩ := hCw.1.at hc
      replace hsa : a = some ⟨b, off, none⟩ := hsa
      subst hsa
      have c0 : wr.cell? ⟨b, off + j * 7, none⟩ = _ := hcell 0 _ rfl
      have c1 := hcell 1 _ rfl
      have c2 := hcell 2 _ rfl
      have c3 := hcell 3 _ rfl
      have c4 := hcell 4 _ rfl
      have c5 := hcell 5 _ rfl
      have c6 := hcell 6 _ rfl
      have hcmem : c ∈ cs := List.mem_of_getElem? hc
      have hszc := sizeL_mem hcmem
      have hok := condOkL_iff.1 hCw.2 c hcmem
      have hfit := fitC_eq.1 (fitL_iff.1 HF.out c hcmem)
      have Hfit := Lib.hid hfit
      have hcall := Hcond.out wr c d hok (Nat.le_trans hhi hBr.size) hfit.1
      have hz := Hm.out.2.1
      obtain ⟨hst, hst2⟩ := sizeL_take hc
      have hz1 : 0 ≤ z ∧ z + 1 + sizeL c.inner ≤ 100000 := by omega
      have Hc := Lib.hid hc
      have Hst := Lib.hid hst
      have Hz := Lib.hid hz
      have Hcw := Lib.hid hCw
      clear hcell hz hst hok hc hCw hfit
      go_wp2_with fail
      refine hcall.mono ?_
      rintro e w2 ⟨rfl, hB2⟩
      have hBr2 := hBr.trans (hB2.mono hBr.size)
      have hC2 := HC.out.keep (KeepIn.of_below hBr2 hhi)
      obtain ⟨b', off', -, -, hsa, hcell⟩ := hC2.1.at Hc.out
      obtain ⟨rfl, rfl⟩ : b = b' ∧ off = off' := by simpa using hsa
      have d6 := hcell 6 _ rfl
      have hok2 := condOkL_iff.1 hC2.2 c hcmem
      have hin : CondsOk lo hi w2 c.h.conds c.inner := by
        cases c
        exact ⟨hok2.2.2.1, hok2.2.2.2⟩
      have Hin := Lib.hid hin
      clear hcell c0 c1 c2 c3 c4 c5 c6 hcall hC2 hok2 hin
      cases he : (condE c d != 0)
      case true =>
        have He := Lib.hid he
        go_wp2_with fail
        go_ret2
        have e1 : refC (n + sizeL (cs.take j)) d c = some (z, condE c d) := by
          have h1 : (condE c d == 0) = false := by simpa using He.out
          rw [refC_eq, h1, ← Hz.out]; rfl
        exact ⟨by rw [refL_stop Hc.out n d Hm.out.2.2 e1]; rfl, hBr2⟩
      have He := Lib.hid he
      have w1 : IntKind.i64.wrap (z + 1) = z + 1 := IntWalk.i64_in _ (by omega)
      have w2' : IntKind.i64.wrap (d + 1) = d + 1 := IntWalk.i64_in _ (by omega)
      have hrec := ih (sizeL c.inner) (by omega) c.inner (Nat.le_refl _) w2 c.h.conds (z + 1) (d + 1) Hin.out Hfit.out.2 (Nat.le_trans hhi hBr2.size) (by omega) (by omega) (by omega) (by omega)
      have e0 : refC (n + sizeL (cs.take j)) d c = refL (z + 1) (d + 1) c.inner := by
        have h1 : (condE c d == 0) = true := by simpa using He.out
        rw [refC_eq, h1, ← Hz.out]; rfl
      have E0 := Lib.hid e0
      clear e0
      go_wp2_with fail
      refine hrec.mono ?_
      rintro e w3 ⟨rfl, hB3⟩
      have hBr3 := hBr2.trans (hB3.mono hBr2.size)
      cases hr : refL (z + 1) (d + 1) c.inner with
      | some r =>
        have Hr := Lib.hid hr
        have hne : (r.2 != 0) = true := by
          have := hr
          rw [refL_eq _ _ (Nat.le_refl _)] at this
          simpa using firstBad_ne this
        have e2 : refOut (some r) = r := rfl
        rw [e2]
        clear hr e2
        go_wp2_with fail
        go_ret2
        exact ⟨by rw [refL_stop Hc.out n d Hm.out.2.2 (E0.out.trans Hr.out)]; rfl, hBr3⟩
      | none =>
        have Hr := Lib.hid hr
        have e2 : refOut none = (-1, 0) := rfl
        rw [e2]
        clear hr e2
        have hC3 := HC.out.keep (KeepIn.of_below hBr3 hhi)
        obtain ⟨b', off', -, -, hsa, hcell⟩ := hC3.1.at Hc.out
        obtain ⟨rfl, rfl⟩ : b = b' ∧ off = off' := by simpa using hsa
        have f6 := hcell 6 _ rfl
        have hok3 := condOkL_iff.1 hC3.2 c hcmem
        have hin : CondsOk lo hi w3 c.h.conds c.inner := by
          cases c
          exact ⟨hok3.2.2.1, hok3.2.2.2⟩
        have hsize := refsize_T lo hi _ c.inner (Nat.le_refl _) w3 c.h.conds hin (by omega)
        have x1 : IntKind.i64.wrap (1 + (sizeL c.inner : Int)) = 1 + sizeL c.inner := IntWalk.i64_in _ (by omega)
        have x2 : IntKind.i64.wrap (z + (1 + (sizeL c.inner : Int))) = z + (1 + sizeL c.inner) := IntWalk.i64_in _ (by omega)
        clear hcell hC3 hok3 hin
        go_wp2_with fail
        refine hsize.mono ?_
        rintro e w4 ⟨rfl, rfl⟩
        go_wp2_with fail
        go_roundg (cs.length - (j + 1))
        case measure => rw [Hm.out.1]; omega
        case rel => exact ⟨j + 1, z + (1 + sizeL c.inner), by go_num, by go_num, by omega, Lib.hid ⟨rfl, by rw [Hst.out, Hz.out]; omega, by rw [refL_take Hc.out n d Hm.out.2.2, E0.out, Hr.out]⟩, hBr3⟩
    · obtain rfl : j = cs.length := by omega
      go_wp2_with fail
      go_ret2
      have e1 : refL n d cs = none := by have := Hm.out.2.2; rwa [List.take_length] at this
      exact ⟨by rw [e1]; rfl, hBr⟩

end Go.Proofs.Ytmnpcpgdhaplaaa

namespace Go.Proofs.Ytmnpcpgdhaplaaa
open Go Go.RowKit

theorem part_T (w : World) (c : Int) : Calls Try.prog 71 #[.int .u8 c] w fun e w' => e = .returned (.bool (innerI c)) ∧ w = w' := by
  go_enter Try.func71, Try.ntmps71
  go_wp2_with fail
  all_goals go_ret
  all_goals refine ⟨ret_b ?_, rfl⟩
  all_goals (rw [Bool.eq_iff_iff]; simp [innerI, smallI] <;> omega)

set_option maxHeartbeats 400000 in
theorem refword_T (w : World) (t : ByteArray) (hm : t.size ≤ maxLen) : Calls Try.prog 42 #[.string t] w fun e w' => e = .returned (.bool (wordB t)) ∧ w = w' := by
  unfold maxLen at hm
  by_cases h0 : t.size = 0
  · have f0 : ((t.size : Int) < 1) = True := eq_true (by omega)
    have H0 := Lib.hid h0
    clear h0
    go_enter Try.func42, Try.ntmps42
    go_wp2_with fail
    go_ret
    exact ⟨ret_b (by simp [wordB, H0.out]), rfl⟩
  · have hpos : 0 < t.size := by omega
    have hposi : (0 : Int) < (t.size : Int) := by omega
    have f0 : ((t.size : Int) < 1) = False := eq_false (by omega)
    by_cases h32 : t.size ≤ 32
    · have f1 : ((32 : Int) < (t.size : Int)) = False := eq_false (by omega)
      have hs := Lib.hid (hd_pos hpos)
      obtain ⟨c, hcc⟩ : ∃ c : Int, hd t = c := ⟨_, rfl⟩
      have Hc := Lib.hid hcc
      have hc' : ((t[0].toNat : Nat) : Int) = c := hs.out.symm.trans hcc
      have Hc' := Lib.hid hc'
      clear hcc hc'
      cases hsm : smallI ((t[0].toNat : Nat) : Int)
      · have hsm' : ((t[0].toNat : Nat) : Int) < 97 ∨ 122 < ((t[0].toNat : Nat) : Int) := by
          simp only [smallI, Bool.and_eq_false_iff, decide_eq_false_iff_not] at hsm; omega
        have Hsm := Lib.hid hsm
        clear hsm
        rcases hsm' with hsm' | hsm'
        · go_enter Try.func42, Try.ntmps42
          go_wp2_with fail
          go_ret
          exact ⟨ret_b (by simp [wordB, hs.out, Hsm.out]), rfl⟩
        · have hsm2 : (((t[0].toNat : Nat) : Int) < 97) = False := eq_false (by omega)
          go_enter Try.func42, Try.ntmps42
          go_wp2_with fail
          go_ret
          exact ⟨ret_b (by simp [wordB, hs.out, Hsm.out]), rfl⟩
      · have hsm' : 97 ≤ ((t[0].toNat : Nat) : Int) ∧ ((t[0].toNat : Nat) : Int) ≤ 122 := by
          simpa [smallI] using hsm
        have g1 : (((t[0].toNat : Nat) : Int) < 97) = False := eq_false (by omega)
        have g2 : ((122 : Int) < ((t[0].toNat : Nat) : Int)) = False := eq_false (by omega)
        have Hsm := Lib.hid hsm
        clear hsm hsm'
        go_enter Try.func42, Try.ntmps42
        go_wp2_with fail
        go_loopg [3] (t.size - 0) (fun k i wr => ∃ j : Nat, i = .int .i64 j ∧ j ≤ t.size ∧ Hid (k = t.size - j) ∧ Hid ((t.data.toList.take j).all (fun c => innerI (c.toNat : Int)) = true) ∧ w = wr)
        case atStart => exact ⟨0, rfl, by omega, Lib.hid rfl, Lib.hid rfl, rfl⟩
        case round =>
          obtain ⟨j, rfl, hj, Hk, Hall, rfl⟩ := hrel
          by_cases hlt : j < t.size
          · have Hts := Lib.hid (take_succ t j hlt)
            cases hin : innerI ((t[j].toNat : Nat) : Int)
            · go_wp2_with fail
              refine (part_T _ _).mono ?_
              rintro e w' ⟨rfl, rfl⟩
              go_wp2_with fail
              go_ret
              refine ⟨ret_b ?_, rfl⟩
              have : innerAll t = false := by
                unfold innerAll
                rw [List.all_eq_false]
                exact ⟨t.data.toList[j]'(by simpa using hlt), List.getElem_mem _, by show ¬ innerI ((t[j].toNat : Nat) : Int) = true; rw [hin]; simp⟩
              simp [wordB, this]
            · go_wp2_with fail
              refine (part_T _ _).mono ?_
              rintro e w' ⟨rfl, rfl⟩
              go_wp2_with fail
              go_roundg (t.size - (j + 1))
              case measure => rw [Hk.out]; omega
              case rel => exact ⟨j + 1, by go_num, by omega, Lib.hid rfl, Lib.hid (by rw [Hts.out, List.all_append, Hall.out]; simp [hin]), rfl⟩
          · obtain rfl : j = t.size := by omega
            go_wp2_with fail
            go_ret
            refine ⟨ret_b ?_, rfl⟩
            have h1 := Hall.out
            rw [List.take_of_length_le (by simp)] at h1
            simp [wordB, innerAll, h1, hpos, h32, hs.out, Hsm.out]
    · have f1 : ((32 : Int) < (t.size : Int)) = True := eq_true (by omega)
      go_enter Try.func42, Try.ntmps42
      go_wp2_with fail
      go_ret
      exact ⟨ret_b (by simp [wordB, h32]), rfl⟩

set_option maxHeartbeats 800000 in
theorem refvalid_T (w : World) (x : SymV) (hm : x.t.size ≤ maxLen) : Calls Try.prog 106 #[.agg #[.int .i64 x.k, .string x.t, .int .i64 x.n]] w fun e w' => e = .returned (.bool (validB x)) ∧ Below w.heap.size w w' := by
  have hB := Lib.hid (box1_S w x)
  by_cases k1 : x.k = 1
  · have b1 : (x.k == 1) = true := by simp [k1]
    have Hk := Lib.hid k1
    clear k1
    by_cases hz : x.t.size = 1
    · have hpos : 0 < x.t.size := by omega
      have z1 : ((x.t.size : Int) == 1) = true := by simp [hz]
      have Hz := Lib.hid hz
      have Hs := Lib.hid (hd_pos hpos)
      clear hz
      go_enter Try.func106, Try.ntmps106
      go_wp2_with fail
      all_goals go_ret
      all_goals refine ⟨ret_b ?_, hB.out⟩
      all_goals (rw [Bool.eq_iff_iff]; simp [validB, Hk.out, Hz.out, Hs.out, capI] <;> omega)
    · have z1 : ((x.t.size : Int) == 1) = false := by simp; omega
      have Hz := Lib.hid hz
      clear hz
      go_enter Try.func106, Try.ntmps106
      go_wp2_with fail
      go_ret
      exact ⟨ret_b (by simp [validB, Hk.out, Hz.out]), hB.out⟩
  · have b1 : (x.k == 1) = false := by simp [k1]
    have Hk := Lib.hid k1
    clear k1
    by_cases k2 : x.k = 2
    · have b2 : (x.k == 2) = true := by simp [k2]
      have Hk2 := Lib.hid k2
      clear k2
      by_cases h0 : x.t.size = 0
      · have e0 : x.t.toList = [] := by rw [ByteArray.toList_eq]; exact List.length_eq_zero_iff.1 (by simpa using h0)
        have e1 : x.t.toList.isEmpty = true := by rw [e0]; rfl
        have H0 := Lib.hid h0
        clear h0
        go_enter Try.func106, Try.ntmps106
        go_wp2_with fail
        all_goals go_ret
        · have h : -2147483647 ≤ x.n := by assumption
          exact ⟨ret_b (by simp [validB, Hk.out, Hk2.out, H0.out, h]), hB.out⟩
        · have h : x.n < -2147483647 := by assumption
          exact ⟨ret_b (by simp [validB, Hk.out, Hk2.out, Int.not_le.2 h]), hB.out⟩
      · have e1 : x.t.toList.isEmpty = false := by
          rw [ByteArray.toList_eq]
          cases hl : x.t.data.toList with
          | nil => exfalso; apply h0; have := congrArg List.length hl; simpa using this
          | cons _ _ => rfl
        have e2 : ¬ x.t.toList = [] := by intro h; rw [h] at e1; cases e1
        have H0 := Lib.hid h0
        clear h0
        go_enter Try.func106, Try.ntmps106
        go_wp2_with fail
        go_ret
        exact ⟨ret_b (by simp [validB, Hk.out, Hk2.out, H0.out]), hB.out⟩
    · have b2 : (x.k == 2) = false := by simp [k2]
      have Hk2 := Lib.hid k2
      clear k2
      by_cases k3 : x.k = 3
      · have b3 : (x.k == 3) = true := by simp [k3]
        have Hk3 := Lib.hid k3
        clear k3
        by_cases hn : x.n = 0
        · have n1 : (x.n == 0) = true := by simp [hn]
          have Hn := Lib.hid hn
          clear hn
          go_enter Try.func106, Try.ntmps106
          go_wp2_with fail
          refine (refword_T _ _ hm).mono ?_
          rintro e w' ⟨rfl, rfl⟩
          go_wp2_with fail
          go_ret
          exact ⟨ret_b (by simp [validB, Hk.out, Hk2.out, Hk3.out, Hn.out]), hB.out⟩
        · have n1 : (x.n == 0) = false := by simp [hn]
          have Hn := Lib.hid hn
          clear hn
          go_enter Try.func106, Try.ntmps106
          go_wp2_with fail
          go_ret
          exact ⟨ret_b (by simp [validB, Hk.out, Hk2.out, Hk3.out, Hn.out]), hB.out⟩
      · have b3 : (x.k == 3) = false := by simp [k3]
        have Hk3 := Lib.hid k3
        clear k3
        go_enter Try.func106, Try.ntmps106
        go_wp2_with fail
        go_ret
        exact ⟨ret_b (by simp [validB, Hk.out, Hk2.out, Hk3.out]), hB.out⟩

end Go.Proofs.Ytmnpcpgdhaplaaa
