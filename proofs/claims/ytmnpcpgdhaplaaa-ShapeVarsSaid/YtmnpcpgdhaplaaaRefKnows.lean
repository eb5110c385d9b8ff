/- What the statements' own knows answers. Conditions: the conditions are of their form, and lie in memory; at most 8000 names and tests. -/
import Derived.Test.YtmnpcpgdhaplaaaRefMet2
import Derived.Test.YtmnpcpgdhaplaaaMg19
namespace Go.Proofs.Ytmnpcpgdhaplaaa
open Go Go.RowKit

mutual
/-- Each is a Pos or a Neg without inner conditions, or an All. -/
def ShOkC : CondV → Prop
  | .mk h l => (h.kind = 3 ∨ ((h.kind = 1 ∨ h.kind = 2) ∧ l = [])) ∧ ShOkL l
def ShOkL : List CondV → Prop
  | [] => True
  | c :: cs => ShOkC c ∧ ShOkL cs
end
theorem shOkC_eq {c : CondV} : ShOkC c ↔ (c.h.kind = 3 ∨ ((c.h.kind = 1 ∨ c.h.kind = 2) ∧ c.inner = [])) ∧ ShOkL c.inner := by cases c; rfl
theorem shOkL_iff {cs : List CondV} : ShOkL cs ↔ ∀ c ∈ cs, ShOkC c := by
  induction cs with
  | nil => simp [ShOkL]
  | cons c cs ih => simp [ShOkL, ih]

theorem condE_ok {c : CondV} {d : Int} (h : condE c d = 0) : c.h.kind = 3 ∨ ((c.h.kind = 1 ∨ c.h.kind = 2) ∧ c.inner = []) := by
  unfold condE at h
  by_cases h3 : c.h.kind = 3
  · exact .inl h3
  · by_cases h12 : c.h.kind = 1 ∨ c.h.kind = 2
    · refine .inr ⟨h12, ?_⟩
      have e : (c.h.kind == 1 || c.h.kind == 2) = true := by rcases h12 with h | h <;> simp [h]
      rw [if_pos e] at h
      unfold singleE at h
      split at h
      · cases h
      · rename_i hn
        have : ¬ 0 < c.inner.length := fun hh => hn (by simp [hh])
        exact List.length_eq_zero_iff.1 (by omega)
    · exfalso
      have e : (c.h.kind == 1 || c.h.kind == 2) = false := by
        rw [← Bool.not_eq_true]
        simpa using h12
      have e3 : (c.h.kind == 3) = false := by simp [h3]
      rw [e, e3] at h
      cases h

theorem shOk_of (k : Nat) : ∀ cs, sizeL cs ≤ k → ∀ n d, refL n d cs = none → ShOkL cs := by
  induction k with
  | zero =>
    intro cs h n d _
    have := sizeL_le cs
    obtain rfl : cs = [] := List.length_eq_zero_iff.1 (by omega)
    trivial
  | succ k ih =>
    intro cs
    induction cs with
    | nil => intros; trivial
    | cons c cs ih2 =>
      intro h n d hn
      rw [sizeL_cons] at h
      rw [refL, Option.or_eq_none_iff, refC_eq] at hn
      obtain ⟨h1, h2⟩ := hn
      split at h1
      · rename_i he
        exact ⟨shOkC_eq.2 ⟨condE_ok (by simpa using he), ih _ (by omega) _ _ h1⟩, ih2 (by omega) _ _ h2⟩
      · cases h1

theorem wtL_mem {c : CondV} {cs : List CondV} (h : c ∈ cs) : c.wt ≤ wtL cs := by
  induction cs with
  | nil => simp at h
  | cons d cs ih =>
    rw [wtL_cons]
    rcases List.mem_cons.1 h with rfl | h
    · omega
    · have := ih h; omega

theorem pass_ok (k : Nat) : ∀ cs, sizeL cs ≤ k → ShOkL cs → ∀ K z, (passL K z cs).2.2 = true → (passL K z cs).2.1 = z + sizeL cs := by
  induction k with
  | zero =>
    intro cs h _ K z _
    have := sizeL_le cs
    obtain rfl : cs = [] := List.length_eq_zero_iff.1 (by omega)
    simp [passL_nil, sizeL]
  | succ k ih =>
    intro cs
    induction cs with
    | nil => intro _ _ K z _; simp [passL_nil, sizeL]
    | cons c cs ih2 =>
      intro h hs K z hp
      rw [sizeL_cons] at h
      obtain ⟨hc, hcs⟩ : ShOkC c ∧ ShOkL cs := by simpa [ShOkL] using hs
      obtain ⟨hk, hin⟩ := shOkC_eq.1 hc
      rw [passL_cons] at hp ⊢
      have hplace : (passC K z c).2.2 = true → (passC K z c).2.1 = z + 1 + sizeL c.inner := by
        intro hpc
        rw [passC_eq] at hpc ⊢
        rcases hk with h3 | ⟨h12, he⟩
        · have e3 : (c.h.kind == 3) = true := by simp [h3]
          rw [if_pos e3] at hpc ⊢
          exact ih _ (by omega) hin _ _ hpc
        · have e3 : (c.h.kind == 3) = false := by rcases h12 with h | h <;> simp [h]
          rw [e3] at hpc ⊢
          rw [he]
          rcases h12 with h | h
          · simp [h] at hpc ⊢
            simp [hpc, sizeL]
          · simp [h] at hpc ⊢
            simp [hpc, sizeL]
      split
      · rename_i hpc
        rw [if_pos hpc] at hp
        rw [ih2 (by omega) hcs _ _ hp, hplace hpc, sizeL_cons]
        omega
      · rename_i hpc
        rw [if_neg hpc] at hp
        exact absurd hp hpc

/-- What knows answers. -/
def KnowsOut (w' : World) (r : List ByteArray × Int × Bool) (e : Ending) : Prop := (r.2.2 = true ∧ ∃ g cap, e = .returned (.tuple #[.slice g r.1.length cap, .int .i64 (-1), .bool true]) ∧ RowIn 0 w'.heap.size 1 strCells w' ⟨g, r.1.length, cap⟩ r.1) ∨ (r.2.2 = false ∧ e = .returned (.tuple #[.slice none 0 0, .int .i64 r.2.1, .bool false]))
theorem KnowsOut.no {w' : World} {r : List ByteArray × Int × Bool} {e : Ending} {z : Int} (h : r.2 = (z, false)) (he : e = .returned (.tuple #[.slice none 0 0, .int .i64 z, .bool false])) : KnowsOut w' r e := by
  obtain ⟨a, b, c⟩ := r
  cases h
  exact .inr ⟨rfl, he⟩
theorem KnowsOut.yes {w' : World} {r : List ByteArray × Int × Bool} {e : Ending} {g : Option Addr} {cap : Nat} {K' : List ByteArray} {z : Int} (h : r = (K', z, true)) (he : e = .returned (.tuple #[.slice g K'.length cap, .int .i64 (-1), .bool true])) (hr : RowIn 0 w'.heap.size 1 strCells w' ⟨g, K'.length, cap⟩ K') : KnowsOut w' r e := by
  subst h
  exact .inl ⟨rfl, g, cap, he, hr⟩

theorem passL_step {cs : List CondV} {j : Nat} {c : CondV} (hc : cs[j]? = some c) {K Kj : List ByteArray} {z zj : Int} (h : passL K z (cs.take j) = (Kj, zj, true)) : passL K z (cs.take (j + 1)) = passC Kj zj c := by
  rw [List.take_add_one, hc, Option.toList_some, passL_append, h, if_pos rfl, passL_cons, passL_nil]
  cases hp : (passC Kj zj c).2.2
  · simp
  · rw [if_pos rfl]
    rcases hpc : passC Kj zj c with ⟨a, b, d⟩
    rw [hpc] at hp
    simp at hp
    simp [hp]
theorem passL_stop {cs : List CondV} {j : Nat} {K : List ByteArray} {z : Int} {y : Int} (h : (passL K z (cs.take (j + 1))).2 = (y, false)) : (passL K z cs).2 = (y, false) := by
  rw [← List.take_append_drop (j + 1) cs, passL_append]
  have : (passL K z (cs.take (j + 1))).2.2 = false := by rw [h]
  rw [this]
  simpa using h

set_option pp.deepTerms true
set_option pp.maxSteps 1000000
set_option maxRecDepth 100000 in
set_option maxHeartbeats 6400000 in
theorem refknows_T (lo hi : Nat) : ∀ (k : Nat) (cs : List CondV), sizeL cs ≤ k → ∀ (w : World) (sl : SlH) (z : Int) (s : SlH) (K : List ByteArray), CondsOk lo hi w sl cs → hi ≤ w.heap.size → ShOkL cs → RowIn 0 w.heap.size 1 strCells w s K → K.length + wtL cs ≤ 8000 → 0 ≤ z → z + sizeL cs ≤ 100000 →
    Calls Try.prog 49 #[.slice sl.a sl.n sl.c, .int .i64 z, .slice s.a s.n s.c] w fun e w' => KnowsOut w' (passL K z cs) e ∧ Below w.heap.size w w' := by
  intro k
  induction k using Nat.strongRecOn with
  | _ k ih =>
  intro cs hk w sl z s K hC hhi hsh hK hwt hz hzb
  obtain ⟨a, m, cp⟩ := sl
  obtain rfl : m = cs.length := hC.1.1
  obtain ⟨sa, sn, sc⟩ := s
  obtain rfl : sn = K.length := hK.1
  have hsl := sizeL_le cs
  have HC := Lib.hid hC
  have Hsh := Lib.hid hsh
  have HK := Lib.hid hK
  clear hC hsh hK
  go_enter Try.func49, Try.ntmps49
  go_wp2_with fail
  go_loopg [1, 2, 9] cs.length (fun k nv kv iv wr => ∃ (j : Nat) (zj : Int) (g : Option Addr) (cap : Nat) (Kj : List ByteArray), nv = .int .i64 zj ∧ kv = .slice g Kj.length cap ∧ iv = .int .i64 j ∧ j ≤ cs.length ∧ Hid (k = cs.length - j ∧ zj = z + sizeL (cs.take j) ∧ passL K z (cs.take j) = (Kj, zj, true) ∧ RowIn 0 wr.heap.size 1 strCells wr ⟨g, Kj.length, cap⟩ Kj) ∧ Below w.heap.size w wr)
  case atStart => exact ⟨0, z, sa, sc, K, rfl, rfl, rfl, by omega, Lib.hid ⟨rfl, by simp [sizeL], by simp [passL_nil], HK.out⟩, Below.refl _ _⟩
  case round =>
    obtain ⟨j, zj, g, cap, Kj, rfl, rfl, rfl, hj, Hm, hBr⟩ := hrel
    by_cases hltj : j < cs.length
    · obtain ⟨c, hc⟩ : ∃ c, cs[j]? = some c := ⟨cs[j], by simp [hltj]⟩
      have hCw := HC.out.keep (KeepIn.of_below hBr hhi)
      obtain ⟨b, off, -, -, hsa, hcell⟩ := hCw.1.at hc
      replace hsa : a = some ⟨b, off, none⟩ := hsa
      subst hsa
      have hbw : b < wr.heap.size := by
        obtain ⟨_, _, _, hh, -⟩ := cell_blockC (hcell 6 _ rfl)
        exact lt_of_block hh
      have c0 : wr.cell? ⟨b, off + j * 7, none⟩ = _ := hcell 0 _ rfl
      have c1 := hcell 1 _ rfl
      have c2 := hcell 2 _ rfl
      have c3 := hcell 3 _ rfl
      have c4 := hcell 4 _ rfl
      have c5 := hcell 5 _ rfl
      have c6 := hcell 6 _ rfl
      have hcmem : c ∈ cs := List.mem_of_getElem? hc
      have hszc := sizeL_mem hcmem
      have hwtc := wtL_mem hcmem
      have hwte := CondV.wt_eq c
      have hok := condOkL_iff.1 hCw.2 c hcmem
      obtain ⟨hst, hst2⟩ := sizeL_take hc
      obtain ⟨hkind, hshin⟩ := shOkC_eq.1 (shOkL_iff.1 Hsh.out c hcmem)
      have hKjl : Kj.length ≤ K.length + wtL (cs.take j) := by
        have h1 := passL_le K z (cs.take j)
        rw [Hm.out.2.2.1] at h1
        exact h1
      have hwtj : wtL (cs.take j) + c.wt ≤ wtL cs := by
        have h1 := wtL_take_le cs (j + 1)
        rw [List.take_add_one, hc, Option.toList_some, wtL_append, wtL_cons] at h1
        simp [wtL] at h1; omega
      have hzj := Hm.out.2.1
      have hzj0 : 0 ≤ zj ∧ zj + 1 + sizeL c.inner ≤ 100000 := by omega
      have hstep := passL_step hc Hm.out.2.2.1
      have hin : CondsOk lo hi wr c.h.conds c.inner := (condOk_iff.1 hok).2.2
      have x1 : IntKind.i64.wrap (1 + (sizeL c.inner : Int)) = 1 + sizeL c.inner := IntWalk.i64_in _ (by omega)
      have x2 : IntKind.i64.wrap (zj + (1 + (sizeL c.inner : Int))) = zj + (1 + sizeL c.inner) := IntWalk.i64_in _ (by omega)
      have x3 : IntKind.i64.wrap (zj + 1) = zj + 1 := IntWalk.i64_in _ (by omega)
      have hsize : ∀ W, Below wr.heap.size wr W → Calls Try.prog 43 #[.slice c.h.conds.a c.h.conds.n c.h.conds.c] W fun e w' => e = .returned (.int .i64 (sizeL c.inner)) ∧ w' = W := fun W hW => refsize_T lo hi _ c.inner (Nat.le_refl _) W c.h.conds (hin.keep (KeepIn.of_below hW (Nat.le_trans hhi hBr.size))) (by omega)
      have hcells : ∀ W, Below wr.heap.size wr W → W.cell? ⟨b, off + j * 7, none⟩ = some (.int .i64 c.h.kind) ∧ W.cell? ⟨b, off + j * 7 + 6, none⟩ = some (.slice c.h.conds.a c.h.conds.n c.h.conds.c) := fun W hW => by
        refine ⟨?_, ?_⟩
        · rw [World.cell?_of_block (hW.block b hbw)]; exact c0
        · rw [World.cell?_of_block (hW.block b hbw)]; exact c6
      have Hsize := Lib.hid hsize
      have Hcells := Lib.hid hcells
      have Hst := Lib.hid hst
      have Hstep := Lib.hid hstep
      have Hzj := Lib.hid hzj
      rcases hkind with h3 | ⟨h12, hnil⟩
      · have hrec := ih (sizeL c.inner) (by omega) c.inner (Nat.le_refl _) wr c.h.conds (zj + 1) ⟨g, Kj.length, cap⟩ Kj hin (Nat.le_trans hhi hBr.size) hshin Hm.out.2.2.2 (by omega) (by omega) (by omega)
        have b3 : (c.h.kind == 3) = true := by simp [h3]
        have hpc : passC Kj zj c = (Kj, (passL Kj (zj + 1) c.inner).2) := by rw [passC_eq, if_pos b3]
        have Hpc := Lib.hid hpc
        have Hpo := Lib.hid (pass_ok _ c.inner (Nat.le_refl _) hshin Kj (zj + 1))
        clear hcell hok hst hstep hzj hin hsize hcells hc hCw h3 hpc
        go_wp2_with fail
        refine hrec.mono ?_
        rintro e w2 ⟨hko, hB2⟩
        have hBr2 := hBr.trans (hB2.mono hBr.size)
        rcases hko with ⟨hr, g', cap', rfl, -⟩ | ⟨hr, rfl⟩
        · obtain ⟨d0, d6⟩ := Hcells.out w2 hB2
          have Hr := Lib.hid hr
          clear c0 c1 c2 c3 c4 c5 c6 hr hrec
          go_wp2_with fail
          refine (Hsize.out w2 hB2).mono ?_
          rintro e w3 ⟨rfl, rfl⟩
          go_wp2_with fail
          go_roundg (cs.length - (j + 1))
          case measure => rw [Hm.out.1]; omega
          case rel =>
            refine ⟨j + 1, zj + (1 + sizeL c.inner), g, cap, Kj, by go_num, rfl, by go_num, by omega, Lib.hid ⟨rfl, by rw [Hst.out, Hzj.out]; omega, ?_, ?_⟩, hBr2⟩
            · have h1 := Hpo.out Hr.out
              rw [Hstep.out, Hpc.out]
              refine Prod.ext rfl (Prod.ext ?_ Hr.out)
              exact h1.trans (Int.add_assoc zj 1 _)
            · exact (Hm.out.2.2.2.keep (KeepIn.of_below hB2 (Nat.le_refl _))).widen (Nat.le_refl _) hB2.size
        · have Hr := Lib.hid hr
          clear c0 c1 c2 c3 c4 c5 c6 hr hrec
          go_wp2_with fail
          go_ret3
          refine ⟨KnowsOut.no (z := (passL Kj (zj + 1) c.inner).2.1) (passL_stop (j := j) ?_) rfl, hBr2⟩
          rw [Hstep.out, Hpc.out]
          exact Prod.ext rfl Hr.out
      · have b3 : (c.h.kind == 3) = false := by rcases h12 with h | h <;> simp [h]
        have b3' : (c.h.kind = 3) = False := eq_false (by omega)
        have hmet := refmet_T wr lo hi 0 wr.heap.size c ⟨g, Kj.length, cap⟩ Kj hok (Nat.le_trans hhi hBr.size) Hm.out.2.2.2 (Nat.le_refl _) (by omega) (by omega) (by omega)
        have hi0 : sizeL c.inner = 0 := by rw [hnil]; rfl
        have Hi0 := Lib.hid hi0
        have hpc : passC Kj zj c = if c.h.kind == 2 then (Kj, if (meetH Kj c.h).2 then zj + 1 else zj, (meetH Kj c.h).2) else ((meetH Kj c.h).1, if (meetH Kj c.h).2 then zj + 1 else zj, (meetH Kj c.h).2) := by rw [passC_eq, b3]; rfl
        have Hpc := Lib.hid hpc
        clear hcell hok hst hstep hzj hin hsize hcells hc hCw hnil hi0 hpc
        go_wp2_with fail
        refine hmet.mono ?_
        rintro e w2 ⟨hmo, hB2⟩
        have hBr2 := hBr.trans (hB2.mono hBr.size)
        obtain ⟨d0, d6⟩ := Hcells.out w2 hB2
        rcases hmo with ⟨hr, g', cap', rfl, hrow⟩ | ⟨hr, rfl⟩
        · have Hr := Lib.hid hr
          have Hrow := Lib.hid hrow
          clear c0 c1 c2 c3 c4 c5 c6 hr hmet hrow
          rcases h12 with h1 | h2
          · have b1 : (c.h.kind == 1) = true := by simp [h1]
            have b2 : Hid ((c.h.kind == 2) = false) := Lib.hid (by simp [h1])
            clear h1
            go_wp2_with fail
            refine (Hsize.out w2 hB2).mono ?_
            rintro e w3 ⟨rfl, rfl⟩
            go_wp2_with fail
            go_roundg (cs.length - (j + 1))
            case measure => rw [Hm.out.1]; omega
            case rel =>
              refine ⟨j + 1, zj + (1 + sizeL c.inner), g', cap', (meetH Kj c.h).1, by go_num, rfl, by go_num, by omega, Lib.hid ⟨rfl, by rw [Hst.out, Hzj.out]; omega, ?_, ?_⟩, hBr2⟩
              · rw [Hstep.out, Hpc.out, b2.out, Hr.out, Hi0.out]
                simp
              · exact Hrow.out.widen (Nat.zero_le _) (Nat.le_refl _)
          · have b1 : (c.h.kind == 1) = false := by simp [h2]
            have b1' : (c.h.kind = 1) = False := eq_false (by omega)
            have b2 : Hid ((c.h.kind == 2) = true) := Lib.hid (by simp [h2])
            clear h2
            go_wp2_with fail
            refine (Hsize.out w2 hB2).mono ?_
            rintro e w3 ⟨rfl, rfl⟩
            go_wp2_with fail
            go_roundg (cs.length - (j + 1))
            case measure => rw [Hm.out.1]; omega
            case rel =>
              refine ⟨j + 1, zj + (1 + sizeL c.inner), g, cap, Kj, by go_num, rfl, by go_num, by omega, Lib.hid ⟨rfl, by rw [Hst.out, Hzj.out]; omega, ?_, ?_⟩, hBr2⟩
              · rw [Hstep.out, Hpc.out, b2.out, Hr.out, Hi0.out]
                simp
              · exact (Hm.out.2.2.2.keep (KeepIn.of_below hB2 (Nat.le_refl _))).widen (Nat.le_refl _) hB2.size
        · have Hr := Lib.hid hr
          clear c0 c1 c2 c3 c4 c5 c6 hr hmet
          go_wp2_with fail
          go_ret3
          refine ⟨KnowsOut.no (z := zj) (passL_stop (j := j) ?_) rfl, hBr2⟩
          rw [Hstep.out, Hpc.out, Hr.out]
          cases (c.h.kind == 2) <;> rfl
    · obtain rfl : j = cs.length := by omega
      have Hn := Lib.hid (show passL K z cs = (Kj, zj, true) by have := Hm.out.2.2.1; rwa [List.take_length] at this)
      go_wp2_with fail
      go_ret3
      exact ⟨KnowsOut.yes Hn.out rfl Hm.out.2.2.2, hBr⟩

end Go.Proofs.Ytmnpcpgdhaplaaa
