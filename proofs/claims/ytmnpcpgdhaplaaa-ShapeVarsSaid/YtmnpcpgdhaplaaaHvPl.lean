/- What the statements' own Heavy answers: what it lets through is small. Conditions: the production lies in memory. -/
import Derived.Test.YtmnpcpgdhaplaaaMg19
namespace Go.Proofs.Ytmnpcpgdhaplaaa
open Go Go.RowKit

def TestLight (t : TestV) : Prop := t.syms.length ≤ 20 ∧ t.var.size ≤ 100 ∧ t.sym.t.size ≤ 100
def CondLight (c : CondV) : Prop := c.h.id.size ≤ 100 ∧ c.h.attrs.length ≤ 10 ∧ c.h.values.length ≤ 10 ∧ (∀ t ∈ c.h.attrs, TestLight t) ∧ (∀ t ∈ c.h.values, TestLight t)
mutual
def LightC : CondV → Prop
  | .mk h l => CondLight (.mk h l) ∧ LightL l
def LightL : List CondV → Prop
  | [] => True
  | c :: cs => LightC c ∧ LightL cs
end
theorem lightC_eq {c : CondV} : LightC c ↔ CondLight c ∧ LightL c.inner := by cases c; rfl
theorem lightL_iff {cs : List CondV} : LightL cs ↔ ∀ c ∈ cs, LightC c := by
  induction cs with
  | nil => simp [LightL]
  | cons c cs ih => simp [LightL, ih]
def Light (p : ProdV) : Prop := sizeL p.cs ≤ 40 ∧ p.xs.length ≤ 40 ∧ p.name.size ≤ 100 ∧ LightL p.cs

theorem light_wt (k : Nat) : ∀ cs, sizeL cs ≤ k → LightL cs → wtL cs ≤ 21 * sizeL cs := by
  induction k with
  | zero =>
    intro cs h _
    have := sizeL_le cs
    obtain rfl : cs = [] := List.length_eq_zero_iff.1 (by omega)
    simp [wtL]
  | succ k ih =>
    intro cs
    induction cs with
    | nil => intros; simp [wtL]
    | cons c cs ih2 =>
      intro h hl
      rw [sizeL_cons] at h
      obtain ⟨h1, h2⟩ : LightC c ∧ LightL cs := by simpa [LightL] using hl
      obtain ⟨⟨-, ha, hv, -, -⟩, hi⟩ := lightC_eq.1 h1
      have e1 := ih c.inner (by omega) hi
      have e2 := ih2 (by omega) h2
      rw [wtL_cons, CondV.wt_eq, sizeL_cons]
      omega

theorem Light.sizes {p : ProdV} (h : Light p) : sizeL p.cs ≤ 50000 ∧ p.xs.length ≤ 1000 ∧ wtL p.cs ≤ 3900 := by
  obtain ⟨h1, h2, h3, h4⟩ := h
  have := light_wt _ p.cs (Nat.le_refl _) h4
  exact ⟨by omega, by omega, by omega⟩

set_option pp.deepTerms true
set_option pp.maxSteps 1000000
set_option maxRecDepth 100000 in
set_option maxHeartbeats 1600000 in
theorem hvsize_T (lo hi : Nat) : ∀ (k : Nat) (cs : List CondV), sizeL cs ≤ k → ∀ (w : World) (sl : SlH) (d : Int), CondsOk lo hi w sl cs → 0 ≤ d → d ≤ 21 →
    Calls Try.prog 36 #[.slice sl.a sl.n sl.c, .int .i64 40, .int .i64 d] w fun e w' => (∃ r : Int, e = .returned (.int .i64 r) ∧ 0 ≤ r ∧ r ≤ 41 ∧ (r ≤ 40 → r = sizeL cs)) ∧ w' = w := by
  intro k
  induction k using Nat.strongRecOn with
  | _ k ih =>
  intro cs hk w sl d hC hd0 hd1
  obtain ⟨a, m, cp⟩ := sl
  obtain rfl : m = cs.length := hC.1.1
  have HC := Lib.hid hC
  clear hC
  by_cases hd : 20 < d
  · have b0 : ((20 : Int) < d) = True := eq_true hd
    clear hd
    go_enter Try.func36, Try.ntmps36
    go_wp2_with fail
    go_ret
    exact ⟨⟨41, rfl, by omega, by omega, by omega⟩, rfl⟩
  have b0 : ((20 : Int) < d) = False := eq_false hd
  have w0 : IntKind.i64.wrap (d + 1) = d + 1 := IntWalk.i64_in _ (by omega)
  have hd2 : 0 ≤ d + 1 ∧ d + 1 ≤ 21 := by omega
  have Hd := Lib.hid hd2
  clear hd hd2
  go_enter Try.func36, Try.ntmps36
  go_wp2_with fail
  go_loopg [7, 8] 42 (fun k nv iv wr => ∃ (j : Nat) (z : Int), nv = .int .i64 z ∧ iv = .int .i64 j ∧ j ≤ cs.length ∧ (j : Int) ≤ z ∧ z ≤ 82 ∧ Hid (k = 42 - j ∧ (z ≤ 40 → z = sizeL (cs.take j))) ∧ wr = w)
  case atStart => exact ⟨0, 0, rfl, rfl, by omega, by omega, by omega, Lib.hid ⟨rfl, fun _ => rfl⟩, rfl⟩
  case round =>
    obtain ⟨j, z, rfl, rfl, hj, hjz, hz82, Hm, rfl⟩ := hrel
    by_cases hltj : j < cs.length
    · by_cases hz : z ≤ 40
      · have bz : (z ≤ 40) = True := eq_true hz
        have bz2 : ((40 : Int) < z) = False := eq_false (by omega)
        obtain ⟨c, hc⟩ : ∃ c, cs[j]? = some c := ⟨cs[j], by simp [hltj]⟩
        obtain ⟨b, off, -, -, hsa, hcell⟩ := HC.out.1.at hc
        replace hsa : a = some ⟨b, off, none⟩ := hsa
        subst hsa
        have c6 := hcell 6 _ rfl
        have hcmem : c ∈ cs := List.mem_of_getElem? hc
        have hszc := sizeL_mem hcmem
        have hok := condOkL_iff.1 HC.out.2 c hcmem
        have hin : CondsOk lo hi wr c.h.conds c.inner := by
          cases c
          exact ⟨hok.2.2.1, hok.2.2.2⟩
        have hrec := ih (sizeL c.inner) (by omega) c.inner (Nat.le_refl _) wr c.h.conds (d + 1) hin Hd.out.1 Hd.out.2
        obtain ⟨hst, hst2⟩ := sizeL_take hc
        have Hst := Lib.hid hst
        clear hcell hst hok hin
        go_wp2_with fail
        refine hrec.mono ?_
        rintro e w1 ⟨⟨r, rfl, hr0, hr1, hr⟩, rfl⟩
        have Hr := Lib.hid hr
        have w1 : IntKind.i64.wrap (1 + r) = 1 + r := IntWalk.i64_in _ (by omega)
        have w2 : IntKind.i64.wrap (z + (1 + r)) = z + (1 + r) := IntWalk.i64_in _ (by omega)
        clear hr
        go_wp2_with fail
        go_roundg (42 - (j + 1))
        case measure => rw [Hm.out.1]; omega
        case rel =>
          refine ⟨j + 1, z + (1 + r), by go_num, by go_num, by omega, by omega, by omega, Lib.hid ⟨rfl, fun h => ?_⟩, rfl⟩
          have e1 := Hr.out (by omega)
          have e2 := Hm.out.2 hz
          rw [Hst.out]; omega
      · have bz : (z ≤ 40) = False := eq_false hz
        have bz2 : ((40 : Int) < z) = True := eq_true (by omega)
        have bm : min z 41 = 41 := by omega
        have bm2 : (41 < z ∨ z = 41) := by omega
        have bm3 : ((41 : Int) ≤ z) = True := eq_true (by omega)
        go_wp2_with fail
        all_goals go_ret
        all_goals (refine ⟨⟨_, rfl, ?_, ?_, fun h => ?_⟩, rfl⟩ <;> omega)
    · obtain rfl : j = cs.length := by omega
      have e := Hm.out.2
      rw [List.take_length] at e
      have He := Lib.hid e
      clear e
      go_wp2_with fail
      all_goals go_ret
      all_goals
        refine ⟨⟨_, rfl, ?_, ?_, fun h => ?_⟩, rfl⟩
        · omega
        · omega
        · have := He.out (by omega); omega

theorem lt_eq {x y : Nat} (h : x < y) : ((x : Int) < (y : Int)) = True := eq_true (by omega)

set_option maxRecDepth 100000 in
set_option maxHeartbeats 1600000 in
theorem hvtests_T (w : World) (lo hi : Nat) (s : SlH) (l : List TestV) (h : TestsOk lo hi w s l) (hl : l.length ≤ 10) :
    Calls Try.prog 61 #[.slice s.a s.n s.c] w fun e w' => (∃ b : Bool, e = .returned (.bool b) ∧ (b = false → ∀ t ∈ l, TestLight t)) ∧ w' = w := by
  obtain ⟨a, m, cp⟩ := s
  obtain rfl : m = l.length := h.1.1
  have Hh := Lib.hid h
  clear h
  go_enter Try.func61, Try.ntmps61
  go_wp2_with fail
  go_loopg [3] l.length (fun k iv wr => ∃ j : Nat, iv = .int .i64 j ∧ j ≤ l.length ∧ Hid (k = l.length - j ∧ ∀ t ∈ l.take j, TestLight t) ∧ wr = w)
  case atStart => exact ⟨0, rfl, by omega, Lib.hid ⟨rfl, by simp⟩, rfl⟩
  case round =>
    obtain ⟨j, rfl, hj, Hm, rfl⟩ := hrel
    by_cases hlt : j < l.length
    · obtain ⟨t, hx⟩ : ∃ t, l[j]? = some t := ⟨l[j], by simp [hlt]⟩
      obtain ⟨b, off, -, -, hsa, hcell⟩ := Hh.out.1.at hx
      replace hsa : a = some ⟨b, off, none⟩ := hsa
      subst hsa
      have hn : t.lst.n = t.syms.length := (Hh.out.2 t (List.mem_of_getElem? hx)).1
      have c1 := hcell 1 _ rfl
      have c3 := hcell 3 _ rfl
      have c5 := hcell 5 _ rfl
      have Hx := Lib.hid hx
      clear hcell hx
      rw [hn] at c5
      by_cases h1 : 20 < t.syms.length
      · have b1 : ((20 : Int) < (t.syms.length : Int)) = True := eq_true (by omega)
        go_wp2_with fail
        go_ret
        exact ⟨⟨true, rfl, fun h => by cases h⟩, rfl⟩
      have b1 : ((20 : Int) < (t.syms.length : Int)) = False := eq_false (by omega)
      by_cases h2 : 100 < t.var.size
      · have b2 : ((100 : Int) < (t.var.size : Int)) = True := eq_true (by omega)
        go_wp2_with fail
        go_ret
        exact ⟨⟨true, rfl, fun h => by cases h⟩, rfl⟩
      have b2 : ((100 : Int) < (t.var.size : Int)) = False := eq_false (by omega)
      by_cases h3 : 100 < t.sym.t.size
      · have b3 : ((100 : Int) < (t.sym.t.size : Int)) = True := eq_true (by omega)
        go_wp2_with fail
        go_ret
        exact ⟨⟨true, rfl, fun h => by cases h⟩, rfl⟩
      have b3 : ((100 : Int) < (t.sym.t.size : Int)) = False := eq_false (by omega)
      have Hlt : Hid (TestLight t) := Lib.hid ⟨by omega, by omega, by omega⟩
      clear h1 h2 h3
      go_wp2_with fail
      go_roundg (l.length - (j + 1))
      case measure => rw [Hm.out.1]; omega
      case rel =>
        refine ⟨j + 1, by go_num, by omega, Lib.hid ⟨rfl, ?_⟩, rfl⟩
        rw [List.take_add_one, Hx.out]
        intro x hx
        rcases List.mem_append.1 hx with hx | hx
        · exact Hm.out.2 x hx
        · obtain rfl : x = t := by simpa using hx
          exact Hlt.out
    · obtain rfl : j = l.length := by omega
      go_wp2_with fail
      go_ret
      refine ⟨⟨false, rfl, fun _ => ?_⟩, rfl⟩
      have := Hm.out.2
      rwa [List.take_length] at this

set_option maxRecDepth 100000 in
set_option maxHeartbeats 3200000 in
theorem hvconds_T (lo hi : Nat) : ∀ (k : Nat) (cs : List CondV), sizeL cs ≤ k → ∀ (w : World) (sl : SlH), CondsOk lo hi w sl cs → hi ≤ w.heap.size → sizeL cs ≤ 40 →
    Calls Try.prog 37 #[.slice sl.a sl.n sl.c] w fun e w' => (∃ b : Bool, e = .returned (.bool b) ∧ (b = false → LightL cs)) ∧ Below w.heap.size w w' := by
  intro k
  induction k using Nat.strongRecOn with
  | _ k ih =>
  intro cs hk w sl hC hhi hsz
  obtain ⟨a, m, cp⟩ := sl
  obtain rfl : m = cs.length := hC.1.1
  have hsl := sizeL_le cs
  have HC := Lib.hid hC
  clear hC
  go_enter Try.func37, Try.ntmps37
  go_wp2_with fail
  go_loopg [3] cs.length (fun k iv wr => ∃ (j : Nat), iv = .int .i64 j ∧ j ≤ cs.length ∧ Hid (k = cs.length - j ∧ ∀ c ∈ cs.take j, LightC c) ∧ Below w.heap.size w wr)
  case atStart => exact ⟨0, rfl, by omega, Lib.hid ⟨rfl, by simp⟩, Below.refl _ _⟩
  case round =>
    obtain ⟨j, rfl, hj, Hm, hBr⟩ := hrel
    by_cases hltj : j < cs.length
    · obtain ⟨c, hc⟩ : ∃ c, cs[j]? = some c := ⟨cs[j], by simp [hltj]⟩
      have hCw := HC.out.keep (KeepIn.of_below hBr hhi)
      obtain ⟨b, off, -, -, hsa, hcell⟩ := hCw.1.at hc
      replace hsa : a = some ⟨b, off, none⟩ := hsa
      subst hsa
      have hcmem : c ∈ cs := List.mem_of_getElem? hc
      have hszc := sizeL_mem hcmem
      obtain ⟨oka, okv, oki⟩ := condOk_iff.1 (condOkL_iff.1 hCw.2 c hcmem)
      have na : c.h.attr.n = c.h.attrs.length := oka.1.1
      have nv : c.h.value.n = c.h.values.length := okv.1.1
      have c0 : wr.cell? ⟨b, off + j * 7, none⟩ = _ := hcell 0 _ rfl
      have c1 := hcell 1 _ rfl
      have c2 := hcell 2 _ rfl
      have c3 := hcell 3 _ rfl
      have c4 := hcell 4 _ rfl
      have c5 := hcell 5 _ rfl
      have c6 := hcell 6 _ rfl
      have hta := fun W (hW : Below wr.heap.size wr W) (hl : c.h.attrs.length ≤ 10) => hvtests_T W lo hi c.h.attr c.h.attrs (oka.keep (KeepIn.of_below hW (Nat.le_trans hhi hBr.size))) hl
      have htv := fun W (hW : Below wr.heap.size wr W) (hl : c.h.values.length ≤ 10) => hvtests_T W lo hi c.h.value c.h.values (okv.keep (KeepIn.of_below hW (Nat.le_trans hhi hBr.size))) hl
      have hrec := fun W (hW : Below wr.heap.size wr W) => ih (sizeL c.inner) (by omega) c.inner (Nat.le_refl _) W c.h.conds (oki.keep (KeepIn.of_below hW (Nat.le_trans hhi hBr.size))) (Nat.le_trans hhi (Nat.le_trans hBr.size hW.size)) (by omega)
      have hBc : Below w.heap.size w (wr.alloc (.cells #[.int .i64 c.h.kind, .bool c.h.goal, .string c.h.id, .slice c.h.attr.a c.h.attrs.length c.h.attr.c, .slice c.h.value.a c.h.values.length c.h.value.c, .bool c.h.acc, .slice c.h.conds.a c.h.conds.n c.h.conds.c] 64)) := hBr.alloc hBr.size _
      have Hc := Lib.hid hc
      clear hcell hc oka okv oki
      rw [na] at c3 hta
      rw [nv] at c4 htv
      by_cases h1 : 100 < c.h.id.size
      · have b1 : ((100 : Int) < (c.h.id.size : Int)) = True := eq_true (by omega)
        go_wp2_with fail
        go_ret
        exact ⟨⟨true, rfl, fun h => by cases h⟩, hBc⟩
      have b1 : ((100 : Int) < (c.h.id.size : Int)) = False := eq_false (by omega)
      by_cases h2 : 10 < c.h.attrs.length
      · have b2 : ((10 : Int) < (c.h.attrs.length : Int)) = True := eq_true (by omega)
        go_wp2_with fail
        go_ret
        exact ⟨⟨true, rfl, fun h => by cases h⟩, hBc⟩
      have b2 : ((10 : Int) < (c.h.attrs.length : Int)) = False := eq_false (by omega)
      by_cases h3 : 10 < c.h.values.length
      · have b3 : ((10 : Int) < (c.h.values.length : Int)) = True := eq_true (by omega)
        go_wp2_with fail
        go_ret
        exact ⟨⟨true, rfl, fun h => by cases h⟩, hBc⟩
      have b3 : ((10 : Int) < (c.h.values.length : Int)) = False := eq_false (by omega)
      have hbw : Below wr.heap.size wr (wr.alloc (.cells #[.int .i64 c.h.kind, .bool c.h.goal, .string c.h.id, .slice c.h.attr.a c.h.attrs.length c.h.attr.c, .slice c.h.value.a c.h.values.length c.h.value.c, .bool c.h.acc, .slice c.h.conds.a c.h.conds.n c.h.conds.c] 64)) := (Below.refl _ wr).alloc (Nat.le_refl _) _
      have hta := hta _ hbw (by omega)
      have htv := htv _ hbw (by omega)
      have hrec := hrec _ hbw
      have H123 : Hid (c.h.id.size ≤ 100 ∧ c.h.attrs.length ≤ 10 ∧ c.h.values.length ≤ 10) := Lib.hid ⟨by omega, by omega, by omega⟩
      clear h1 h2 h3
      go_wp2_with fail
      refine hta.mono ?_
      rintro e w1 ⟨⟨ba, rfl, hba⟩, rfl⟩
      have Hba := Lib.hid hba
      clear hba
      cases ba
      case true =>
        go_wp2_with fail
        go_ret
        exact ⟨⟨true, rfl, fun h => by cases h⟩, hBc⟩
      go_wp2_with fail
      refine htv.mono ?_
      rintro e w1 ⟨⟨bv, rfl, hbv⟩, rfl⟩
      have Hbv := Lib.hid hbv
      clear hbv
      cases bv
      case true =>
        go_wp2_with fail
        go_ret
        exact ⟨⟨true, rfl, fun h => by cases h⟩, hBc⟩
      go_wp2_with fail
      refine hrec.mono ?_
      rintro e w2 ⟨⟨bi, rfl, hbi⟩, hB2⟩
      have Hbi := Lib.hid hbi
      clear hbi
      have hBr2 := hBc.trans (hB2.mono hBc.size)
      cases bi
      case true =>
        go_wp2_with fail
        go_ret
        exact ⟨⟨true, rfl, fun h => by cases h⟩, hBr2⟩
      go_wp2_with fail
      go_roundg (cs.length - (j + 1))
      case measure => rw [Hm.out.1]; omega
      case rel =>
        refine ⟨j + 1, by go_num, by omega, Lib.hid ⟨rfl, ?_⟩, hBr2⟩
        rw [List.take_add_one, Hc.out]
        intro x hx
        rcases List.mem_append.1 hx with hx | hx
        · exact Hm.out.2 x hx
        · obtain rfl : x = c := by simpa using hx
          exact lightC_eq.2 ⟨⟨H123.out.1, H123.out.2.1, H123.out.2.2, Hba.out trivial, Hbv.out trivial⟩, Hbi.out trivial⟩
    · obtain rfl : j = cs.length := by omega
      go_wp2_with fail
      go_ret
      refine ⟨⟨false, rfl, fun _ => ?_⟩, hBr⟩
      have := Hm.out.2
      rw [List.take_length] at this
      exact lightL_iff.2 this

set_option maxRecDepth 100000 in
set_option maxHeartbeats 1600000 in
theorem heavy_T (w : World) (lo hi : Nat) (p : ProdV) (h : ProdOk lo hi w p) (hhi : hi ≤ w.heap.size) :
    Calls Try.prog 11 #[.agg #[.string p.name, .slice p.conds.a p.conds.n p.conds.c, .slice p.acts.a p.acts.n p.acts.c]] w fun e w' => (∃ b : Bool, e = .returned (.bool b) ∧ (b = false → Light p)) ∧ Below w.heap.size w w' := by
  have hB := (Below.refl w.heap.size w).alloc (Nat.le_refl _) (.cells #[.string p.name, .slice p.conds.a p.conds.n p.conds.c, .slice p.acts.a p.acts.n p.acts.c] 25)
  have hsize := hvsize_T lo hi _ p.cs (Nat.le_refl _) (w.alloc (.cells #[.string p.name, .slice p.conds.a p.conds.n p.conds.c, .slice p.acts.a p.acts.n p.acts.c] 25)) p.conds 0 (h.1.keep (KeepIn.of_below hB hhi)) (by omega) (by omega)
  have hcs := fun (hs : sizeL p.cs ≤ 40) => hvconds_T lo hi _ p.cs (Nat.le_refl _) (w.alloc (.cells #[.string p.name, .slice p.conds.a p.conds.n p.conds.c, .slice p.acts.a p.acts.n p.acts.c] 25)) p.conds (h.1.keep (KeepIn.of_below hB hhi)) (Nat.le_trans hhi hB.size) hs
  have na : p.acts.n = p.xs.length := h.2.1
  rw [na] at hB hsize hcs ⊢
  clear h na
  go_enter Try.func11, Try.ntmps11
  go_wp2_with fail
  refine hsize.mono ?_
  rintro e w1 ⟨⟨r, rfl, hr0, hr1, hr⟩, rfl⟩
  by_cases h40 : 40 < r
  · have b0 : ((40 : Int) < r) = True := eq_true h40
    go_wp2_with fail
    go_ret
    exact ⟨⟨true, rfl, fun h => by cases h⟩, hB⟩
  have b0 : ((40 : Int) < r) = False := eq_false h40
  have hs := hr (by omega)
  have hs40 : sizeL p.cs ≤ 40 := by omega
  have hcs := hcs hs40
  have Hs := Lib.hid hs40
  clear hr hs hs40 h40
  by_cases h2 : 40 < p.xs.length
  · have b2 : ((40 : Int) < (p.xs.length : Int)) = True := eq_true (by omega)
    go_wp2_with fail
    go_ret
    exact ⟨⟨true, rfl, fun h => by cases h⟩, hB⟩
  have b2 : ((40 : Int) < (p.xs.length : Int)) = False := eq_false (by omega)
  by_cases h3 : 100 < p.name.size
  · have b3 : ((100 : Int) < (p.name.size : Int)) = True := eq_true (by omega)
    go_wp2_with fail
    go_ret
    exact ⟨⟨true, rfl, fun h => by cases h⟩, hB⟩
  have b3 : ((100 : Int) < (p.name.size : Int)) = False := eq_false (by omega)
  have H23 : Hid (p.xs.length ≤ 40 ∧ p.name.size ≤ 100) := Lib.hid ⟨by omega, by omega⟩
  clear h2 h3
  go_wp2_with fail
  refine hcs.mono ?_
  rintro e w2 ⟨⟨b, rfl, hb⟩, hB2⟩
  go_wp2_with fail
  go_ret
  exact ⟨⟨b, rfl, fun h => ⟨Hs.out, H23.out.1, H23.out.2, hb h⟩⟩, hB.trans (hB2.mono hB.size)⟩

end Go.Proofs.Ytmnpcpgdhaplaaa
