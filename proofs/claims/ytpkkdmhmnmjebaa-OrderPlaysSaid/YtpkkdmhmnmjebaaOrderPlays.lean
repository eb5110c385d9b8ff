/- OrderPlays returns true, whatever it is given. Conditions: none but that the list lies in memory. -/
import Derived.Test.YtpkkdmhmnmjebaaActs
import Derived.Test.YtpkkdmhmnmjebaaJoinsKS
import Derived.Test.YtpkkdmhmnmjebaaWithoutS
import Derived.Test.YtpkkdmhmnmjebaaNoneSS
import Derived.Test.YtpkkdmhmnmjebaaSatSS
import Derived.Test.YtpkkdmhmnmjebaaWithinAny
import Derived.Test.YtpkkdmhmnmjebaaWakes
import Derived.Deep.LoopGhost
import Derived.Lib.SmallJoins
namespace Go.Proofs.Ytpkkdmhmnmjebaa
open Go Go.RowKit

/-- What stands in a list's memory stays while a set is changed. -/
theorem S.Own.but {w w' : World} {s : Nat} {v : Value} {R L : List SymV} (h : S.Own w v R) (hS : S.SetAt w s L) (hb : But s w w') : S.Own w' v R := by
  obtain ⟨⟨a, cap, rfl, hc⟩, h2⟩ := h
  refine ⟨⟨a, cap, rfl, ?_⟩, h2⟩
  rcases hc with rfl | ⟨b, off, rfl, hel⟩
  · exact .inl rfl
  · cases R with
    | nil => exact .inl rfl
    | cons z zs =>
      refine .inr ⟨b, off, rfl, hel.but hb ?_⟩
      rintro rfl
      obtain ⟨t, p, h1, -⟩ := hS
      have := (hel 0 z rfl).1
      simp [World.cell?, h1] at this
      cases off <;> simp at this

theorem get_eq {R : List SymV} {x y : SymV} (hs : Sorted symCmp R) (hh : has symCmp R x = true) (hy : R[pos symCmp R x]? = some y) : y = x := by
  obtain ⟨z, hz, h0⟩ := has_at symCmp_lin R x hs hh
  rw [hy] at hz
  cases hz
  exact ((S.symCmp_exact x y).1 h0).symm

set_option maxRecDepth 100000 in
set_option maxHeartbeats 80000000 in
theorem plays_walk (w : World) (v : Value) (l : List ActV) (hv : ActsOf w v l) (hl : l.length ≤ 200) :
    Calls Try.prog 3 #[v] w fun e w' => e = .returned (.bool true) ∧ Below w.heap.size w w' := by
  obtain ⟨a, cap, rfl, hc⟩ := hv
  go_enter Try.func3, Try.ntmps3
  go_wp2_with fail
  refine (S.new_T w _ [] ⟨none, 0, rfl, .inl rfl⟩ (by simp)).mono ?_
  rintro e w1 ⟨s, rfl, hs, hS, hB1⟩
  simp only [List.foldl_nil] at hS
  go_wp2_with fail
  go_loopg [4, 5] l.length (fun k r i wr => ∃ (j : Nat) (R : List SymV), i = .int .i64 j ∧ j ≤ l.length ∧ Hid (k = l.length - j) ∧ Hid (S.Own wr r R) ∧ Hid (S.SetAt wr s R) ∧ R.length ≤ j ∧ Below w.heap.size w wr)
  case atStart => exact ⟨0, [], rfl, by omega, Lib.hid rfl, Lib.hid (S.Own.nil w1), Lib.hid hS, Nat.le_refl _, hB1⟩
  case round =>
    obtain ⟨j, R, rfl, hj, Hk, HO, HS, hRj, hB⟩ := hrel
    obtain ⟨ao, co, rfl⟩ := HO.out.len
    by_cases hlt : j < l.length
    · rcases hc with rfl | ⟨b, off, rfl, hel⟩
      · simp at hlt
      · obtain ⟨x, hx⟩ : ∃ x, l[j]? = some x := ⟨l[j], by simp [hlt]⟩
        have hac0 := hel j x hx
        have hbl := World.block_lt_of_cell? w _ hac0.1
        have hac := hac0.below hB hbl
        obtain ⟨g0, g1, g2, g3, g4⟩ := hac
        clear hel hx
        go_wp2_with fail
        have hBx : Below wr.heap.size wr (wr.alloc (.cells #[.int .i64 x.s.k, .string x.s.t, .int .i64 x.s.n] 26)) := (Below.refl _ wr).alloc (Nat.le_refl _) _
        have hbx := heap_alloc_new wr (.cells #[.int .i64 x.s.k, .string x.s.t, .int .i64 x.s.n] 26)
        have hO1 := HO.out.below hBx
        have hS1 := HS.out.below hBx
        have hC1 := hB.trans (hBx.mono hB.size)
        have hsx : s < wr.heap.size := HS.out.lt
        generalize (wr.alloc (.cells #[.int .i64 x.s.k, .string x.s.t, .int .i64 x.s.n] 26)) = W1 at hBx hbx hO1 hS1 hC1 ⊢
        refine (S.has_T W1 _ R x.s hO1.1 (by omega)).mono ?_
        rintro e w2 ⟨rfl, hB2⟩
        have hO2 := hO1.below hB2
        have hS2 := hS1.below hB2
        have hC2 := hC1.trans (hB2.mono hC1.size)
        have hbx2 := (hB2.block _ (lt_of_block hbx)).trans hbx
        have hbxl := lt_of_block hbx2
        have hso := hO2.2.2
        have HO2 := Lib.hid hO2
        have HS2 := Lib.hid hS2
        have hkeep : ∀ W : World, (∀ k, k < w2.heap.size → k ≠ s → W.heap[k]? = w2.heap[k]?) → (W.cell? ⟨wr.heap.size, 0, none⟩ = some (.int .i64 x.s.k) ∧ W.cell? ⟨wr.heap.size, 1, none⟩ = some (.string x.s.t) ∧ W.cell? ⟨wr.heap.size, 2, none⟩ = some (.int .i64 x.s.n)) := by
          intro W h
          have := (h _ hbxl (by omega)).trans hbx2
          simp [World.cell?, this]
        have Hkeep := Lib.hid hkeep
        obtain ⟨f0, f1, f2⟩ := hkeep w2 (fun k _ _ => rfl)
        obtain ⟨g0, g1, g2, g3, g4⟩ := hac0.below hC2 hbl
        have Hac0 := Lib.hid hac0
        have hss := hS2.lt
        have hs1 : same ⟨x.s.k, x.s.t, x.s.n⟩ ⟨x.s.k, x.s.t, x.s.n⟩ = true := same_iff.2 rfl
        have hs0 : same ⟨0, ⟨#[]⟩, 0⟩ ⟨0, ⟨#[]⟩, 0⟩ = true := same_iff.2 rfl
        have hse := sym_equal'
        have hsg := sym_guard
        clear hkeep hac0 hO1 hS1 hO2 hS2 HO HS hbx hbx2
        rcases hq : has symCmp R x.s with _ | _
        · have Hq := Lib.hid hq
          clear hq
          go_wp2_with fail
          refine (within_any _ x.d 6 (by omega) (by omega)).mono ?_
          rintro e w3 ⟨⟨k, rfl, hk⟩, rfl⟩
          have hk6 : k < 6 := by omega
          rcases k with _ | _ | _ | _ | _ | _ | k
          · go_wp2_with fail
            have hput := S.put_T w3 s R x.s HS2.out (by omega)
            rw [Hq.out] at hput
            refine hput.mono ?_
            clear hput
            rintro e w5 ⟨rfl, hS5, hb5⟩
            have hO5 := S.Own.but HO2.out HS2.out hb5
            obtain ⟨f50, f51, f52⟩ := Hkeep.out w5 (fun k h1 h2 => hb5.block k h1 h2)
            have hC5 : Below w.heap.size w w5 := But.below hC2 hb5 (by omega) hC2.size
            have HS5 := Lib.hid hS5
            clear hS5
            go_wp2_with fail
            refine (S.ownput_T w5 _ R x.s hO5 (by omega)).mono ?_
            rintro e w6 ⟨vo, rfl, hO6, hB6⟩
            have hl6 := length_put symCmp R x.s
            have HS6 := Lib.hid (HS5.out.below hB6)
            obtain ⟨ao6, co6, rfl⟩ := hO6.len
            have HO6 := Lib.hid hO6
            have hC6 := hC5.trans (hB6.mono hC5.size)
            clear hO6 hO5
            go_wp2_with fail
            refine (S.len_T w6 s _ HS6.out).mono ?_
            rintro e w9 ⟨rfl, rfl⟩
            go_wp2_with fail
            go_roundg (l.length - (j + 1))
            case measure => rw [Hk.out]; omega
            case rel => exact ⟨j + 1, (put symCmp R x.s), by go_num, by omega, Lib.hid rfl, HO6, HS6, by omega, hC6⟩
          · go_wp2_with fail
            have hput := S.put_T w3 s R x.s HS2.out (by omega)
            rw [Hq.out] at hput
            refine hput.mono ?_
            clear hput
            rintro e w5 ⟨rfl, hS5, hb5⟩
            have hO5 := S.Own.but HO2.out HS2.out hb5
            obtain ⟨f50, f51, f52⟩ := Hkeep.out w5 (fun k h1 h2 => hb5.block k h1 h2)
            have hC5 : Below w.heap.size w w5 := But.below hC2 hb5 (by omega) hC2.size
            have HS5 := Lib.hid hS5
            clear hS5
            go_wp2_with fail
            refine (S.ownput_T w5 _ R x.s hO5 (by omega)).mono ?_
            rintro e w6 ⟨vo, rfl, hO6, hB6⟩
            have hl6 := length_put symCmp R x.s
            have HS6 := Lib.hid (HS5.out.below hB6)
            obtain ⟨ao6, co6, rfl⟩ := hO6.len
            have HO6 := Lib.hid hO6
            have hC6 := hC5.trans (hB6.mono hC5.size)
            clear hO6 hO5
            go_wp2_with fail
            refine (S.len_T w6 s _ HS6.out).mono ?_
            rintro e w9 ⟨rfl, rfl⟩
            go_wp2_with fail
            go_roundg (l.length - (j + 1))
            case measure => rw [Hk.out]; omega
            case rel => exact ⟨j + 1, (put symCmp R x.s), by go_num, by omega, Lib.hid rfl, HO6, HS6, by omega, hC6⟩
          · go_wp2_with fail
            have hput := S.drop_T w3 s R x.s HS2.out (by omega)
            rw [Hq.out] at hput
            refine hput.mono ?_
            clear hput
            rintro e w5 ⟨rfl, hS5, hb5⟩
            have hO5 := S.Own.but HO2.out HS2.out hb5
            obtain ⟨f50, f51, f52⟩ := Hkeep.out w5 (fun k h1 h2 => hb5.block k h1 h2)
            have hC5 : Below w.heap.size w w5 := But.below hC2 hb5 (by omega) hC2.size
            have HS5 := Lib.hid hS5
            clear hS5
            go_wp2_with fail
            refine (S.without_T w5 _ R x.s hO5.1 (by omega)).mono ?_
            rintro e w6 ⟨vo, rfl, hM6, hB6⟩
            have hO6 : S.Own w6 vo (S.drop symCmp R x.s) := ⟨by rw [← S.sans_eq HO2.out.2.2]; exact S.SliceGe.slice (S.Made.ge hM6), S.Made.fits hM6, S.sorted_drop _ _ HO2.out.2.2⟩
            have hl6 := S.length_drop symCmp R x.s
            clear hM6
            have HS6 := Lib.hid (HS5.out.below hB6)
            obtain ⟨ao6, co6, rfl⟩ := hO6.len
            have HO6 := Lib.hid hO6
            have hC6 := hC5.trans (hB6.mono hC5.size)
            clear hO6 hO5
            go_wp2_with fail
            refine (S.len_T w6 s _ HS6.out).mono ?_
            rintro e w9 ⟨rfl, rfl⟩
            go_wp2_with fail
            go_roundg (l.length - (j + 1))
            case measure => rw [Hk.out]; omega
            case rel => exact ⟨j + 1, (S.drop symCmp R x.s), by go_num, by omega, Lib.hid rfl, HO6, HS6, by omega, hC6⟩
          · go_wp2_with fail
            refine (S.get_no_T w3 s R x.s HS2.out (by omega) Hq.out).mono ?_
            rintro e w5 ⟨rfl, hB5⟩
            obtain ⟨f50, f51, f52⟩ := Hkeep.out w5 (fun k h1 _ => hB5.block k h1)
            have hC5 := hC2.trans (hB5.mono hC2.size)
            have hlt5 : wr.heap.size < w5.heap.size := by have := hB5.size; omega
            have HS5 := Lib.hid (HS2.out.below hB5)
            have HO5 := Lib.hid (HO2.out.below hB5)
            obtain ⟨g50, g51, g52, g53, g54⟩ := Hac0.out.below hC5 hbl
            go_wp2_with fail
            have hBa : Below w5.heap.size w5 (w5.alloc (.cells #[.int .i64 0, .string ⟨#[]⟩, .int .i64 0] 26)) := (Below.refl _ w5).alloc (Nat.le_refl _) _
            have HSa := Lib.hid (HS5.out.below hBa)
            have HOa := Lib.hid (HO5.out.below hBa)
            have hCa := hC5.trans (hBa.mono hC5.size)
            generalize (w5.alloc (.cells #[.int .i64 0, .string ⟨#[]⟩, .int .i64 0] 26)) = w6 at hBa HSa HOa hCa ⊢
            refine (S.len_T w6 s _ HSa.out).mono ?_
            rintro e w9 ⟨rfl, rfl⟩
            go_wp2_with fail
            go_roundg (l.length - (j + 1))
            case measure => rw [Hk.out]; omega
            case rel => exact ⟨j + 1, R, by go_num, by omega, Lib.hid rfl, HOa, HSa, by omega, hCa⟩
          · go_wp2_with fail
            have hpl := S.place_T w3 s R x.s HS2.out (by omega)
            rw [Hq.out] at hpl
            refine hpl.mono ?_
            clear hpl
            rintro e w5 ⟨rfl, hB5⟩
            obtain ⟨f50, f51, f52⟩ := Hkeep.out w5 (fun k h1 _ => hB5.block k h1)
            have hC5 := hC2.trans (hB5.mono hC2.size)
            have hlt5 : wr.heap.size < w5.heap.size := by have := hB5.size; omega
            have HS5 := Lib.hid (HS2.out.below hB5)
            have HO5 := Lib.hid (HO2.out.below hB5)
            obtain ⟨g50, g51, g52, g53, g54⟩ := Hac0.out.below hC5 hbl
            go_wp2_with fail
            refine (S.below_T w5 _ R x.s HO5.out.1 (by omega)).mono ?_
            rintro e w6 ⟨rfl, hB6⟩
            have HS6 := Lib.hid (HS5.out.below hB6)
            have HO6 := Lib.hid (HO5.out.below hB6)
            have hC6 := hC5.trans (hB6.mono hC5.size)
            go_wp2_with fail
            refine (S.len_T w6 s _ HS6.out).mono ?_
            rintro e w9 ⟨rfl, rfl⟩
            go_wp2_with fail
            go_roundg (l.length - (j + 1))
            case measure => rw [Hk.out]; omega
            case rel => exact ⟨j + 1, R, by go_num, by omega, Lib.hid rfl, HO6, HS6, by omega, hC6⟩
          · by_cases hn0 : x.n < 0
            · have hn1 : ¬ 0 ≤ x.n := by omega
              have hn2 : (0 ≤ x.n) = False := by simp; omega
              go_wp2_with fail
              refine (S.at_no_T w3 s R x.n HS2.out (by omega) (.inl hn0)).mono ?_
              rintro e w5 ⟨rfl, hB5⟩
              obtain ⟨f50, f51, f52⟩ := Hkeep.out w5 (fun k h1 _ => hB5.block k h1)
              have hC5 := hC2.trans (hB5.mono hC2.size)
              have hlt5 : wr.heap.size < w5.heap.size := by have := hB5.size; omega
              have HS5 := Lib.hid (HS2.out.below hB5)
              have HO5 := Lib.hid (HO2.out.below hB5)
              obtain ⟨g50, g51, g52, g53, g54⟩ := Hac0.out.below hC5 hbl
              go_wp2_with fail
              have hBa : Below w5.heap.size w5 (w5.alloc (.cells #[.int .i64 0, .string ⟨#[]⟩, .int .i64 0] 26)) := (Below.refl _ w5).alloc (Nat.le_refl _) _
              have hby := heap_alloc_new w5 (.cells #[.int .i64 0, .string ⟨#[]⟩, .int .i64 0] 26)
              have HSa := Lib.hid (HS5.out.below hBa)
              have HOa := Lib.hid (HO5.out.below hBa)
              have hCa := hC5.trans (hBa.mono hC5.size)
              generalize (w5.alloc (.cells #[.int .i64 0, .string ⟨#[]⟩, .int .i64 0] 26)) = w6 at hBa hby HSa HOa hCa ⊢
              clear f50 f51 f52 g50 g51 g52 g53 g54 f0 f1 f2 g0 g1 g2 g3 g4
              obtain ⟨f60, f61, f62⟩ := Hkeep.out w6 (fun k h1 _ => (hB5.trans (hBa.mono hB5.size)).block k h1)
              obtain ⟨g60, g61, g62, g63, g64⟩ := Hac0.out.below hCa hbl
              have hy60 := Go.Joins.cell_of_block hby 0
              have hy61 := Go.Joins.cell_of_block hby 1
              have hy62 := Go.Joins.cell_of_block hby 2
              simp only [List.getElem?_toArray, List.getElem?_cons_zero, List.getElem?_cons_succ] at hy60 hy61 hy62
              go_quiet (fail)
              have hBq := below_drewN w6.heap.size w6 nq
              have HSq := Lib.hid (HSa.out.below hBq)
              have HOq := Lib.hid (HOa.out.below hBq)
              have hCq := hCa.trans (hBq.mono hCa.size)
              go_wp2_with fail
              refine (S.len_T (w6.drewN nq) s _ HSq.out).mono ?_
              rintro e w9 ⟨rfl, rfl⟩
              go_wp2_with fail
              go_roundg (l.length - (j + 1))
              case measure => rw [Hk.out]; omega
              case rel => exact ⟨j + 1, R, by go_num, by omega, Lib.hid rfl, HOq, HSq, by omega, hCq⟩
            by_cases hn3 : (R.length : Int) ≤ x.n
            · have hn1 : 0 ≤ x.n := by omega
              have hn2 : ¬ x.n < (R.length : Int) := by omega
              have hn4 : (x.n < (R.length : Int)) = False := by simp; omega
              have hn5 : (0 ≤ x.n) = True := by simp; omega
              clear hn0
              go_wp2_with fail
              refine (S.at_no_T w3 s R x.n HS2.out (by omega) (.inr hn3)).mono ?_
              rintro e w5 ⟨rfl, hB5⟩
              obtain ⟨f50, f51, f52⟩ := Hkeep.out w5 (fun k h1 _ => hB5.block k h1)
              have hC5 := hC2.trans (hB5.mono hC2.size)
              have hlt5 : wr.heap.size < w5.heap.size := by have := hB5.size; omega
              have HS5 := Lib.hid (HS2.out.below hB5)
              have HO5 := Lib.hid (HO2.out.below hB5)
              obtain ⟨g50, g51, g52, g53, g54⟩ := Hac0.out.below hC5 hbl
              go_wp2_with fail
              have hBa : Below w5.heap.size w5 (w5.alloc (.cells #[.int .i64 0, .string ⟨#[]⟩, .int .i64 0] 26)) := (Below.refl _ w5).alloc (Nat.le_refl _) _
              have hby := heap_alloc_new w5 (.cells #[.int .i64 0, .string ⟨#[]⟩, .int .i64 0] 26)
              have HSa := Lib.hid (HS5.out.below hBa)
              have HOa := Lib.hid (HO5.out.below hBa)
              have hCa := hC5.trans (hBa.mono hC5.size)
              generalize (w5.alloc (.cells #[.int .i64 0, .string ⟨#[]⟩, .int .i64 0] 26)) = w6 at hBa hby HSa HOa hCa ⊢
              clear f50 f51 f52 g50 g51 g52 g53 g54 f0 f1 f2 g0 g1 g2 g3 g4
              obtain ⟨f60, f61, f62⟩ := Hkeep.out w6 (fun k h1 _ => (hB5.trans (hBa.mono hB5.size)).block k h1)
              obtain ⟨g60, g61, g62, g63, g64⟩ := Hac0.out.below hCa hbl
              have hy60 := Go.Joins.cell_of_block hby 0
              have hy61 := Go.Joins.cell_of_block hby 1
              have hy62 := Go.Joins.cell_of_block hby 2
              simp only [List.getElem?_toArray, List.getElem?_cons_zero, List.getElem?_cons_succ] at hy60 hy61 hy62
              go_quiet (fail)
              have hBq := below_drewN w6.heap.size w6 nq
              have HSq := Lib.hid (HSa.out.below hBq)
              have HOq := Lib.hid (HOa.out.below hBq)
              have hCq := hCa.trans (hBq.mono hCa.size)
              go_wp2_with fail
              refine (S.len_T (w6.drewN nq) s _ HSq.out).mono ?_
              rintro e w9 ⟨rfl, rfl⟩
              go_wp2_with fail
              go_roundg (l.length - (j + 1))
              case measure => rw [Hk.out]; omega
              case rel => exact ⟨j + 1, R, by go_num, by omega, Lib.hid rfl, HOq, HSq, by omega, hCq⟩
            · obtain ⟨m, hm⟩ : ∃ m : Nat, x.n = m := ⟨x.n.toNat, by omega⟩
              have hmR : m < R.length := by omega
              have hmR2 : (m : Int) < R.length := by omega
              obtain ⟨y, hy⟩ : ∃ y, R[m]? = some y := ⟨R[m], by simp [hmR]⟩
              have Hy := Lib.hid hy
              have hmc : m < co := by have := (HO2.out.2.1 _ _ _ rfl).1; omega
              have hy1 : same ⟨y.k, y.t, y.n⟩ ⟨y.k, y.t, y.n⟩ = true := same_iff.2 rfl
              have Hm := Lib.hid hm
              clear hn0 hn3 hy
              go_wp2_with fail
              refine (S.set_at_T w3 s R m _ y HS2.out (by omega) (by first | rfl | exact Hm.out) Hy.out).mono ?_
              rintro e w5 ⟨rfl, hB5⟩
              obtain ⟨f50, f51, f52⟩ := Hkeep.out w5 (fun k h1 _ => hB5.block k h1)
              have hC5 := hC2.trans (hB5.mono hC2.size)
              have hlt5 : wr.heap.size < w5.heap.size := by have := hB5.size; omega
              have HS5 := Lib.hid (HS2.out.below hB5)
              have HO5 := Lib.hid (HO2.out.below hB5)
              obtain ⟨g50, g51, g52, g53, g54⟩ := Hac0.out.below hC5 hbl
              go_wp2_with fail
              have hBa : Below w5.heap.size w5 (w5.alloc (.cells #[.int .i64 y.k, .string y.t, .int .i64 y.n] 26)) := (Below.refl _ w5).alloc (Nat.le_refl _) _
              have hby := heap_alloc_new w5 (.cells #[.int .i64 y.k, .string y.t, .int .i64 y.n] 26)
              have HSa := Lib.hid (HS5.out.below hBa)
              have HOa := Lib.hid (HO5.out.below hBa)
              have hCa := hC5.trans (hBa.mono hC5.size)
              generalize (w5.alloc (.cells #[.int .i64 y.k, .string y.t, .int .i64 y.n] 26)) = w6 at hBa hby HSa HOa hCa ⊢
              clear f50 f51 f52 g50 g51 g52 g53 g54 f0 f1 f2 g0 g1 g2 g3 g4
              obtain ⟨f60, f61, f62⟩ := Hkeep.out w6 (fun k h1 _ => (hB5.trans (hBa.mono hB5.size)).block k h1)
              obtain ⟨g60, g61, g62, g63, g64⟩ := Hac0.out.below hCa hbl
              have hy60 := Go.Joins.cell_of_block hby 0
              have hy61 := Go.Joins.cell_of_block hby 1
              have hy62 := Go.Joins.cell_of_block hby 2
              simp only [List.getElem?_toArray, List.getElem?_cons_zero, List.getElem?_cons_succ] at hy60 hy61 hy62
              obtain ⟨a9, c9, e9, hs9⟩ := HOa.out.1
              cases e9
              rcases hs9 with rfl | ⟨b2, off2, rfl, hel2⟩
              · simp at hmR
              have hyc := hel2 m y Hy.out
              clear hel2
              go_quiet (fail)
              have hBq := below_drewN w6.heap.size w6 nq
              have HSq := Lib.hid (HSa.out.below hBq)
              have HOq := Lib.hid (HOa.out.below hBq)
              have hCq := hCa.trans (hBq.mono hCa.size)
              go_wp2_with fail
              refine (S.len_T (w6.drewN nq) s _ HSq.out).mono ?_
              rintro e w9 ⟨rfl, rfl⟩
              go_wp2_with fail
              go_roundg (l.length - (j + 1))
              case measure => rw [Hk.out]; omega
              case rel => exact ⟨j + 1, R, by go_num, by omega, Lib.hid rfl, HOq, HSq, by omega, hCq⟩
          · omega
        · have Hq := Lib.hid hq
          clear hq
          go_wp2_with fail
          refine (within_any _ x.d 6 (by omega) (by omega)).mono ?_
          rintro e w3 ⟨⟨k, rfl, hk⟩, rfl⟩
          have hk6 : k < 6 := by omega
          rcases k with _ | _ | _ | _ | _ | _ | k
          · go_wp2_with fail
            have hput := S.put_T w3 s R x.s HS2.out (by omega)
            rw [Hq.out] at hput
            refine hput.mono ?_
            clear hput
            rintro e w5 ⟨rfl, hS5, hb5⟩
            have hO5 := S.Own.but HO2.out HS2.out hb5
            obtain ⟨f50, f51, f52⟩ := Hkeep.out w5 (fun k h1 h2 => hb5.block k h1 h2)
            have hC5 : Below w.heap.size w w5 := But.below hC2 hb5 (by omega) hC2.size
            have HS5 := Lib.hid hS5
            clear hS5
            go_wp2_with fail
            refine (S.ownput_T w5 _ R x.s hO5 (by omega)).mono ?_
            rintro e w6 ⟨vo, rfl, hO6, hB6⟩
            have hl6 := length_put symCmp R x.s
            have HS6 := Lib.hid (HS5.out.below hB6)
            obtain ⟨ao6, co6, rfl⟩ := hO6.len
            have HO6 := Lib.hid hO6
            have hC6 := hC5.trans (hB6.mono hC5.size)
            clear hO6 hO5
            go_wp2_with fail
            refine (S.len_T w6 s _ HS6.out).mono ?_
            rintro e w9 ⟨rfl, rfl⟩
            go_wp2_with fail
            go_roundg (l.length - (j + 1))
            case measure => rw [Hk.out]; omega
            case rel => exact ⟨j + 1, (put symCmp R x.s), by go_num, by omega, Lib.hid rfl, HO6, HS6, by omega, hC6⟩
          · go_wp2_with fail
            have hput := S.put_T w3 s R x.s HS2.out (by omega)
            rw [Hq.out] at hput
            refine hput.mono ?_
            clear hput
            rintro e w5 ⟨rfl, hS5, hb5⟩
            have hO5 := S.Own.but HO2.out HS2.out hb5
            obtain ⟨f50, f51, f52⟩ := Hkeep.out w5 (fun k h1 h2 => hb5.block k h1 h2)
            have hC5 : Below w.heap.size w w5 := But.below hC2 hb5 (by omega) hC2.size
            have HS5 := Lib.hid hS5
            clear hS5
            go_wp2_with fail
            refine (S.ownput_T w5 _ R x.s hO5 (by omega)).mono ?_
            rintro e w6 ⟨vo, rfl, hO6, hB6⟩
            have hl6 := length_put symCmp R x.s
            have HS6 := Lib.hid (HS5.out.below hB6)
            obtain ⟨ao6, co6, rfl⟩ := hO6.len
            have HO6 := Lib.hid hO6
            have hC6 := hC5.trans (hB6.mono hC5.size)
            clear hO6 hO5
            go_wp2_with fail
            refine (S.len_T w6 s _ HS6.out).mono ?_
            rintro e w9 ⟨rfl, rfl⟩
            go_wp2_with fail
            go_roundg (l.length - (j + 1))
            case measure => rw [Hk.out]; omega
            case rel => exact ⟨j + 1, (put symCmp R x.s), by go_num, by omega, Lib.hid rfl, HO6, HS6, by omega, hC6⟩
          · go_wp2_with fail
            have hput := S.drop_T w3 s R x.s HS2.out (by omega)
            rw [Hq.out] at hput
            refine hput.mono ?_
            clear hput
            rintro e w5 ⟨rfl, hS5, hb5⟩
            have hO5 := S.Own.but HO2.out HS2.out hb5
            obtain ⟨f50, f51, f52⟩ := Hkeep.out w5 (fun k h1 h2 => hb5.block k h1 h2)
            have hC5 : Below w.heap.size w w5 := But.below hC2 hb5 (by omega) hC2.size
            have HS5 := Lib.hid hS5
            clear hS5
            go_wp2_with fail
            refine (S.without_T w5 _ R x.s hO5.1 (by omega)).mono ?_
            rintro e w6 ⟨vo, rfl, hM6, hB6⟩
            have hO6 : S.Own w6 vo (S.drop symCmp R x.s) := ⟨by rw [← S.sans_eq HO2.out.2.2]; exact S.SliceGe.slice (S.Made.ge hM6), S.Made.fits hM6, S.sorted_drop _ _ HO2.out.2.2⟩
            have hl6 := S.length_drop symCmp R x.s
            clear hM6
            have HS6 := Lib.hid (HS5.out.below hB6)
            obtain ⟨ao6, co6, rfl⟩ := hO6.len
            have HO6 := Lib.hid hO6
            have hC6 := hC5.trans (hB6.mono hC5.size)
            clear hO6 hO5
            go_wp2_with fail
            refine (S.len_T w6 s _ HS6.out).mono ?_
            rintro e w9 ⟨rfl, rfl⟩
            go_wp2_with fail
            go_roundg (l.length - (j + 1))
            case measure => rw [Hk.out]; omega
            case rel => exact ⟨j + 1, (S.drop symCmp R x.s), by go_num, by omega, Lib.hid rfl, HO6, HS6, by omega, hC6⟩
          · go_wp2_with fail
            refine (S.get_T w3 s R x.s HS2.out (by omega) Hq.out).mono ?_
            rintro e w5 ⟨⟨y, rfl, hy⟩, hB5⟩
            obtain rfl : y = x.s := get_eq hso Hq.out hy
            clear hy
            obtain ⟨f50, f51, f52⟩ := Hkeep.out w5 (fun k h1 _ => hB5.block k h1)
            have hC5 := hC2.trans (hB5.mono hC2.size)
            have hlt5 : wr.heap.size < w5.heap.size := by have := hB5.size; omega
            have HS5 := Lib.hid (HS2.out.below hB5)
            have HO5 := Lib.hid (HO2.out.below hB5)
            obtain ⟨g50, g51, g52, g53, g54⟩ := Hac0.out.below hC5 hbl
            go_wp2_with fail
            have hBa : Below w5.heap.size w5 (w5.alloc (.cells #[.int .i64 x.s.k, .string x.s.t, .int .i64 x.s.n] 26)) := (Below.refl _ w5).alloc (Nat.le_refl _) _
            have HSa := Lib.hid (HS5.out.below hBa)
            have HOa := Lib.hid (HO5.out.below hBa)
            have hCa := hC5.trans (hBa.mono hC5.size)
            generalize (w5.alloc (.cells #[.int .i64 x.s.k, .string x.s.t, .int .i64 x.s.n] 26)) = w6 at hBa HSa HOa hCa ⊢
            refine (S.len_T w6 s _ HSa.out).mono ?_
            rintro e w9 ⟨rfl, rfl⟩
            go_wp2_with fail
            go_roundg (l.length - (j + 1))
            case measure => rw [Hk.out]; omega
            case rel => exact ⟨j + 1, R, by go_num, by omega, Lib.hid rfl, HOa, HSa, by omega, hCa⟩
          · go_wp2_with fail
            have hpl := S.place_T w3 s R x.s HS2.out (by omega)
            rw [Hq.out] at hpl
            refine hpl.mono ?_
            clear hpl
            rintro e w5 ⟨rfl, hB5⟩
            obtain ⟨f50, f51, f52⟩ := Hkeep.out w5 (fun k h1 _ => hB5.block k h1)
            have hC5 := hC2.trans (hB5.mono hC2.size)
            have hlt5 : wr.heap.size < w5.heap.size := by have := hB5.size; omega
            have HS5 := Lib.hid (HS2.out.below hB5)
            have HO5 := Lib.hid (HO2.out.below hB5)
            obtain ⟨g50, g51, g52, g53, g54⟩ := Hac0.out.below hC5 hbl
            go_wp2_with fail
            refine (S.below_T w5 _ R x.s HO5.out.1 (by omega)).mono ?_
            rintro e w6 ⟨rfl, hB6⟩
            have HS6 := Lib.hid (HS5.out.below hB6)
            have HO6 := Lib.hid (HO5.out.below hB6)
            have hC6 := hC5.trans (hB6.mono hC5.size)
            go_wp2_with fail
            refine (S.len_T w6 s _ HS6.out).mono ?_
            rintro e w9 ⟨rfl, rfl⟩
            go_wp2_with fail
            go_roundg (l.length - (j + 1))
            case measure => rw [Hk.out]; omega
            case rel => exact ⟨j + 1, R, by go_num, by omega, Lib.hid rfl, HO6, HS6, by omega, hC6⟩
          · by_cases hn0 : x.n < 0
            · have hn1 : ¬ 0 ≤ x.n := by omega
              have hn2 : (0 ≤ x.n) = False := by simp; omega
              go_wp2_with fail
              refine (S.at_no_T w3 s R x.n HS2.out (by omega) (.inl hn0)).mono ?_
              rintro e w5 ⟨rfl, hB5⟩
              obtain ⟨f50, f51, f52⟩ := Hkeep.out w5 (fun k h1 _ => hB5.block k h1)
              have hC5 := hC2.trans (hB5.mono hC2.size)
              have hlt5 : wr.heap.size < w5.heap.size := by have := hB5.size; omega
              have HS5 := Lib.hid (HS2.out.below hB5)
              have HO5 := Lib.hid (HO2.out.below hB5)
              obtain ⟨g50, g51, g52, g53, g54⟩ := Hac0.out.below hC5 hbl
              go_wp2_with fail
              have hBa : Below w5.heap.size w5 (w5.alloc (.cells #[.int .i64 0, .string ⟨#[]⟩, .int .i64 0] 26)) := (Below.refl _ w5).alloc (Nat.le_refl _) _
              have hby := heap_alloc_new w5 (.cells #[.int .i64 0, .string ⟨#[]⟩, .int .i64 0] 26)
              have HSa := Lib.hid (HS5.out.below hBa)
              have HOa := Lib.hid (HO5.out.below hBa)
              have hCa := hC5.trans (hBa.mono hC5.size)
              generalize (w5.alloc (.cells #[.int .i64 0, .string ⟨#[]⟩, .int .i64 0] 26)) = w6 at hBa hby HSa HOa hCa ⊢
              clear f50 f51 f52 g50 g51 g52 g53 g54 f0 f1 f2 g0 g1 g2 g3 g4
              obtain ⟨f60, f61, f62⟩ := Hkeep.out w6 (fun k h1 _ => (hB5.trans (hBa.mono hB5.size)).block k h1)
              obtain ⟨g60, g61, g62, g63, g64⟩ := Hac0.out.below hCa hbl
              have hy60 := Go.Joins.cell_of_block hby 0
              have hy61 := Go.Joins.cell_of_block hby 1
              have hy62 := Go.Joins.cell_of_block hby 2
              simp only [List.getElem?_toArray, List.getElem?_cons_zero, List.getElem?_cons_succ] at hy60 hy61 hy62
              go_quiet (fail)
              have hBq := below_drewN w6.heap.size w6 nq
              have HSq := Lib.hid (HSa.out.below hBq)
              have HOq := Lib.hid (HOa.out.below hBq)
              have hCq := hCa.trans (hBq.mono hCa.size)
              go_wp2_with fail
              refine (S.len_T (w6.drewN nq) s _ HSq.out).mono ?_
              rintro e w9 ⟨rfl, rfl⟩
              go_wp2_with fail
              go_roundg (l.length - (j + 1))
              case measure => rw [Hk.out]; omega
              case rel => exact ⟨j + 1, R, by go_num, by omega, Lib.hid rfl, HOq, HSq, by omega, hCq⟩
            by_cases hn3 : (R.length : Int) ≤ x.n
            · have hn1 : 0 ≤ x.n := by omega
              have hn2 : ¬ x.n < (R.length : Int) := by omega
              have hn4 : (x.n < (R.length : Int)) = False := by simp; omega
              have hn5 : (0 ≤ x.n) = True := by simp; omega
              clear hn0
              go_wp2_with fail
              refine (S.at_no_T w3 s R x.n HS2.out (by omega) (.inr hn3)).mono ?_
              rintro e w5 ⟨rfl, hB5⟩
              obtain ⟨f50, f51, f52⟩ := Hkeep.out w5 (fun k h1 _ => hB5.block k h1)
              have hC5 := hC2.trans (hB5.mono hC2.size)
              have hlt5 : wr.heap.size < w5.heap.size := by have := hB5.size; omega
              have HS5 := Lib.hid (HS2.out.below hB5)
              have HO5 := Lib.hid (HO2.out.below hB5)
              obtain ⟨g50, g51, g52, g53, g54⟩ := Hac0.out.below hC5 hbl
              go_wp2_with fail
              have hBa : Below w5.heap.size w5 (w5.alloc (.cells #[.int .i64 0, .string ⟨#[]⟩, .int .i64 0] 26)) := (Below.refl _ w5).alloc (Nat.le_refl _) _
              have hby := heap_alloc_new w5 (.cells #[.int .i64 0, .string ⟨#[]⟩, .int .i64 0] 26)
              have HSa := Lib.hid (HS5.out.below hBa)
              have HOa := Lib.hid (HO5.out.below hBa)
              have hCa := hC5.trans (hBa.mono hC5.size)
              generalize (w5.alloc (.cells #[.int .i64 0, .string ⟨#[]⟩, .int .i64 0] 26)) = w6 at hBa hby HSa HOa hCa ⊢
              clear f50 f51 f52 g50 g51 g52 g53 g54 f0 f1 f2 g0 g1 g2 g3 g4
              obtain ⟨f60, f61, f62⟩ := Hkeep.out w6 (fun k h1 _ => (hB5.trans (hBa.mono hB5.size)).block k h1)
              obtain ⟨g60, g61, g62, g63, g64⟩ := Hac0.out.below hCa hbl
              have hy60 := Go.Joins.cell_of_block hby 0
              have hy61 := Go.Joins.cell_of_block hby 1
              have hy62 := Go.Joins.cell_of_block hby 2
              simp only [List.getElem?_toArray, List.getElem?_cons_zero, List.getElem?_cons_succ] at hy60 hy61 hy62
              go_quiet (fail)
              have hBq := below_drewN w6.heap.size w6 nq
              have HSq := Lib.hid (HSa.out.below hBq)
              have HOq := Lib.hid (HOa.out.below hBq)
              have hCq := hCa.trans (hBq.mono hCa.size)
              go_wp2_with fail
              refine (S.len_T (w6.drewN nq) s _ HSq.out).mono ?_
              rintro e w9 ⟨rfl, rfl⟩
              go_wp2_with fail
              go_roundg (l.length - (j + 1))
              case measure => rw [Hk.out]; omega
              case rel => exact ⟨j + 1, R, by go_num, by omega, Lib.hid rfl, HOq, HSq, by omega, hCq⟩
            · obtain ⟨m, hm⟩ : ∃ m : Nat, x.n = m := ⟨x.n.toNat, by omega⟩
              have hmR : m < R.length := by omega
              have hmR2 : (m : Int) < R.length := by omega
              obtain ⟨y, hy⟩ : ∃ y, R[m]? = some y := ⟨R[m], by simp [hmR]⟩
              have Hy := Lib.hid hy
              have hmc : m < co := by have := (HO2.out.2.1 _ _ _ rfl).1; omega
              have hy1 : same ⟨y.k, y.t, y.n⟩ ⟨y.k, y.t, y.n⟩ = true := same_iff.2 rfl
              have Hm := Lib.hid hm
              clear hn0 hn3 hy
              go_wp2_with fail
              refine (S.set_at_T w3 s R m _ y HS2.out (by omega) (by first | rfl | exact Hm.out) Hy.out).mono ?_
              rintro e w5 ⟨rfl, hB5⟩
              obtain ⟨f50, f51, f52⟩ := Hkeep.out w5 (fun k h1 _ => hB5.block k h1)
              have hC5 := hC2.trans (hB5.mono hC2.size)
              have hlt5 : wr.heap.size < w5.heap.size := by have := hB5.size; omega
              have HS5 := Lib.hid (HS2.out.below hB5)
              have HO5 := Lib.hid (HO2.out.below hB5)
              obtain ⟨g50, g51, g52, g53, g54⟩ := Hac0.out.below hC5 hbl
              go_wp2_with fail
              have hBa : Below w5.heap.size w5 (w5.alloc (.cells #[.int .i64 y.k, .string y.t, .int .i64 y.n] 26)) := (Below.refl _ w5).alloc (Nat.le_refl _) _
              have hby := heap_alloc_new w5 (.cells #[.int .i64 y.k, .string y.t, .int .i64 y.n] 26)
              have HSa := Lib.hid (HS5.out.below hBa)
              have HOa := Lib.hid (HO5.out.below hBa)
              have hCa := hC5.trans (hBa.mono hC5.size)
              generalize (w5.alloc (.cells #[.int .i64 y.k, .string y.t, .int .i64 y.n] 26)) = w6 at hBa hby HSa HOa hCa ⊢
              clear f50 f51 f52 g50 g51 g52 g53 g54 f0 f1 f2 g0 g1 g2 g3 g4
              obtain ⟨f60, f61, f62⟩ := Hkeep.out w6 (fun k h1 _ => (hB5.trans (hBa.mono hB5.size)).block k h1)
              obtain ⟨g60, g61, g62, g63, g64⟩ := Hac0.out.below hCa hbl
              have hy60 := Go.Joins.cell_of_block hby 0
              have hy61 := Go.Joins.cell_of_block hby 1
              have hy62 := Go.Joins.cell_of_block hby 2
              simp only [List.getElem?_toArray, List.getElem?_cons_zero, List.getElem?_cons_succ] at hy60 hy61 hy62
              obtain ⟨a9, c9, e9, hs9⟩ := HOa.out.1
              cases e9
              rcases hs9 with rfl | ⟨b2, off2, rfl, hel2⟩
              · simp at hmR
              have hyc := hel2 m y Hy.out
              clear hel2
              go_quiet (fail)
              have hBq := below_drewN w6.heap.size w6 nq
              have HSq := Lib.hid (HSa.out.below hBq)
              have HOq := Lib.hid (HOa.out.below hBq)
              have hCq := hCa.trans (hBq.mono hCa.size)
              go_wp2_with fail
              refine (S.len_T (w6.drewN nq) s _ HSq.out).mono ?_
              rintro e w9 ⟨rfl, rfl⟩
              go_wp2_with fail
              go_roundg (l.length - (j + 1))
              case measure => rw [Hk.out]; omega
              case rel => exact ⟨j + 1, R, by go_num, by omega, Lib.hid rfl, HOq, HSq, by omega, hCq⟩
          · omega
    · obtain rfl : j = l.length := by omega
      have hO9 := HO.out
      have hS9 := HS.out
      go_wp2_with fail
      refine (S.lawlist_T wr s R hS9 (by omega)).mono ?_
      rintro e w5 ⟨vl, rfl, hL, hB5⟩
      have hsl : S.SliceOf w5 (.slice ao R.length co) R := (hO9.below hB5).1
      go_wp2_with fail
      refine (S.syms_T w5 _ _ R R hL.slice hsl (by omega) (by omega)).mono ?_
      rintro e w6 ⟨⟨q, rfl, hq⟩, hB6⟩
      obtain rfl : q = true := hq.2 rfl
      go_wp2_with fail
      refine (wakes_T w6).mono ?_
      rintro e w7 ⟨rfl, hB7⟩
      go_wp2_with fail
      go_ret
      have h5 := hB.trans (hB5.mono hB.size)
      have h6 := h5.trans (hB6.mono h5.size)
      exact ⟨rfl, h6.trans (hB7.mono h6.size)⟩

set_option maxRecDepth 100000 in
theorem plays_big (w : World) (v : Value) (l : List ActV) (hv : ActsOf w v l) (hl : 200 < l.length) :
    Calls Try.prog 3 #[v] w fun e w' => e = .returned (.bool true) ∧ Below w.heap.size w w' := by
  obtain ⟨a, cap, rfl, hc⟩ := hv
  go_enter Try.func3, Try.ntmps3
  go_wp2_with fail
  refine (S.new_T w _ [] ⟨none, 0, rfl, .inl rfl⟩ (by simp)).mono ?_
  rintro e w1 ⟨s, rfl, hs, hS, hB1⟩
  go_wp2_with fail
  refine (wakes_T w1).mono ?_
  rintro e w7 ⟨rfl, hB7⟩
  go_wp2_with fail
  go_ret
  exact ⟨rfl, hB1.trans (hB7.mono hB1.size)⟩

theorem plays_any (w : World) (v : Value) (l : List ActV) (hv : ActsOf w v l) :
    Calls Try.prog 3 #[v] w fun e w' => e = .returned (.bool true) ∧ Below w.heap.size w w' := by
  by_cases h : l.length ≤ 200
  · exact plays_walk w v l hv h
  · exact plays_big w v l hv (by omega)

end Go.Proofs.Ytpkkdmhmnmjebaa
