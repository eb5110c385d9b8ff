/- OrderKept returns true, whatever it is given. Conditions: none but that the lists lie in memory. -/
import Derived.Test.YtcpgjekkcpfpaaaKeptPlO
import Derived.Test.YtcpgjekkcpfpaaaMg37
import Derived.Deep.LoopGhost
namespace Go.Proofs.Ytcpgjekkcpfpaaa
open Go Go.RowKit

/-- Those that are among Q, too. -/
def inb (Q P : List ElmV) : List ElmV := P.filter (fun x => has elmCmp Q x)
theorem inb_le (Q P : List ElmV) : (inb Q P).length ≤ P.length := List.length_filter_le _ _

theorem elm_cells {w : World} {b : Nat} {z : ElmV} {T : TypeId} (h : w.heap[b]? = some (.cells #[.int .i64 z.id.k, .string z.id.t, .int .i64 z.id.n, .int .i64 z.attr.k, .string z.attr.t, .int .i64 z.attr.n, .int .i64 z.val.k, .string z.val.t, .int .i64 z.val.n, .bool z.acc, .bool z.goal, .int .i64 z.tag] T (0, 0))) : w.cell? ⟨b, 0, none⟩ = some (.int .i64 z.id.k) ∧ w.cell? ⟨b, 1, none⟩ = some (.string z.id.t) ∧ w.cell? ⟨b, 2, none⟩ = some (.int .i64 z.id.n) ∧ w.cell? ⟨b, 3, none⟩ = some (.int .i64 z.attr.k) ∧ w.cell? ⟨b, 4, none⟩ = some (.string z.attr.t) ∧ w.cell? ⟨b, 5, none⟩ = some (.int .i64 z.attr.n) ∧ w.cell? ⟨b, 6, none⟩ = some (.int .i64 z.val.k) ∧ w.cell? ⟨b, 7, none⟩ = some (.string z.val.t) ∧ w.cell? ⟨b, 8, none⟩ = some (.int .i64 z.val.n) ∧ w.cell? ⟨b, 9, none⟩ = some (.bool z.acc) ∧ w.cell? ⟨b, 10, none⟩ = some (.bool z.goal) ∧ w.cell? ⟨b, 11, none⟩ = some (.int .i64 z.tag) := by simp [World.cell?, h]

set_option pp.deepTerms true
set_option pp.maxSteps 1000000
set_option maxRecDepth 100000 in
set_option maxHeartbeats 3200000 in
theorem kept_walk (w : World) (v1 v2 : Value) (xs ys : List ElmV) (hv1 : O.SliceOf w v1 xs) (hv2 : O.SliceOf w v2 ys) (hx : xs.length ≤ 40) (hy : ys.length ≤ 40) :
    Calls Try.prog 3 #[v1, v2] w fun e w' => e = .returned (.bool true) ∧ Below w.heap.size w w' := by
  have HV1 := Lib.hid (fun W (h : Below w.heap.size w W) => hv1.below h)
  have HV2 := Lib.hid (fun W (h : Below w.heap.size w W) => hv2.below h)
  obtain ⟨a1, c1, rfl, hc1⟩ := hv1
  obtain ⟨a2, c2, rfl, hc2⟩ := hv2
  have HC1 := Lib.hid hc1
  clear hc1 hc2
  have f1 : ((40 : Int) < (xs.length : Int)) = False := eq_false (by omega)
  have f2 : ((40 : Int) < (ys.length : Int)) = False := eq_false (by omega)
  have hlp := O.srt_length xs
  have hlq := O.srt_length ys
  go_enter Try.func3, Try.ntmps3
  go_wp2_with fail
  refine (O.new_T w _ xs (HV1.out w (Below.refl _ _)) (by omega)).mono ?_
  rintro e w1 ⟨s1, rfl, hs1, hS1, hB1⟩
  replace hS1 : O.SetAt w1 s1 (O.srt xs) := hS1
  go_wp2_with fail
  refine (O.new_T w1 _ ys (HV2.out w1 hB1) (by omega)).mono ?_
  rintro e w2 ⟨s2, rfl, hs2, hS2, hB2⟩
  replace hS2 : O.SetAt w2 s2 (O.srt ys) := hS2
  have hC2 := hB1.trans (hB2.mono hB1.size)
  have hS12 := hS1.below hB2
  clear hS1
  go_wp2_with fail
  refine (O.sortE_T w2 _ xs (HV1.out w2 hC2) (by omega)).mono ?_
  rintro e w3 ⟨vp, rfl, hP3, hB3⟩
  have hC3 := hC2.trans (hB3.mono hC2.size)
  go_wp2_with fail
  refine (O.sortE_T w3 _ ys (HV2.out w3 hC3) (by omega)).mono ?_
  rintro e w4 ⟨vq, rfl, hQ4, hB4⟩
  have hC4 := hC3.trans (hB4.mono hC3.size)
  have hP4 := hP3.below hB4
  have hS14 := (hS12.below hB3).below hB4
  have hS24 := (hS2.below hB3).below hB4
  clear hP3 hS12 hS2
  obtain ⟨ap, cp, rfl, hpc⟩ := hP4.1
  obtain ⟨aq, cq, rfl, hqc⟩ := hQ4.1
  clear hpc hqc
  go_wp2_with fail
  refine (O.all_T w4 (some ⟨s1, 0, none⟩)).mono ?_
  rintro e w5 ⟨rfl, rfl⟩
  have hli := O.setlist_T w4 s1 _ hS14 (by omega)
  go_wp2_with fail
  refine hli.mono ?_
  rintro e w6 ⟨vl, rfl, hL6, hB6⟩
  have hC6 := hC4.trans (hB6.mono hC4.size)
  have hP6 := hP4.below hB6
  obtain ⟨al, cl, rfl, hlc⟩ := hL6.slice
  have hel := O.elems_T w6 _ _ _ _ ⟨al, cl, rfl, hlc⟩ hP6.1 (by omega) (by omega)
  clear hL6 hlc
  go_wp2_with fail
  refine hel.mono ?_
  rintro e w7 ⟨⟨bb, rfl, hbb⟩, hB7⟩
  obtain rfl : bb = true := by simpa using hbb
  have hC7 := hC6.trans (hB7.mono hC6.size)
  have hS17 := (hS14.below hB6).below hB7
  have hS27 := (hS24.below hB6).below hB7
  clear hbb hel
  go_wp2_with fail
  refine (O.union_T w7 s1 s2 _ _ hS17 hS27 (by omega) (by omega)).mono ?_
  rintro e w8 ⟨su, rfl, hsu, hU8, hB8⟩
  have hC8 := hC7.trans (hB8.mono hC7.size)
  go_wp2_with fail
  refine (O.meet_T w8 s1 s2 _ _ (hS17.below hB8) (hS27.below hB8) (by omega) (by omega)).mono ?_
  rintro e w9 ⟨sm, rfl, hsm, hM9, hB9⟩
  have hC9 := hC8.trans (hB9.mono hC8.size)
  replace hM9 : O.SetAt w9 sm (inb (O.srt ys) (O.srt xs)) := by simpa [inb] using hM9
  have hU9 := hU8.below hB9
  have hP9 := ((hP6.below hB7).below hB8).below hB9
  have hQ9 := (((hQ4.below hB6).below hB7).below hB8).below hB9
  have hS19 := (hS17.below hB8).below hB9
  clear hU8 hS17 hS27 hP6 hS14 hS24 hP4 hQ4
  go_wp2_with fail
  refine (O.copy_T w9 _ _ hP9 (by omega)).mono ?_
  rintro e w10 ⟨vc, rfl, hcp, hB10⟩
  have hC10 := hC9.trans (hB10.mono hC9.size)
  have hQ10 := hQ9.below hB10
  have hqf := (O.Own.from hQ10).1
  have hBs : w9.heap.size ≤ w10.heap.size := hB10.size
  go_wp2_with (first
    | (at_builtin; refine O.append_elms rfl _ _ rfl w9.heap.size vc (O.srt xs) rfl hcp _ _ _ (O.srt ys) rfl rfl hqf (by omega) hBs ?_; intro v11 w11 hM11 hg11; have hB11 := O.made_below hcp hg11 hBs))
  have hB911 : Below w9.heap.size w9 w11 := hB10.trans hB11
  have hC11 : Below w.heap.size w w11 := hC9.trans (hB911.mono hC9.size)
  have hsl : (O.srt xs ++ O.srt ys).length ≤ 100000 := by rw [List.length_append]; omega
  have hso := O.sortE_T w11 v11 _ (O.Made.ge hM11).slice hsl
  have hvf : ∃ a11 n11 c11, v11 = .slice a11 n11 c11 := by
    obtain ⟨a, c, e, -⟩ := O.row_cap hM11
    exact ⟨a, _, c, e⟩
  refine hso.mono ?_
  rintro e w12 ⟨vb, rfl, hb12, hB12⟩
  rw [O.srt_both] at hb12
  have hC12 := hC11.trans (hB12.mono hC11.size)
  have hB912 : Below w9.heap.size w9 w12 := hB911.trans (hB12.mono hB911.size)
  have hP12 := hP9.below hB912
  have hQ12 := hQ9.below hB912
  have hU12 := hU9.below hB912
  have hM12 := hM9.below hB912
  have hS12 := hS19.below hB912
  clear hP9 hQ9 hU9 hM9 hS19 hQ10 hqf hcp hM11 hso hsl hvf hli
  obtain ⟨ab, cb, rfl, hbc⟩ := hb12.1
  clear hbc
  have HP := Lib.hid hP12
  have HQ := Lib.hid hQ12
  clear hP12 hQ12
  go_wp2_with fail
  go_loopg [12, 13] (O.srt xs).length (fun k av iv wr => ∃ j : Nat, iv = .int .i64 j ∧ j ≤ (O.srt xs).length ∧ Hid (k = (O.srt xs).length - j) ∧ Hid (O.Made w12.heap.size wr av (inb (O.srt ys) ((O.srt xs).take j))) ∧ Below w12.heap.size w12 wr)
  case atStart => exact ⟨0, rfl, by omega, Lib.hid rfl, Lib.hid (World.ownsRow_nil _ _ _ _), Below.refl _ _⟩
  case round =>
    obtain ⟨j, rfl, hj, Hk, HM, hB⟩ := hrel
    obtain ⟨an, cn, hav, hcn1, hcn2⟩ := O.row_cap HM.out
    subst hav
    by_cases hlt : j < (O.srt xs).length
    · obtain ⟨b, off, rfl, hel⟩ : ∃ b off, ap = some ⟨b, off, none⟩ ∧ O.Elems w12 b off (O.srt xs) := by
        obtain ⟨a', c', e, h⟩ := HP.out.1
        simp only [Value.slice.injEq] at e
        obtain ⟨rfl, -, -⟩ := e
        rcases h with h | h
        · rw [h] at hlt; simp at hlt
        · exact h
      obtain ⟨y, hy⟩ : ∃ y, (O.srt xs)[j]? = some y := ⟨(O.srt xs)[j], by simp [hlt]⟩
      have HK := Lib.hid (fun W (h : Below w12.heap.size w12 W) => O.memo_at hel hy h)
      have hyc := HK.out wr hB
      have hfi := O.findE_T wr _ _ y (HQ.out.below hB).1 (by omega)
      have hnx : inb (O.srt ys) ((O.srt xs).take (j + 1)) = inb (O.srt ys) ((O.srt xs).take j) ++ (if has elmCmp (O.srt ys) y then [y] else []) := by
        unfold inb
        rw [List.take_add_one, hy, List.filter_append]
        cases h : has elmCmp (O.srt ys) y <;> simp [h]
      have hhas : (O.fst? (O.srt ys) y).isSome = has elmCmp (O.srt ys) y := by rw [O.any_symm]; rfl
      have hfl := inb_le (O.srt ys) ((O.srt xs).take j)
      have htl : ((O.srt xs).take j).length ≤ (O.srt xs).length := by rw [List.length_take]; omega
      have hlenA : (inb (O.srt ys) ((O.srt xs).take j)).length ≤ 999 := by omega
      have HlenA := Lib.hid hlenA
      have Hnx := Lib.hid hnx
      have Hhas := Lib.hid hhas
      clear hnx hhas hel hy
      go_wp2_with fail
      refine hfi.mono ?_
      rintro e w13 ⟨⟨z, bz, rfl, hfz⟩, hB13⟩
      have hC13 : Below w12.heap.size w12 w13 := hB.trans (hB13.mono hB.size)
      have hC14 : Below w12.heap.size w12 (w13.alloc (.cells #[.int .i64 z.id.k, .string z.id.t, .int .i64 z.id.n, .int .i64 z.attr.k, .string z.attr.t, .int .i64 z.attr.n, .int .i64 z.val.k, .string z.val.t, .int .i64 z.val.n, .bool z.acc, .bool z.goal, .int .i64 z.tag] 29)) := hC13.alloc hC13.size _
      have hyc14 := HK.out _ hC14
      have hM14 : O.Made w12.heap.size (w13.alloc (.cells #[.int .i64 z.id.k, .string z.id.t, .int .i64 z.id.n, .int .i64 z.attr.k, .string z.attr.t, .int .i64 z.attr.n, .int .i64 z.val.k, .string z.val.t, .int .i64 z.val.n, .bool z.acc, .bool z.goal, .int .i64 z.tag] 29)) _ _ := World.ownsRow.alloc (O.row_below hB13 HM.out) (.cells #[.int .i64 z.id.k, .string z.id.t, .int .i64 z.id.n, .int .i64 z.attr.k, .string z.attr.t, .int .i64 z.attr.n, .int .i64 z.val.k, .string z.val.t, .int .i64 z.val.n, .bool z.acc, .bool z.goal, .int .i64 z.tag] 29)
      have HM14 := Lib.hid hM14
      have hnewy : ((w13.alloc (.cells #[.int .i64 z.id.k, .string z.id.t, .int .i64 z.id.n, .int .i64 z.attr.k, .string z.attr.t, .int .i64 z.attr.n, .int .i64 z.val.k, .string z.val.t, .int .i64 z.val.n, .bool z.acc, .bool z.goal, .int .i64 z.tag] 29)).alloc (.cells #[.int .i64 y.id.k, .string y.id.t, .int .i64 y.id.n, .int .i64 y.attr.k, .string y.attr.t, .int .i64 y.attr.n, .int .i64 y.val.k, .string y.val.t, .int .i64 y.val.n, .bool y.acc, .bool y.goal, .int .i64 y.tag] 29)).heap[w13.heap.size + 1]? = some (.cells #[.int .i64 y.id.k, .string y.id.t, .int .i64 y.id.n, .int .i64 y.attr.k, .string y.attr.t, .int .i64 y.attr.n, .int .i64 y.val.k, .string y.val.t, .int .i64 y.val.n, .bool y.acc, .bool y.goal, .int .i64 y.tag] 29 (0, 0)) := by
        have := heap_alloc_new (w13.alloc (.cells #[.int .i64 z.id.k, .string z.id.t, .int .i64 z.id.n, .int .i64 z.attr.k, .string z.attr.t, .int .i64 z.attr.n, .int .i64 z.val.k, .string z.val.t, .int .i64 z.val.n, .bool z.acc, .bool z.goal, .int .i64 z.tag] 29)) (.cells #[.int .i64 y.id.k, .string y.id.t, .int .i64 y.id.n, .int .i64 y.attr.k, .string y.attr.t, .int .i64 y.attr.n, .int .i64 y.val.k, .string y.val.t, .int .i64 y.val.n, .bool y.acc, .bool y.goal, .int .i64 y.tag] 29)
        rw [World.size_alloc] at this
        exact this
      have Hnewy := Lib.hid hnewy
      clear hnewy
      clear hyc hM14
      rcases hfz with ⟨rfl, hfz⟩ | ⟨rfl, hfz, rfl⟩
      · have hyes : has elmCmp (O.srt ys) y = true := by rw [← Hhas.out, hfz]; rfl
        have Hyes := Lib.hid hyes
        clear hyes hfz
        go_wp2_with (first
          | (at_builtin; refine O.append_elms rfl _ _ rfl w12.heap.size _ (inb (O.srt ys) ((O.srt xs).take j)) rfl (World.ownsRow.alloc HM14.out _) _ _ _ [y] rfl rfl (Or.inr ⟨_, rfl, World.news_of_block (cs := #[.int .i64 y.id.k, .string y.id.t, .int .i64 y.id.n, .int .i64 y.attr.k, .string y.attr.t, .int .i64 y.attr.n, .int .i64 y.val.k, .string y.val.t, .int .i64 y.val.n, .bool y.acc, .bool y.goal, .int .i64 y.tag]) (t := 29) (fr := (0, 0)) Hnewy.out⟩) (by have := HlenA.out; simp <;> omega) (Nat.le_trans hC14.size (by simp)) ?_; intro v15 w15 hM15 hg15; have hB15 := O.made_below (World.ownsRow.alloc HM14.out _) hg15 (Nat.le_trans hC14.size (by simp))))
        have hC15 : Below w12.heap.size w12 w15 := (hC14.alloc hC14.size _).trans hB15
        go_roundg ((O.srt xs).length - (j + 1))
        case measure => rw [Hk.out]; omega
        case rel => exact ⟨j + 1, by go_num, by omega, Lib.hid rfl, Lib.hid (by rw [Hnx.out, Hyes.out]; exact hM15), hC15⟩
      · have hno : has elmCmp (O.srt ys) y = false := by rw [← Hhas.out, hfz]; rfl
        have Hno := Lib.hid hno
        clear hno hfz
        go_wp2_with fail
        go_roundg ((O.srt xs).length - (j + 1))
        case measure => rw [Hk.out]; omega
        case rel => exact ⟨j + 1, by go_num, by omega, Lib.hid rfl, Lib.hid (by rw [Hnx.out, Hno.out]; simpa using HM14.out), hC14⟩
    · obtain rfl : j = (O.srt xs).length := by omega
      rw [List.take_length] at HM hcn2
      have hN := (O.Made.ge HM.out).slice
      rw [List.take_length]
      have Hh := Lib.hid hB
      have hCr := hC12.trans (hB.mono hC12.size)
      have HN := Lib.hid hN
      have HU := Lib.hid (hU12.below hB)
      have HMm := Lib.hid (hM12.below hB)
      have HS := Lib.hid (hS12.below hB)
      have Hbo := Lib.hid (hb12.below hB)
      clear hN hU12 hM12 hS12 hb12 hcn1 hcn2 HM
      go_wp2_with fail
      go_loopg [16] xs.length (fun k iv wq => ∃ q : Nat, iv = .int .i64 q ∧ q ≤ xs.length ∧ Hid (k = xs.length - q) ∧ Below wr.heap.size wr wq)
      case atStart => exact ⟨0, rfl, by omega, Lib.hid rfl, Below.refl _ _⟩
      case round =>
        obtain ⟨q, rfl, hq, Hq, hBq⟩ := hrel
        rename World => wq
        have hCq := hCr.trans (hBq.mono hCr.size)
        by_cases hlq : q < xs.length
        · obtain ⟨b, off, rfl, hel⟩ : ∃ b off, a1 = some ⟨b, off, none⟩ ∧ O.Elems w b off xs := by
            rcases HC1.out with rfl | ⟨b, off, rfl, hel⟩
            · simp at hlq
            · exact ⟨b, off, rfl, hel⟩
          obtain ⟨y, hy⟩ : ∃ y, xs[q]? = some y := ⟨xs[q], by simp [hlq]⟩
          have HK := Lib.hid (fun W (h : Below w.heap.size w W) => O.memo_at hel hy h)
          have hyc := HK.out wq hCq
          have hhas : has elmCmp (O.srt xs) y = true := by
            rw [O.has_srt, List.any_eq_true]
            exact ⟨y, List.mem_of_getElem? hy, by simp [elmCmp_lin.refl]⟩
          have hget := O.get_T wq s1 (O.srt xs) y (HS.out.below hBq) (by omega) hhas
          have Hhas := Lib.hid hhas
          clear hhas hel hy
          go_wp2_with fail
          refine hget.mono ?_
          rintro e w16 ⟨⟨z, rfl, hz⟩, hB16⟩
          have hfz := O.srt_get Hhas.out hz
          have hC16 := hCq.trans (hB16.mono hCq.size)
          have hC17 : Below w.heap.size w (w16.alloc (.cells #[.int .i64 z.id.k, .string z.id.t, .int .i64 z.id.n, .int .i64 z.attr.k, .string z.attr.t, .int .i64 z.attr.n, .int .i64 z.val.k, .string z.val.t, .int .i64 z.val.n, .bool z.acc, .bool z.goal, .int .i64 z.tag] 29)) := hC16.alloc hC16.size _
          have hB17 : Below wr.heap.size wr (w16.alloc (.cells #[.int .i64 z.id.k, .string z.id.t, .int .i64 z.id.n, .int .i64 z.attr.k, .string z.attr.t, .int .i64 z.attr.n, .int .i64 z.val.k, .string z.val.t, .int .i64 z.val.n, .bool z.acc, .bool z.goal, .int .i64 z.tag] 29)) := (hBq.trans (hB16.mono hBq.size)).alloc (Nat.le_trans hBq.size hB16.size) _
          have hzb : (w16.alloc (.cells #[.int .i64 z.id.k, .string z.id.t, .int .i64 z.id.n, .int .i64 z.attr.k, .string z.attr.t, .int .i64 z.attr.n, .int .i64 z.val.k, .string z.val.t, .int .i64 z.val.n, .bool z.acc, .bool z.goal, .int .i64 z.tag] 29)).heap[w16.heap.size]? = some (.cells #[.int .i64 z.id.k, .string z.id.t, .int .i64 z.id.n, .int .i64 z.attr.k, .string z.attr.t, .int .i64 z.attr.n, .int .i64 z.val.k, .string z.val.t, .int .i64 z.val.n, .bool z.acc, .bool z.goal, .int .i64 z.tag] 29 (0, 0)) := heap_alloc_new w16 _
          have hyc17 := HK.out _ hC17
          have hfi := O.findE_T (w16.alloc (.cells #[.int .i64 z.id.k, .string z.id.t, .int .i64 z.id.n, .int .i64 z.attr.k, .string z.attr.t, .int .i64 z.attr.n, .int .i64 z.val.k, .string z.val.t, .int .i64 z.val.n, .bool z.acc, .bool z.goal, .int .i64 z.tag] 29)) _ xs y (HV1.out _ hC17) (by omega)
          have Hfz := Lib.hid hfz
          have hsz16 : w16.heap.size < (w16.alloc (.cells #[.int .i64 z.id.k, .string z.id.t, .int .i64 z.id.n, .int .i64 z.attr.k, .string z.attr.t, .int .i64 z.attr.n, .int .i64 z.val.k, .string z.val.t, .int .i64 z.val.n, .bool z.acc, .bool z.goal, .int .i64 z.tag] 29)).heap.size := by simp
          clear hz hfz hyc
          go_wp2_with fail
          generalize (w16.alloc (.cells #[.int .i64 z.id.k, .string z.id.t, .int .i64 z.id.n, .int .i64 z.attr.k, .string z.attr.t, .int .i64 z.attr.n, .int .i64 z.val.k, .string z.val.t, .int .i64 z.val.n, .bool z.acc, .bool z.goal, .int .i64 z.tag] 29)) = W17 at hC17 hB17 hzb hyc17 hfi hsz16 ⊢
          refine hfi.mono ?_
          rintro e w18 ⟨⟨z', b', rfl, hfz'⟩, hB18⟩
          rcases hfz' with ⟨rfl, hfz'⟩ | ⟨rfl, hfz', -⟩
          · rw [Hfz.out] at hfz'
            obtain rfl : z = z' := by simpa using hfz'
            have hzb18 := (hB18.block _ (lt_of_block hzb)).trans hzb
            have hC19 : Below w.heap.size w (w18.alloc (.cells #[.int .i64 z.id.k, .string z.id.t, .int .i64 z.id.n, .int .i64 z.attr.k, .string z.attr.t, .int .i64 z.attr.n, .int .i64 z.val.k, .string z.val.t, .int .i64 z.val.n, .bool z.acc, .bool z.goal, .int .i64 z.tag] 29)) := (hC17.trans (hB18.mono hC17.size)).alloc (Nat.le_trans hC17.size hB18.size) _
            have hB19 : Below wr.heap.size wr (w18.alloc (.cells #[.int .i64 z.id.k, .string z.id.t, .int .i64 z.id.n, .int .i64 z.attr.k, .string z.attr.t, .int .i64 z.attr.n, .int .i64 z.val.k, .string z.val.t, .int .i64 z.val.n, .bool z.acc, .bool z.goal, .int .i64 z.tag] 29)) := (hB17.trans (hB18.mono hB17.size)).alloc (Nat.le_trans hB17.size hB18.size) _
            have hz1 : (w18.alloc (.cells #[.int .i64 z.id.k, .string z.id.t, .int .i64 z.id.n, .int .i64 z.attr.k, .string z.attr.t, .int .i64 z.attr.n, .int .i64 z.val.k, .string z.val.t, .int .i64 z.val.n, .bool z.acc, .bool z.goal, .int .i64 z.tag] 29)).heap[w16.heap.size]? = some (.cells #[.int .i64 z.id.k, .string z.id.t, .int .i64 z.id.n, .int .i64 z.attr.k, .string z.attr.t, .int .i64 z.attr.n, .int .i64 z.val.k, .string z.val.t, .int .i64 z.val.n, .bool z.acc, .bool z.goal, .int .i64 z.tag] 29 (0, 0)) := (Below.heap_alloc _ _ _ (by have := lt_of_block hzb18; omega)).trans hzb18
            have hz2 : (w18.alloc (.cells #[.int .i64 z.id.k, .string z.id.t, .int .i64 z.id.n, .int .i64 z.attr.k, .string z.attr.t, .int .i64 z.attr.n, .int .i64 z.val.k, .string z.val.t, .int .i64 z.val.n, .bool z.acc, .bool z.goal, .int .i64 z.tag] 29)).heap[w18.heap.size]? = some (.cells #[.int .i64 z.id.k, .string z.id.t, .int .i64 z.id.n, .int .i64 z.attr.k, .string z.attr.t, .int .i64 z.attr.n, .int .i64 z.val.k, .string z.val.t, .int .i64 z.val.n, .bool z.acc, .bool z.goal, .int .i64 z.tag] 29 (0, 0)) := heap_alloc_new w18 _
            have m1 : (w18.alloc (.cells #[.int .i64 z.id.k, .string z.id.t, .int .i64 z.id.n, .int .i64 z.attr.k, .string z.attr.t, .int .i64 z.attr.n, .int .i64 z.val.k, .string z.val.t, .int .i64 z.val.n, .bool z.acc, .bool z.goal, .int .i64 z.tag] 29)).cell? ⟨w16.heap.size, 0, none⟩ = some (.int .i64 z.id.k) ∧ (w18.alloc (.cells #[.int .i64 z.id.k, .string z.id.t, .int .i64 z.id.n, .int .i64 z.attr.k, .string z.attr.t, .int .i64 z.attr.n, .int .i64 z.val.k, .string z.val.t, .int .i64 z.val.n, .bool z.acc, .bool z.goal, .int .i64 z.tag] 29)).cell? ⟨w16.heap.size, 1, none⟩ = some (.string z.id.t) ∧ (w18.alloc (.cells #[.int .i64 z.id.k, .string z.id.t, .int .i64 z.id.n, .int .i64 z.attr.k, .string z.attr.t, .int .i64 z.attr.n, .int .i64 z.val.k, .string z.val.t, .int .i64 z.val.n, .bool z.acc, .bool z.goal, .int .i64 z.tag] 29)).cell? ⟨w16.heap.size, 2, none⟩ = some (.int .i64 z.id.n) ∧ (w18.alloc (.cells #[.int .i64 z.id.k, .string z.id.t, .int .i64 z.id.n, .int .i64 z.attr.k, .string z.attr.t, .int .i64 z.attr.n, .int .i64 z.val.k, .string z.val.t, .int .i64 z.val.n, .bool z.acc, .bool z.goal, .int .i64 z.tag] 29)).cell? ⟨w16.heap.size, 3, none⟩ = some (.int .i64 z.attr.k) ∧ (w18.alloc (.cells #[.int .i64 z.id.k, .string z.id.t, .int .i64 z.id.n, .int .i64 z.attr.k, .string z.attr.t, .int .i64 z.attr.n, .int .i64 z.val.k, .string z.val.t, .int .i64 z.val.n, .bool z.acc, .bool z.goal, .int .i64 z.tag] 29)).cell? ⟨w16.heap.size, 4, none⟩ = some (.string z.attr.t) ∧ (w18.alloc (.cells #[.int .i64 z.id.k, .string z.id.t, .int .i64 z.id.n, .int .i64 z.attr.k, .string z.attr.t, .int .i64 z.attr.n, .int .i64 z.val.k, .string z.val.t, .int .i64 z.val.n, .bool z.acc, .bool z.goal, .int .i64 z.tag] 29)).cell? ⟨w16.heap.size, 5, none⟩ = some (.int .i64 z.attr.n) ∧ (w18.alloc (.cells #[.int .i64 z.id.k, .string z.id.t, .int .i64 z.id.n, .int .i64 z.attr.k, .string z.attr.t, .int .i64 z.attr.n, .int .i64 z.val.k, .string z.val.t, .int .i64 z.val.n, .bool z.acc, .bool z.goal, .int .i64 z.tag] 29)).cell? ⟨w16.heap.size, 6, none⟩ = some (.int .i64 z.val.k) ∧ (w18.alloc (.cells #[.int .i64 z.id.k, .string z.id.t, .int .i64 z.id.n, .int .i64 z.attr.k, .string z.attr.t, .int .i64 z.attr.n, .int .i64 z.val.k, .string z.val.t, .int .i64 z.val.n, .bool z.acc, .bool z.goal, .int .i64 z.tag] 29)).cell? ⟨w16.heap.size, 7, none⟩ = some (.string z.val.t) ∧ (w18.alloc (.cells #[.int .i64 z.id.k, .string z.id.t, .int .i64 z.id.n, .int .i64 z.attr.k, .string z.attr.t, .int .i64 z.attr.n, .int .i64 z.val.k, .string z.val.t, .int .i64 z.val.n, .bool z.acc, .bool z.goal, .int .i64 z.tag] 29)).cell? ⟨w16.heap.size, 8, none⟩ = some (.int .i64 z.val.n) ∧ (w18.alloc (.cells #[.int .i64 z.id.k, .string z.id.t, .int .i64 z.id.n, .int .i64 z.attr.k, .string z.attr.t, .int .i64 z.attr.n, .int .i64 z.val.k, .string z.val.t, .int .i64 z.val.n, .bool z.acc, .bool z.goal, .int .i64 z.tag] 29)).cell? ⟨w16.heap.size, 9, none⟩ = some (.bool z.acc) ∧ (w18.alloc (.cells #[.int .i64 z.id.k, .string z.id.t, .int .i64 z.id.n, .int .i64 z.attr.k, .string z.attr.t, .int .i64 z.attr.n, .int .i64 z.val.k, .string z.val.t, .int .i64 z.val.n, .bool z.acc, .bool z.goal, .int .i64 z.tag] 29)).cell? ⟨w16.heap.size, 10, none⟩ = some (.bool z.goal) ∧ (w18.alloc (.cells #[.int .i64 z.id.k, .string z.id.t, .int .i64 z.id.n, .int .i64 z.attr.k, .string z.attr.t, .int .i64 z.attr.n, .int .i64 z.val.k, .string z.val.t, .int .i64 z.val.n, .bool z.acc, .bool z.goal, .int .i64 z.tag] 29)).cell? ⟨w16.heap.size, 11, none⟩ = some (.int .i64 z.tag) := elm_cells hz1
            have m2 : (w18.alloc (.cells #[.int .i64 z.id.k, .string z.id.t, .int .i64 z.id.n, .int .i64 z.attr.k, .string z.attr.t, .int .i64 z.attr.n, .int .i64 z.val.k, .string z.val.t, .int .i64 z.val.n, .bool z.acc, .bool z.goal, .int .i64 z.tag] 29)).cell? ⟨w18.heap.size, 0, none⟩ = some (.int .i64 z.id.k) ∧ (w18.alloc (.cells #[.int .i64 z.id.k, .string z.id.t, .int .i64 z.id.n, .int .i64 z.attr.k, .string z.attr.t, .int .i64 z.attr.n, .int .i64 z.val.k, .string z.val.t, .int .i64 z.val.n, .bool z.acc, .bool z.goal, .int .i64 z.tag] 29)).cell? ⟨w18.heap.size, 1, none⟩ = some (.string z.id.t) ∧ (w18.alloc (.cells #[.int .i64 z.id.k, .string z.id.t, .int .i64 z.id.n, .int .i64 z.attr.k, .string z.attr.t, .int .i64 z.attr.n, .int .i64 z.val.k, .string z.val.t, .int .i64 z.val.n, .bool z.acc, .bool z.goal, .int .i64 z.tag] 29)).cell? ⟨w18.heap.size, 2, none⟩ = some (.int .i64 z.id.n) ∧ (w18.alloc (.cells #[.int .i64 z.id.k, .string z.id.t, .int .i64 z.id.n, .int .i64 z.attr.k, .string z.attr.t, .int .i64 z.attr.n, .int .i64 z.val.k, .string z.val.t, .int .i64 z.val.n, .bool z.acc, .bool z.goal, .int .i64 z.tag] 29)).cell? ⟨w18.heap.size, 3, none⟩ = some (.int .i64 z.attr.k) ∧ (w18.alloc (.cells #[.int .i64 z.id.k, .string z.id.t, .int .i64 z.id.n, .int .i64 z.attr.k, .string z.attr.t, .int .i64 z.attr.n, .int .i64 z.val.k, .string z.val.t, .int .i64 z.val.n, .bool z.acc, .bool z.goal, .int .i64 z.tag] 29)).cell? ⟨w18.heap.size, 4, none⟩ = some (.string z.attr.t) ∧ (w18.alloc (.cells #[.int .i64 z.id.k, .string z.id.t, .int .i64 z.id.n, .int .i64 z.attr.k, .string z.attr.t, .int .i64 z.attr.n, .int .i64 z.val.k, .string z.val.t, .int .i64 z.val.n, .bool z.acc, .bool z.goal, .int .i64 z.tag] 29)).cell? ⟨w18.heap.size, 5, none⟩ = some (.int .i64 z.attr.n) ∧ (w18.alloc (.cells #[.int .i64 z.id.k, .string z.id.t, .int .i64 z.id.n, .int .i64 z.attr.k, .string z.attr.t, .int .i64 z.attr.n, .int .i64 z.val.k, .string z.val.t, .int .i64 z.val.n, .bool z.acc, .bool z.goal, .int .i64 z.tag] 29)).cell? ⟨w18.heap.size, 6, none⟩ = some (.int .i64 z.val.k) ∧ (w18.alloc (.cells #[.int .i64 z.id.k, .string z.id.t, .int .i64 z.id.n, .int .i64 z.attr.k, .string z.attr.t, .int .i64 z.attr.n, .int .i64 z.val.k, .string z.val.t, .int .i64 z.val.n, .bool z.acc, .bool z.goal, .int .i64 z.tag] 29)).cell? ⟨w18.heap.size, 7, none⟩ = some (.string z.val.t) ∧ (w18.alloc (.cells #[.int .i64 z.id.k, .string z.id.t, .int .i64 z.id.n, .int .i64 z.attr.k, .string z.attr.t, .int .i64 z.attr.n, .int .i64 z.val.k, .string z.val.t, .int .i64 z.val.n, .bool z.acc, .bool z.goal, .int .i64 z.tag] 29)).cell? ⟨w18.heap.size, 8, none⟩ = some (.int .i64 z.val.n) ∧ (w18.alloc (.cells #[.int .i64 z.id.k, .string z.id.t, .int .i64 z.id.n, .int .i64 z.attr.k, .string z.attr.t, .int .i64 z.attr.n, .int .i64 z.val.k, .string z.val.t, .int .i64 z.val.n, .bool z.acc, .bool z.goal, .int .i64 z.tag] 29)).cell? ⟨w18.heap.size, 9, none⟩ = some (.bool z.acc) ∧ (w18.alloc (.cells #[.int .i64 z.id.k, .string z.id.t, .int .i64 z.id.n, .int .i64 z.attr.k, .string z.attr.t, .int .i64 z.attr.n, .int .i64 z.val.k, .string z.val.t, .int .i64 z.val.n, .bool z.acc, .bool z.goal, .int .i64 z.tag] 29)).cell? ⟨w18.heap.size, 10, none⟩ = some (.bool z.goal) ∧ (w18.alloc (.cells #[.int .i64 z.id.k, .string z.id.t, .int .i64 z.id.n, .int .i64 z.attr.k, .string z.attr.t, .int .i64 z.attr.n, .int .i64 z.val.k, .string z.val.t, .int .i64 z.val.n, .bool z.acc, .bool z.goal, .int .i64 z.tag] 29)).cell? ⟨w18.heap.size, 11, none⟩ = some (.int .i64 z.tag) := elm_cells hz2
            have hse := elm_equal'
            have hsg := elm_guard
            have hs1 : sameE ⟨⟨z.id.k, z.id.t, z.id.n⟩, ⟨z.attr.k, z.attr.t, z.attr.n⟩, ⟨z.val.k, z.val.t, z.val.n⟩, z.acc, z.goal, z.tag⟩ ⟨⟨z.id.k, z.id.t, z.id.n⟩, ⟨z.attr.k, z.attr.t, z.attr.n⟩, ⟨z.val.k, z.val.t, z.val.n⟩, z.acc, z.goal, z.tag⟩ = true := sameE_iff.2 rfl
            clear hfz' hz1 hz2 hzb18 hzb
            go_wp2_with fail
            go_roundg (xs.length - (q + 1))
            case measure => rw [Hq.out]; omega
            case rel => exact ⟨q + 1, by go_num, by omega, Lib.hid rfl, hB19⟩
          · rw [Hfz.out] at hfz'; cases hfz'
        · obtain rfl : q = xs.length := by omega
          go_wp2_with fail
          refine (O.all_T wq (some ⟨su, 0, none⟩)).mono ?_
          rintro e w20 ⟨rfl, rfl⟩
          have hli := O.setlist_T wq su _ (HU.out.below hBq) (by have := O.putl_lengthE (O.srt ys) (O.srt xs); omega)
          go_wp2_with fail
          refine hli.mono ?_
          rintro e w21 ⟨vl, rfl, hL21, hB21⟩
          have hC21 := hCq.trans (hB21.mono hCq.size)
          have hBq21 := hBq.trans (hB21.mono hBq.size)
          have hb21 := (Hbo.out.below hBq).below hB21
          obtain ⟨al, cl, rfl, hlc⟩ := hL21.slice
          have hel := O.elems_T w21 _ _ _ _ ⟨al, cl, rfl, hlc⟩ hb21.1 (by have := O.putl_lengthE (O.srt ys) (O.srt xs); omega) (by have := O.putl_lengthE (O.srt ys) (O.srt xs); omega)
          clear hL21 hlc hb21 hli
          go_wp2_with fail
          refine hel.mono ?_
          rintro e w22 ⟨⟨bb, rfl, hbb⟩, hB22⟩
          obtain rfl : bb = true := by simpa using hbb
          have hC22 := hC21.trans (hB22.mono hC21.size)
          have hBq22 := hBq21.trans (hB22.mono hBq21.size)
          clear hbb hel
          go_wp2_with fail
          refine (O.all_T w22 (some ⟨sm, 0, none⟩)).mono ?_
          rintro e w23 ⟨rfl, rfl⟩
          have hfl := inb_le (O.srt ys) (O.srt xs)
          have hli := O.setlist_T w22 sm _ (HMm.out.below hBq22) (by omega)
          go_wp2_with fail
          refine hli.mono ?_
          rintro e w24 ⟨vm, rfl, hL24, hB24⟩
          have hC24 := hC22.trans (hB24.mono hC22.size)
          have hn24 := (HN.out.below hBq22).below hB24
          obtain ⟨am, cm, rfl, hmc⟩ := hL24.slice
          have hel := O.elems_T w24 _ _ _ _ ⟨am, cm, rfl, hmc⟩ hn24 (by omega) (by omega)
          clear hL24 hmc hn24 hli
          go_wp2_with fail
          refine hel.mono ?_
          rintro e w25 ⟨⟨bb, rfl, hbb⟩, hB25⟩
          obtain rfl : bb = true := by simpa using hbb
          have hC25 := hC24.trans (hB25.mono hC24.size)
          clear hbb hel
          go_wp2_with fail
          refine (wakes_T _).mono ?_
          rintro e w26 ⟨rfl, hB26⟩
          go_wp2_with fail
          go_ret
          exact ⟨rfl, hC25.trans (hB26.mono hC25.size)⟩

theorem kept_big (w : World) (v1 v2 : Value) (xs ys : List ElmV) (hv1 : O.SliceOf w v1 xs) (hv2 : O.SliceOf w v2 ys) (hx : 40 < xs.length ∨ 40 < ys.length) :
    Calls Try.prog 3 #[v1, v2] w fun e w' => e = .returned (.bool true) ∧ Below w.heap.size w w' := by
  obtain ⟨a1, c1, rfl, -⟩ := hv1
  obtain ⟨a2, c2, rfl, -⟩ := hv2
  by_cases h : 40 < xs.length
  · have f1 : ((40 : Int) < (xs.length : Int)) = True := eq_true (by omega)
    go_enter Try.func3, Try.ntmps3
    go_wp2_with fail
    refine (wakes_T _).mono ?_
    rintro e w1 ⟨rfl, hb⟩
    go_wp2_with fail
    go_ret
    exact ⟨rfl, hb⟩
  · have f1 : ((40 : Int) < (xs.length : Int)) = False := eq_false (by omega)
    have f2 : ((40 : Int) < (ys.length : Int)) = True := eq_true (by omega)
    go_enter Try.func3, Try.ntmps3
    go_wp2_with fail
    refine (wakes_T _).mono ?_
    rintro e w1 ⟨rfl, hb⟩
    go_wp2_with fail
    go_ret
    exact ⟨rfl, hb⟩

theorem kept_any (w : World) (v1 : Value) (xs : List ElmV) (hv1 : O.SliceOf w v1 xs ∧ ∀ a n c, v1 = .slice a n c → n ≤ c) (v2 : Value) (ys : List ElmV) (hv2 : O.SliceOf w v2 ys ∧ ∀ a n c, v2 = .slice a n c → n ≤ c) :
    Calls Try.prog 3 #[v1, v2] w fun e w' => e = .returned (.bool true) ∧ Below w.heap.size w w' := by
  by_cases h : xs.length ≤ 40 ∧ ys.length ≤ 40
  · exact kept_walk w v1 v2 xs ys hv1.1 hv2.1 h.1 h.2
  · exact kept_big w v1 v2 xs ys hv1.1 hv2.1 (by omega)

end Go.Proofs.Ytcpgjekkcpfpaaa
