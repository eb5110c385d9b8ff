/- RowRooms returns true, whatever it is given. Conditions: none but that the list lies in memory. -/
import Derived.Test.YtckdojneogeblaaQKeep
import Derived.Test.YtckdojneogeblaaQPopQT
import Derived.Deep.LoopGhost
import Derived.OwnWalk
import Derived.Deep.Slices
namespace Go.Proofs.Ytckdojneogeblaa
open Go Go.RowKit

theorem info_str : (Try.prog.info? 9).map (fun i => (i.zero, i.size, i.bytes)) = some (some (.string ⟨#[]⟩), 1, 16) := by kernel_rfl

/-- A list of n texts that the law makes, the first j of them of one byte. -/
def Ones (W : World) (g n j : Nat) : Prop := ∃ cur, W.heap[g]? = some (.cells cur 9 (0, 0)) ∧ cur.size = n ∧ ∀ i, i < j → ∃ t : ByteArray, t.size = 1 ∧ cur[i]? = some (.string t)

theorem Ones.set {w : World} {g n k : Nat} {cur : Array Value} {t : ByteArray} {o : Obj} (h : w.heap[g]? = some (.cells cur 9 (0, 0))) (hn : cur.size = n) (hel : ∀ i, i < k → ∃ t : ByteArray, t.size = 1 ∧ cur[i]? = some (.string t)) (hk : k < n) (ht : t.size = 1) :
    Ones ((w.setCell ⟨g, k, none⟩ (.string t)).alloc o) g n (k + 1) := by
  have hl : g < (w.setCell ⟨g, k, none⟩ (.string t)).heap.size := by simp only [World.setCell, Array.size_modify]; exact lt_of_block h
  refine ⟨cur.setIfInBounds k (.string t), (Below.heap_alloc _ _ _ hl).trans (setCell_heap h _), by simpa using hn, fun i hi => ?_⟩
  by_cases e : i = k
  · subst e
    exact ⟨t, ht, by simp [show i < cur.size by omega]⟩
  · obtain ⟨t', h1, h2⟩ := hel i (by omega)
    exact ⟨t', h1, by rw [Array.getElem?_setIfInBounds_ne (by omega)]; exact h2⟩

theorem Ones.list {w : World} {g n : Nat} (c : Nat) (h : Ones w g n n) : ∃ ys : List ByteArray, ys.length = n ∧ (∀ x ∈ ys, x.size = 1) ∧ Src1 QT.en w (some ⟨g, 0, none⟩) c ys := by
  obtain ⟨cur, hc, hn, hel⟩ := h
  obtain ⟨f, hf⟩ := Go.Deep.choose_lt hel
  refine ⟨(List.range n).map f, by simp, fun x hx => ?_, .inr ⟨_, rfl, fun j y hy => ?_⟩⟩
  · obtain ⟨i, hi, rfl⟩ := List.mem_map.1 hx
    exact (hf i (List.mem_range.1 hi)).1
  · have hj : j < n := by have := (List.getElem?_eq_some_iff.1 hy).1; simpa using this
    rw [List.getElem?_map, List.getElem?_range hj] at hy
    cases hy
    rw [Addr.add_lit, Nat.zero_add]
    exact cell_of_heap hc (hf j hj).2

theorem qat_set {B : Nat} {W : World} {s room pp : Nat} {v : Value} {xs : List ByteArray} (h : QT.QAt B W s room v pp xs) {g : Nat} (hg : g ≠ s) (hn : ∀ g' l, endOf v = some (g', l) → g' ≠ g) (i : Nat) (u : Value) : QT.QAt B (W.setCell ⟨g, i, none⟩ u) s room v pp xs :=
  ⟨(Below.heap_setCell _ _ _ _ (fun e => hg e.symm)).trans h.1, h.2.1.keep fun g' l e => Below.heap_setCell _ _ _ _ (hn g' l e), h.2.2⟩

set_option maxRecDepth 100000 in
set_option maxHeartbeats 4000000 in
theorem rooms_walk (w : World) (z : Int) (v : Value) (zs : List Int) (hv : IntsOf w v zs) :
    Calls Try.prog 7 #[.int .i64 z, v] w fun e w' => e = .returned (.bool true) ∧ Below w.heap.size w w' := by
  obtain ⟨i0, hi, hz0, hz1, hz2⟩ := info_parts' info_str
  have hv0 := hv
  obtain ⟨a, cap, rfl, -, -, hc⟩ := hv
  have Hc := Lib.hid hc
  clear hc
  go_enter Try.func7, Try.ntmps7
  go_wp2_with fail
  refine (within_any w z 300 (by omega) (by omega)).mono ?_
  rintro e w1 ⟨⟨r, rfl, hr⟩, rfl⟩
  go_wp2_with fail
  obtain ⟨R, hR⟩ : ∃ R : Nat, (1 : Int) + r = R := ⟨r + 1, by omega⟩
  have hR1 : 1 ≤ R := by omega
  have hR2 : R ≤ 300 := by omega
  generalize (1 : Int) + r = RI at hR ⊢
  subst hR
  clear hr
  refine (QT.new_yes w1 R (by omega) (by omega)).mono ?_
  rintro e w2 ⟨rfl, hQ, hB2⟩
  have HQ := Lib.hid hQ
  clear hQ
  go_wp2_with fail
  go_loopg [7] (zs.length - 0) (fun m i wr => ∃ j : Nat, i = .int .i64 j ∧ j ≤ zs.length ∧ j ≤ 50 ∧ Hid (m = zs.length - j) ∧ Hid (∃ u pp xs, QT.QAt w1.heap.size wr w1.heap.size R u pp xs ∧ ∀ x ∈ xs, x.size = 1) ∧ Below w1.heap.size w1 wr)
  case atStart => exact ⟨0, rfl, by omega, by omega, Lib.hid rfl, Lib.hid ⟨_, _, _, HQ.out, by simp⟩, hB2⟩
  case round =>
    obtain ⟨j, rfl, hj, hj5, Hm, HI, hBr⟩ := hrel
    by_cases hlt : j < zs.length ∧ j < 50
    · obtain ⟨hlt, hlt5⟩ := hlt
      obtain ⟨y, hy⟩ : ∃ y, zs[j]? = some y := ⟨zs[j], by simp [hlt]⟩
      obtain ⟨b, off, rfl, hyc⟩ := Hc.out j y hy
      replace hyc := (hBr.cell (p := ⟨b, off + j, none⟩) (World.block_lt_of_cell? w1 _ hyc)).trans hyc
      clear hy
      go_wp2_with fail
      refine (within_any wr y 120 (by omega) (by omega)).mono ?_
      rintro e w3 ⟨⟨n, rfl, hn⟩, rfl⟩
      have hn2 : n < 120 := by omega
      clear hn
      go_wp2_with (at_make; refine wpList_make_full _ rfl _ _ 52 rfl w3.heap.size 9 i0 (.string ⟨#[]⟩) 1 Try.underlying52 hi hz0 hz1 .i64 .i64 _ _ n rfl rfl rfl rfl (by rw [hz2]; omega) (by unfold maxLen; omega) (Nat.le_refl _) ?_; intro w4 hR4 hG4)
      have hO4 : Ones w4 w3.heap.size n 0 := by
        rcases hR4.2 with ⟨h, -⟩ | ⟨g, c', cur, h, -, hg, -, -, hsz, -⟩
        · cases h
        · simp only [Value.slice.injEq, Option.some.injEq, Addr.mk.injEq, and_true, true_and] at h
          obtain ⟨rfl, rfl⟩ := h
          exact ⟨cur, hg, by omega, fun i hi => by omega⟩
      have hB4 : Below w3.heap.size w3 w4 := (Below.refl _ w3).grown hG4 (Nat.le_refl _) (fun k e => by cases e)
      have HO4 := Lib.hid hO4
      have Hs4 := hG4.size
      clear hR4 hG4 hO4
      obtain ⟨gl, hgl⟩ : ∃ gl, gl = w3.heap.size := ⟨_, rfl⟩
      rw [← hgl] at HO4 hB4 ⊢
      have Hgl := Lib.hid hgl
      clear hgl
      go_loopg [10] (n - 0) (fun m i wr2 => ∃ k : Nat, i = .int .i64 k ∧ k ≤ n ∧ Hid (m = n - k) ∧ Hid (Ones wr2 gl n k) ∧ Below gl w4 wr2)
      case atStart => exact ⟨0, rfl, by omega, Lib.hid rfl, HO4, Below.refl _ _⟩
      case round =>
        obtain ⟨k, rfl, hk, Hm2, HO, hB6⟩ := hrel
        by_cases hlt2 : k < n
        · have hO := HO.out
          obtain ⟨cur, hcur, hsz, hel⟩ := hO
          have hgw := lt_of_block hcur
          have Hel := Lib.hid hel
          have Hcur := Lib.hid hcur
          clear hel hcur
          have h26 : 0 ≤ (k : Int) := by omega
          have hcv := run_convert_bytes_arg (P := Try.prog) (wr.alloc (.cells #[.int .u8 (97 + (k : Int) % 26)] 5)) 53 5 Try.underlying53 Try.underlying5 wr.heap.size 0 1 1 [97 + (k : Int) % 26] rfl
            (fun i hi => by
              obtain rfl : i = 0 := by omega
              exact cell_of_heap (heap_alloc_new wr (.cells #[.int .u8 (97 + (k : Int) % 26)] 5)) (i := 0) rfl) 9 Try.underlying9
          have hBa : Below gl wr (wr.alloc (.cells #[.int .u8 (97 + (k : Int) % 26)] 5)) := (Below.refl _ wr).alloc (by omega) _
          have hcur2 := (Below.heap_alloc wr (.cells #[.int .u8 (97 + (k : Int) % 26)] 5) gl hgw).trans Hcur.out
          have Hcur2 := Lib.hid hcur2
          obtain ⟨u0, hkc2⟩ : ∃ u0, (wr.alloc (.cells #[.int .u8 (97 + (k : Int) % 26)] 5)).cell? ⟨gl, k, none⟩ = some u0 := ⟨cur[k]'(by omega), by simp [World.cell?, hcur2]⟩
          have hfz2 : (wr.alloc (.cells #[.int .u8 (97 + (k : Int) % 26)] 5)).frozen? ⟨gl, k, none⟩ = false := frozen_of_heap hcur2 k
          clear hcur2
          go_wp2_with fail
          go_roundg (n - (k + 1))
          case measure => rw [Hm2.out]; omega
          case rel =>
            refine ⟨k + 1, by go_num, by omega, Lib.hid rfl, Lib.hid (Ones.set Hcur.out hsz Hel.out hlt2 rfl), hB6.trans (Below.alloc ((Below.refl _ wr).setCell (Nat.le_refl gl) _) (by simp [World.setCell]; omega) _)⟩
        · obtain rfl : k = n := by omega
          obtain ⟨u, pp, xs, hQ3, h1⟩ := HI.out
          obtain ⟨ys, hyl, hy1, hys⟩ := HO.out.list k
          have hB46 := hB4.trans hB6
          have hQ := hQ3.below (Hgl.out ▸ hB46)
          have hrl := hQ.2.2.2.1
          have hws := hBr.size
          have hw46 := hB46.size
          have hgr := lt_of_block HO.out.choose_spec.1
          have hne : ∀ g l, endOf u = some (g, l) → g < gl := fun g l e => by rw [Hgl.out]; exact (hQ3.2.1.end_ge g l e).2.1
          have Hne := Lib.hid hne
          have H1 := Lib.hid h1
          have HQ5 := Lib.hid hQ
          have Hys := Lib.hid hys
          have Hyl := Lib.hid hyl
          have Hy1 := Lib.hid hy1
          clear hQ3 h1 hy1 hys hyl hQ hne
          go_wp2_with fail
          refine (QT.len_T _ wr _ R _ _ _ HQ5.out).mono ?_
          rintro e w5 ⟨rfl, rfl⟩
          go_wp2_with fail
          have hgs : w1.heap.size < gl := by rw [Hgl.out]; exact HI.out.choose_spec.choose_spec.choose_spec.1.lt
          by_cases hfit : xs.length + k ≤ R
          · refine (QT.push_yes _ w5 _ R _ _ _ HQ5.out _ k k ys Hyl.out Hys.out (by omega) hfit).mono ?_
            rintro e w6 ⟨rfl, u6, hQ6, hF6, hE6⟩
            have HQa := Lib.hid hQ6
            have hl6 : (xs ++ ys).length = xs.length + k := by rw [List.length_append, Hyl.out]
            have Hna : Hid (∀ g l, endOf u6 = some (g, l) → g ≠ gl) := Lib.hid (by
              intro g l e
              rcases hE6 g l e with ⟨l0, e0, -⟩ | h
              · have := Hne.out g l0 e0; omega
              · omega)
            have HCa : Hid (∃ cur, w6.heap[gl]? = some (.cells cur 9 (0, 0)) ∧ cur.size = k) := Lib.hid (by
              obtain ⟨cur, h1, h2, -⟩ := HO.out
              exact ⟨cur, (hF6.block gl hgr (by omega) (fun g l e => by have := Hne.out g l e; omega)).trans h1, h2⟩)
            have Hall : Hid (∀ x ∈ xs ++ ys, x.size = 1) := Lib.hid (fun x hx => (List.mem_append.1 hx).elim (H1.out x) (Hy1.out x))
            have hBa : Below w1.heap.size w1 w6 := (hBr.trans (hB46.mono (by omega))).trans (hF6.below (Nat.le_refl _) (fun g l e => (HQ5.out.2.1.end_ge g l e).1) (by omega))
            clear hQ6 hF6 hE6
            have f1 : ((xs.length : Int) + k ≤ R) = True := eq_true (by omega)
            go_wp2_with fail
            refine (QT.len_T _ w6 _ R _ _ _ HQa.out).mono ?_
            rintro e w7 ⟨rfl, rfl⟩
            rw [hl6]
            have f2 : ((R : Int) < ((xs.length + k : Nat) : Int)) = False := eq_false (by omega)
            go_wp2_with fail
            refine (QT.len_T _ w7 _ R _ _ _ HQa.out).mono ?_
            rintro e w8 ⟨rfl, rfl⟩
            rw [hl6]
            by_cases hk0 : k = 0
            · have f4 : (((xs.length + k : Nat) : Int) = (xs.length : Int)) = True := eq_true (by omega)
              go_wp2_with fail
              go_loopg [12] (k - 0) (fun m i wr3 => ∃ q : Nat, i = .int .i64 q ∧ q ≤ k ∧ Hid (m = k - q) ∧ Hid (QT.QAt w1.heap.size wr3 w1.heap.size R (u6) pp (xs ++ ys)) ∧ Hid (∃ cur, wr3.heap[gl]? = some (.cells cur 9 (0, 0)) ∧ cur.size = k) ∧ Below w1.heap.size w1 wr3)
              case atStart => exact ⟨0, rfl, by omega, Lib.hid rfl, HQa, HCa, hBa⟩
              case round =>
                obtain ⟨q, rfl, hq, Hm3, HQb, HCb, hBb⟩ := hrel
                by_cases hlt3 : q < k
                · omega
                · obtain rfl : q = k := by omega
                  by_cases h3 : (j : Int) % 3 = 2
                  · have f3 : ((j : Int) % 3 == 2) = true := by simpa using h3
                    have f30 : 0 ≤ (j : Int) := by omega
                    clear h3
                    go_wp2_with fail
                    rcases hxs : (xs ++ ys) with _ | ⟨x, xs'⟩
                    · have hQc := HQb.out
                      rw [hxs] at hQc
                      refine (QT.pop_none _ wr _ R _ _ hQc).mono ?_
                      rintro e w8 ⟨rfl, hB8⟩
                      have HQc := Lib.hid (hQc.below hB8)
                      clear hQc
                      go_wp2_with fail
                      go_roundg (zs.length - (j + 1))
                      case measure => rw [Hm.out]; omega
                      case rel => exact ⟨j + 1, by go_num, by omega, by omega, Lib.hid rfl, Lib.hid ⟨_, _, _, HQc.out, by simp⟩, hBb.trans (hB8.mono hBb.size)⟩
                    · have hQc := HQb.out
                      rw [hxs] at hQc
                      have hx1 : x.size = 1 := Hall.out x (by rw [hxs]; simp)
                      have Hal2 : Hid (∀ x ∈ xs', x.size = 1) := Lib.hid (fun y hy => Hall.out y (by rw [hxs]; simp [hy]))
                      refine (QT.pop_some _ wr _ R _ _ x xs' hQc hBb.size).mono ?_
                      rintro e w8 ⟨rfl, u8, ⟨pp8, hQ8⟩, hF8, hE8⟩
                      have HQc := Lib.hid hQ8
                      have HF8 := Lib.hid hF8
                      clear hQc hQ8 hF8 hE8
                      go_wp2_with fail
                      go_roundg (zs.length - (j + 1))
                      case measure => rw [Hm.out]; omega
                      case rel => exact ⟨j + 1, by go_num, by omega, by omega, Lib.hid rfl, Lib.hid ⟨_, _, _, HQc.out, Hal2.out⟩, hBb.trans (HF8.out.below (Nat.le_refl _) (fun g l e => by cases e) hBb.size)⟩
                  · have f3 : ((j : Int) % 3 == 2) = false := by simpa using h3
                    have f30 : 0 ≤ (j : Int) := by omega
                    clear h3
                    go_wp2_with fail
                    go_roundg (zs.length - (j + 1))
                    case measure => rw [Hm.out]; omega
                    case rel => exact ⟨j + 1, by go_num, by omega, by omega, Lib.hid rfl, Lib.hid ⟨_, _, _, HQb.out, Hall.out⟩, hBb⟩
            · have f4 : (((xs.length + k : Nat) : Int) = (xs.length : Int)) = False := eq_false (by omega)
              have f5 : (((xs.length + k : Nat) : Int) = (xs.length : Int) + k) = True := eq_true (by omega)
              go_wp2_with fail
              refine (QT.len_T _ w8 _ R _ _ _ HQa.out).mono ?_
              rintro e w9 ⟨rfl, rfl⟩
              rw [hl6]
              go_wp2_with fail
              go_loopg [12] (k - 0) (fun m i wr3 => ∃ q : Nat, i = .int .i64 q ∧ q ≤ k ∧ Hid (m = k - q) ∧ Hid (QT.QAt w1.heap.size wr3 w1.heap.size R (u6) pp (xs ++ ys)) ∧ Hid (∃ cur, wr3.heap[gl]? = some (.cells cur 9 (0, 0)) ∧ cur.size = k) ∧ Below w1.heap.size w1 wr3)
              case atStart => exact ⟨0, rfl, by omega, Lib.hid rfl, HQa, HCa, hBa⟩
              case round =>
                obtain ⟨q, rfl, hq, Hm3, HQb, HCb, hBb⟩ := hrel
                by_cases hlt3 : q < k
                · obtain ⟨cur, hcur, hsz⟩ := HCb.out
                  obtain ⟨u0, hkc⟩ : ∃ u0, wr.cell? ⟨gl, q, none⟩ = some u0 := ⟨cur[q]'(by omega), by simp [World.cell?, hcur]⟩
                  have hfz : wr.frozen? ⟨gl, q, none⟩ = false := frozen_of_heap hcur q
                  have Hcur := Lib.hid hcur
                  clear hcur
                  go_wp2_with fail
                  go_roundg (k - (q + 1))
                  case measure => rw [Hm3.out]; omega
                  case rel => exact ⟨q + 1, by go_num, by omega, Lib.hid rfl, Lib.hid (qat_set HQb.out (by omega) Hna.out _ _), Lib.hid ⟨_, setCell_heap Hcur.out _, by simpa using hsz⟩, hBb.setCell (by show w1.heap.size ≤ gl; omega) _⟩
                · obtain rfl : q = k := by omega
                  by_cases h3 : (j : Int) % 3 = 2
                  · have f3 : ((j : Int) % 3 == 2) = true := by simpa using h3
                    have f30 : 0 ≤ (j : Int) := by omega
                    clear h3
                    go_wp2_with fail
                    rcases hxs : (xs ++ ys) with _ | ⟨x, xs'⟩
                    · have hQc := HQb.out
                      rw [hxs] at hQc
                      refine (QT.pop_none _ wr _ R _ _ hQc).mono ?_
                      rintro e w8 ⟨rfl, hB8⟩
                      have HQc := Lib.hid (hQc.below hB8)
                      clear hQc
                      go_wp2_with fail
                      go_roundg (zs.length - (j + 1))
                      case measure => rw [Hm.out]; omega
                      case rel => exact ⟨j + 1, by go_num, by omega, by omega, Lib.hid rfl, Lib.hid ⟨_, _, _, HQc.out, by simp⟩, hBb.trans (hB8.mono hBb.size)⟩
                    · have hQc := HQb.out
                      rw [hxs] at hQc
                      have hx1 : x.size = 1 := Hall.out x (by rw [hxs]; simp)
                      have Hal2 : Hid (∀ x ∈ xs', x.size = 1) := Lib.hid (fun y hy => Hall.out y (by rw [hxs]; simp [hy]))
                      refine (QT.pop_some _ wr _ R _ _ x xs' hQc hBb.size).mono ?_
                      rintro e w8 ⟨rfl, u8, ⟨pp8, hQ8⟩, hF8, hE8⟩
                      have HQc := Lib.hid hQ8
                      have HF8 := Lib.hid hF8
                      clear hQc hQ8 hF8 hE8
                      go_wp2_with fail
                      go_roundg (zs.length - (j + 1))
                      case measure => rw [Hm.out]; omega
                      case rel => exact ⟨j + 1, by go_num, by omega, by omega, Lib.hid rfl, Lib.hid ⟨_, _, _, HQc.out, Hal2.out⟩, hBb.trans (HF8.out.below (Nat.le_refl _) (fun g l e => by cases e) hBb.size)⟩
                  · have f3 : ((j : Int) % 3 == 2) = false := by simpa using h3
                    have f30 : 0 ≤ (j : Int) := by omega
                    clear h3
                    go_wp2_with fail
                    go_roundg (zs.length - (j + 1))
                    case measure => rw [Hm.out]; omega
                    case rel => exact ⟨j + 1, by go_num, by omega, by omega, Lib.hid rfl, Lib.hid ⟨_, _, _, HQb.out, Hall.out⟩, hBb⟩
          · refine (QT.push_no _ w5 _ R _ _ _ HQ5.out _ k k (by omega) (by omega)).mono ?_
            rintro e w6 ⟨rfl, hB7⟩
            have f1 : ((xs.length : Int) + k ≤ R) = False := eq_false (by omega)
            have HQa := Lib.hid (HQ5.out.below hB7)
            have Hna : Hid (∀ g l, endOf u = some (g, l) → g ≠ gl) := Lib.hid (fun g l e => by have := Hne.out g l e; omega)
            have HCa : Hid (∃ cur, w6.heap[gl]? = some (.cells cur 9 (0, 0)) ∧ cur.size = k) := Lib.hid (by
              obtain ⟨cur, h1, h2, -⟩ := HO.out
              exact ⟨cur, (hB7.block gl hgr).trans h1, h2⟩)
            have Hall : Hid (∀ x ∈ xs, x.size = 1) := H1
            have hBa : Below w1.heap.size w1 w6 := (hBr.trans (hB46.mono (by omega))).trans (hB7.mono (by omega))
            go_wp2_with fail
            refine (QT.len_T _ w6 _ R _ _ _ HQa.out).mono ?_
            rintro e w7 ⟨rfl, rfl⟩
            have f2 : ((R : Int) < (xs.length : Int)) = False := eq_false (by omega)
            go_wp2_with fail
            refine (QT.len_T _ w7 _ R _ _ _ HQa.out).mono ?_
            rintro e w8 ⟨rfl, rfl⟩
            go_wp2_with fail
            go_loopg [12] (k - 0) (fun m i wr3 => ∃ q : Nat, i = .int .i64 q ∧ q ≤ k ∧ Hid (m = k - q) ∧ Hid (QT.QAt w1.heap.size wr3 w1.heap.size R (u) pp (xs)) ∧ Hid (∃ cur, wr3.heap[gl]? = some (.cells cur 9 (0, 0)) ∧ cur.size = k) ∧ Below w1.heap.size w1 wr3)
            case atStart => exact ⟨0, rfl, by omega, Lib.hid rfl, HQa, HCa, hBa⟩
            case round =>
              obtain ⟨q, rfl, hq, Hm3, HQb, HCb, hBb⟩ := hrel
              by_cases hlt3 : q < k
              · obtain ⟨cur, hcur, hsz⟩ := HCb.out
                obtain ⟨u0, hkc⟩ : ∃ u0, wr.cell? ⟨gl, q, none⟩ = some u0 := ⟨cur[q]'(by omega), by simp [World.cell?, hcur]⟩
                have hfz : wr.frozen? ⟨gl, q, none⟩ = false := frozen_of_heap hcur q
                have Hcur := Lib.hid hcur
                clear hcur
                go_wp2_with fail
                go_roundg (k - (q + 1))
                case measure => rw [Hm3.out]; omega
                case rel => exact ⟨q + 1, by go_num, by omega, Lib.hid rfl, Lib.hid (qat_set HQb.out (by omega) Hna.out _ _), Lib.hid ⟨_, setCell_heap Hcur.out _, by simpa using hsz⟩, hBb.setCell (by show w1.heap.size ≤ gl; omega) _⟩
              · obtain rfl : q = k := by omega
                by_cases h3 : (j : Int) % 3 = 2
                · have f3 : ((j : Int) % 3 == 2) = true := by simpa using h3
                  have f30 : 0 ≤ (j : Int) := by omega
                  clear h3
                  go_wp2_with fail
                  rcases hxs : (xs) with _ | ⟨x, xs'⟩
                  · have hQc := HQb.out
                    rw [hxs] at hQc
                    refine (QT.pop_none _ wr _ R _ _ hQc).mono ?_
                    rintro e w8 ⟨rfl, hB8⟩
                    have HQc := Lib.hid (hQc.below hB8)
                    clear hQc
                    go_wp2_with fail
                    go_roundg (zs.length - (j + 1))
                    case measure => rw [Hm.out]; omega
                    case rel => exact ⟨j + 1, by go_num, by omega, by omega, Lib.hid rfl, Lib.hid ⟨_, _, _, HQc.out, by simp⟩, hBb.trans (hB8.mono hBb.size)⟩
                  · have hQc := HQb.out
                    rw [hxs] at hQc
                    have hx1 : x.size = 1 := Hall.out x (by rw [hxs]; simp)
                    have Hal2 : Hid (∀ x ∈ xs', x.size = 1) := Lib.hid (fun y hy => Hall.out y (by rw [hxs]; simp [hy]))
                    refine (QT.pop_some _ wr _ R _ _ x xs' hQc hBb.size).mono ?_
                    rintro e w8 ⟨rfl, u8, ⟨pp8, hQ8⟩, hF8, hE8⟩
                    have HQc := Lib.hid hQ8
                    have HF8 := Lib.hid hF8
                    clear hQc hQ8 hF8 hE8
                    go_wp2_with fail
                    go_roundg (zs.length - (j + 1))
                    case measure => rw [Hm.out]; omega
                    case rel => exact ⟨j + 1, by go_num, by omega, by omega, Lib.hid rfl, Lib.hid ⟨_, _, _, HQc.out, Hal2.out⟩, hBb.trans (HF8.out.below (Nat.le_refl _) (fun g l e => by cases e) hBb.size)⟩
                · have f3 : ((j : Int) % 3 == 2) = false := by simpa using h3
                  have f30 : 0 ≤ (j : Int) := by omega
                  clear h3
                  go_wp2_with fail
                  go_roundg (zs.length - (j + 1))
                  case measure => rw [Hm.out]; omega
                  case rel => exact ⟨j + 1, by go_num, by omega, by omega, Lib.hid rfl, Lib.hid ⟨_, _, _, HQb.out, Hall.out⟩, hBb⟩
    · have hx : j = zs.length ∨ (j < zs.length ∧ j = 50) := by omega
      rcases hx with rfl | ⟨hlt, rfl⟩
      · go_wp2_with fail
        refine (wakes_T wr).mono ?_
        rintro e w5 ⟨rfl, hB5⟩
        go_wp2_with fail
        go_ret
        exact ⟨rfl, hBr.trans (hB5.mono hBr.size)⟩
      · go_wp2_with fail
        refine (wakes_T wr).mono ?_
        rintro e w5 ⟨rfl, hB5⟩
        go_wp2_with fail
        go_ret
        exact ⟨rfl, hBr.trans (hB5.mono hBr.size)⟩

end Go.Proofs.Ytckdojneogeblaa
