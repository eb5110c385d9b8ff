/- OrderNumbers returns true, whatever numbers it is given. Conditions: none but that the list lies in memory. -/
import Derived.Test.YtgpmiachllpddaaNewSN
import Derived.Test.YtgpmiachllpddaaListNN
import Derived.Test.YtgpmiachllpddaaWakes
import Derived.Deep.LoopGhost
namespace Go.Proofs.Ytgpmiachllpddaa
open Go Go.RowKit Go.Shelf

theorem flat_one (xs : List Int) : (xs.flatMap fun x => [Value.int .i64 x]) = xs.map (Value.int .i64) := by induction xs <;> simp_all

theorem Made.slice {B : Nat} {W : World} {v : Value} {xs : List Int} (h : N.Made B W v xs) : N.SliceOf W v xs := by
  rcases h.2 with ⟨rfl, h0⟩ | ⟨g, cap, cur, rfl, hb, hg, hn, hm, hs, ht⟩
  · have : xs = [] := List.length_eq_zero_iff.1 h0
    subst this
    exact ⟨none, 0, rfl, .inl rfl⟩
  · refine ⟨some ⟨g, 0, none⟩, cap, rfl, .inr ⟨g, 0, rfl, fun i x hx => ?_⟩⟩
    have hi : i < xs.length * 1 := by rw [Nat.mul_one]; exact (List.getElem?_eq_some_iff.1 hx).1
    rw [Nat.zero_add, World.ownsRow.cellAt h i hi]
    have e : (xs.flatMap fun x => [Value.int .i64 x]) = xs.map (Value.int .i64) := flat_one xs
    rw [e, List.getElem?_map, hx]
    rfl

/-- How the law's two loops see whether a number was there. -/
def seen (zs : List Int) (k : Nat) (z : Int) : Bool := (zs.take k).any (· == z)

theorem below_ge {B : Nat} {w w' : World} (h : Below B w w') : w.heap.size ≤ w'.heap.size := h.size

theorem seen_zero (zs : List Int) (z : Int) : seen zs 0 z = false := by simp [seen]
theorem seen_succ {zs : List Int} {k : Nat} {y z : Int} (h : zs[k]? = some y) : seen zs (k + 1) z = (seen zs k z || (y == z)) := by
  simp [seen, List.take_add_one, h]
theorem seen_has {zs : List Int} {k : Nat} {z : Int} : has icmp ((zs.take k).foldl (put icmp) []) z = seen zs k z := by
  rw [Bool.eq_iff_iff, has_iff icmp_exact, mem_puts icmp_exact]
  simp [seen]

set_option maxRecDepth 100000 in
set_option maxHeartbeats 4000000 in
theorem numbers_walk (w : World) (v : Value) (zs : List Int) (hv : N.SliceOf w v zs) (hlen : zs.length ≤ 100) :
    Calls Try.prog 4 #[v] w fun e w' => e = .returned (.bool true) ∧ Below w.heap.size w w' := by
  obtain ⟨a, cap, rfl, hc⟩ := hv
  go_enter Try.func4, Try.ntmps4
  go_wp2_with fail
  refine (N.new_T w (.slice none 0 0) [] ⟨none, 0, rfl, .inl rfl⟩ (by simp)).mono ?_
  rintro e w1 ⟨s, rfl, hs, hS, hB⟩
  have HS := Lib.hid hS
  clear hS
  go_wp2_with fail
  go_loopg [4] zs.length (fun m i wr => ∃ j : Nat, i = .int .i64 j ∧ j ≤ zs.length ∧ Hid (m = zs.length - j) ∧ Hid (N.SetAt wr s ((zs.take j).foldl (put icmp) [])) ∧ Below w.heap.size w wr)
  case atStart => exact ⟨0, rfl, by omega, Lib.hid rfl, HS, hB⟩
  case round =>
    obtain ⟨j, rfl, hj, Hm, HS, hB⟩ := hrel
    by_cases hlt : j < zs.length
    · rcases hc with rfl | ⟨b, off, rfl, hel⟩
      · simp at hlt
      · obtain ⟨z, hz⟩ : ∃ z, zs[j]? = some z := ⟨zs[j], by simp [hlt]⟩
        have hbl := World.block_lt_of_cell? w _ (hel j z hz)
        go_wp2_with fail
        go_loopg [5, 6] j (fun m q i wr2 => ∃ (k : Nat) (sb : Bool), i = .int .i64 k ∧ k ≤ j ∧ q = .bool sb ∧ Hid (m = j - k ∧ sb = seen zs k z) ∧ Hid (N.SetAt wr2 s ((zs.take j).foldl (put icmp) [])) ∧ Below w.heap.size w wr2)
        case atStart => exact ⟨0, false, rfl, by omega, rfl, Lib.hid ⟨rfl, (seen_zero _ _).symm⟩, HS, hB⟩
        case round =>
          obtain ⟨k, sb, rfl, hk, rfl, Hm2, HS2, hB2⟩ := hrel
          have el2 := hel.below hB2 hbl
          have hzc := el2 j z hz
          by_cases hlt2 : k < j
          · obtain ⟨y, hy⟩ : ∃ y, zs[k]? = some y := ⟨zs[k], by simp⟩
            have hyc := el2 k y hy
            have Hy := Lib.hid hy
            have Hz := Lib.hid hz
            have Hel := Lib.hid hel
            clear hy hz el2 hel
            cases sb
            · go_wp2_with fail
              go_quiet (fail)
              go_wp2_with fail
              go_roundg (j - (k + 1))
              case measure => rw [Hm2.out.1]; omega
              case rel => exact ⟨k + 1, (y == z), by go_num, by omega, rfl, Lib.hid ⟨rfl, by rw [seen_succ Hy.out, ← Hm2.out.2]; rfl⟩, Lib.hid (HS2.out.below (below_drewN _ _ _)), hB2.trans (below_drewN _ _ _)⟩
            · go_wp2_with fail
              go_quiet (fail)
              go_wp2_with fail
              go_roundg (j - (k + 1))
              case measure => rw [Hm2.out.1]; omega
              case rel => exact ⟨k + 1, true, by go_num, by omega, rfl, Lib.hid ⟨rfl, by rw [seen_succ Hy.out, ← Hm2.out.2]; rfl⟩, Lib.hid (HS2.out.below (below_drewN _ _ _)), hB2.trans (below_drewN _ _ _)⟩
          · obtain rfl : k = j := by omega
            have hlen2 : ((zs.take k).foldl (put icmp) []).length ≤ 800000 := by
              have := N.putl_length (zs.take k) []
              simp at this; omega
            have hps : has icmp ((zs.take k).foldl (put icmp) []) z = sb := seen_has.trans Hm2.out.2.symm
            have Hps := Lib.hid hps
            have Hz := Lib.hid hz
            have Hel := Lib.hid hel
            clear hps hz el2 hel
            cases sb
            · go_wp2_with fail
              refine (N.put_T wr s _ z HS2.out hlen2).mono ?_
              rw [Hps.out]
              rintro e w3 ⟨rfl, hS3, hb3⟩
              have HS3 := Lib.hid hS3
              clear hS3
              go_wp2_with fail
              go_roundg (zs.length - (k + 1))
              case measure => rw [Hm.out]; omega
              case rel =>
                refine ⟨k + 1, by go_num, by omega, Lib.hid rfl, Lib.hid ?_, N.below_but hB2 hb3 hs hB2.size⟩
                rw [List.take_add_one, Hz.out, List.foldl_append]
                exact HS3.out
            · go_wp2_with fail
              refine (N.put_T wr s _ z HS2.out hlen2).mono ?_
              rw [Hps.out]
              rintro e w3 ⟨rfl, hS3, hb3⟩
              have HS3 := Lib.hid hS3
              clear hS3
              go_wp2_with fail
              go_roundg (zs.length - (k + 1))
              case measure => rw [Hm.out]; omega
              case rel =>
                refine ⟨k + 1, by go_num, by omega, Lib.hid rfl, Lib.hid ?_, N.below_but hB2 hb3 hs hB2.size⟩
                rw [List.take_add_one, Hz.out, List.foldl_append]
                exact HS3.out
    · obtain rfl : j = zs.length := by omega
      have hS2 := HS.out
      rw [List.take_length] at hS2
      have HS2 := Lib.hid hS2
      clear hS2
      go_wp2_with fail
      refine (N.all_T wr (some ⟨s, 0, none⟩)).mono ?_
      rintro e w4 ⟨rfl, rfl⟩
      have hb4 : Below wr.heap.size wr (wr.alloc (.cells #[.pointer (some ⟨s, 0, none⟩)] 46)) := (Below.refl _ wr).alloc (Nat.le_refl _) _
      have hbx := heap_alloc_new wr (.cells #[.pointer (some ⟨s, 0, none⟩)] 46)
      have hS4 := HS2.out.below hb4
      have hB4 := hB.trans (hb4.mono hB.size)
      have hlen3 : (zs.foldl (put icmp) []).length ≤ 100 := by
        have := N.putl_length zs []
        simp at this; omega
      have hso := sorted_puts icmp_lin (xs := zs) (l := []) List.Pairwise.nil
      have hmem : ∀ z ∈ zs, z ∈ zs.foldl (put icmp) [] := fun z hz => (mem_puts icmp_exact).2 (.inl hz)
      have hli := N.list_T 61 #[.pointer (some ⟨wr.heap.size, 0, none⟩)] _ _ _ (enters_of Try.func61 (by kernel_rfl) rfl)
        (N.all_stops 2 _ wr.heap.size s _ _ hbx hS4 (by omega) (Nat.le_refl _)) (by omega) (Nat.le_refl _)
      have HS4 := Lib.hid hS4
      have Hso := Lib.hid hso
      have Hmem := Lib.hid hmem
      clear hS4 hso hbx hmem
      go_wp2_with fail
      refine hli.mono ?_
      clear hli
      rintro e w5 ⟨v, rfl, hM, hb5⟩
      generalize zs.foldl (put icmp) [] = L at HS4 hlen3 hM Hso Hmem ⊢
      obtain ⟨a', cap', rfl, hc'⟩ := Made.slice hM
      have hB5 := hB4.trans (hb5.mono hB4.size)
      have HS5 := Lib.hid (HS4.out.below hb5)
      go_wp2_with fail
      go_loopg [8] L.length (fun m i wr3 => ∃ j : Nat, i = .int .i64 j ∧ j ≤ L.length ∧ Hid (m = L.length - j) ∧ Hid (N.SetAt wr3 s L) ∧ Below w5.heap.size w5 wr3)
      case atStart => exact ⟨0, rfl, by omega, Lib.hid rfl, HS5, Below.refl _ _⟩
      case round =>
        obtain ⟨j, rfl, hj, Hm, HS6, hB6⟩ := hrel
        by_cases hlt : j < L.length
        · rcases hc' with rfl | ⟨b, off, rfl, hel⟩
          · simp at hlt
          · obtain ⟨z, hz⟩ : ∃ z, L[j]? = some z := ⟨L[j], by simp [hlt]⟩
            have hbl := World.block_lt_of_cell? w5 _ (hel j z hz)
            have el6 := hel.below hB6 hbl
            have hzc := el6 j z hz
            have hp := pos_get icmp_lin Hso.out hz
            have Hz := Lib.hid hz
            have Hp := Lib.hid hp
            have hlen4 : L.length ≤ 800000 := by omega
            clear hz hp
            rcases Nat.eq_zero_or_pos j with rfl | hj0
            · have Hel := Lib.hid hel
              simp only [Nat.add_zero] at hzc
              clear hel el6
              go_wp2_with fail
              refine (N.place_T wr s L z HS6.out hlen4).mono ?_
              rw [Hp.out.1, Hp.out.2]
              rintro e w7 ⟨rfl, hb7⟩
              have hS7 := Lib.hid (HS6.out.below hb7)
              go_wp2_with fail
              go_quiet (fail)
              go_wp2_with fail
              go_roundg (L.length - (0 + 1))
              case measure => rw [Hm.out]; omega
              case rel => exact ⟨0 + 1, by go_num, by omega, Lib.hid rfl, Lib.hid (hS7.out.below (below_drewN _ _ _)), (hB6.trans (hb7.mono hB6.size)).trans (below_drewN _ _ _)⟩
            · obtain ⟨y, hy⟩ : ∃ y, L[j - 1]? = some y := ⟨L[j - 1], by simp⟩
              have hyc := el6 (j - 1) y hy
              have hyz : y < z := by
                have h1 := List.getElem?_eq_some_iff.1 hy
                have h2 := List.getElem?_eq_some_iff.1 Hz.out
                have h3 := List.pairwise_iff_getElem.1 Hso.out (j - 1) j h1.1 h2.1 (by omega)
                rw [h1.2, h2.2] at h3
                unfold icmp at h3
                split at h3 <;> (try split at h3) <;> omega
              have hle : decide (z ≤ y) = false := by simp; omega
              have Hel := Lib.hid hel
              have Hy := Lib.hid hy
              clear hel el6 hy
              go_wp2_with fail
              refine (N.place_T wr s L z HS6.out hlen4).mono ?_
              rw [Hp.out.1, Hp.out.2]
              rintro e w7 ⟨rfl, hb7⟩
              have hS7 := Lib.hid (HS6.out.below hb7)
              have el7 := (Hel.out.below (hB6.trans (hb7.mono hB6.size)) hbl)
              have hzc7 := el7 j z Hz.out
              have hyc7 := el7 (j - 1) y Hy.out
              clear el7
              go_wp2_with fail
              go_quiet (fail)
              go_wp2_with fail
              go_roundg (L.length - (j + 1))
              case measure => rw [Hm.out]; omega
              case rel => exact ⟨j + 1, by go_num, by omega, Lib.hid rfl, Lib.hid (hS7.out.below (below_drewN _ _ _)), (hB6.trans (hb7.mono hB6.size)).trans (below_drewN _ _ _)⟩
        · obtain rfl : j = L.length := by omega
          go_wp2_with fail
          go_loopg [11] zs.length (fun m i wr4 => ∃ j : Nat, i = .int .i64 j ∧ j ≤ zs.length ∧ Hid (m = zs.length - j) ∧ Hid (N.SetAt wr4 s L) ∧ Below w5.heap.size w5 wr4)
          case atStart => exact ⟨0, rfl, by omega, Lib.hid rfl, HS6, hB6⟩
          case round =>
            obtain ⟨j, rfl, hj, Hm, HS7, hB7⟩ := hrel
            have hB8 := hB5.trans (hB7.mono hB5.size)
            have hlen4 : L.length ≤ 800000 := by omega
            by_cases hlt : j < zs.length
            · rcases hc with rfl | ⟨b, off, rfl, hel⟩
              · simp at hlt
              · obtain ⟨z, hz⟩ : ∃ z, zs[j]? = some z := ⟨zs[j], by simp [hlt]⟩
                have hbl := World.block_lt_of_cell? w _ (hel j z hz)
                have hzc := (hel.below hB8 hbl) j z hz
                have hin : z ∈ L := Hmem.out z (List.mem_of_getElem? hz)
                obtain ⟨i, hi⟩ := List.mem_iff_getElem?.1 hin
                have hp := pos_get icmp_lin Hso.out hi
                have Hz := Lib.hid hz
                have Hi := Lib.hid hi
                have Hp := Lib.hid hp
                have Hel := Lib.hid hel
                clear hz hi hp hel hin
                go_wp2_with fail
                refine (N.get_T wr s L z HS7.out hlen4 Hp.out.2).mono ?_
                rw [Hp.out.1, Hi.out]
                rintro e w9 ⟨⟨y, rfl, hy⟩, hb9⟩
                cases hy
                have hS9 := Lib.hid (HS7.out.below hb9)
                have hzc9 := (Hel.out.below (hB8.trans (hb9.mono hB8.size)) hbl) j z Hz.out
                go_wp2_with fail
                go_roundg (zs.length - (j + 1))
                case measure => rw [Hm.out]; omega
                case rel => exact ⟨j + 1, by go_num, by omega, Lib.hid rfl, hS9, hB7.trans (hb9.mono hB7.size)⟩
            · obtain rfl : j = zs.length := by omega
              go_wp2_with fail
              refine (N.len_T wr s L HS7.out).mono ?_
              rintro e w9 ⟨rfl, rfl⟩
              go_wp2_with fail
              refine (wakes_T wr).mono ?_
              rintro e w10 ⟨rfl, hb10⟩
              go_wp2_with fail
              go_ret
              exact ⟨rfl, hB8.trans (hb10.mono hB8.size)⟩

theorem numbers_big (w : World) (v : Value) (zs : List Int) (hv : N.SliceOf w v zs) (hlen : 100 < zs.length) :
    Calls Try.prog 4 #[v] w fun e w' => e = .returned (.bool true) ∧ Below w.heap.size w w' := by
  obtain ⟨a, cap, rfl, hc⟩ := hv
  go_enter Try.func4, Try.ntmps4
  go_wp2_with fail
  refine (wakes_T w).mono ?_
  rintro e w1 ⟨rfl, hb⟩
  go_wp2_with fail
  go_ret
  exact ⟨rfl, hb⟩

theorem numbers_any (w : World) (v : Value) (zs : List Int) (hv : N.SliceOf w v zs) :
    Calls Try.prog 4 #[v] w fun e w' => e = .returned (.bool true) ∧ Below w.heap.size w w' := by
  by_cases h : zs.length ≤ 100
  · exact numbers_walk w v zs hv h
  · exact numbers_big w v zs hv (by omega)

end Go.Proofs.Ytgpmiachllpddaa
