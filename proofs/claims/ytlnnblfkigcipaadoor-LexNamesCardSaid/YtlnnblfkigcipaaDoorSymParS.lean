/- What Parse answers. Conditions: the text is not too long; strconv's table of powers and its two errors lie as the program lays them. -/
import Derived.Test.YtlnnblfkigcipaaDoorSymTxS
import Derived.Test.YtlnnblfkigcipaaDoorSymEq
namespace Go.Proofs.YtlnnblfkigcipaaDoor
open Go Go.RowKit

theorem guess_size (t : ByteArray) : (guessV t).t.size ≤ t.size := by
  unfold guessV
  split
  · exact Nat.zero_le _
  · split
    · simp [ByteArray.size_extract]; omega
    · split
      · exact Nat.le_refl _
      · exact Nat.zero_le _

/-- What Parse answers: the symbol, and whether there is one. -/
def parseOk (t : ByteArray) : Bool := validB (guessV t) && (textB (guessV t)).toList == t.toList
def parseV (t : ByteArray) : SymV := if parseOk t then guessV t else ⟨0, ⟨#[]⟩, 0⟩

set_option maxHeartbeats 1600000 in
theorem parse_T (w : World) (t : ByteArray) (hm : t.size ≤ 100000) (hE : Env w) : Calls Tryd.prog 41 #[.string t] w fun e w' => e = .returned (.tuple #[.agg #[.int .i64 (parseV t).k, .string (parseV t).t, .int .i64 (parseV t).n], .bool (parseOk t)]) ∧ Below w.heap.size w w' := by
  have hB0 : Below w.heap.size w (w.alloc (.cells #[.int .i64 0, .string ⟨#[]⟩, .int .i64 0] 62)) := (Below.refl _ w).alloc (Nat.le_refl _) _
  have hb0 := heap_alloc_new w (.cells #[.int .i64 0, .string ⟨#[]⟩, .int .i64 0] 62)
  have hgs := guess_size t
  have hgm : (guessV t).t.size ≤ maxLen - 100 := by unfold maxLen; omega
  have hga := guess_T (w.alloc (.cells #[.int .i64 0, .string ⟨#[]⟩, .int .i64 0] 62)) t hm (hE.below hB0)
  have hP : parseV t = if parseOk t then guessV t else ⟨0, ⟨#[]⟩, 0⟩ := rfl
  have hO : parseOk t = (validB (guessV t) && (textB (guessV t)).toList == t.toList) := rfl
  generalize guessV t = x at hgm hga hP hO
  have HP := Lib.hid hP
  have HO := Lib.hid hO
  clear hP hO hgs
  generalize parseV t = pv at HP ⊢
  generalize parseOk t = po at HP HO ⊢
  go_enter Tryd.func41, Tryd.ntmps41
  go_wp2_with fail
  generalize (w.alloc (.cells #[.int .i64 0, .string ⟨#[]⟩, .int .i64 0] 62)) = W0 at hB0 hb0 hga ⊢
  refine hga.mono ?_
  rintro e w1 ⟨rfl, hB1⟩
  have hC1 := hB0.trans (hB1.mono hB0.size)
  have hb1 := (hB1.block _ (lt_of_block hb0)).trans hb0
  have hB2 := box1_S w1 x
  have hx2 := heap_alloc_new w1 (.cells #[.int .i64 x.k, .string x.t, .int .i64 x.n] 62)
  have hC2 := hC1.trans (hB2.mono hC1.size)
  have hb2 := (hB2.block _ (lt_of_block hb1)).trans hb1
  clear hga hb0 hb1
  go_wp2_with fail
  generalize (w1.alloc (.cells #[.int .i64 x.k, .string x.t, .int .i64 x.n] 62)) = W2 at hB2 hx2 hC2 hb2 ⊢
  have hE2 := hE.below hC2
  refine (valid_T W2 x (by omega)).mono ?_
  cases hv : validB x
  · rintro e w3 ⟨rfl, hB3⟩
    have hb3 := (hB3.block _ (lt_of_block hb2)).trans hb2
    have hC3 := hC2.trans (hB3.mono hC2.size)
    have hz1 := S.zero_cells hb3
    have Hb3 := Lib.hid hb3
    clear hb3 hb2 hx2
    go_wp2_with fail
    have hm := S.mem_sto w3 w.heap.size ⟨0, ⟨#[]⟩, 0⟩ Hb3.out
    have hB4 := S.below_but hC3 (S.but_sto w3 w.heap.size ⟨0, ⟨#[]⟩, 0⟩) (Nat.le_refl _) hC3.size
    dsimp only at hm hB4
    generalize (((w3.setCell ⟨w.heap.size, 0, none⟩ _).setCell ⟨w.heap.size, 1, none⟩ _).setCell ⟨w.heap.size, 2, none⟩ _) = W at hm hB4 ⊢
    exact bodyPost_ret (v := .tuple #[.agg #[.int .i64 0, .string ⟨#[]⟩, .int .i64 0], .bool false]) (by simp [results, Tryd.results41, go_sem, hm]) rfl ⟨by have h1 := HO.out; simp [hv] at h1; have h2 := HP.out; simp [h1] at h2; rw [h1, h2], hB4⟩
  · rintro e w3 ⟨rfl, hB3⟩
    have hx3 := (hB3.block _ (lt_of_block hx2)).trans hx2
    have hb3 := (hB3.block _ (lt_of_block hb2)).trans hb2
    have hC3 := hC2.trans (hB3.mono hC2.size)
    have c0 : w3.cell? ⟨w1.heap.size, 0, none⟩ = some (.int .i64 x.k) := by simp [World.cell?, hx3]
    have c1 : w3.cell? ⟨w1.heap.size, 1, none⟩ = some (.string x.t) := by simp [World.cell?, hx3]
    have c2 : w3.cell? ⟨w1.heap.size, 2, none⟩ = some (.int .i64 x.n) := by simp [World.cell?, hx3]
    have Hx3 := Lib.hid hx3
    clear hx2 hx3 hb2
    go_wp2_with fail
    refine (text_T w3 x hgm (hE2.below hB3)).mono ?_
    rintro e w4 ⟨rfl, hB4⟩
    have hx4 := (hB4.block _ (lt_of_block Hx3.out)).trans Hx3.out
    have hb4 := (hB4.block _ (lt_of_block hb3)).trans hb3
    have hC4 := hC3.trans (hB4.mono hC3.size)
    have d0 : w4.cell? ⟨w1.heap.size, 0, none⟩ = some (.int .i64 x.k) := by simp [World.cell?, hx4]
    have d1 : w4.cell? ⟨w1.heap.size, 1, none⟩ = some (.string x.t) := by simp [World.cell?, hx4]
    have d2 : w4.cell? ⟨w1.heap.size, 2, none⟩ = some (.int .i64 x.n) := by simp [World.cell?, hx4]
    have hz1 := S.zero_cells hb4
    have Hb4 := Lib.hid hb4
    clear hx4 hb4 hb3 c0 c1 c2
    cases hq : (textB x).toList == t.toList
    · go_wp2_with fail
      have hm := S.mem_sto w4 w.heap.size ⟨0, ⟨#[]⟩, 0⟩ Hb4.out
      have hB5 := S.below_but hC4 (S.but_sto w4 w.heap.size ⟨0, ⟨#[]⟩, 0⟩) (Nat.le_refl _) hC4.size
      dsimp only at hm hB5
      generalize (((w4.setCell ⟨w.heap.size, 0, none⟩ _).setCell ⟨w.heap.size, 1, none⟩ _).setCell ⟨w.heap.size, 2, none⟩ _) = W at hm hB5 ⊢
      exact bodyPost_ret (v := .tuple #[.agg #[.int .i64 0, .string ⟨#[]⟩, .int .i64 0], .bool false]) (by simp [results, Tryd.results41, go_sem, hm]) rfl ⟨by have h1 := HO.out; rw [hv, hq] at h1; have h2 := HP.out; simp [h1] at h2; rw [h1, h2]; rfl, hB5⟩
    · go_wp2_with fail
      have hm := S.mem_sto w4 w.heap.size x Hb4.out
      have hB5 := S.below_but hC4 (S.but_sto w4 w.heap.size x) (Nat.le_refl _) hC4.size
      generalize (((w4.setCell ⟨w.heap.size, 0, none⟩ _).setCell ⟨w.heap.size, 1, none⟩ _).setCell ⟨w.heap.size, 2, none⟩ _) = W at hm hB5 ⊢
      exact bodyPost_ret (v := .tuple #[.agg #[.int .i64 x.k, .string x.t, .int .i64 x.n], .bool true]) (by simp [results, Tryd.results41, go_sem, hm]) rfl ⟨by have h1 := HO.out; rw [hv, hq] at h1; have h2 := HP.out; simp [h1] at h2; rw [h1, h2]; rfl, hB5⟩

end Go.Proofs.YtlnnblfkigcipaaDoor
