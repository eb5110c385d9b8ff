/- What Fresh of a table of symbols does. Conditions: the table lies in memory; at most 5000 symbols. -/
import Derived.Test.YtimeamehmefgnaaGreatDoorTabSS
import Derived.Test.YtimeamehmefgnaaGreatDoorGetSS
namespace Go.Proofs.YtimeamehmefgnaaGreatDoor
open Go Go.RowKit

/-- A letter's text. -/
def letterB (c : Int) : ByteArray := ⟨#[UInt8.ofNat c.toNat]⟩

theorem enc_fin : ∀ n : Fin 26, Utf8.encode ((n.val : Int) + 65) = letterB ((n.val : Int) + 65) ∧ (letterB ((n.val : Int) + 65)).size = 1 ∧ hd (letterB ((n.val : Int) + 65)) = (n.val : Int) + 65 := by decide +kernel

theorem enc_cap {c : Int} (hc : capI c = true) : Utf8.encode c = letterB c ∧ (letterB c).size = 1 ∧ hd (letterB c) = c := by
  have hcc : 65 ≤ c ∧ c ≤ 90 := by simpa [capI] using hc
  have := enc_fin ⟨(c - 65).toNat, by omega⟩
  have e : (((c - 65).toNat : Nat) : Int) + 65 = c := by omega
  simp only [e] at this
  exact this

/-- A new identifier. -/
def freshS (c n : Int) : SymV := ⟨1, letterB c, n⟩

theorem fresh_valid {c n : Int} (hc : capI c = true) (h1 : 1 ≤ n) (h2 : n ≤ 1048576) : validB (freshS c n) = true := by
  obtain ⟨-, e2, e3⟩ := enc_cap hc
  simp [validB, freshS, e2, e3, hc, h1, h2]

set_option maxHeartbeats 1600000 in
theorem fresh_ok (w : World) (t s m ms : Nat) (L : List SymV) (room c : Int) (h : TableAt w t s m ms L room) (hs : L.length ≤ 600000) (hc : capI c = true) (hr : (L.length : Int) < room) (hn : maxN L c + 1 ≤ 1048576) :
    Calls Tryz.prog 11 #[.pointer (some ⟨t, 0, none⟩), .int .u8 c] w fun e w' => e = .returned (.tuple #[.agg #[.int .i64 1, .string (letterB c), .int .i64 (maxN L c + 1)], .int .i64 0]) ∧ TableAt w' t s m ms (put symCmp L (freshS c (maxN L c + 1))) room ∧ But2 s ms w w' := by
  have hB0 : Below w.heap.size w (w.alloc (.cells #[.int .i64 0, .string ⟨#[]⟩, .int .i64 0] 33)) := (Below.refl _ w).alloc (Nat.le_refl _) _
  have hb0 := heap_alloc_new w (.cells #[.int .i64 0, .string ⟨#[]⟩, .int .i64 0] 33)
  have h0 := h.below hB0
  have hg0 := maxN_nonneg L c
  have hnx : nextV L c = maxN L c + 1 := by simp [nextV, hc]
  have hcc : 65 ≤ c ∧ c ≤ 90 := by simpa [capI] using hc
  obtain ⟨g, hgg⟩ : ∃ g, maxN L c = g := ⟨_, rfl⟩
  rw [hgg] at hn hg0 hnx ⊢
  have z1 : (g + 1 == 0) = false := by simp; omega
  have z2 : (room ≤ (L.length : Int)) = False := eq_false (by omega)
  have z3 : (1048576 < g + 1) = False := eq_false (by omega)
  have Hnx := Lib.hid hnx
  have Hgg := Lib.hid hgg
  clear hnx hgg
  obtain ⟨henc, -, -⟩ := enc_cap hc
  have hvx := fresh_valid hc (show 1 ≤ g + 1 by omega) hn
  have hnext := next_T _ t s m ms L room c h0 (by omega)
  rw [Hnx.out] at hnext
  go_enter Tryz.func11, Tryz.ntmps11
  go_wp2_with fail
  generalize (w.alloc (.cells #[.int .i64 0, .string ⟨#[]⟩, .int .i64 0] 33)) = W0 at hB0 hb0 h0 hnext ⊢
  refine hnext.mono ?_
  rintro e w1 ⟨rfl, hB1⟩
  have h1 := h0.below hB1
  have hC1 := hB0.trans (hB1.mono hB0.size)
  have hb1 := (hB1.block _ (lt_of_block hb0)).trans hb0
  have hln := tablen_T w1.drew t s m ms L room (h1.below (Below.refl _ _).drew)
  have ht2 : w1.cell? ⟨t, 2, none⟩ = some (.int .i64 room) := by simp [World.cell?, h1.1]
  clear hb0 hnext
  go_wp2_with fail
  go_region_held3 (fun W => W.cell? ⟨t, 2, none⟩ = some (.int .i64 room))
    (first | go_keep | assumption)
    (first
      | ((with_reducible refine hln.mono ?_); rintro e w2 ⟨rfl, rfl⟩; have hS2 : w1.drew.cell? ⟨t, 2, none⟩ = some (.int .i64 room) := ht2)
      | fail "no arm")
  have hBx : Below w1.heap.size w1 (w1.alloc (.cells #[.int .i64 1, .string (letterB c), .int .i64 (g + 1)] 33)).drew := ((Below.refl _ w1).alloc (Nat.le_refl _) _).drew
  have hbx : (w1.alloc (.cells #[.int .i64 1, .string (letterB c), .int .i64 (g + 1)] 33)).drew.heap[w1.heap.size]? = _ := heap_alloc_new w1 (.cells #[.int .i64 1, .string (letterB c), .int .i64 (g + 1)] 33)
  have hbz := (hBx.block _ (lt_of_block hb1)).trans hb1
  have h2 := h1.below hBx
  have hC2 := hC1.trans (hBx.mono hC1.size)
  go_wp2_with fail
  generalize (w1.alloc (.cells #[.int .i64 1, .string (letterB c), .int .i64 (g + 1)] 33)).drew = W2 at hBx hbx hbz h2 hC2 ⊢
  have hadd := add_T W2 t s m ms L room (freshS c (g + 1)) h2 hs hvx
  dsimp only [freshS] at hadd
  refine hadd.mono ?_
  rintro e w3 ⟨rfl, h3, hb3⟩
  obtain ⟨n1, n2⟩ := h2.ne hbx (by decide) (by decide)
  obtain ⟨n3, n4⟩ := h2.ne hbz (by decide) (by decide)
  have hbx3 := (hb3.block _ (lt_of_block hbx) n1 n2).trans hbx
  have hbz3 := (hb3.block _ (lt_of_block hbz) n3 n4).trans hbz
  have d0 : w3.cell? ⟨w1.heap.size, 0, none⟩ = some (.int .i64 1) := by simp [World.cell?, hbx3]
  have d1 : w3.cell? ⟨w1.heap.size, 1, none⟩ = some (.string (letterB c)) := by simp [World.cell?, hbx3]
  have d2 : w3.cell? ⟨w1.heap.size, 2, none⟩ = some (.int .i64 (g + 1)) := by simp [World.cell?, hbx3]
  have hz3 := S.zero_cells hbz3
  have Hbz3 := Lib.hid hbz3
  have H3 := Lib.hid h3
  clear hadd hbx3 hbz3 h3 hbx hbz
  go_wp2_with fail
  have hm := S.mem_sto w3 w.heap.size (freshS c (g + 1)) Hbz3.out
  have hB4 : But w.heap.size w3 _ := S.but_sto w3 w.heap.size (freshS c (g + 1))
  dsimp only [freshS] at hm hB4
  generalize (((w3.setCell ⟨w.heap.size, 0, none⟩ _).setCell ⟨w.heap.size, 1, none⟩ _).setCell ⟨w.heap.size, 2, none⟩ _) = W at hm hB4 ⊢
  refine bodyPost_ret (v := .tuple #[.agg #[.int .i64 1, .string (letterB c), .int .i64 (g + 1)], .int .i64 0]) (by simp [results, Tryz.results11, go_sem, hm]) rfl ⟨rfl, ?_, ?_⟩
  · exact H3.out.but hB4 Hbz3.out (by decide) (by decide) (by decide) (by decide) (by decide) (by decide)
  · exact (((But2.of_below hC2).trans hb3).trans_new hB4 (Nat.le_refl _))

end Go.Proofs.YtimeamehmefgnaaGreatDoor
