/- What the program's fits answers. Conditions: the text is not too long; strconv's table of powers and its two errors lie as the program lays them. -/
import Derived.Test.YtlnnblfkigcipaaDoorLxSk
import Derived.Test.YtlnnblfkigcipaaDoorGetSS
namespace Go.Proofs.YtlnnblfkigcipaaDoor
open Go Go.RowKit

/-- Does a token keep its kind's bounds? -/
def fitsB (k : Int) (t : ByteArray) : Bool := if k = 1 ∨ k = 3 then wordB t else if k = 2 then parseOk t else true

theorem box1_K (w : World) (x : SymV) : Below w.heap.size w (w.alloc (.cells #[.int .i64 x.k, .string x.t, .int .i64 x.n] 30)) := (Below.refl _ w).alloc (Nat.le_refl _) _

set_option maxHeartbeats 1600000 in
theorem fits_T (w : World) (x : SymV) (hm : x.t.size ≤ 100000) (hE : Env w) :
    Calls Tryd.prog 31 #[.agg #[.int .i64 x.k, .string x.t, .int .i64 x.n]] w fun e w' => e = .returned (.bool (fitsB x.k x.t)) ∧ Below w.heap.size w w' := by
  have hB0 := box1_K w x
  have hx0 := heap_alloc_new w (.cells #[.int .i64 x.k, .string x.t, .int .i64 x.n] 30)
  by_cases h1 : x.k = 1 ∨ x.k = 3
  · have he : fitsB x.k x.t = wordB x.t := by unfold fitsB; rw [if_pos h1]
    have He := Lib.hid he
    have b2 : (x.k == 1) = true ∨ ((x.k == 1) = false ∧ (x.k == 3) = true) := by rcases h1 with h | h <;> simp [h]
    clear h1 he
    rcases b2 with b1 | ⟨b1, b2⟩
    all_goals
      go_enter Tryd.func31, Tryd.ntmps31
      go_wp2_with fail
      generalize (w.alloc (.cells #[.int .i64 x.k, .string x.t, .int .i64 x.n] 30)) = W0 at hB0 hx0 ⊢
      obtain ⟨x0, x1, x2⟩ : W0.cell? ⟨w.heap.size, 0, none⟩ = some (.int .i64 x.k) ∧ W0.cell? ⟨w.heap.size, 1, none⟩ = some (.string x.t) ∧ W0.cell? ⟨w.heap.size, 2, none⟩ = some (.int .i64 x.n) := by simp [World.cell?, hx0]
      clear hx0
      go_wp2_with fail
      refine (word_any _ _).mono ?_
      rintro e w1 ⟨rfl, rfl⟩
      go_wp2_with fail
      go_ret
      exact ⟨by rw [He.out]; rfl, hB0⟩
  · have b1 : (x.k == 1) = false := by simp; omega
    have b3 : (x.k == 3) = false := by simp; omega
    by_cases h2 : x.k = 2
    · have he : fitsB x.k x.t = parseOk x.t := by unfold fitsB; rw [if_neg h1, if_pos h2]
      have He := Lib.hid he
      have b2 : (x.k == 2) = true := by simp [h2]
      clear h1 h2 he
      go_enter Tryd.func31, Tryd.ntmps31
      go_wp2_with fail
      generalize (w.alloc (.cells #[.int .i64 x.k, .string x.t, .int .i64 x.n] 30)) = W0 at hB0 hx0 ⊢
      obtain ⟨x0, x1, x2⟩ : W0.cell? ⟨w.heap.size, 0, none⟩ = some (.int .i64 x.k) ∧ W0.cell? ⟨w.heap.size, 1, none⟩ = some (.string x.t) ∧ W0.cell? ⟨w.heap.size, 2, none⟩ = some (.int .i64 x.n) := by simp [World.cell?, hx0]
      clear hx0
      have hp0 := parse_T W0 x.t hm (hE.below hB0)
      generalize parseV x.t = pv at hp0
      go_wp2_with fail
      refine hp0.mono ?_
      rintro e w1 ⟨rfl, hB1⟩
      have hC := hB0.trans (hB1.mono hB0.size)
      go_wp2_with fail
      go_ret
      refine ⟨by rw [He.out]; rfl, hC.trans (((Below.refl _ w1).alloc (Nat.le_refl _) _).mono hC.size)⟩
    · have he : fitsB x.k x.t = true := by unfold fitsB; rw [if_neg h1, if_neg h2]
      have b2 : (x.k == 2) = false := by simp [h2]
      have He := Lib.hid he
      clear h1 h2 he
      go_enter Tryd.func31, Tryd.ntmps31
      go_wp2_with fail
      generalize (w.alloc (.cells #[.int .i64 x.k, .string x.t, .int .i64 x.n] 30)) = W0 at hB0 hx0 ⊢
      obtain ⟨x0, x1, x2⟩ : W0.cell? ⟨w.heap.size, 0, none⟩ = some (.int .i64 x.k) ∧ W0.cell? ⟨w.heap.size, 1, none⟩ = some (.string x.t) ∧ W0.cell? ⟨w.heap.size, 2, none⟩ = some (.int .i64 x.n) := by simp [World.cell?, hx0]
      clear hx0
      go_wp2_with fail
      go_ret
      exact ⟨by rw [He.out]; rfl, hB0⟩

end Go.Proofs.YtlnnblfkigcipaaDoor
