/- 'wakes', the document's example of maps, answers true. Conditions: none. -/
import Derived.Test.YtfgpkbbbohipcaaMapOpsE
namespace Go.Proofs.Ytfgpkbbbohipcaa
open Go Go.RowKit

def e1 : EntV := ⟨⟨1, ⟨#[83]⟩, 1⟩, 7⟩
def e2 : EntV := ⟨⟨1, ⟨#[83]⟩, 2⟩, 5⟩

theorem cmp_same (a b : Int) : symCmp ⟨1, ⟨#[83]⟩, a⟩ ⟨1, ⟨#[83]⟩, b⟩ = icmp a b := by
  exact symCmp_n (by simp [icmp]) (scmp_lin.refl _)

theorem wakes_one : put entCmp (E.drop entCmp [] e2) e2 = [e2] := by simp [put, has, ins, pos, E.drop]
theorem wakes_list : put entCmp (E.drop entCmp [e2] e1) e1 = [e1, e2] := by
  have e12 : entCmp e1 e2 = -1 := (cmp_same 1 2).trans (by decide)
  simp [put, has, ins, pos, E.drop, e12]

set_option maxHeartbeats 800000 in
theorem wakes_T (w : World) : Calls Try.prog 11 #[] w fun e w' => e = .returned (.bool true) ∧ Below w.heap.size w w' := by
  have h1 : ∀ w m s, E.MapAt w m s [] → _ := fun w m s h => E.mapput_T w m s [] e2 h (by simp)
  have h2 : ∀ w m s, E.MapAt w m s [e2] → _ := fun w m s h => E.mapput_T w m s [e2] e1 h (by simp)
  rw [wakes_one] at h1
  rw [wakes_list] at h2
  dsimp only [e1, e2] at h1 h2
  go_enter Try.func11, Try.ntmps11
  go_wp2_with fail
  refine (E.mapnew_T w).mono ?_
  rintro e w1 ⟨m, s, rfl, hm, hs, hM, hB1⟩
  go_wp2_with fail
  refine (h1 w1 m s hM).mono ?_
  rintro e w2 ⟨rfl, hM2, hb2⟩
  go_wp2_with fail
  refine (h2 w2 m s hM2).mono ?_
  rintro e w3 ⟨rfl, hM3, hb3⟩
  have hf := E.mapfirst_T w3 m s e1 [e2] hM3 (by simp)
  dsimp only [e1, e2] at hf
  have hB3 : Below w.heap.size w w3 := But.below hB1 (hb2.trans hb3) hs hB1.size
  go_wp2_with fail
  refine hf.mono ?_
  rintro e w4 ⟨rfl, hB4⟩
  go_wp2_with fail
  go_ret
  have hB5 : Below w.heap.size w w4 := hB3.trans (hB4.mono hB3.size)
  exact ⟨rfl, hB5.alloc hB5.size _⟩

end Go.Proofs.Ytfgpkbbbohipcaa
