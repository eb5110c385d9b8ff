/- What From of a set hands back. Conditions: none. -/
import Derived.Test.YtbpibbcehfkeeaaAllSE
namespace Go.Proofs.Ytbpibbcehfkeeaa.E
open Go Go.RowKit Go.Shelf

theorem from_T (w : World) (p : Option Addr) (x : EntV) :
    Calls Try.prog 80 #[.pointer p, .agg #[.int .i64 x.key.k, .string x.key.t, .int .i64 x.key.n, .int .i64 x.v]] w fun e w' => e = .returned (.func (.func 103) #[] #[.pointer (some ⟨w.heap.size, 0, none⟩), .pointer (some ⟨w.heap.size + 1, 0, none⟩)]) ∧ w' = (w.alloc (.cells #[.pointer p] 90)).alloc (.cells #[.int .i64 x.key.k, .string x.key.t, .int .i64 x.key.n, .int .i64 x.v] 93) := by
  have hmf : ∀ (fn : Fn) (first cap : Array Value) (w : World), (Instr.makeFunc fn first cap).run Try.prog w = .ok (.func fn first cap) w := fun _ _ _ _ => rfl
  go_enter Try.func80, Try.ntmps80
  go_wp2_with fail
  go_ret
  exact ⟨rfl, rfl⟩

end Go.Proofs.Ytbpibbcehfkeeaa.E
