/- What == and != of two symbols answer. Conditions: none. -/
import Derived.Test.YtbpibbcehfkeeaaBase
import Derived.Laws.StructEq
namespace Go.Proofs.Ytbpibbcehfkeeaa
open Go Go.RowKit

theorem toList_inj {a b : ByteArray} (h : a.toList = b.toList) : a = b := by
  rw [ByteArray.toList_eq, ByteArray.toList_eq] at h
  cases a; cases b; simp_all

/-- Are all three fields the same? -/
def same (x y : SymV) : Bool := x.k == y.k && (x.t.toList == y.t.toList && x.n == y.n)

theorem same_iff {x y : SymV} : same x y = true ↔ x = y := by
  simp only [same, Bool.and_eq_true, beq_iff_eq]
  constructor
  · rintro ⟨h1, h2, h3⟩
    have := toList_inj h2
    cases x; cases y; simp_all
  · rintro rfl; simp

theorem sym_under : Try.prog.underlying 26 = some (.struct (Try.prog.fieldsOf 26)) := by kernel_rfl
theorem sym_held : Try.prog.stoodInHeld 26 = false := by kernel_rfl
theorem sym_guard : Try.prog.eqGuardType Try.prog.depth 26 = false := by kernel_rfl

theorem sym_equal (x y : SymV) (w : World) : (Op.equalIn 10000 26 (.agg #[.int .i64 x.k, .string x.t, .int .i64 x.n]) (.agg #[.int .i64 y.k, .string y.t, .int .i64 y.n])).run Try.prog w = .ok (same x y) w := by
  rw [run_equalIn_struct _ 9999 _ _ _ sym_under sym_held]
  simp only [Program.fieldsOf, Try.underlying26]
  simp [go_sem, Op.eqFields]
  by_cases h1 : x.k = y.k <;> by_cases h2 : x.t.toList = y.t.toList <;> by_cases h3 : x.n = y.n <;> simp [same, h1, h2, h3]

theorem sym_equal' (k k' n n' : Int) (t t' : ByteArray) (w : World) : (Op.equalIn 10000 26 (.agg #[.int .i64 k, .string t, .int .i64 n]) (.agg #[.int .i64 k', .string t', .int .i64 n'])).run Try.prog w = .ok (same ⟨k, t, n⟩ ⟨k', t', n'⟩) w := sym_equal ⟨k, t, n⟩ ⟨k', t', n'⟩ w
theorem sym_eql (k k' n n' : Int) (t t' : ByteArray) (w : World) : (binOp .eql 26 (.agg #[.int .i64 k, .string t, .int .i64 n]) (.agg #[.int .i64 k', .string t', .int .i64 n'])).run Try.prog w = .ok (.bool (same ⟨k, t, n⟩ ⟨k', t', n'⟩)) w := by
  rw [run_eql_struct, sym_equal ⟨k, t, n⟩ ⟨k', t', n'⟩ w]; rfl
theorem sym_neq (k k' n n' : Int) (t t' : ByteArray) (w : World) : (binOp .neq 26 (.agg #[.int .i64 k, .string t, .int .i64 n]) (.agg #[.int .i64 k', .string t', .int .i64 n'])).run Try.prog w = .ok (.bool (!same ⟨k, t, n⟩ ⟨k', t', n'⟩)) w := by
  rw [run_neq_struct, sym_equal ⟨k, t, n⟩ ⟨k', t', n'⟩ w]; rfl
end Go.Proofs.Ytbpibbcehfkeeaa
