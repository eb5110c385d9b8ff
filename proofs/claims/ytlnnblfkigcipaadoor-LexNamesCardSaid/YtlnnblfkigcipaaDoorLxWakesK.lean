/- The document's example holds; the cells of a row of tokens. Conditions: the tables lie as the program lays them. -/
import Derived.Test.YtlnnblfkigcipaaDoorLxListK
namespace Go.Proofs.YtlnnblfkigcipaaDoor
open Go Go.RowKit

theorem flat3 (xs : List SymV) : ∀ (j : Nat) (x : SymV), xs[j]? = some x →
    (xs.flatMap fun x => ([.int .i64 x.k, .string x.t, .int .i64 x.n] : List Value))[j * 3]? = some (.int .i64 x.k) ∧ (xs.flatMap fun x => ([.int .i64 x.k, .string x.t, .int .i64 x.n] : List Value))[j * 3 + 1]? = some (.string x.t) ∧ (xs.flatMap fun x => ([.int .i64 x.k, .string x.t, .int .i64 x.n] : List Value))[j * 3 + 2]? = some (.int .i64 x.n) := by
  induction xs with
  | nil => intro j x h; simp at h
  | cons y ys ih =>
    intro j x h
    cases j with
    | zero =>
      have : y = x := by simpa using h
      subst this
      exact ⟨rfl, rfl, rfl⟩
    | succ j =>
      obtain ⟨h1, h2, h3⟩ := ih j x (by simpa using h)
      rw [show (j + 1) * 3 = j * 3 + 1 + 1 + 1 by omega, show j * 3 + 1 + 1 + 1 + 1 = (j * 3 + 1) + 1 + 1 + 1 by omega, show j * 3 + 1 + 1 + 1 + 2 = (j * 3 + 2) + 1 + 1 + 1 by omega]
      exact ⟨h1, h2, h3⟩

/-- A token's three cells. -/
def TokC (W : World) (g j : Nat) (x : SymV) : Prop := W.cell? ⟨g, j * 3, none⟩ = some (.int .i64 x.k) ∧ W.cell? ⟨g, j * 3 + 1, none⟩ = some (.string x.t) ∧ W.cell? ⟨g, j * 3 + 2, none⟩ = some (.int .i64 x.n)

/-- Tokens of type T lie in memory of the call's own. -/
def MadeT (T : TypeId) (B : Nat) (W : World) (v : Value) (xs : List SymV) : Prop := W.ownsRow B T 3 v xs.length (xs.flatMap fun x => [.int .i64 x.k, .string x.t, .int .i64 x.n])

theorem MadeT.cells {T : TypeId} {B : Nat} {W : World} {v : Value} {xs : List SymV} (h : MadeT T B W v xs) (hne : xs ≠ []) : ∃ g cap, v = .slice (some ⟨g, 0, none⟩) xs.length cap ∧ xs.length ≤ cap ∧ B ≤ g ∧ g < W.heap.size ∧ ∀ j x, xs[j]? = some x → TokC W g j x := by
  have h2 := h
  rcases h2.2 with ⟨-, h0⟩ | ⟨g, cap, cur, rfl, hbg, hg, hnc, hcm, hcs, htake⟩
  · exact absurd (List.length_eq_zero_iff.1 h0) hne
  · refine ⟨g, cap, rfl, hnc, hbg, lt_of_block hg, fun j x hx => ?_⟩
    have hc := World.ownsRow.cells (g := g) h2 rfl
    have ha : ∀ o, (⟨g, 0, none⟩ : Addr).add o = ⟨g, o, none⟩ := fun o => by unfold Addr.add; split <;> simp_all
    obtain ⟨a, b, c⟩ := flat3 xs j x hx
    exact ⟨by rw [← ha]; exact hc _ _ a, by rw [← ha]; exact hc _ _ b, by rw [← ha]; exact hc _ _ c⟩

theorem MadeT.below {T : TypeId} {B : Nat} {W W' : World} {v : Value} {xs : List SymV} (h : MadeT T B W v xs) (hB : Below W.heap.size W W') : MadeT T B W' v xs :=
  World.ownsRow.kept h (grown_below hB) (by cases v.ownBlock <;> simp)

theorem TokC.below {W W' : World} {g j : Nat} {x : SymV} (h : TokC W g j x) (hB : Below W.heap.size W W') : TokC W' g j x :=
  ⟨(hB.cell (p := ⟨g, j * 3, none⟩) (World.block_lt_of_cell? W _ h.1)).trans h.1, (hB.cell (p := ⟨g, j * 3 + 1, none⟩) (World.block_lt_of_cell? W _ h.2.1)).trans h.2.1, (hB.cell (p := ⟨g, j * 3 + 2, none⟩) (World.block_lt_of_cell? W _ h.2.2)).trans h.2.2⟩

def exT : ByteArray := ⟨#[40, 60, 115, 62, 32, 94, 120, 32, 45, 53, 41]⟩

theorem ex_toks : toksA exT.data.toList = [⟨4, ⟨#[40]⟩, 0⟩, ⟨3, ⟨#[115]⟩, 1⟩, ⟨4, ⟨#[94]⟩, 5⟩, ⟨1, ⟨#[120]⟩, 6⟩, ⟨2, ⟨#[45, 53]⟩, 8⟩, ⟨4, ⟨#[41]⟩, 10⟩, ⟨5, ⟨#[]⟩, 11⟩] := by kernel_rfl

theorem EnvX.seven {W : World} (h : EnvX W) : 7 ≤ W.heap.size := by
  have h1 := h.1.1
  have := Lib.TabIs.cell h1 (show Tryd.prog.globalNamed "internal/strconv.uint64pow10" = some 6 by kernel_rfl) 0 (by decide)
  exact World.block_lt_of_cell? W _ this

set_option maxHeartbeats 1600000 in
theorem wakes_T (w : World) (hE : EnvX w) : Calls Tryd.prog 9 #[] w fun e w' => e = .returned (.bool true) ∧ Below w.heap.size w w' := by
  have k := all_T w exT (by decide) hE hE.seven
  rw [ex_toks] at k
  unfold exT at k
  go_enter Tryd.func9, Tryd.ntmps9
  go_wp2_with fail
  refine k.mono ?_
  rintro e w1 ⟨v, rfl, hM, hB⟩
  obtain ⟨g, cap, rfl, hcap, -, hg, hc⟩ := MadeT.cells hM (by simp)
  simp only [List.length_cons, List.length_nil] at hcap
  obtain ⟨c10, c11, c12⟩ := hc 1 _ rfl
  obtain ⟨c40, c41, c42⟩ := hc 4 _ rfl
  obtain ⟨c60, c61, c62⟩ := hc 6 _ rfl
  simp only [Nat.reduceMul, Nat.reduceAdd] at c10 c11 c12 c40 c41 c42 c60 c61 c62
  clear hc hM k
  simp only [List.length_cons, List.length_nil, Nat.reduceAdd]
  go_wp2_with fail
  go_ret
  exact ⟨rfl, hB⟩

end Go.Proofs.YtlnnblfkigcipaaDoor
