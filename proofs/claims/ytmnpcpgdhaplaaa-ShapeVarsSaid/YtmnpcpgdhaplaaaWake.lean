/- What One and the example of the document answer. Conditions: none. -/
import Derived.Test.YtmnpcpgdhaplaaaScCheck
namespace Go.Proofs.Ytmnpcpgdhaplaaa
open Go Go.RowKit

set_option maxRecDepth 100000 in
theorem lawW_T (w : World) (t : ByteArray) : Calls Try.prog 35 #[.string t] w fun e w' => e = .returned (.agg #[.int .i64 3, .string t, .int .i64 0]) ∧ Below w.heap.size w w' := by
  have hB := below2 w #[.int .i64 3, .string t, .int .i64 0] 47
  go_enter Try.func35, Try.ntmps35
  go_wp2
  refine bodyPost_ret (v := .agg #[.int .i64 3, .string t, .int .i64 0]) (by simp [results, Try.results35, go_sem]) rfl ?_
  exact ⟨rfl, hB⟩

set_option maxRecDepth 100000 in
theorem lawN_T (w : World) (n : Int) : Calls Try.prog 34 #[.int .i64 n] w fun e w' => e = .returned (.agg #[.int .i64 2, .string ⟨#[]⟩, .int .i64 n]) ∧ Below w.heap.size w w' := by
  have hB := below2 w #[.int .i64 2, .string ⟨#[]⟩, .int .i64 n] 47
  go_enter Try.func34, Try.ntmps34
  go_wp2
  refine bodyPost_ret (v := .agg #[.int .i64 2, .string ⟨#[]⟩, .int .i64 n]) (by simp [results, Try.results34, go_sem]) rfl ?_
  exact ⟨rfl, hB⟩

/-- The example, its lists where they lie. -/
def oneC (t1 t2 : Nat) (g : Bool) : CondV := .mk ⟨1, g, ⟨#[115]⟩, ⟨some ⟨t1, 0, none⟩, 1, 1⟩, [⟨1, ⟨#[]⟩, ⟨3, ⟨#[120]⟩, 0⟩, ⟨none, 0, 0⟩, []⟩], ⟨some ⟨t2, 0, none⟩, 1, 1⟩, [⟨1, ⟨#[]⟩, ⟨2, ⟨#[]⟩, 1⟩, ⟨none, 0, 0⟩, []⟩], false, ⟨none, 0, 0⟩⟩ []
def oneA : ActV := ⟨⟨#[115]⟩, ⟨⟨#[]⟩, ⟨3, ⟨#[121]⟩, 0⟩⟩, ⟨0, ⟨⟨#[]⟩, ⟨2, ⟨#[]⟩, 2⟩⟩, ⟨⟨#[]⟩, ⟨0, ⟨#[]⟩, 0⟩⟩⟩, 1, ⟨⟨#[]⟩, ⟨0, ⟨#[]⟩, 0⟩⟩⟩
def oneP (t1 t2 c a : Nat) (g : Bool) : ProdV := ⟨⟨#[97]⟩, ⟨some ⟨c, 0, none⟩, 1, 1⟩, [oneC t1 t2 g], ⟨some ⟨a, 0, none⟩, 1, 1⟩, [oneA]⟩

structure OneAt (lo : Nat) (W : World) (t1 t2 c a : Nat) (g : Bool) : Prop where
  o1 : lo ≤ t1
  o2 : t1 < t2
  o3 : t2 < c
  o4 : c < a
  b1 : W.heap[t1]? = some (.cells #[.int .i64 1, .string ⟨#[]⟩, .int .i64 3, .string ⟨#[120]⟩, .int .i64 0, .slice none 0 0] 67 (0, 0))
  b2 : W.heap[t2]? = some (.cells #[.int .i64 1, .string ⟨#[]⟩, .int .i64 2, .string ⟨#[]⟩, .int .i64 1, .slice none 0 0] 67 (0, 0))
  b3 : W.heap[c]? = some (.cells #[.int .i64 1, .bool g, .string ⟨#[115]⟩, .slice (some ⟨t1, 0, none⟩) 1 1, .slice (some ⟨t2, 0, none⟩) 1 1, .bool false, .slice none 0 0] 64 (0, 0))
  b4 : W.heap[a]? = some (.cells #[.string ⟨#[115]⟩, .string ⟨#[]⟩, .int .i64 3, .string ⟨#[121]⟩, .int .i64 0, .int .i64 0, .string ⟨#[]⟩, .int .i64 2, .string ⟨#[]⟩, .int .i64 2, .string ⟨#[]⟩, .int .i64 0, .string ⟨#[]⟩, .int .i64 0, .int .i64 1, .string ⟨#[]⟩, .int .i64 0, .string ⟨#[]⟩, .int .i64 0] 59 (0, 0))

theorem OneAt.below {lo : Nat} {W W' : World} {t1 t2 c a : Nat} {g : Bool} (h : OneAt lo W t1 t2 c a g) (hB : Below W.heap.size W W') : OneAt lo W' t1 t2 c a g :=
  ⟨h.o1, h.o2, h.o3, h.o4, (hB.block _ (lt_of_block h.b1)).trans h.b1, (hB.block _ (lt_of_block h.b2)).trans h.b2, (hB.block _ (lt_of_block h.b3)).trans h.b3, (hB.block _ (lt_of_block h.b4)).trans h.b4⟩

theorem rowIn_one {α : Type} {lo k b c : Nat} {cells : α → List Value} {W : World} {x : α} {l : List Value} {T : TypeId} {f : Nat × Nat} (h : W.heap[b]? = some (.cells l.toArray T f)) (hl : cells x = l) (hlo : lo ≤ b) : RowIn lo W.heap.size k cells W ⟨some ⟨b, 0, none⟩, 1, c⟩ [x] := by
  subst hl
  refine ⟨rfl, .inr ⟨b, 0, hlo, lt_of_block h, rfl, fun i y hi j u hu => ?_⟩⟩
  have hi0 : i = 0 := by
    have := (List.getElem?_eq_some_iff.1 hi).1
    simp at this; exact this
  subst hi0
  obtain rfl : x = y := by simpa using hi
  have e : (⟨b, 0 + 0 * k + j, none⟩ : Addr) = ⟨b, j, none⟩ := by simp
  rw [e]
  simp [World.cell?, h, hu]

theorem rowIn_nil {α : Type} {lo hi k : Nat} {cells : α → List Value} {W : World} : RowIn lo hi k cells W ⟨none, 0, 0⟩ ([] : List α) := ⟨rfl, .inl rfl⟩

theorem OneAt.ok {lo : Nat} {W : World} {t1 t2 c a : Nat} {g : Bool} (h : OneAt lo W t1 t2 c a g) : ProdOk lo W.heap.size W (oneP t1 t2 c a g) := by
  have o1 := h.o1
  have o2 := h.o2
  have o3 := h.o3
  have o4 := h.o4
  refine ⟨⟨rowIn_one (l := _) h.b3 rfl (by omega), ?_⟩, rowIn_one (l := _) h.b4 rfl (by omega)⟩
  refine ⟨⟨⟨rowIn_one (l := _) h.b1 rfl (by omega), fun t ht => ?_⟩, ⟨rowIn_one (l := _) h.b2 rfl (by omega), fun t ht => ?_⟩, rowIn_nil, trivial⟩, trivial⟩
  · obtain rfl := List.mem_singleton.1 ht
    exact rowIn_nil
  · obtain rfl := List.mem_singleton.1 ht
    exact rowIn_nil

theorem OneAt.but {lo b : Nat} {W W' : World} {t1 t2 c a : Nat} {g : Bool} (h : OneAt lo W t1 t2 c a g) (hB : But b W W') (hb : b < t1) : OneAt lo W' t1 t2 c a g := by
  have o2 := h.o2
  have o3 := h.o3
  have o4 := h.o4
  exact ⟨h.o1, o2, o3, o4, (hB.block _ (lt_of_block h.b1) (by omega)).trans h.b1, (hB.block _ (lt_of_block h.b2) (by omega)).trans h.b2, (hB.block _ (lt_of_block h.b3) (by omega)).trans h.b3, (hB.block _ (lt_of_block h.b4) (by omega)).trans h.b4⟩

theorem set3 {W : World} {b : Nat} {x y z : Value} {T : TypeId} {f : Nat × Nat} (h : W.heap[b]? = some (.cells #[x, y, z] T f)) (x' y' z' : Value) : (((W.setCell ⟨b, 0, none⟩ x').setCell ⟨b, 1, none⟩ y').setCell ⟨b, 2, none⟩ z').heap[b]? = some (.cells #[x', y', z'] T f) := by
  have h1 := V.set_block (o := 0) h x'
  have h2 := V.set_block (o := 1) h1 y'
  have h3 := V.set_block (o := 2) h2 z'
  simpa using h3

theorem row3_cells {W : World} {b : Nat} {x y z : Value} {T : TypeId} (h : W.heap[b]? = some (.cells #[x, y, z] T (0, 0))) : W.cell? ⟨b, 0, none⟩ = some x ∧ W.cell? ⟨b, 1, none⟩ = some y ∧ W.cell? ⟨b, 2, none⟩ = some z ∧ W.frozen? ⟨b, 0, none⟩ = false ∧ W.frozen? ⟨b, 1, none⟩ = false ∧ W.frozen? ⟨b, 2, none⟩ = false := by simp [World.cell?, World.frozen?, h]

set_option maxRecDepth 100000 in
set_option maxHeartbeats 3200000 in
theorem one_T (w : World) : Calls Try.prog 33 #[] w fun e w' => ∃ t1 t2 c a, e = .returned (.agg #[.string ⟨#[97]⟩, .slice (some ⟨c, 0, none⟩) 1 1, .slice (some ⟨a, 0, none⟩) 1 1]) ∧ OneAt w.heap.size w' t1 t2 c a true ∧ Below w.heap.size w w' := by
  have hC0 := below2 w #[.string ⟨#[]⟩, .slice none 0 0, .slice none 0 0] 25
  have hb0 := heap_alloc_new w (.cells #[.string ⟨#[]⟩, .slice none 0 0, .slice none 0 0] 25)
  go_enter Try.func33, Try.ntmps33
  go_wp2_with fail
  generalize (w.alloc (.cells #[.string ⟨#[]⟩, .slice none 0 0, .slice none 0 0] 25)) = W0 at hC0 hb0 ⊢
  refine (lawW_T _ _).mono ?_
  rintro e w1 ⟨rfl, hB1⟩
  have hC1 := hC0.trans (hB1.mono hC0.size)
  have hb1 := (hB1.block _ (lt_of_block hb0)).trans hb0
  have hk1 : Below w1.heap.size w1 (w1.alloc (.cells #[.int .i64 1, .string ⟨#[]⟩, .int .i64 3, .string ⟨#[120]⟩, .int .i64 0, .slice none 0 0] 67)) := below2 _ _ _
  have hD1 := hC1.trans (hk1.mono hC1.size)
  have hx1 := heap_alloc_new w1 (.cells #[.int .i64 1, .string ⟨#[]⟩, .int .i64 3, .string ⟨#[120]⟩, .int .i64 0, .slice none 0 0] 67)
  have hc1 := (hk1.block _ (lt_of_block hb1)).trans hb1
  go_wp2_with fail
  generalize (w1.alloc (.cells #[.int .i64 1, .string ⟨#[]⟩, .int .i64 3, .string ⟨#[120]⟩, .int .i64 0, .slice none 0 0] 67)) = W1 at hk1 hD1 hx1 hc1 ⊢
  refine (lawN_T _ _).mono ?_
  rintro e w2 ⟨rfl, hB2⟩
  have hC2 := hD1.trans (hB2.mono hD1.size)
  have hb2 := (hB2.block _ (lt_of_block hc1)).trans hc1
  have hx2 := (hB2.block _ (lt_of_block hx1)).trans hx1
  have l2 := lt_of_block hx2
  have hk2 : Below w2.heap.size w2 ((w2.alloc (.cells #[.int .i64 1, .string ⟨#[]⟩, .int .i64 2, .string ⟨#[]⟩, .int .i64 1, .slice none 0 0] 67)).alloc (.cells #[.int .i64 1, .bool true, .string ⟨#[115]⟩, .slice (some ⟨w1.heap.size, 0, none⟩) 1 1, .slice (some ⟨w2.heap.size, 0, none⟩) 1 1, .bool false, .slice none 0 0] 64)) := (below2 _ _ _).alloc (by simp) _
  have hD2 := hC2.trans (hk2.mono hC2.size)
  have hy1 : ((w2.alloc (.cells #[.int .i64 1, .string ⟨#[]⟩, .int .i64 2, .string ⟨#[]⟩, .int .i64 1, .slice none 0 0] 67)).alloc (.cells #[.int .i64 1, .bool true, .string ⟨#[115]⟩, .slice (some ⟨w1.heap.size, 0, none⟩) 1 1, .slice (some ⟨w2.heap.size, 0, none⟩) 1 1, .bool false, .slice none 0 0] 64)).heap[w2.heap.size]? = some (.cells #[.int .i64 1, .string ⟨#[]⟩, .int .i64 2, .string ⟨#[]⟩, .int .i64 1, .slice none 0 0] 67 (0, 0)) := (Below.heap_alloc _ _ _ (by simp)).trans (heap_alloc_new w2 _)
  have hz1 : ((w2.alloc (.cells #[.int .i64 1, .string ⟨#[]⟩, .int .i64 2, .string ⟨#[]⟩, .int .i64 1, .slice none 0 0] 67)).alloc (.cells #[.int .i64 1, .bool true, .string ⟨#[115]⟩, .slice (some ⟨w1.heap.size, 0, none⟩) 1 1, .slice (some ⟨w2.heap.size, 0, none⟩) 1 1, .bool false, .slice none 0 0] 64)).heap[w2.heap.size + 1]? = some (.cells #[.int .i64 1, .bool true, .string ⟨#[115]⟩, .slice (some ⟨w1.heap.size, 0, none⟩) 1 1, .slice (some ⟨w2.heap.size, 0, none⟩) 1 1, .bool false, .slice none 0 0] 64 (0, 0)) := by
    have := heap_alloc_new (w2.alloc (.cells #[.int .i64 1, .string ⟨#[]⟩, .int .i64 2, .string ⟨#[]⟩, .int .i64 1, .slice none 0 0] 67)) (.cells #[.int .i64 1, .bool true, .string ⟨#[115]⟩, .slice (some ⟨w1.heap.size, 0, none⟩) 1 1, .slice (some ⟨w2.heap.size, 0, none⟩) 1 1, .bool false, .slice none 0 0] 64)
    rwa [World.size_alloc] at this
  have hc2 := (hk2.block _ (lt_of_block hb2)).trans hb2
  have hx2' := (hk2.block _ (lt_of_block hx2)).trans hx2
  go_wp2_with fail
  generalize ((w2.alloc (.cells #[.int .i64 1, .string ⟨#[]⟩, .int .i64 2, .string ⟨#[]⟩, .int .i64 1, .slice none 0 0] 67)).alloc (.cells #[.int .i64 1, .bool true, .string ⟨#[115]⟩, .slice (some ⟨w1.heap.size, 0, none⟩) 1 1, .slice (some ⟨w2.heap.size, 0, none⟩) 1 1, .bool false, .slice none 0 0] 64)) = W2 at hk2 hD2 hy1 hz1 hc2 hx2' ⊢
  refine (lawW_T _ _).mono ?_
  rintro e w3 ⟨rfl, hB3⟩
  have hC3 := hD2.trans (hB3.mono hD2.size)
  have hb3 := (hB3.block _ (lt_of_block hc2)).trans hc2
  have hx3 := (hB3.block _ (lt_of_block hx2')).trans hx2'
  have hy3 := (hB3.block _ (lt_of_block hy1)).trans hy1
  have hz3 := (hB3.block _ (lt_of_block hz1)).trans hz1
  go_wp2_with fail
  refine (lawN_T _ _).mono ?_
  rintro e w4 ⟨rfl, hB4⟩
  have hC4 := hC3.trans (hB4.mono hC3.size)
  have hb4 := (hB4.block _ (lt_of_block hb3)).trans hb3
  have hx4 := (hB4.block _ (lt_of_block hx3)).trans hx3
  have hy4 := (hB4.block _ (lt_of_block hy3)).trans hy3
  have hz4 := (hB4.block _ (lt_of_block hz3)).trans hz3
  have lz4 := lt_of_block hz4
  have hk4 : Below w4.heap.size w4 (w4.alloc (.cells #[.string ⟨#[115]⟩, .string ⟨#[]⟩, .int .i64 3, .string ⟨#[121]⟩, .int .i64 0, .int .i64 0, .string ⟨#[]⟩, .int .i64 2, .string ⟨#[]⟩, .int .i64 2, .string ⟨#[]⟩, .int .i64 0, .string ⟨#[]⟩, .int .i64 0, .int .i64 1, .string ⟨#[]⟩, .int .i64 0, .string ⟨#[]⟩, .int .i64 0] 59)) := below2 _ _ _
  have hu5 := heap_alloc_new w4 (.cells #[.string ⟨#[115]⟩, .string ⟨#[]⟩, .int .i64 3, .string ⟨#[121]⟩, .int .i64 0, .int .i64 0, .string ⟨#[]⟩, .int .i64 2, .string ⟨#[]⟩, .int .i64 2, .string ⟨#[]⟩, .int .i64 0, .string ⟨#[]⟩, .int .i64 0, .int .i64 1, .string ⟨#[]⟩, .int .i64 0, .string ⟨#[]⟩, .int .i64 0] 59)
  have hC5 := hC4.trans (hk4.mono hC4.size)
  have hb5 := (hk4.block _ (lt_of_block hb4)).trans hb4
  have hO : OneAt w.heap.size (w4.alloc (.cells #[.string ⟨#[115]⟩, .string ⟨#[]⟩, .int .i64 3, .string ⟨#[121]⟩, .int .i64 0, .int .i64 0, .string ⟨#[]⟩, .int .i64 2, .string ⟨#[]⟩, .int .i64 2, .string ⟨#[]⟩, .int .i64 0, .string ⟨#[]⟩, .int .i64 0, .int .i64 1, .string ⟨#[]⟩, .int .i64 0, .string ⟨#[]⟩, .int .i64 0] 59)) w1.heap.size w2.heap.size (w2.heap.size + 1) w4.heap.size true := by
    refine ⟨hC1.size, by omega, by omega, lz4, (hk4.block _ (lt_of_block hx4)).trans hx4, (hk4.block _ (lt_of_block hy4)).trans hy4, (hk4.block _ (lt_of_block hz4)).trans hz4, hu5⟩
  have HO := Lib.hid hO
  have HC := Lib.hid hC5
  have hs1 : w.heap.size < w1.heap.size := lt_of_block hb1
  have Hs := Lib.hid hs1
  have Hb := Lib.hid hb5
  obtain ⟨r0, r1, r2, q0, q1, q2⟩ := row3_cells hb5
  clear hO hC5 hb4 hb3 hb2 hb1 hb0 hx1 hx2 hx3 hx4 hy1 hy3 hy4 hz1 hz3 hz4 hk4 hk2 hk1 hC4 hC3 hD2 hC2 hD1 hC1 hC0 hB1 hB2 hB3 hB4 hc1 hc2 hx2' hu5 hb5 l2 lz4 hs1
  go_wp2_with fail
  have hO := HO.out
  have hb := Hb.out
  have hs := Hs.out
  have h3 := set3 hb (.string ⟨#[97]⟩) (.slice (some ⟨w2.heap.size + 1, 0, none⟩) 1 1) (.slice (some ⟨w4.heap.size, 0, none⟩) 1 1)
  have hbt := (((But.refl w.heap.size (w4.alloc (.cells #[.string ⟨#[115]⟩, .string ⟨#[]⟩, .int .i64 3, .string ⟨#[121]⟩, .int .i64 0, .int .i64 0, .string ⟨#[]⟩, .int .i64 2, .string ⟨#[]⟩, .int .i64 2, .string ⟨#[]⟩, .int .i64 0, .string ⟨#[]⟩, .int .i64 0, .int .i64 1, .string ⟨#[]⟩, .int .i64 0, .string ⟨#[]⟩, .int .i64 0] 59))).setCell 0 (.string ⟨#[97]⟩)).setCell 1 (.slice (some ⟨w2.heap.size + 1, 0, none⟩) 1 1)).setCell 2 (.slice (some ⟨w4.heap.size, 0, none⟩) 1 1)
  obtain ⟨z0, z1, z2, -⟩ := row3_cells h3
  refine bodyPost_ret (v := .agg #[.string ⟨#[97]⟩, .slice (some ⟨w2.heap.size + 1, 0, none⟩) 1 1, .slice (some ⟨w4.heap.size, 0, none⟩) 1 1]) (by simp [results, Try.results33, go_sem, z0, z1, z2]) rfl ⟨_, _, _, _, rfl, hO.but hbt hs, V.below_but HC.out hbt (Nat.le_refl _) HC.out.size⟩

theorem one_size (t1 t2 c a : Nat) (g : Bool) : sizeL (oneP t1 t2 c a g).cs ≤ 50000 ∧ (oneP t1 t2 c a g).xs.length ≤ 1000 ∧ wtL (oneP t1 t2 c a g).cs ≤ 3900 := by
  refine ⟨Nat.le_trans (m := 1) (Nat.le_of_eq (by kernel_rfl)) (by decide), Nat.le_trans (m := 1) (Nat.le_of_eq (by kernel_rfl)) (by decide), ?_⟩
  have e : wtL (oneP t1 t2 c a g).cs = wtL [oneC 0 0 true] := by kernel_rfl
  rw [e]; decide +kernel
theorem one_ok (t1 t2 c a : Nat) : (surveyP (oneP t1 t2 c a true)).2 = (-1, 0) := by kernel_rfl
theorem one_not (t1 t2 c a : Nat) : (surveyP (oneP t1 t2 c a false)).2 = (0, 6) := by kernel_rfl

set_option maxRecDepth 100000 in
set_option maxHeartbeats 3200000 in
theorem wakes_T (w : World) : Calls Try.prog 12 #[] w fun e w' => e = .returned (.bool true) ∧ Below w.heap.size w w' := by
  go_enter Try.func12, Try.ntmps12
  go_wp2_with fail
  refine (one_T w).mono ?_
  rintro e w1 ⟨t1, t2, c, a, rfl, hO1, hB1⟩
  have hk1 : Below w1.heap.size w1 (w1.alloc (.cells #[.string ⟨#[97]⟩, .slice (some ⟨c, 0, none⟩) 1 1, .slice (some ⟨a, 0, none⟩) 1 1] 25)) := below2 _ _ _
  have hx1 := heap_alloc_new w1 (.cells #[.string ⟨#[97]⟩, .slice (some ⟨c, 0, none⟩) 1 1, .slice (some ⟨a, 0, none⟩) 1 1] 25)
  have hO2 := hO1.below hk1
  have hC2 := hB1.trans (hk1.mono hB1.size)
  have l3 := lt_of_block hO1.b3
  have hcheck := check_T (w1.alloc (.cells #[.string ⟨#[97]⟩, .slice (some ⟨c, 0, none⟩) 1 1, .slice (some ⟨a, 0, none⟩) 1 1] 25)) w.heap.size _ (oneP t1 t2 c a true) hO2.ok (Nat.le_refl _) (one_size ..).1 (one_size ..).2.1 (one_size ..).2.2
  rw [one_ok] at hcheck
  have g := row3_cells hx1
  obtain ⟨g0, g1, g2, -⟩ := g
  have HO := Lib.hid hO2
  clear hO1 hO2 hk1 hB1
  go_wp2_with fail
  generalize (w1.alloc (.cells #[.string ⟨#[97]⟩, .slice (some ⟨c, 0, none⟩) 1 1, .slice (some ⟨a, 0, none⟩) 1 1] 25)) = W1 at HO hC2 hx1 hcheck g0 g1 g2 ⊢
  refine hcheck.mono ?_
  rintro e w2 ⟨rfl, hB2⟩
  have hC3 := hC2.trans (hB2.mono hC2.size)
  have hO3 := HO.out.below hB2
  have hx2 := (hB2.block _ (lt_of_block hx1)).trans hx1
  obtain ⟨k0, k1, k2, -⟩ := row3_cells hx2
  clear g0 g1 g2
  have e1 : w2.cell? ⟨c, 1, none⟩ = some (.bool true) := by simp [World.cell?, hO3.b3]
  have e2 : w2.frozen? ⟨c, 1, none⟩ = false := by simp [World.frozen?, hO3.b3]
  have hbt := (But.refl c w2).setCell 1 (.bool false)
  have hO4 : OneAt w.heap.size (w2.setCell ⟨c, 1, none⟩ (.bool false)) t1 t2 c a false := by
    have o2 := hO3.o2
    have o3 := hO3.o3
    have o4 := hO3.o4
    have h3 := V.set_block (o := 1) hO3.b3 (.bool false)
    exact ⟨hO3.o1, o2, o3, o4, (hbt.block _ (lt_of_block hO3.b1) (by omega)).trans hO3.b1, (hbt.block _ (lt_of_block hO3.b2) (by omega)).trans hO3.b2, by simpa using h3, (hbt.block _ (lt_of_block hO3.b4) (by omega)).trans hO3.b4⟩
  have hx3 := (hbt.block _ (lt_of_block hx2) (by omega)).trans hx2
  have hC4 := V.below_but hC3 hbt (by have := hO3.o1; have := hO3.o2; have := hO3.o3; omega) hC3.size
  have hcheck := check_T (w2.setCell ⟨c, 1, none⟩ (.bool false)) w.heap.size _ (oneP t1 t2 c a false) hO4.ok (Nat.le_refl _) (one_size ..).1 (one_size ..).2.1 (one_size ..).2.2
  rw [one_not] at hcheck
  obtain ⟨m0, m1, m2, -⟩ := row3_cells hx3
  clear hO4 hbt hO3 HO hx1 hx2 hx3
  go_wp2_with fail
  generalize (w2.setCell ⟨c, 1, none⟩ (.bool false)) = W2 at hC4 hcheck m0 m1 m2 ⊢
  refine hcheck.mono ?_
  rintro e w3 ⟨rfl, hB3⟩
  go_wp2_with fail
  go_ret
  exact ⟨rfl, hC4.trans (hB3.mono hC4.size)⟩

end Go.Proofs.Ytmnpcpgdhaplaaa
