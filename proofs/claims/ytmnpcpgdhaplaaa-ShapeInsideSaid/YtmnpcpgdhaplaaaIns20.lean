/- What ShapeInside answers, one case. Conditions: none. -/
import Derived.Test.YtmnpcpgdhaplaaaMg26
namespace Go.Proofs.Ytmnpcpgdhaplaaa
open Go Go.RowKit
set_option linter.unusedVariables false
set_option pp.deepTerms true
set_option pp.maxSteps 1000000
set_option maxRecDepth 100000 in
set_option maxHeartbeats 1600000 in
theorem ins_20 (w : World) (a b : Int) (hk : wm a 3 = 2) (hu : wm b 4 = 0) : Calls Try.prog 10 #[.int .i64 a, .int .i64 b] w fun e w' => e = .returned (.bool true) ∧ Below w.heap.size w w' := by
  have hka := fun W => within_m W a 3 (by decide) (by decide)
  have hkb := fun W => within_m W b 4 (by decide) (by decide)
  rw [hk] at hka
  rw [hu] at hkb
  have Hka := Lib.hid hka
  have Hkb := Lib.hid hkb
  clear hka hkb hk hu
  go_enter Try.func10, Try.ntmps10
  go_wp2_with fail
  refine (one_T w).mono ?_
  rintro e w1 ⟨t1, t2, c, ac, rfl, hO1, hB1⟩
  have hk1 : Below w1.heap.size w1 (w1.alloc (.cells #[.string ⟨#[97]⟩, .slice (some ⟨c, 0, none⟩) 1 1, .slice (some ⟨ac, 0, none⟩) 1 1] 25)) := below2 _ _ _
  have hp1 := heap_alloc_new w1 (.cells #[.string ⟨#[97]⟩, .slice (some ⟨c, 0, none⟩) 1 1, .slice (some ⟨ac, 0, none⟩) 1 1] 25)
  have hO2 := hO1.below hk1
  have hC2 := hB1.trans (hk1.mono hB1.size)
  have hL2 : Blks (w1.alloc (.cells #[.string ⟨#[97]⟩, .slice (some ⟨c, 0, none⟩) 1 1, .slice (some ⟨ac, 0, none⟩) 1 1] 25)) [(t1, (.cells #[.int .i64 1, .string ⟨#[]⟩, .int .i64 3, .string ⟨#[120]⟩, .int .i64 0, .slice none 0 0] 67 (0, 0))), (t2, (.cells #[.int .i64 1, .string ⟨#[]⟩, .int .i64 2, .string ⟨#[]⟩, .int .i64 1, .slice none 0 0] 67 (0, 0))), (ac, (.cells #[.string ⟨#[115]⟩, .string ⟨#[]⟩, .int .i64 3, .string ⟨#[121]⟩, .int .i64 0, .int .i64 0, .string ⟨#[]⟩, .int .i64 2, .string ⟨#[]⟩, .int .i64 2, .string ⟨#[]⟩, .int .i64 0, .string ⟨#[]⟩, .int .i64 0, .int .i64 1, .string ⟨#[]⟩, .int .i64 0, .string ⟨#[]⟩, .int .i64 0] 59 (0, 0)))] := fun p hp => by
    rcases List.mem_cons.1 hp with rfl | hp
    · exact hO2.b1
    rcases List.mem_cons.1 hp with rfl | hp
    · exact hO2.b2
    obtain rfl := List.mem_singleton.1 hp
    exact hO2.b4
  have hW2 : World.ownsRow (w1.alloc (.cells #[.string ⟨#[97]⟩, .slice (some ⟨c, 0, none⟩) 1 1, .slice (some ⟨ac, 0, none⟩) 1 1] 25)) w.heap.size 64 7 (.slice (some ⟨c, 0, none⟩) [oneC t1 t2 true].length 1) [oneC t1 t2 true].length (flatC' [oneC t1 t2 true]) := ⟨rfl, .inr ⟨c, 1, _, rfl, by have := hO2.o1; have := hO2.o2; have := hO2.o3; omega, hO2.b3, Nat.le_refl _, by decide, rfl, rfl⟩⟩
  have hord : t1 < c ∧ t2 < c ∧ c < ac ∧ ac < w1.heap.size ∧ w.heap.size ≤ t1 ∧ t1 < t2 := ⟨Nat.lt_trans hO1.o2 hO1.o3, hO1.o3, hO1.o4, lt_of_heap hO1.b4, hO1.o1, hO1.o2⟩
  obtain ⟨q1, q2, q3, q4, q5, q6⟩ := hord
  have hszp : w1.heap.size < (w1.alloc (.cells #[.string ⟨#[97]⟩, .slice (some ⟨c, 0, none⟩) 1 1, .slice (some ⟨ac, 0, none⟩) 1 1] 25)).heap.size := lt_of_heap hp1
  clear hk1 hO1 hO2 hB1
  go_wp2_with fail
  generalize (w1.alloc (.cells #[.string ⟨#[97]⟩, .slice (some ⟨c, 0, none⟩) 1 1, .slice (some ⟨ac, 0, none⟩) 1 1] 25)) = W1 at hp1 hC2 hL2 hW2 hszp ⊢
  refine (lawW_T _ _).mono ?_
  rintro e w2 ⟨rfl, hB2⟩
  have hC3 := hC2.trans (hB2.mono hC2.size)
  have hp3 := (hB2.block _ (lt_of_heap hp1)).trans hp1
  have hL3 := hL2.below hB2
  have hW3 := own_below hW2 hB2
  have hszq : w1.heap.size < w2.heap.size := lt_of_heap hp3
  clear hC2 hp1 hL2 hW2
  have hk3 : Below w2.heap.size w2 (((w2.alloc (.cells #[.int .i64 1, .string ⟨#[]⟩, .int .i64 3, .string ⟨#[112]⟩, .int .i64 0, .slice none 0 0] 67)).alloc (.cells #[.int .i64 1, .string ⟨#[118]⟩, .int .i64 0, .string ⟨#[]⟩, .int .i64 0, .slice none 0 0] 67)).alloc (.cells #[.int .i64 1, .bool false, .string ⟨#[115]⟩, .slice (some ⟨w2.heap.size, 0, none⟩) 1 1, .slice (some ⟨(w2.heap.size + 1), 0, none⟩) 1 1, .bool false, .slice none 0 0] 64)) := ((below2 _ _ _).alloc (by simp) _).alloc (by simp; omega) _
  have hx1 : (((w2.alloc (.cells #[.int .i64 1, .string ⟨#[]⟩, .int .i64 3, .string ⟨#[112]⟩, .int .i64 0, .slice none 0 0] 67)).alloc (.cells #[.int .i64 1, .string ⟨#[118]⟩, .int .i64 0, .string ⟨#[]⟩, .int .i64 0, .slice none 0 0] 67)).alloc (.cells #[.int .i64 1, .bool false, .string ⟨#[115]⟩, .slice (some ⟨w2.heap.size, 0, none⟩) 1 1, .slice (some ⟨(w2.heap.size + 1), 0, none⟩) 1 1, .bool false, .slice none 0 0] 64)).heap[w2.heap.size]? = some (.cells #[.int .i64 1, .string ⟨#[]⟩, .int .i64 3, .string ⟨#[112]⟩, .int .i64 0, .slice none 0 0] 67 (0, 0)) := (Below.heap_alloc _ _ _ (by simp; omega)).trans ((Below.heap_alloc _ _ _ (by simp)).trans (heap_alloc_new w2 _))
  have hx2 : (((w2.alloc (.cells #[.int .i64 1, .string ⟨#[]⟩, .int .i64 3, .string ⟨#[112]⟩, .int .i64 0, .slice none 0 0] 67)).alloc (.cells #[.int .i64 1, .string ⟨#[118]⟩, .int .i64 0, .string ⟨#[]⟩, .int .i64 0, .slice none 0 0] 67)).alloc (.cells #[.int .i64 1, .bool false, .string ⟨#[115]⟩, .slice (some ⟨w2.heap.size, 0, none⟩) 1 1, .slice (some ⟨(w2.heap.size + 1), 0, none⟩) 1 1, .bool false, .slice none 0 0] 64)).heap[(w2.heap.size + 1)]? = some (.cells #[.int .i64 1, .string ⟨#[118]⟩, .int .i64 0, .string ⟨#[]⟩, .int .i64 0, .slice none 0 0] 67 (0, 0)) := (Below.heap_alloc _ _ _ (by simp)).trans (by have := heap_alloc_new (w2.alloc (.cells #[.int .i64 1, .string ⟨#[]⟩, .int .i64 3, .string ⟨#[112]⟩, .int .i64 0, .slice none 0 0] 67)) (.cells #[.int .i64 1, .string ⟨#[118]⟩, .int .i64 0, .string ⟨#[]⟩, .int .i64 0, .slice none 0 0] 67); rwa [World.size_alloc] at this)
  have hx3 : (((w2.alloc (.cells #[.int .i64 1, .string ⟨#[]⟩, .int .i64 3, .string ⟨#[112]⟩, .int .i64 0, .slice none 0 0] 67)).alloc (.cells #[.int .i64 1, .string ⟨#[118]⟩, .int .i64 0, .string ⟨#[]⟩, .int .i64 0, .slice none 0 0] 67)).alloc (.cells #[.int .i64 1, .bool false, .string ⟨#[115]⟩, .slice (some ⟨w2.heap.size, 0, none⟩) 1 1, .slice (some ⟨(w2.heap.size + 1), 0, none⟩) 1 1, .bool false, .slice none 0 0] 64)).heap[(w2.heap.size + 1 + 1)]? = some (.cells #[.int .i64 1, .bool false, .string ⟨#[115]⟩, .slice (some ⟨w2.heap.size, 0, none⟩) 1 1, .slice (some ⟨(w2.heap.size + 1), 0, none⟩) 1 1, .bool false, .slice none 0 0] 64 (0, 0)) := by
    have := heap_alloc_new ((w2.alloc (.cells #[.int .i64 1, .string ⟨#[]⟩, .int .i64 3, .string ⟨#[112]⟩, .int .i64 0, .slice none 0 0] 67)).alloc (.cells #[.int .i64 1, .string ⟨#[118]⟩, .int .i64 0, .string ⟨#[]⟩, .int .i64 0, .slice none 0 0] 67)) (.cells #[.int .i64 1, .bool false, .string ⟨#[115]⟩, .slice (some ⟨w2.heap.size, 0, none⟩) 1 1, .slice (some ⟨(w2.heap.size + 1), 0, none⟩) 1 1, .bool false, .slice none 0 0] 64)
    rwa [World.size_alloc, World.size_alloc] at this
  have hC4 := hC3.trans (hk3.mono hC3.size)
  have hp4 := (hk3.block _ (lt_of_heap hp3)).trans hp3
  have hL4 := ((hL3.below hk3).cons hx1).cons hx2
  have hW4 := own_below hW3 hk3
  have hs4 : w2.heap.size + 1 + 1 < (((w2.alloc (.cells #[.int .i64 1, .string ⟨#[]⟩, .int .i64 3, .string ⟨#[112]⟩, .int .i64 0, .slice none 0 0] 67)).alloc (.cells #[.int .i64 1, .string ⟨#[118]⟩, .int .i64 0, .string ⟨#[]⟩, .int .i64 0, .slice none 0 0] 67)).alloc (.cells #[.int .i64 1, .bool false, .string ⟨#[115]⟩, .slice (some ⟨w2.heap.size, 0, none⟩) 1 1, .slice (some ⟨(w2.heap.size + 1), 0, none⟩) 1 1, .bool false, .slice none 0 0] 64)).heap.size := lt_of_heap hx3
  clear hC3 hp3 hL3 hW3 hk3 hx1 hx2
  go_wp2_with fail
  generalize (((w2.alloc (.cells #[.int .i64 1, .string ⟨#[]⟩, .int .i64 3, .string ⟨#[112]⟩, .int .i64 0, .slice none 0 0] 67)).alloc (.cells #[.int .i64 1, .string ⟨#[118]⟩, .int .i64 0, .string ⟨#[]⟩, .int .i64 0, .slice none 0 0] 67)).alloc (.cells #[.int .i64 1, .bool false, .string ⟨#[115]⟩, .slice (some ⟨w2.heap.size, 0, none⟩) 1 1, .slice (some ⟨(w2.heap.size + 1), 0, none⟩) 1 1, .bool false, .slice none 0 0] 64)) = W3 at hx3 hC4 hp4 hL4 hW4 hs4 ⊢
  refine (Hka.out _).mono ?_
  rintro e w3 ⟨rfl, rfl⟩
  have hszp4 : w1.heap.size < w3.heap.size := lt_of_heap hp4
  have hsz4 : w2.heap.size + 1 + 1 < w3.heap.size := hs4
  have hbase : w.heap.size ≤ w3.heap.size := hC4.size
  have hCw : w.heap.size ≤ w1.heap.size := by omega
  have hLk := hL4
  have hWk := hW4
  have hpk := hp4
  have hCk := hC4
  have hbasek := hbase
  have hzk : w3.heap.size = w3.heap.size := rfl
  have hxk := hx3
  obtain ⟨m0, m1, m2, f0, f1, f2⟩ := row3_cells hpk
  obtain ⟨⟨g0, g1, g2, g3, g4, g5, g6⟩, -⟩ := row7_cells hx3
  have Hbelow := Lib.hid (below2 w3 #[.int .i64 1, .bool false, .string ⟨#[115]⟩, .slice (some ⟨w2.heap.size, 0, none⟩) 1 1, .slice (some ⟨(w2.heap.size + 1), 0, none⟩) 1 1, .bool false, .slice none 0 0] 64)
  have hsrc := heap_alloc_new w3 (.cells #[.int .i64 1, .bool false, .string ⟨#[115]⟩, .slice (some ⟨w2.heap.size, 0, none⟩) 1 1, .slice (some ⟨(w2.heap.size + 1), 0, none⟩) 1 1, .bool false, .slice none 0 0] 64)
  rw [hzk] at hsrc
  have Hsrc := Lib.hid hsrc
  clear hsrc
  have HLk := Lib.hid hLk
  have HCk := Lib.hid hCk
  have HWk := Lib.hid hWk
  have Hpk := Lib.hid hpk
  clear hLk hCk hWk hpk hL4 hC4 hW4 hp4 hx3 hxk
  try clear hx4
  go_wp2_with (first
    | (at_builtin; refine append_cond rfl _ _ rfl w.heap.size (.slice (some ⟨c, 0, none⟩) 1 1) [oneC t1 t2 true] (innC 1 w2.heap.size (w2.heap.size + 1)) rfl (HWk.out.alloc _) _ rfl _ _ Hsrc.out (by simp) (Nat.le_trans hbasek (by simp)) ?_; intro g cap w4 hcap hcm hW5 hg5 hgr; have hp5 : w4.heap[w1.heap.size]? = some (.cells #[.string ⟨#[97]⟩, .slice (some ⟨c, 0, none⟩) 1 1, .slice (some ⟨ac, 0, none⟩) 1 1] 25 (0, 0)) := (hgr.block w1.heap.size (by simp; omega) (by intro h; simp [Value.ownBlock] at h <;> omega)).trans ((Hbelow.out.block _ (lt_of_heap Hpk.out)).trans Hpk.out); clear m0 m1 m2 f0 f1 f2; obtain ⟨m0, m1, m2, f0, f1, f2⟩ := row3_cells hp5))
  have hL5 := (HLk.out.below Hbelow.out).grown hgr (fun p hp => by
    simp only [List.mem_cons, List.not_mem_nil, or_false] at hp
    rcases hp with rfl | rfl | rfl | rfl | rfl <;> (intro h; simp [Value.ownBlock] at h <;> omega))
  have hC5 := (HCk.out.trans (Hbelow.out.mono HCk.out.size)).grown hgr (Nat.le_trans hbasek (by simp)) (fun k e => by simp [Value.ownBlock] at e; omega)
  have hbt := (But.refl w1.heap.size w4).setCell 1 (.slice (some ⟨g, 0, none⟩) 2 cap)
  have hp6 : (w4.setCell ⟨w1.heap.size, 1, none⟩ (.slice (some ⟨g, 0, none⟩) 2 cap)).heap[w1.heap.size]? = some (.cells #[.string ⟨#[97]⟩, .slice (some ⟨g, 0, none⟩) 2 cap, .slice (some ⟨ac, 0, none⟩) 1 1] 25 (0, 0)) := by simpa using V.set_block (o := 1) hp5 (.slice (some ⟨g, 0, none⟩) 2 cap)
  have hL6 := hL5.but hbt (fun p hp => by
    simp only [List.mem_cons, List.not_mem_nil, or_false] at hp
    rcases hp with rfl | rfl | rfl | rfl | rfl <;> (intro h; simp [Value.ownBlock] at h <;> omega))
  have hW6 := own_but hW5 hbt (own_ne hW5 hp5 (.inl (by decide)))
  have hC6 := V.below_but hC5 hbt (by omega) hC5.size
  have hz6 : w3.heap.size + 1 ≤ (w4.setCell ⟨w1.heap.size, 1, none⟩ (.slice (some ⟨g, 0, none⟩) 2 cap)).heap.size := by have h1 := hgr.size; simp at h1 ⊢; omega
  clear m0 m1 m2 f0 f1 f2 g0 g1 g2 g3 g4 g5 g6 hL5 hC5 hbt hW5 hp5 hgr HLk HCk HWk Hpk Hbelow
  generalize (w4.setCell ⟨w1.heap.size, 1, none⟩ (.slice (some ⟨g, 0, none⟩) 2 cap)) = W4 at hp6 hL6 hW6 hC6 hz6 ⊢
  refine (lawW_T _ _).mono ?_
  rintro e w5 ⟨rfl, hB5⟩
  have hp7 := (hB5.block _ (lt_of_heap hp6)).trans hp6
  have hL7 := hL6.below hB5
  have hW7 := own_below hW6 hB5
  have hC7 := hC6.trans (hB5.mono hC6.size)
  have hz7 : w3.heap.size + 1 ≤ w5.heap.size := Nat.le_trans hz6 hB5.size
  clear hp6 hL6 hW6 hC6 hz6
  have hk7 : Below w5.heap.size w5 ((w5.alloc (.cells #[.int .i64 1, .string ⟨#[]⟩, .int .i64 3, .string ⟨#[113]⟩, .int .i64 0, .slice none 0 0] 67)).alloc (.cells #[.int .i64 1, .bool false, .string ⟨#[115]⟩, .slice (some ⟨w5.heap.size, 0, none⟩) 1 1, .slice none 0 0, .bool false, .slice none 0 0] 64)) := (below2 _ _ _).alloc (by simp) _
  have hx8 : ((w5.alloc (.cells #[.int .i64 1, .string ⟨#[]⟩, .int .i64 3, .string ⟨#[113]⟩, .int .i64 0, .slice none 0 0] 67)).alloc (.cells #[.int .i64 1, .bool false, .string ⟨#[115]⟩, .slice (some ⟨w5.heap.size, 0, none⟩) 1 1, .slice none 0 0, .bool false, .slice none 0 0] 64)).heap[w5.heap.size]? = some (.cells #[.int .i64 1, .string ⟨#[]⟩, .int .i64 3, .string ⟨#[113]⟩, .int .i64 0, .slice none 0 0] 67 (0, 0)) := (Below.heap_alloc _ _ _ (by simp)).trans (heap_alloc_new w5 _)
  have hy8 : ((w5.alloc (.cells #[.int .i64 1, .string ⟨#[]⟩, .int .i64 3, .string ⟨#[113]⟩, .int .i64 0, .slice none 0 0] 67)).alloc (.cells #[.int .i64 1, .bool false, .string ⟨#[115]⟩, .slice (some ⟨w5.heap.size, 0, none⟩) 1 1, .slice none 0 0, .bool false, .slice none 0 0] 64)).heap[w5.heap.size + 1]? = some (.cells #[.int .i64 1, .bool false, .string ⟨#[115]⟩, .slice (some ⟨w5.heap.size, 0, none⟩) 1 1, .slice none 0 0, .bool false, .slice none 0 0] 64 (0, 0)) := by
    have := heap_alloc_new (w5.alloc (.cells #[.int .i64 1, .string ⟨#[]⟩, .int .i64 3, .string ⟨#[113]⟩, .int .i64 0, .slice none 0 0] 67)) (.cells #[.int .i64 1, .bool false, .string ⟨#[115]⟩, .slice (some ⟨w5.heap.size, 0, none⟩) 1 1, .slice none 0 0, .bool false, .slice none 0 0] 64)
    rwa [World.size_alloc] at this
  have hp8 := (hk7.block _ (lt_of_heap hp7)).trans hp7
  have hL8 := (hL7.below hk7).cons hx8
  have hW8 := own_below hW7 hk7
  have hC8 := hC7.trans (hk7.mono hC7.size)
  have hl8 : w5.heap.size + 1 < ((w5.alloc (.cells #[.int .i64 1, .string ⟨#[]⟩, .int .i64 3, .string ⟨#[113]⟩, .int .i64 0, .slice none 0 0] 67)).alloc (.cells #[.int .i64 1, .bool false, .string ⟨#[115]⟩, .slice (some ⟨w5.heap.size, 0, none⟩) 1 1, .slice none 0 0, .bool false, .slice none 0 0] 64)).heap.size := lt_of_heap hy8
  clear hp7 hL7 hW7 hC7 hk7 hx8
  obtain ⟨m0, m1, m2, -⟩ := row3_cells hp8
  have hcap2 : 2 ≤ cap := hcap
  have hsz := size_T ((w5.alloc (.cells #[.int .i64 1, .string ⟨#[]⟩, .int .i64 3, .string ⟨#[113]⟩, .int .i64 0, .slice none 0 0] 67)).alloc (.cells #[.int .i64 1, .bool false, .string ⟨#[115]⟩, .slice (some ⟨w5.heap.size, 0, none⟩) 1 1, .slice none 0 0, .bool false, .slice none 0 0] 64)) w.heap.size _ ⟨some ⟨g, 7, none⟩, 1, cap - 1⟩ [(innC 1 w2.heap.size (w2.heap.size + 1))] ⟨rowIn_own (cs := [oneC t1 t2 true] ++ [(innC 1 w2.heap.size (w2.heap.size + 1))]) (ds := [oneC t1 t2 true]) hW8 rfl 1 _ rfl 7 rfl, ⟨inn_ok (hL8 (w2.heap.size, (.cells #[.int .i64 1, .string ⟨#[]⟩, .int .i64 3, .string ⟨#[112]⟩, .int .i64 0, .slice none 0 0] 67 (0, 0))) (by simp)) (hL8 ((w2.heap.size + 1), (.cells #[.int .i64 1, .string ⟨#[118]⟩, .int .i64 0, .string ⟨#[]⟩, .int .i64 0, .slice none 0 0] 67 (0, 0))) (by simp)) (by omega) (by omega), trivial⟩⟩ (Nat.le_refl _) (Nat.le_trans (m := 1) (Nat.le_of_eq (by kernel_rfl)) (by decide))
  have ez : sizeL [(innC 1 w2.heap.size (w2.heap.size + 1))] = 1 := by kernel_rfl
  rw [ez] at hsz
  have Hy8 := Lib.hid hy8
  have HL8 := Lib.hid hL8
  have HC8 := Lib.hid hC8
  have HW8 := Lib.hid hW8
  have Hp8 := Lib.hid hp8
  clear hy8 hL8 hC8 hW8 hp8 ez
  go_wp2_with fail
  generalize ((w5.alloc (.cells #[.int .i64 1, .string ⟨#[]⟩, .int .i64 3, .string ⟨#[113]⟩, .int .i64 0, .slice none 0 0] 67)).alloc (.cells #[.int .i64 1, .bool false, .string ⟨#[115]⟩, .slice (some ⟨w5.heap.size, 0, none⟩) 1 1, .slice none 0 0, .bool false, .slice none 0 0] 64)) = W5 at hsz Hy8 HL8 HC8 HW8 Hp8 hl8 ⊢
  clear m0 m1 m2
  refine hsz.mono ?_
  rintro e w6 ⟨rfl, hB6⟩
  have hy9 := (hB6.block _ (lt_of_heap Hy8.out)).trans Hy8.out
  have hp9 := (hB6.block _ (lt_of_heap Hp8.out)).trans Hp8.out
  have hL9 := HL8.out.below hB6
  have hW9 := own_below HW8.out hB6
  have hC9 := HC8.out.trans (hB6.mono HC8.out.size)
  have hl9 : w5.heap.size + 1 < w6.heap.size := lt_of_heap hy9
  clear Hy8 HL8 HC8 HW8 Hp8 hsz hB6 hl8
  go_wp2_with fail
  refine (Hkb.out _).mono ?_
  rintro e w7 ⟨rfl, rfl⟩
  have hs9 : w3.heap.size + 1 ≤ w7.heap.size := by omega
  have hbase9 : w.heap.size ≤ w7.heap.size := hC9.size
  have hbs := (But.refl (w5.heap.size + 1) w7).setCell 2 (.string ⟨#[118]⟩)
  have hys : (w7.setCell ⟨(w5.heap.size + 1), 2, none⟩ (.string ⟨#[118]⟩)).heap[(w5.heap.size + 1)]? = some (.cells #[.int .i64 1, .bool false, .string ⟨#[118]⟩, .slice (some ⟨w5.heap.size, 0, none⟩) 1 1, .slice none 0 0, .bool false, .slice none 0 0] 64 (0, 0)) := by simpa using V.set_block (o := 2) hy9 (.string ⟨#[118]⟩)
  have hLs := hL9.but hbs (fun p hp => by
    simp only [List.mem_cons, List.not_mem_nil, or_false] at hp
    rcases hp with rfl | rfl | rfl | rfl | rfl | rfl <;> (intro h; simp [Value.ownBlock] at h <;> omega))
  have hWs := own_but hW9 hbs (own_ne hW9 hy9 (.inr (by simp)))
  have hps := (hbs.block _ (lt_of_heap hp9) (by omega)).trans hp9
  have hCs := V.below_but hC9 hbs (by omega) hC9.size
  have hbases : w.heap.size ≤ (w7.setCell ⟨(w5.heap.size + 1), 2, none⟩ (.string ⟨#[118]⟩)).heap.size := hCs.size
  have hzs : (w7.setCell ⟨(w5.heap.size + 1), 2, none⟩ (.string ⟨#[118]⟩)).heap.size = w7.heap.size := by simp
  clear hbs
  obtain ⟨⟨u0, u1, u2, u3, u4, u5, u6⟩, v0, v1, v2, v3, v4, v5, v6⟩ := row7_cells hy9
  obtain ⟨m0, m1, m2, f0, f1, f2⟩ := row3_cells hps
  obtain ⟨⟨g0, g1, g2, g3, g4, g5, g6⟩, -⟩ := row7_cells hys
  have Hbelow := Lib.hid (below2 (w7.setCell ⟨(w5.heap.size + 1), 2, none⟩ (.string ⟨#[118]⟩)) #[.int .i64 1, .bool false, .string ⟨#[118]⟩, .slice (some ⟨w5.heap.size, 0, none⟩) 1 1, .slice none 0 0, .bool false, .slice none 0 0] 64)
  have hsrc := heap_alloc_new (w7.setCell ⟨(w5.heap.size + 1), 2, none⟩ (.string ⟨#[118]⟩)) (.cells #[.int .i64 1, .bool false, .string ⟨#[118]⟩, .slice (some ⟨w5.heap.size, 0, none⟩) 1 1, .slice none 0 0, .bool false, .slice none 0 0] 64)
  rw [hzs] at hsrc
  have Hsrc := Lib.hid hsrc
  clear hsrc
  have HLs := Lib.hid hLs
  have HCs := Lib.hid hCs
  have HWs := Lib.hid hWs
  have Hps := Lib.hid hps
  have Hne := Lib.hid (own_ne (hWs.alloc (.cells #[.int .i64 1, .bool false, .string ⟨#[118]⟩, .slice (some ⟨w5.heap.size, 0, none⟩) 1 1, .slice none 0 0, .bool false, .slice none 0 0] 64)) ((Hbelow.out.block _ (lt_of_heap hps)).trans hps) (.inl (by decide)))
  clear hLs hCs hWs hps hL9 hC9 hW9 hp9 hy9 hys
  go_wp2_with (first
    | (at_builtin; refine append_cond rfl _ _ rfl w.heap.size (.slice (some ⟨g, 0, none⟩) 2 cap) ([oneC t1 t2 true] ++ [(innC 1 w2.heap.size (w2.heap.size + 1))]) (lastC ⟨#[118]⟩ w5.heap.size ⟨none, 0, 0⟩ []) rfl (HWs.out.alloc _) _ rfl _ _ Hsrc.out (by simp) (Nat.le_trans hbases (by simp)) ?_; intro gq cap2 w8 hcap2 hcm2 hW10 hg10 hgr; have hp10 : w8.heap[w1.heap.size]? = some (.cells #[.string ⟨#[97]⟩, .slice (some ⟨g, 0, none⟩) 2 cap, .slice (some ⟨ac, 0, none⟩) 1 1] 25 (0, 0)) := (hgr.block w1.heap.size (by simp; omega) (fun h => Hne.out h.symm)).trans ((Hbelow.out.block _ (lt_of_heap Hps.out)).trans Hps.out); clear m0 m1 m2 f0 f1 f2; obtain ⟨m0, m1, m2, f0, f1, f2⟩ := row3_cells hp10))
  have hL10 := (HLs.out.below Hbelow.out).grown hgr (Blks.ne_own (HLs.out.below Hbelow.out) (HWs.out.alloc _) (fun p hp => by
    simp only [List.mem_cons, List.not_mem_nil, or_false] at hp
    rcases hp with rfl | rfl | rfl | rfl | rfl | rfl <;> exact ⟨_, _, _, rfl, by first | exact .inl (by decide) | exact .inr (by simp)⟩))
  have hC10 := (HCs.out.trans (Hbelow.out.mono HCs.out.size)).grown hgr (Nat.le_trans hbases (by simp)) (fun k e => by simp [Value.ownBlock] at e; omega)
  have hbt := (But.refl w1.heap.size w8).setCell 1 (.slice (some ⟨gq, 0, none⟩) 3 cap2)
  have hp11 : (w8.setCell ⟨w1.heap.size, 1, none⟩ (.slice (some ⟨gq, 0, none⟩) 3 cap2)).heap[w1.heap.size]? = some (.cells #[.string ⟨#[97]⟩, .slice (some ⟨gq, 0, none⟩) 3 cap2, .slice (some ⟨ac, 0, none⟩) 1 1] 25 (0, 0)) := by simpa using V.set_block (o := 1) hp10 (.slice (some ⟨gq, 0, none⟩) 3 cap2)
  have hL11 := hL10.but hbt (fun p hp => by
    simp only [List.mem_cons, List.not_mem_nil, or_false] at hp
    rcases hp with rfl | rfl | rfl | rfl | rfl | rfl <;> (intro h; simp [Value.ownBlock] at h <;> omega))
  have hW11 := own_but hW10 hbt (own_ne hW10 hp10 (.inl (by decide)))
  have hC11 := V.below_but hC10 hbt (by omega) hC10.size
  clear m0 m1 m2 f0 f1 f2 g0 g1 g2 g3 g4 g5 g6 hL10 hC10 hbt hW10 hp10 hgr HLs HCs HWs Hps Hbelow Hne Hsrc
  generalize (w8.setCell ⟨w1.heap.size, 1, none⟩ (.slice (some ⟨gq, 0, none⟩) 3 cap2)) = W8 at hp11 hL11 hW11 hC11 ⊢
  have hok : ProdOk w.heap.size W8.heap.size W8 (⟨⟨#[97]⟩, ⟨some ⟨gq, 0, none⟩, 3, cap2⟩, ([oneC t1 t2 true] ++ [(innC 1 w2.heap.size (w2.heap.size + 1))] ++ [(lastC ⟨#[118]⟩ w5.heap.size ⟨none, 0, 0⟩ [])]), ⟨some ⟨ac, 0, none⟩, 1, 1⟩, [oneA]⟩ : ProdV) := by
    refine ⟨⟨rowIn_own (cs := ([oneC t1 t2 true] ++ [(innC 1 w2.heap.size (w2.heap.size + 1))] ++ [(lastC ⟨#[118]⟩ w5.heap.size ⟨none, 0, 0⟩ [])])) (ds := []) hW11 rfl 3 _ rfl 0 rfl, ?_⟩, rowIn_one (l := _) (hL11 (ac, (.cells #[.string ⟨#[115]⟩, .string ⟨#[]⟩, .int .i64 3, .string ⟨#[121]⟩, .int .i64 0, .int .i64 0, .string ⟨#[]⟩, .int .i64 2, .string ⟨#[]⟩, .int .i64 2, .string ⟨#[]⟩, .int .i64 0, .string ⟨#[]⟩, .int .i64 0, .int .i64 1, .string ⟨#[]⟩, .int .i64 0, .string ⟨#[]⟩, .int .i64 0] 59 (0, 0))) (by simp)) rfl (by omega)⟩
    exact ⟨one_okC (hL11 (t1, (.cells #[.int .i64 1, .string ⟨#[]⟩, .int .i64 3, .string ⟨#[120]⟩, .int .i64 0, .slice none 0 0] 67 (0, 0))) (by simp)) (hL11 (t2, (.cells #[.int .i64 1, .string ⟨#[]⟩, .int .i64 2, .string ⟨#[]⟩, .int .i64 1, .slice none 0 0] 67 (0, 0))) (by simp)) (by omega) (by omega), inn_ok (hL11 (w2.heap.size, (.cells #[.int .i64 1, .string ⟨#[]⟩, .int .i64 3, .string ⟨#[112]⟩, .int .i64 0, .slice none 0 0] 67 (0, 0))) (by simp)) (hL11 ((w2.heap.size + 1), (.cells #[.int .i64 1, .string ⟨#[118]⟩, .int .i64 0, .string ⟨#[]⟩, .int .i64 0, .slice none 0 0] 67 (0, 0))) (by simp)) (by omega) (by omega), last_ok (hL11 (w5.heap.size, (.cells #[.int .i64 1, .string ⟨#[]⟩, .int .i64 3, .string ⟨#[113]⟩, .int .i64 0, .slice none 0 0] 67 (0, 0))) (by simp)) (by omega) (tests_nil), trivial⟩
  have hchk := check_T W8 w.heap.size _ (⟨⟨#[97]⟩, ⟨some ⟨gq, 0, none⟩, 3, cap2⟩, ([oneC t1 t2 true] ++ [(innC 1 w2.heap.size (w2.heap.size + 1))] ++ [(lastC ⟨#[118]⟩ w5.heap.size ⟨none, 0, 0⟩ [])]), ⟨some ⟨ac, 0, none⟩, 1, 1⟩, [oneA]⟩ : ProdV) hok (Nat.le_refl _) (Nat.le_trans (m := 3) (Nat.le_of_eq (by kernel_rfl)) (by decide)) (Nat.le_trans (m := 1) (Nat.le_of_eq (by kernel_rfl)) (by decide)) (Nat.le_trans (m := wtL ([oneC 0 0 true] ++ [(innC 1 0 (0))] ++ [(lastC ⟨#[118]⟩ 0 ⟨none, 0, 0⟩ [])])) (Nat.le_of_eq (by kernel_rfl)) (by decide +kernel))
  have hsv : (surveyP (⟨⟨#[97]⟩, ⟨some ⟨gq, 0, none⟩, 3, cap2⟩, ([oneC t1 t2 true] ++ [(innC 1 w2.heap.size (w2.heap.size + 1))] ++ [(lastC ⟨#[118]⟩ w5.heap.size ⟨none, 0, 0⟩ [])]), ⟨some ⟨ac, 0, none⟩, 1, 1⟩, [oneA]⟩ : ProdV)).2 = ((-1), 0) := by kernel_rfl
  rw [hsv] at hchk
  clear hsv hok hL11 hW11
  refine hchk.mono ?_
  rintro e w9 ⟨rfl, hB9⟩
  have hC12 := hC11.trans (hB9.mono hC11.size)
  clear hchk hp11 hC11 hB9
  go_wp2_with fail
  refine (wakes_T _).mono ?_
  rintro e w10 ⟨rfl, hB10⟩
  go_wp2_with fail
  go_ret
  exact ⟨rfl, hC12.trans (hB10.mono hC12.size)⟩
end Go.Proofs.Ytmnpcpgdhaplaaa
