/- What the statements' pairs tells of a map, all of it or from a key, left early or not. Conditions: the map lies in memory; at most 700 keys. -/
import Derived.Test.YtbpibbcehfkeeaaPairsLaw
import Derived.Test.YtbpibbcehfkeeaaFromWE
namespace Go.Proofs.Ytbpibbcehfkeeaa.E
open Go Go.RowKit Go.Shelf Go.Lib

attribute [local go_sem] Oper.semAt_some

theorem KeepsFrom.refl' (B : Nat) (W : World) : KeepsFrom B W W := ⟨Nat.le_refl _, fun _ _ _ h _ => h⟩

set_option pp.deepTerms true
set_option pp.maxSteps 1000000
set_option maxRecDepth 100000 in
set_option maxHeartbeats 4000000 in
theorem lawpairs_all (w : World) (m s : Nat) (L : List EntV) (k : SymV) (n : Nat) (h : MapAt w m s L) (hs : L.length ≤ 700) (hn2 : n ≤ 100000) :
    Calls Try.prog 21 #[.pointer (some ⟨m, 0, none⟩), .agg #[.int .i64 k.k, .string k.t, .int .i64 k.n], .bool true, .int .i64 n] w fun e w' => ∃ vk vv, e = .returned (.tuple #[vk, vv]) ∧
      w'.ownsRow w.heap.size 26 3 vk (L.take n).length ((L.take n).flatMap fun x => [.int .i64 x.key.k, .string x.key.t, .int .i64 x.key.n]) ∧ w'.ownsRow w.heap.size 3 1 vv (L.take n).length ((L.take n).flatMap fun x => [.int .i64 x.v]) ∧ Below w.heap.size w w' := by
  obtain ⟨i0, hi, hz0, hz1, hz2⟩ := info_parts infoS
  obtain ⟨i1, hj, hy0, hy1, hy2⟩ := info_parts infoI
  refine (callsIn_wide (n := 4)).1 ?_
  refine callsIn_of_wp_marks Try.func21 rfl trivial ?_ rfl
  simp only [Try.ntmps21, List.size_toArray, List.length_cons, List.length_nil, Nat.reduceAdd, Nat.reduceSub, Array.replicate_succ, Array.replicate_zero, List.push_toArray, List.append_toArray, List.nil_append, List.cons_append]
  have hB0 : Below w.heap.size w ((((w.alloc (.cells #[.int .i64 k.k, .string k.t, .int .i64 k.n] 26)).alloc (.cells #[.int .i64 n] 3)).alloc (.cells #[.slice none 0 0] 29)).alloc (.cells #[.slice none 0 0] 30)) := ((((Below.refl _ w).alloc (Nat.le_refl _) _).alloc (by simp) _).alloc (by simp; omega) _).alloc (by simp; omega) _
  have hvb := Boxed.new (((w.alloc (.cells #[.int .i64 k.k, .string k.t, .int .i64 k.n] 26)).alloc (.cells #[.int .i64 n] 3)).alloc (.cells #[.slice none 0 0] 29)) 30 (.slice none 0 0)
  have hkb := (Boxed.new ((w.alloc (.cells #[.int .i64 k.k, .string k.t, .int .i64 k.n] 26)).alloc (.cells #[.int .i64 n] 3)) 29 (.slice none 0 0)).alloc (.cells #[.slice none 0 0] 30)
  have hnb : ((((w.alloc (.cells #[.int .i64 k.k, .string k.t, .int .i64 k.n] 26)).alloc (.cells #[.int .i64 n] 3)).alloc (.cells #[.slice none 0 0] 29)).alloc (.cells #[.slice none 0 0] 30)).heap[w.heap.size + 1]? = some (.cells #[.int .i64 n] 3 (0, 0)) := by
    have := heap_alloc_new (w.alloc (.cells #[.int .i64 k.k, .string k.t, .int .i64 k.n] 26)) (.cells #[.int .i64 n] 3)
    simp only [World.size_alloc] at this
    exact (Below.heap_alloc _ _ _ (by simp <;> omega)).trans ((Below.heap_alloc _ _ _ (by simp <;> omega)).trans this)
  have hfb : ((((w.alloc (.cells #[.int .i64 k.k, .string k.t, .int .i64 k.n] 26)).alloc (.cells #[.int .i64 n] 3)).alloc (.cells #[.slice none 0 0] 29)).alloc (.cells #[.slice none 0 0] 30)).heap[w.heap.size]? = some (.cells #[.int .i64 k.k, .string k.t, .int .i64 k.n] 26 (0, 0)) := (Below.heap_alloc _ _ _ (by simp <;> omega)).trans ((Below.heap_alloc _ _ _ (by simp <;> omega)).trans ((Below.heap_alloc _ _ _ (by simp <;> omega)).trans (heap_alloc_new w _)))
  have hsz : ((((w.alloc (.cells #[.int .i64 k.k, .string k.t, .int .i64 k.n] 26)).alloc (.cells #[.int .i64 n] 3)).alloc (.cells #[.slice none 0 0] 29)).alloc (.cells #[.slice none 0 0] 30)).heap.size = w.heap.size + 4 := by simp
  simp only [World.size_alloc] at hvb hkb
  gi_wp2_with fail
  generalize ((((w.alloc (.cells #[.int .i64 k.k, .string k.t, .int .i64 k.n] 26)).alloc (.cells #[.int .i64 n] 3)).alloc (.cells #[.slice none 0 0] 29)).alloc (.cells #[.slice none 0 0] 30)) = W0 at hB0 hvb hkb hnb hfb hsz ⊢
  have h0 := h.below hB0
  refine ⟨trivial, ?_⟩
  refine (callsIn_wide.2 (mapfrom_T W0 m s L k h0)).mono ?_
  rintro e w1 ⟨B, rfl, hB1⟩
  have h1 := h0.below hB1
  gi_wp2_with fail
  refine ⟨trivial, ?_⟩
  refine (callsIn_wide.2 (mapall_T w1 m s L h1)).mono ?_
  rintro e w2 ⟨rfl, hp1, hp2, hB2⟩
  have h2 := h1.below hB2
  have hC2 := hB1.trans (hB2.mono hB1.size)
  have hvb2 : Boxed w2 _ _ _ := (hC2.block _ hvb.lt).trans hvb
  have hkb2 : Boxed w2 _ _ _ := (hC2.block _ hkb.lt).trans hkb
  have hnb2 := (hC2.block _ (lt_of_block hnb)).trans hnb
  have hs1 := hB1.size
  have hs2 := hB2.size
  have hnq := eq_nilP 81 #[.pointer (some ⟨w1.heap.size + 1, 0, none⟩)]
  gi_wp2_with fail
  have hkr := World.ownsRow_nil w2 (w.heap.size + 1 + 1) 26 3
  have hvr := World.ownsRow_nil w2 (w.heap.size + 1 + 1) 3 1
  refine wpIn_rangeW rfl (by omega) (gf := 81) (lb := #[.pointer (some ⟨w1.heap.size + 1, 0, none⟩)]) rfl trivial (enters_of Try.func81 (by kernel_rfl) rfl)
    (pairs_stops 3 w2.heap.size _ _ s L w2 hp1 hp2 h2.2 (by omega) (Nat.le_refl _)) (fun h k => h.trans k) (fun W l o o' h hc => KpY.putObj W l o o' h hc) (Below.refl _ _) (fun _ => rfl)
    (fun pre V => (∃ v, Boxed V (w.heap.size + 1 + 1) 29 v ∧ V.ownsRow (w.heap.size + 1 + 1) 26 3 v (pre).length ((pre).flatMap fun x => [.int .i64 x.key.k, .string x.key.t, .int .i64 x.key.n]) ∧ pre.length ≤ n) ∧
      (∃ v, Boxed V (w.heap.size + 1 + 1 + 1) 30 v ∧ V.ownsRow (w.heap.size + 1 + 1) 3 1 v (pre).length ((pre).flatMap fun x => [.int .i64 x.v]) ∧ True) ∧ Below (w.heap.size + 1 + 1) w2 V)
    (fun c pre V => c = .exit 0 ∧ (∃ v, Boxed V (w.heap.size + 1 + 1) 29 v ∧ V.ownsRow (w.heap.size + 1 + 1) 26 3 v (pre.take n).length ((pre.take n).flatMap fun x => [.int .i64 x.key.k, .string x.key.t, .int .i64 x.key.n]) ∧ n < pre.length) ∧
      (∃ v, Boxed V (w.heap.size + 1 + 1 + 1) 30 v ∧ V.ownsRow (w.heap.size + 1 + 1) 3 1 v (pre.take n).length ((pre.take n).flatMap fun x => [.int .i64 x.v]) ∧ True) ∧ Below (w.heap.size + 1 + 1) w2 V)
    (OwnFrom.and (Own.from (holdsRow_own (w.heap.size + 1 + 1) (w.heap.size + 1 + 1) 29 26 3 (fun pre : List EntV => (pre).length) (fun pre => (pre).flatMap fun x => [.int .i64 x.key.k, .string x.key.t, .int .i64 x.key.n]) (fun pre _ => pre.length ≤ n)) _)
      (OwnFrom.and (Own.from (holdsRow_own (w.heap.size + 1 + 1) (w.heap.size + 1 + 1 + 1) 30 3 1 (fun pre : List EntV => (pre).length) (fun pre => (pre).flatMap fun x => [.int .i64 x.v]) (fun _ _ => True)) _) (ownFrom_below (by omega) (by omega))))
    (fun c s A B row hs hg hr => ⟨hs.1, (OwnFrom.and (Own.from (holdsRow_own (w.heap.size + 1 + 1) (w.heap.size + 1 + 1) 29 26 3 (fun pre : List EntV => (pre.take n).length) (fun pre => (pre.take n).flatMap fun x => [.int .i64 x.key.k, .string x.key.t, .int .i64 x.key.n]) (fun pre _ => n < pre.length)) _)
      (OwnFrom.and (Own.from (holdsRow_own (w.heap.size + 1 + 1) (w.heap.size + 1 + 1 + 1) 30 3 1 (fun pre : List EntV => (pre.take n).length) (fun pre => (pre.take n).flatMap fun x => [.int .i64 x.v]) (fun _ _ => True)) _) (ownFrom_below (by omega) (by omega)))) s A B row hs.2 hg hr⟩)
    ⟨⟨_, hkb2, hkr, by simp⟩, ⟨_, hvb2, hvr, trivial⟩, Below.refl _ _⟩
    (fun x a' V => ∃ Bx, w2.heap.size ≤ Bx ∧ V.heap[Bx]? = some (.cells #[.int .i64 x.key.k, .string x.key.t, .int .i64 x.key.n] 26 (0, 0)) ∧ a' = { tmps := #[.pointer (some ⟨m, 0, none⟩), .agg #[.int .i64 k.k, .string k.t, .int .i64 k.n], .bool true, .int .i64 (n : Int), undef, .pointer (some ⟨w.heap.size, 0, none⟩), undef, .pointer (some ⟨w.heap.size + 1, 0, none⟩), .slice none 0 0, .slice none 0 0, .pointer (some ⟨w.heap.size + 1 + 1, 0, none⟩), .pointer (some ⟨w.heap.size + 1 + 1 + 1, 0, none⟩), .func (.func 81) #[] #[.pointer (some ⟨w1.heap.size + 1, 0, none⟩)], .pointer (some ⟨Bx, 0, none⟩), .int .i64 x.v, .pointer (some ⟨m, 0, none⟩), .agg #[.int .i64 k.k, .string k.t, .int .i64 k.n], .func (.func 81) #[] #[.pointer (some ⟨B, 0, none⟩)], .bool true, .pointer (some ⟨m, 0, none⟩), .func (.func 81) #[] #[.pointer (some ⟨w1.heap.size + 1, 0, none⟩)], .func (.func 81) #[] #[.pointer (some ⟨w1.heap.size + 1, 0, none⟩)], .bool false, .func (.func 81) #[] #[.pointer (some ⟨w1.heap.size + 1, 0, none⟩)], .agg #[.int .i64 x.key.k, .string x.key.t, .int .i64 x.key.n], .int .i64 x.v, undef, undef, undef, undef, undef, undef, undef, undef, undef, undef, undef, undef, undef, undef], defers := [] })
    (fun x a' s A B row hs hg hr => by
      obtain ⟨Bx, h1, h2, h3⟩ := hs
      refine ⟨Bx, h1, (hg.block Bx (lt_of_block h2) (fun e => ?_)).trans h2, h3⟩
      obtain ⟨-, o, ho, hc⟩ := hr Bx e.symm
      rw [h2] at ho; cases ho; cases hc)
    ?assign ?body ?done ?stop
  case assign =>
    rintro l2 pre x V K ⟨⟨vk, hk1, hk2, hkn⟩, ⟨vv, hv1, hv2, -⟩, hBV⟩ hK
    have hbv := hBV.size
    gi_wp2
    exact hK _ _ ((KeepsOthers.alloc _ _).from _) (kpy_below ((Below.refl _ V).alloc (Nat.le_refl _) _)) ⟨⟨vk, hk1.alloc _, hk2.alloc _, hkn⟩, ⟨vv, hv1.alloc _, hv2.alloc _, trivial⟩, hBV.alloc (by omega) _⟩ ⟨V.heap.size, by omega, heap_alloc_new V _, rfl⟩
  case body =>
    rintro l2 pre x a' V hl2 ⟨r0, hr0⟩ ⟨⟨vk, hk1, hk2, hkn⟩, ⟨vv, hv1, hv2, -⟩, hBV⟩ ⟨Bx, hBx, bX, rfl⟩ hpre
    have hlen : pre.length < L.length := by
      have := hpre.length_le
      simp at this; omega
    have hbv := hBV.size
    have hnc : V.cell? ⟨w.heap.size + 1, 0, none⟩ = some (.int .i64 n) := cell_of_one ((hBV.block _ (by omega)).trans hnb2)
    have hm : V.cell? ⟨Bx, 0, none⟩ = some (.int .i64 x.key.k) ∧ V.cell? ⟨Bx, 1, none⟩ = some (.string x.key.t) ∧ V.cell? ⟨Bx, 2, none⟩ = some (.int .i64 x.key.n) := by simp [World.cell?, bX]
    obtain ⟨a3, c3, rfl, hcap3, hln3⟩ := row_cap3 hk2
    obtain ⟨a4, c4, rfl, hcap4, hln4⟩ := row_cap3 hv2
    have hkc := hk1.cell
    have hvc := hv1.cell
    have hvf := hv1.frozen
    by_cases hge : n ≤ pre.length
    · have hge2 : (n : Int) ≤ (pre.length : Int) := by omega
      have htk : (pre ++ [x]).take n = pre := by rw [show n = pre.length by omega]; simp
      have Htk := Lib.hid htk
      have Hgt : Hid (n < (pre ++ [x]).length) := Lib.hid (by simp; omega)
      clear hpre htk
      gi_wp2_with fail
      exact ⟨KeepsFrom.refl' _ _, rfl, ⟨_, hk1, by rw [Htk.out]; exact hk2, Hgt.out⟩, ⟨_, hv1, by rw [Htk.out]; exact hv2, trivial⟩, hBV⟩
    · have hn3 : ¬ (n : Int) ≤ pre.length := by omega
      have Hnn : Hid (pre.length + 1 ≤ n) := Lib.hid (by omega)
      clear hpre
      gi_wp2_with (first
        | (gi_at_builtin; refine wpListIn_append_own _ rfl _ _ 29 rfl (w.heap.size + 1 + 1) 26 i0 (.agg #[.int .i64 0, .string ⟨#[]⟩, .int .i64 0]) 3 32 Try.underlying29 hi hz0 hz1 hz2 rfl (by decide) _ _ _ rfl (hk2.alloc _) ⟨V.heap.size, 0, none⟩ 1 1 [.int .i64 x.key.k, .string x.key.t, .int .i64 x.key.n] rfl rfl (World.news_of_block (cs := #[.int .i64 x.key.k, .string x.key.t, .int .i64 x.key.n]) (t := 26) (fr := (0, 0)) (heap_alloc_new V _)) (by simp [Value.oneCell']) (by unfold maxLen; omega) (by omega) (by simp; omega) ?_; intro v' w5 hown' hgrow _; obtain ⟨g', cap', rfl⟩ := ownsRow_succ hown'; obtain ⟨hk5, hk6, hkr6, hkk6, hkb6, hv6, hvr6⟩ := two_lists hk1 hk2 hv1 hv2 (by omega) (by decide) (by decide) (by decide) (by decide) (by omega) (Nat.le_refl _) hown' hgrow; have hkc5 := hk5.cell; have hkf5 := hk5.frozen; have hkc6 := hk6.cell; have hvc6 := hv6.cell; have hsz5 := hkb6.size; (have hsz6 : V.heap.size ≤ w5.heap.size := by simpa [World.setCell] using hsz5); (have hse : (w5.setCell ⟨w.heap.size + 1 + 1, 0, none⟩ (.slice (some ⟨g', 0, none⟩) (pre.length + 1) cap')).heap.size = w5.heap.size := by simp [World.setCell]); have hkp6 := kpy_step (n₀ := w2.heap.size) hk2 hgrow (by decide) (by decide) (by decide) hk5 (by decide) (by decide) (by decide) (.slice (some ⟨g', 0, none⟩) (pre.length + 1) cap'))
        | (gi_at_builtin; refine wpListIn_append_own _ rfl _ _ 30 rfl (w.heap.size + 1 + 1) 3 i1 (.int .i64 0) 1 8 Try.underlying30 hj hy0 hy1 hy2 rfl (by decide) _ _ _ rfl (hvr6.alloc _) ⟨_, 0, none⟩ 1 1 [.int .i64 x.v] rfl rfl (by have q := cell_one_new (w5.setCell ⟨w.heap.size + 1 + 1, 0, none⟩ (.slice (some ⟨g', 0, none⟩) (pre.length + 1) cap')) (.int .i64 x.v) 3; rw [hse] at q; exact q) (by simp [Value.oneCell']) (by unfold maxLen; omega) (by omega) (by simp; omega) ?_; intro v'' w7 hown7 hgrow7 _; obtain ⟨g7, cap7, rfl⟩ := ownsRow_succ hown7; obtain ⟨hv8, hv9, hvr9, hvk9, hvb9, hk9, hkr9⟩ := two_lists hv6 hvr6 hk6 hkr6 (by omega) (by decide) (by decide) (by decide) (by decide) (by omega) (by omega) hown7 hgrow7; have hvc8 := hv8.cell; have hvf8 := hv8.frozen; have hkp9 := kpy_step (n₀ := w2.heap.size) hvr6 hgrow7 (by decide) (by decide) (by decide) hv8 (by decide) (by decide) (by decide) (.slice (some ⟨g7, 0, none⟩) (pre.length + 1) cap7))
        | fail)
      refine ⟨(hkk6.from _).trans (hvk9.from _), hkp6.trans hkp9, ⟨_, hk9, by simpa using hkr9, by simpa using Hnn.out⟩, ⟨_, hv9, by simpa using hvr9⟩, (hBV.trans hkb6).trans hvb9⟩
  case done =>
    rintro D xs V hD rfl ⟨⟨vk, hk1, hk2, hkn⟩, ⟨vv, hv1, hv2, -⟩, hBV⟩ hK
    have hkc := hk1.cell
    have hvc := hv1.cell
    gi_wp2
    refine wpIn_mono (Q := OnlyAt { tmps := #[.pointer (some ⟨m, 0, none⟩), .agg #[.int .i64 k.k, .string k.t, .int .i64 k.n], .bool true, .int .i64 (n : Int), undef, .pointer (some ⟨w.heap.size, 0, none⟩), undef, .pointer (some ⟨w.heap.size + 1, 0, none⟩), vk, vv, .pointer (some ⟨w.heap.size + 1 + 1, 0, none⟩), .pointer (some ⟨w.heap.size + 1 + 1 + 1, 0, none⟩), .func (.func 81) #[] #[.pointer (some ⟨w1.heap.size + 1, 0, none⟩)], undef, undef, .pointer (some ⟨m, 0, none⟩), .agg #[.int .i64 k.k, .string k.t, .int .i64 k.n], .func (.func 81) #[] #[.pointer (some ⟨B, 0, none⟩)], .bool true, .pointer (some ⟨m, 0, none⟩), .func (.func 81) #[] #[.pointer (some ⟨w1.heap.size + 1, 0, none⟩)], .func (.func 81) #[] #[.pointer (some ⟨w1.heap.size + 1, 0, none⟩)], .bool false, .func (.func 81) #[] #[.pointer (some ⟨w1.heap.size + 1, 0, none⟩)], undef, undef, undef, undef, undef, undef, undef, undef, undef, undef, undef, undef, undef, undef, vk, vv], defers := [{ target := .collected D, args := #[] }] } V.drew) ?_ (OnlyAt.imp ?_)
    · gi_region_with (fail)
      all_goals exact ⟨rfl, rfl⟩
    gi_wp2
    refine ⟨by simp, .inl ⟨_, _, rfl, run_takeDeferred (show V.drew.heap[D]? = _ from hK), ?_⟩⟩
    rw [List.take_of_length_le hkn]
    refine ⟨_, results_tmp2 rfl _ _ _, vk, vv, rfl, ?_, ?_, ?_⟩
    · exact World.ownsRow.mono (ownsRow_putObj hk2.drew _ hK rfl) (by omega)
    · exact World.ownsRow.mono (ownsRow_putObj hv2.drew _ hK rfl) (by omega)
    · exact (((hB0.trans (hC2.mono hB0.size)).trans (hBV.mono (by omega)))).drew.trans (belowK_b (w := w) (Nat.le_refl _) V.drew D _ _ (by omega) hK rfl rfl)
  case stop =>
    rintro D c xs V hD hpre ⟨rfl, ⟨vk, hk1, hk2, hkn⟩, ⟨vv, hv1, hv2, -⟩, hBV⟩ hK
    have hkc := hk1.cell
    have hvc := hv1.cell
    gi_wp2
    refine wpIn_mono (Q := OnlyAt { tmps := #[.pointer (some ⟨m, 0, none⟩), .agg #[.int .i64 k.k, .string k.t, .int .i64 k.n], .bool true, .int .i64 (n : Int), undef, .pointer (some ⟨w.heap.size, 0, none⟩), undef, .pointer (some ⟨w.heap.size + 1, 0, none⟩), vk, vv, .pointer (some ⟨w.heap.size + 1 + 1, 0, none⟩), .pointer (some ⟨w.heap.size + 1 + 1 + 1, 0, none⟩), .func (.func 81) #[] #[.pointer (some ⟨w1.heap.size + 1, 0, none⟩)], undef, undef, .pointer (some ⟨m, 0, none⟩), .agg #[.int .i64 k.k, .string k.t, .int .i64 k.n], .func (.func 81) #[] #[.pointer (some ⟨B, 0, none⟩)], .bool true, .pointer (some ⟨m, 0, none⟩), .func (.func 81) #[] #[.pointer (some ⟨w1.heap.size + 1, 0, none⟩)], .func (.func 81) #[] #[.pointer (some ⟨w1.heap.size + 1, 0, none⟩)], .bool false, .func (.func 81) #[] #[.pointer (some ⟨w1.heap.size + 1, 0, none⟩)], undef, undef, undef, undef, undef, undef, undef, undef, undef, undef, undef, undef, undef, undef, vk, vv], defers := [{ target := .collected D, args := #[] }] } V.drew) ?_ (OnlyAt.imp ?_)
    · gi_region_with (fail)
      all_goals exact ⟨rfl, rfl⟩
    gi_wp2
    refine ⟨by simp, .inl ⟨_, _, rfl, run_takeDeferred (show V.drew.heap[D]? = _ from hK), ?_⟩⟩
    obtain ⟨q, hq⟩ := hpre
    rw [← hq, List.take_append_of_le_length (by omega)]
    refine ⟨_, results_tmp2 rfl _ _ _, vk, vv, rfl, ?_, ?_, ?_⟩
    · exact World.ownsRow.mono (ownsRow_putObj hk2.drew _ hK rfl) (by omega)
    · exact World.ownsRow.mono (ownsRow_putObj hv2.drew _ hK rfl) (by omega)
    · exact (((hB0.trans (hC2.mono hB0.size)).trans (hBV.mono (by omega)))).drew.trans (belowK_b (w := w) (Nat.le_refl _) V.drew D _ _ (by omega) hK rfl rfl)

set_option pp.deepTerms true
set_option pp.maxSteps 1000000
set_option maxRecDepth 100000 in
set_option maxHeartbeats 4000000 in
theorem lawpairs_from (w : World) (m s : Nat) (L : List EntV) (k : SymV) (n : Nat) (h : MapAt w m s L) (hs : L.length ≤ 700) (hn2 : n ≤ 100000) :
    Calls Try.prog 21 #[.pointer (some ⟨m, 0, none⟩), .agg #[.int .i64 k.k, .string k.t, .int .i64 k.n], .bool false, .int .i64 n] w fun e w' => ∃ vk vv, e = .returned (.tuple #[vk, vv]) ∧
      w'.ownsRow w.heap.size 26 3 vk ((L.drop (pos entCmp L ⟨k, 0⟩)).take n).length (((L.drop (pos entCmp L ⟨k, 0⟩)).take n).flatMap fun x => [.int .i64 x.key.k, .string x.key.t, .int .i64 x.key.n]) ∧ w'.ownsRow w.heap.size 3 1 vv ((L.drop (pos entCmp L ⟨k, 0⟩)).take n).length (((L.drop (pos entCmp L ⟨k, 0⟩)).take n).flatMap fun x => [.int .i64 x.v]) ∧ Below w.heap.size w w' := by
  obtain ⟨i0, hi, hz0, hz1, hz2⟩ := info_parts infoS
  obtain ⟨i1, hj, hy0, hy1, hy2⟩ := info_parts infoI
  refine (callsIn_wide (n := 4)).1 ?_
  refine callsIn_of_wp_marks Try.func21 rfl trivial ?_ rfl
  simp only [Try.ntmps21, List.size_toArray, List.length_cons, List.length_nil, Nat.reduceAdd, Nat.reduceSub, Array.replicate_succ, Array.replicate_zero, List.push_toArray, List.append_toArray, List.nil_append, List.cons_append]
  have hB0 : Below w.heap.size w ((((w.alloc (.cells #[.int .i64 k.k, .string k.t, .int .i64 k.n] 26)).alloc (.cells #[.int .i64 n] 3)).alloc (.cells #[.slice none 0 0] 29)).alloc (.cells #[.slice none 0 0] 30)) := ((((Below.refl _ w).alloc (Nat.le_refl _) _).alloc (by simp) _).alloc (by simp; omega) _).alloc (by simp; omega) _
  have hvb := Boxed.new (((w.alloc (.cells #[.int .i64 k.k, .string k.t, .int .i64 k.n] 26)).alloc (.cells #[.int .i64 n] 3)).alloc (.cells #[.slice none 0 0] 29)) 30 (.slice none 0 0)
  have hkb := (Boxed.new ((w.alloc (.cells #[.int .i64 k.k, .string k.t, .int .i64 k.n] 26)).alloc (.cells #[.int .i64 n] 3)) 29 (.slice none 0 0)).alloc (.cells #[.slice none 0 0] 30)
  have hnb : ((((w.alloc (.cells #[.int .i64 k.k, .string k.t, .int .i64 k.n] 26)).alloc (.cells #[.int .i64 n] 3)).alloc (.cells #[.slice none 0 0] 29)).alloc (.cells #[.slice none 0 0] 30)).heap[w.heap.size + 1]? = some (.cells #[.int .i64 n] 3 (0, 0)) := by
    have := heap_alloc_new (w.alloc (.cells #[.int .i64 k.k, .string k.t, .int .i64 k.n] 26)) (.cells #[.int .i64 n] 3)
    simp only [World.size_alloc] at this
    exact (Below.heap_alloc _ _ _ (by simp <;> omega)).trans ((Below.heap_alloc _ _ _ (by simp <;> omega)).trans this)
  have hfb : ((((w.alloc (.cells #[.int .i64 k.k, .string k.t, .int .i64 k.n] 26)).alloc (.cells #[.int .i64 n] 3)).alloc (.cells #[.slice none 0 0] 29)).alloc (.cells #[.slice none 0 0] 30)).heap[w.heap.size]? = some (.cells #[.int .i64 k.k, .string k.t, .int .i64 k.n] 26 (0, 0)) := (Below.heap_alloc _ _ _ (by simp <;> omega)).trans ((Below.heap_alloc _ _ _ (by simp <;> omega)).trans ((Below.heap_alloc _ _ _ (by simp <;> omega)).trans (heap_alloc_new w _)))
  have hsz : ((((w.alloc (.cells #[.int .i64 k.k, .string k.t, .int .i64 k.n] 26)).alloc (.cells #[.int .i64 n] 3)).alloc (.cells #[.slice none 0 0] 29)).alloc (.cells #[.slice none 0 0] 30)).heap.size = w.heap.size + 4 := by simp
  simp only [World.size_alloc] at hvb hkb
  gi_wp2_with fail
  generalize ((((w.alloc (.cells #[.int .i64 k.k, .string k.t, .int .i64 k.n] 26)).alloc (.cells #[.int .i64 n] 3)).alloc (.cells #[.slice none 0 0] 29)).alloc (.cells #[.slice none 0 0] 30)) = W0 at hB0 hvb hkb hnb hfb hsz ⊢
  have h0 := h.below hB0
  refine ⟨trivial, ?_⟩
  refine (callsIn_wide.2 (mapfrom2_T W0 m s L k h0)).mono ?_
  rintro e w1 ⟨B, B2, B3, rfl, hp1, hp2, hp3, hB1⟩
  have h1 := h0.below hB1
  obtain ⟨w2, hw2⟩ : ∃ w2, w2 = w1 := ⟨_, rfl⟩
  have hB2 : Below w1.heap.size w1 w2 := by rw [hw2]; exact Below.refl _ _
  rw [← hw2] at hp1 hp2 hp3 ⊢
  clear hw2
  have h2 := h1.below hB2
  have hC2 := hB1.trans (hB2.mono hB1.size)
  have hvb2 : Boxed w2 _ _ _ := (hC2.block _ hvb.lt).trans hvb
  have hkb2 : Boxed w2 _ _ _ := (hC2.block _ hkb.lt).trans hkb
  have hnb2 := (hC2.block _ (lt_of_block hnb)).trans hnb
  have hs1 := hB1.size
  have hs2 := hB2.size
  have hnq := eq_nilP 81 #[.pointer (some ⟨B, 0, none⟩)]
  gi_wp2_with fail
  have hkr := World.ownsRow_nil w2 (w.heap.size + 1 + 1) 26 3
  have hvr := World.ownsRow_nil w2 (w.heap.size + 1 + 1) 3 1
  refine wpIn_rangeW rfl (by omega) (gf := 81) (lb := #[.pointer (some ⟨B, 0, none⟩)]) rfl trivial (enters_of Try.func81 (by kernel_rfl) rfl)
    (pairs_from_stops 3 w2.heap.size _ _ _ s L ⟨k, 0⟩ w2 hp1 hp2 hp3 h2.2 (by omega) (Nat.le_refl _)) (fun h k => h.trans k) (fun W l o o' h hc => KpY.putObj W l o o' h hc) (Below.refl _ _) (fun _ => rfl)
    (fun pre V => (∃ v, Boxed V (w.heap.size + 1 + 1) 29 v ∧ V.ownsRow (w.heap.size + 1 + 1) 26 3 v (pre).length ((pre).flatMap fun x => [.int .i64 x.key.k, .string x.key.t, .int .i64 x.key.n]) ∧ pre.length ≤ n) ∧
      (∃ v, Boxed V (w.heap.size + 1 + 1 + 1) 30 v ∧ V.ownsRow (w.heap.size + 1 + 1) 3 1 v (pre).length ((pre).flatMap fun x => [.int .i64 x.v]) ∧ True) ∧ Below (w.heap.size + 1 + 1) w2 V)
    (fun c pre V => c = .exit 0 ∧ (∃ v, Boxed V (w.heap.size + 1 + 1) 29 v ∧ V.ownsRow (w.heap.size + 1 + 1) 26 3 v (pre.take n).length ((pre.take n).flatMap fun x => [.int .i64 x.key.k, .string x.key.t, .int .i64 x.key.n]) ∧ n < pre.length) ∧
      (∃ v, Boxed V (w.heap.size + 1 + 1 + 1) 30 v ∧ V.ownsRow (w.heap.size + 1 + 1) 3 1 v (pre.take n).length ((pre.take n).flatMap fun x => [.int .i64 x.v]) ∧ True) ∧ Below (w.heap.size + 1 + 1) w2 V)
    (OwnFrom.and (Own.from (holdsRow_own (w.heap.size + 1 + 1) (w.heap.size + 1 + 1) 29 26 3 (fun pre : List EntV => (pre).length) (fun pre => (pre).flatMap fun x => [.int .i64 x.key.k, .string x.key.t, .int .i64 x.key.n]) (fun pre _ => pre.length ≤ n)) _)
      (OwnFrom.and (Own.from (holdsRow_own (w.heap.size + 1 + 1) (w.heap.size + 1 + 1 + 1) 30 3 1 (fun pre : List EntV => (pre).length) (fun pre => (pre).flatMap fun x => [.int .i64 x.v]) (fun _ _ => True)) _) (ownFrom_below (by omega) (by omega))))
    (fun c s A B row hs hg hr => ⟨hs.1, (OwnFrom.and (Own.from (holdsRow_own (w.heap.size + 1 + 1) (w.heap.size + 1 + 1) 29 26 3 (fun pre : List EntV => (pre.take n).length) (fun pre => (pre.take n).flatMap fun x => [.int .i64 x.key.k, .string x.key.t, .int .i64 x.key.n]) (fun pre _ => n < pre.length)) _)
      (OwnFrom.and (Own.from (holdsRow_own (w.heap.size + 1 + 1) (w.heap.size + 1 + 1 + 1) 30 3 1 (fun pre : List EntV => (pre.take n).length) (fun pre => (pre.take n).flatMap fun x => [.int .i64 x.v]) (fun _ _ => True)) _) (ownFrom_below (by omega) (by omega)))) s A B row hs.2 hg hr⟩)
    ⟨⟨_, hkb2, hkr, by simp⟩, ⟨_, hvb2, hvr, trivial⟩, Below.refl _ _⟩
    (fun x a' V => ∃ Bx, w2.heap.size ≤ Bx ∧ V.heap[Bx]? = some (.cells #[.int .i64 x.key.k, .string x.key.t, .int .i64 x.key.n] 26 (0, 0)) ∧ a' = { tmps := #[.pointer (some ⟨m, 0, none⟩), .agg #[.int .i64 k.k, .string k.t, .int .i64 k.n], .bool false, .int .i64 (n : Int), undef, .pointer (some ⟨w.heap.size, 0, none⟩), undef, .pointer (some ⟨w.heap.size + 1, 0, none⟩), .slice none 0 0, .slice none 0 0, .pointer (some ⟨w.heap.size + 1 + 1, 0, none⟩), .pointer (some ⟨w.heap.size + 1 + 1 + 1, 0, none⟩), .func (.func 81) #[] #[.pointer (some ⟨B, 0, none⟩)], .pointer (some ⟨Bx, 0, none⟩), .int .i64 x.v, .pointer (some ⟨m, 0, none⟩), .agg #[.int .i64 k.k, .string k.t, .int .i64 k.n], .func (.func 81) #[] #[.pointer (some ⟨B, 0, none⟩)], .bool false, undef, undef, .func (.func 81) #[] #[.pointer (some ⟨B, 0, none⟩)], .bool false, .func (.func 81) #[] #[.pointer (some ⟨B, 0, none⟩)], .agg #[.int .i64 x.key.k, .string x.key.t, .int .i64 x.key.n], .int .i64 x.v, undef, undef, undef, undef, undef, undef, undef, undef, undef, undef, undef, undef, undef, undef], defers := [] })
    (fun x a' s A B row hs hg hr => by
      obtain ⟨Bx, h1, h2, h3⟩ := hs
      refine ⟨Bx, h1, (hg.block Bx (lt_of_block h2) (fun e => ?_)).trans h2, h3⟩
      obtain ⟨-, o, ho, hc⟩ := hr Bx e.symm
      rw [h2] at ho; cases ho; cases hc)
    ?assign ?body ?done ?stop
  case assign =>
    rintro l2 pre x V K ⟨⟨vk, hk1, hk2, hkn⟩, ⟨vv, hv1, hv2, -⟩, hBV⟩ hK
    have hbv := hBV.size
    gi_wp2
    exact hK _ _ ((KeepsOthers.alloc _ _).from _) (kpy_below ((Below.refl _ V).alloc (Nat.le_refl _) _)) ⟨⟨vk, hk1.alloc _, hk2.alloc _, hkn⟩, ⟨vv, hv1.alloc _, hv2.alloc _, trivial⟩, hBV.alloc (by omega) _⟩ ⟨V.heap.size, by omega, heap_alloc_new V _, rfl⟩
  case body =>
    rintro l2 pre x a' V hl2 ⟨r0, hr0⟩ ⟨⟨vk, hk1, hk2, hkn⟩, ⟨vv, hv1, hv2, -⟩, hBV⟩ ⟨Bx, hBx, bX, rfl⟩ hpre
    have hlen : pre.length < L.length := by
      have := hpre.length_le
      simp at this; omega
    have hbv := hBV.size
    have hnc : V.cell? ⟨w.heap.size + 1, 0, none⟩ = some (.int .i64 n) := cell_of_one ((hBV.block _ (by omega)).trans hnb2)
    have hm : V.cell? ⟨Bx, 0, none⟩ = some (.int .i64 x.key.k) ∧ V.cell? ⟨Bx, 1, none⟩ = some (.string x.key.t) ∧ V.cell? ⟨Bx, 2, none⟩ = some (.int .i64 x.key.n) := by simp [World.cell?, bX]
    obtain ⟨a3, c3, rfl, hcap3, hln3⟩ := row_cap3 hk2
    obtain ⟨a4, c4, rfl, hcap4, hln4⟩ := row_cap3 hv2
    have hkc := hk1.cell
    have hvc := hv1.cell
    have hvf := hv1.frozen
    by_cases hge : n ≤ pre.length
    · have hge2 : (n : Int) ≤ (pre.length : Int) := by omega
      have htk : (pre ++ [x]).take n = pre := by rw [show n = pre.length by omega]; simp
      have Htk := Lib.hid htk
      have Hgt : Hid (n < (pre ++ [x]).length) := Lib.hid (by simp; omega)
      clear hpre htk
      gi_wp2_with fail
      exact ⟨KeepsFrom.refl' _ _, rfl, ⟨_, hk1, by rw [Htk.out]; exact hk2, Hgt.out⟩, ⟨_, hv1, by rw [Htk.out]; exact hv2, trivial⟩, hBV⟩
    · have hn3 : ¬ (n : Int) ≤ pre.length := by omega
      have Hnn : Hid (pre.length + 1 ≤ n) := Lib.hid (by omega)
      clear hpre
      gi_wp2_with (first
        | (gi_at_builtin; refine wpListIn_append_own _ rfl _ _ 29 rfl (w.heap.size + 1 + 1) 26 i0 (.agg #[.int .i64 0, .string ⟨#[]⟩, .int .i64 0]) 3 32 Try.underlying29 hi hz0 hz1 hz2 rfl (by decide) _ _ _ rfl (hk2.alloc _) ⟨V.heap.size, 0, none⟩ 1 1 [.int .i64 x.key.k, .string x.key.t, .int .i64 x.key.n] rfl rfl (World.news_of_block (cs := #[.int .i64 x.key.k, .string x.key.t, .int .i64 x.key.n]) (t := 26) (fr := (0, 0)) (heap_alloc_new V _)) (by simp [Value.oneCell']) (by unfold maxLen; omega) (by omega) (by simp; omega) ?_; intro v' w5 hown' hgrow _; obtain ⟨g', cap', rfl⟩ := ownsRow_succ hown'; obtain ⟨hk5, hk6, hkr6, hkk6, hkb6, hv6, hvr6⟩ := two_lists hk1 hk2 hv1 hv2 (by omega) (by decide) (by decide) (by decide) (by decide) (by omega) (Nat.le_refl _) hown' hgrow; have hkc5 := hk5.cell; have hkf5 := hk5.frozen; have hkc6 := hk6.cell; have hvc6 := hv6.cell; have hsz5 := hkb6.size; (have hsz6 : V.heap.size ≤ w5.heap.size := by simpa [World.setCell] using hsz5); (have hse : (w5.setCell ⟨w.heap.size + 1 + 1, 0, none⟩ (.slice (some ⟨g', 0, none⟩) (pre.length + 1) cap')).heap.size = w5.heap.size := by simp [World.setCell]); have hkp6 := kpy_step (n₀ := w2.heap.size) hk2 hgrow (by decide) (by decide) (by decide) hk5 (by decide) (by decide) (by decide) (.slice (some ⟨g', 0, none⟩) (pre.length + 1) cap'))
        | (gi_at_builtin; refine wpListIn_append_own _ rfl _ _ 30 rfl (w.heap.size + 1 + 1) 3 i1 (.int .i64 0) 1 8 Try.underlying30 hj hy0 hy1 hy2 rfl (by decide) _ _ _ rfl (hvr6.alloc _) ⟨_, 0, none⟩ 1 1 [.int .i64 x.v] rfl rfl (by have q := cell_one_new (w5.setCell ⟨w.heap.size + 1 + 1, 0, none⟩ (.slice (some ⟨g', 0, none⟩) (pre.length + 1) cap')) (.int .i64 x.v) 3; rw [hse] at q; exact q) (by simp [Value.oneCell']) (by unfold maxLen; omega) (by omega) (by simp; omega) ?_; intro v'' w7 hown7 hgrow7 _; obtain ⟨g7, cap7, rfl⟩ := ownsRow_succ hown7; obtain ⟨hv8, hv9, hvr9, hvk9, hvb9, hk9, hkr9⟩ := two_lists hv6 hvr6 hk6 hkr6 (by omega) (by decide) (by decide) (by decide) (by decide) (by omega) (by omega) hown7 hgrow7; have hvc8 := hv8.cell; have hvf8 := hv8.frozen; have hkp9 := kpy_step (n₀ := w2.heap.size) hvr6 hgrow7 (by decide) (by decide) (by decide) hv8 (by decide) (by decide) (by decide) (.slice (some ⟨g7, 0, none⟩) (pre.length + 1) cap7))
        | fail)
      refine ⟨(hkk6.from _).trans (hvk9.from _), hkp6.trans hkp9, ⟨_, hk9, by simpa using hkr9, by simpa using Hnn.out⟩, ⟨_, hv9, by simpa using hvr9⟩, (hBV.trans hkb6).trans hvb9⟩
  case done =>
    rintro D xs V hD rfl ⟨⟨vk, hk1, hk2, hkn⟩, ⟨vv, hv1, hv2, -⟩, hBV⟩ hK
    have hkc := hk1.cell
    have hvc := hv1.cell
    gi_wp2
    refine wpIn_mono (Q := OnlyAt { tmps := #[.pointer (some ⟨m, 0, none⟩), .agg #[.int .i64 k.k, .string k.t, .int .i64 k.n], .bool false, .int .i64 (n : Int), undef, .pointer (some ⟨w.heap.size, 0, none⟩), undef, .pointer (some ⟨w.heap.size + 1, 0, none⟩), vk, vv, .pointer (some ⟨w.heap.size + 1 + 1, 0, none⟩), .pointer (some ⟨w.heap.size + 1 + 1 + 1, 0, none⟩), .func (.func 81) #[] #[.pointer (some ⟨B, 0, none⟩)], undef, undef, .pointer (some ⟨m, 0, none⟩), .agg #[.int .i64 k.k, .string k.t, .int .i64 k.n], .func (.func 81) #[] #[.pointer (some ⟨B, 0, none⟩)], .bool false, undef, undef, .func (.func 81) #[] #[.pointer (some ⟨B, 0, none⟩)], .bool false, .func (.func 81) #[] #[.pointer (some ⟨B, 0, none⟩)], undef, undef, undef, undef, undef, undef, undef, undef, undef, undef, undef, undef, undef, undef, vk, vv], defers := [{ target := .collected D, args := #[] }] } V.drew) ?_ (OnlyAt.imp ?_)
    · gi_region_with (fail)
      all_goals exact ⟨rfl, rfl⟩
    gi_wp2
    refine ⟨by simp, .inl ⟨_, _, rfl, run_takeDeferred (show V.drew.heap[D]? = _ from hK), ?_⟩⟩
    rw [List.take_of_length_le hkn]
    refine ⟨_, results_tmp2 rfl _ _ _, vk, vv, rfl, ?_, ?_, ?_⟩
    · exact World.ownsRow.mono (ownsRow_putObj hk2.drew _ hK rfl) (by omega)
    · exact World.ownsRow.mono (ownsRow_putObj hv2.drew _ hK rfl) (by omega)
    · exact (((hB0.trans (hC2.mono hB0.size)).trans (hBV.mono (by omega)))).drew.trans (belowK_b (w := w) (Nat.le_refl _) V.drew D _ _ (by omega) hK rfl rfl)
  case stop =>
    rintro D c xs V hD hpre ⟨rfl, ⟨vk, hk1, hk2, hkn⟩, ⟨vv, hv1, hv2, -⟩, hBV⟩ hK
    have hkc := hk1.cell
    have hvc := hv1.cell
    gi_wp2
    refine wpIn_mono (Q := OnlyAt { tmps := #[.pointer (some ⟨m, 0, none⟩), .agg #[.int .i64 k.k, .string k.t, .int .i64 k.n], .bool false, .int .i64 (n : Int), undef, .pointer (some ⟨w.heap.size, 0, none⟩), undef, .pointer (some ⟨w.heap.size + 1, 0, none⟩), vk, vv, .pointer (some ⟨w.heap.size + 1 + 1, 0, none⟩), .pointer (some ⟨w.heap.size + 1 + 1 + 1, 0, none⟩), .func (.func 81) #[] #[.pointer (some ⟨B, 0, none⟩)], undef, undef, .pointer (some ⟨m, 0, none⟩), .agg #[.int .i64 k.k, .string k.t, .int .i64 k.n], .func (.func 81) #[] #[.pointer (some ⟨B, 0, none⟩)], .bool false, undef, undef, .func (.func 81) #[] #[.pointer (some ⟨B, 0, none⟩)], .bool false, .func (.func 81) #[] #[.pointer (some ⟨B, 0, none⟩)], undef, undef, undef, undef, undef, undef, undef, undef, undef, undef, undef, undef, undef, undef, vk, vv], defers := [{ target := .collected D, args := #[] }] } V.drew) ?_ (OnlyAt.imp ?_)
    · gi_region_with (fail)
      all_goals exact ⟨rfl, rfl⟩
    gi_wp2
    refine ⟨by simp, .inl ⟨_, _, rfl, run_takeDeferred (show V.drew.heap[D]? = _ from hK), ?_⟩⟩
    obtain ⟨q, hq⟩ := hpre
    rw [← hq, List.take_append_of_le_length (by omega)]
    refine ⟨_, results_tmp2 rfl _ _ _, vk, vv, rfl, ?_, ?_, ?_⟩
    · exact World.ownsRow.mono (ownsRow_putObj hk2.drew _ hK rfl) (by omega)
    · exact World.ownsRow.mono (ownsRow_putObj hv2.drew _ hK rfl) (by omega)
    · exact (((hB0.trans (hC2.mono hB0.size)).trans (hBV.mono (by omega)))).drew.trans (belowK_b (w := w) (Nat.le_refl _) V.drew D _ _ (by omega) hK rfl rfl)

end Go.Proofs.Ytbpibbcehfkeeaa.E
