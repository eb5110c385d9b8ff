/- BookLists returns true, whatever it is given. Conditions: none but that the lists lie in memory. -/
import Derived.Test.YtmmpdgabojppnaaListsIn
import Derived.Test.YtmmpdgabojppnaaWakesB
import Derived.Test.YtmmpdgabojppnaaPairsEL
import Derived.Sort.LoopGhostIn
namespace Go.Proofs.Ytmmpdgabojppnaa
open Go Go.RowKit Go.Shelf

attribute [local go_sem] Oper.semAt_some

theorem put_last {α : Type} {cmp : α → α → Int} {L : List α} {x : α} (h : ∀ y ∈ L, 0 < cmp x y) : has cmp L x = false ∧ put cmp L x = L ++ [x] := by
  have h1 : has cmp L x = false := by
    unfold has; rw [List.any_eq_false]; intro y hy; have := h y hy; simp; omega
  have h2 : pos cmp L x = L.length := by
    unfold pos; rw [List.filter_eq_self.2 (fun y hy => by simpa using h y hy)]
  refine ⟨h1, ?_⟩
  rw [put, h1, if_neg (by simp), ins, h2]; simp

/-- The entries that the law puts in. -/
def ents (rs : List (SlV × List Int)) : List EntL := rs.zipIdx.map fun p => ⟨⟨2, ⟨#[]⟩, (p.2 : Int)⟩, p.1.1⟩

theorem ents_snoc (rs : List (SlV × List Int)) (r : SlV × List Int) : ents (rs ++ [r]) = ents rs ++ [⟨⟨2, ⟨#[]⟩, (rs.length : Int)⟩, r.1⟩] := by
  simp [ents, List.zipIdx_append]

theorem ents_get (rs : List (SlV × List Int)) (i : Nat) (r : SlV × List Int) (h : rs[i]? = some r) : (ents rs)[i]? = some ⟨⟨2, ⟨#[]⟩, (i : Int)⟩, r.1⟩ := by
  simp [ents, List.getElem?_map, List.getElem?_zipIdx, h]

theorem ents_length (rs : List (SlV × List Int)) : (ents rs).length = rs.length := by simp [ents]

theorem ents_put (rs : List (SlV × List Int)) (v : SlV) :
    has entCmpL (ents rs) ⟨⟨2, ⟨#[]⟩, (rs.length : Int)⟩, v⟩ = false ∧ put entCmpL (L.drop entCmpL (ents rs) ⟨⟨2, ⟨#[]⟩, (rs.length : Int)⟩, v⟩) ⟨⟨2, ⟨#[]⟩, (rs.length : Int)⟩, v⟩ = ents rs ++ [⟨⟨2, ⟨#[]⟩, (rs.length : Int)⟩, v⟩] := by
  have h : ∀ y ∈ ents rs, 0 < entCmpL ⟨⟨2, ⟨#[]⟩, (rs.length : Int)⟩, v⟩ y := by
    intro y hy
    obtain ⟨i, hi⟩ := List.mem_iff_getElem?.1 hy
    have hlt : i < rs.length := by have := (List.getElem?_eq_some_iff.1 hi).1; rwa [ents_length] at this
    rw [ents_get rs i rs[i] (by simp [hlt])] at hi
    cases hi
    show 0 < symCmp _ _
    have e : symCmp ⟨2, ⟨#[]⟩, (rs.length : Int)⟩ ⟨2, ⟨#[]⟩, (i : Int)⟩ = icmp rs.length i := symCmp_n (by simp [icmp]) (scmp_lin.refl _)
    show 0 < symCmp ⟨2, ⟨#[]⟩, (rs.length : Int)⟩ ⟨2, ⟨#[]⟩, (i : Int)⟩
    rw [e]
    unfold icmp
    rw [if_neg (by omega), if_pos (by omega)]
    decide
  obtain ⟨h1, h2⟩ := put_last h
  exact ⟨h1, by rw [L.drop, h1, if_neg (by simp)]; exact h2⟩

theorem kpy_below {n₀ : Nat} {W W' : World} (h : Below W.heap.size W W') : L.KpY n₀ W W' := ⟨fun b _ _ hb => (h.block b (lt_of_block hb)).trans hb, fun b _ _ _ hb => (h.block b (lt_of_block hb)).trans hb⟩

theorem kpy_set {n₀ b o : Nat} {W : World} {c : Array Value} {T : TypeId} {f : Nat × Nat} {v : Value} (h : W.heap[b]? = some (.cells c T f)) (h1 : T ≠ 185) (h2 : T ≠ 85) (h3 : T ≠ 102) : L.KpY n₀ W (W.setCell ⟨b, o, none⟩ v) := by
  refine ⟨fun k c' _ hk => (Below.heap_setCell _ _ _ _ ?_).trans hk, fun k c' T' hT hk => (Below.heap_setCell _ _ _ _ ?_).trans hk⟩
  · rintro rfl
    rw [h] at hk; cases hk; exact h1 rfl
  · rintro rfl
    rw [h] at hk; cases hk
    rcases hT with rfl | rfl
    · exact h2 rfl
    · exact h3 rfl

theorem eq_nil2 (gf : Nat) (lb : Array Value) (w : World) : (binOp .eql 87 (.func (.func gf) #[] lb) .nilFunc).run Try.prog w = .ok (.bool false) w := by kernel_rfl

set_option maxRecDepth 100000 in
set_option maxHeartbeats 4000000 in
theorem lists_walk (w : World) (v : Value) (rs : List (SlV × List Int)) (hv : RowsOf w v rs) (hl : rs.length ≤ 40) :
    Calls Try.prog 9 #[v] w fun e w' => e = .returned (.bool true) ∧ Below w.heap.size w w' := by
  obtain ⟨a, cap, rfl, hc⟩ := hv
  refine (callsIn_wide (n := 4)).1 ?_
  refine callsIn_of_wp_marks Try.func9 rfl trivial ?_ rfl
  simp only [Try.ntmps9, List.size_toArray, List.length_cons, List.length_nil, Nat.reduceAdd, Nat.reduceSub, Array.replicate_succ, Array.replicate_zero, List.push_toArray, List.append_toArray, List.nil_append, List.cons_append]
  gi_wp2_with fail
  refine ⟨trivial, ?_⟩
  have hB0 : Below w.heap.size w ((w.alloc (.cells #[.slice a rs.length cap] 82)).alloc (.cells #[.bool false] 4)) := ((Below.refl _ w).alloc (Nat.le_refl _) _).alloc (by simp) _
  have hlb : ((w.alloc (.cells #[.slice a rs.length cap] 82)).alloc (.cells #[.bool false] 4)).heap[w.heap.size]? = some (.cells #[.slice a rs.length cap] 82 (0, 0)) := (Below.heap_alloc _ _ _ (by simp)).trans (heap_alloc_new w _)
  have hrb := heap_alloc_new (w.alloc (.cells #[.slice a rs.length cap] 82)) (.cells #[.bool false] 4)
  simp only [World.size_alloc] at hrb
  have hsz0 : ((w.alloc (.cells #[.slice a rs.length cap] 82)).alloc (.cells #[.bool false] 4)).heap.size = w.heap.size + 2 := by simp
  generalize ((w.alloc (.cells #[.slice a rs.length cap] 82)).alloc (.cells #[.bool false] 4)) = W0 at hB0 hlb hrb hsz0 ⊢
  refine (callsIn_wide.2 (L.mapnew_T W0)).mono ?_
  rintro e w1 ⟨m, s, rfl, hm, hs, hM, hB1⟩
  have hfacts : ∀ W, Below W0.heap.size W0 W → W.cell? ⟨w.heap.size, 0, none⟩ = some (.slice a rs.length cap) ∧ W.heap[w.heap.size + 1]? = some (.cells #[.bool false] 4 (0, 0)) ∧ Below w.heap.size w W := fun W h =>
    ⟨cell_of_one ((h.block _ (lt_of_block hlb)).trans hlb), (h.block _ (lt_of_block hrb)).trans hrb, hB0.trans (h.mono hB0.size)⟩
  have hel : ∀ W j r, Below w.heap.size w W → rs[j]? = some r → ∃ b off, a = some ⟨b, off, none⟩ ∧ W.cell? ⟨b, off + j, none⟩ = some (.slice r.1.a r.1.n r.1.c) ∧ IntsOf W (.slice r.1.a r.1.n r.1.c) r.2 ∧ r.1.n = r.2.length := by
    intro W j r hB hr
    rcases hc with rfl | ⟨b, off, rfl, h⟩
    · simp at hr
    · obtain ⟨h1, h2⟩ := h j r hr
      have h3 := h2.below hB
      refine ⟨b, off, rfl, (hB.cell (p := ⟨b, off + j, none⟩) (World.block_lt_of_cell? w _ h1)).trans h1, h3, ?_⟩
      obtain ⟨a', c', e, -⟩ := h3
      simp only [Value.slice.injEq] at e
      exact e.2.1
  have Hel := Lib.hid hel
  have Hfacts := Lib.hid hfacts
  clear hc hel hfacts
  obtain ⟨q0, q1, q2⟩ := Hfacts.out w1 hB1
  have q3 := cell_of_one q1
  have q4 := free_of_one q1
  gi_wp2_with fail
  gi_loopg [4] rs.length (fun k i wr => ∃ j : Nat, i = .int .i64 j ∧ j ≤ rs.length ∧ Hid (k = rs.length - j) ∧ Hid (L.MapAt wr m s (ents (rs.take j))) ∧ Hid (∀ q r, q < j → rs[q]? = some r → r.2.length ≤ 50) ∧ Below W0.heap.size W0 wr)
  case atStart => exact ⟨0, rfl, by omega, Lib.hid rfl, Lib.hid hM, Lib.hid (fun q r h => by omega), hB1⟩
  case round =>
    obtain ⟨j, rfl, hj, Hk, HM, Hsm, hBr⟩ := hrel
    clear q0 q1 q2 q3 q4
    obtain ⟨q0, q1, q2⟩ := Hfacts.out wr hBr
    have q3 := cell_of_one q1
    have q4 := free_of_one q1
    by_cases hlt : j < rs.length
    · obtain ⟨r, hr⟩ : ∃ r, rs[j]? = some r := ⟨rs[j], by simp [hlt]⟩
      obtain ⟨b, off, rfl, hrc, hri, hrn⟩ := Hel.out wr j r q2 hr
      have Hr := Lib.hid hr
      have Hrn := Lib.hid hrn
      by_cases hbig : 50 < r.2.length
      · have hbig2 : 50 < r.1.n := by omega
        have hbig3 : (50 : Int) < r.1.n := by omega
        clear hr hri hrn
        gi_wp2_with fail
        refine ⟨trivial, ?_⟩
        gi_wp2_with fail
        have hc5 := World.cell?_setCell_same' wr ⟨w.heap.size + 1, 0, none⟩ (.bool true) (by rw [q3]; rfl)
        refine ⟨.bool true, ?_, rfl, ?_⟩
        · simp [results, Try.results9, go_sem, hc5]
        · exact But.below q2 ((But.refl (w.heap.size + 1) wr).setCell 0 (.bool true)) (by omega) q2.size
      · have hbig2 : ¬ 50 < r.1.n := by omega
        have hbig3 : ¬ (50 : Int) < r.1.n := by omega
        have hbig4 : (50 < r.1.n) = False := by simp; omega
        have hel1 : (rs.take j).length = j := by rw [List.length_take]; omega
        have hep := ents_put (rs.take j) r.1
        rw [hel1] at hep
        have hput := L.mapput_T wr m s (ents (rs.take j)) ⟨⟨2, ⟨#[]⟩, (j : Int)⟩, r.1⟩ HM.out (by rw [ents_length, hel1]; omega)
        rw [hep.1, hep.2] at hput
        have hes : ents (rs.take (j + 1)) = ents (rs.take j) ++ [⟨⟨2, ⟨#[]⟩, (j : Int)⟩, r.1⟩] := by
          have e : rs.take (j + 1) = rs.take j ++ [r] := by rw [List.take_add_one, hr]; rfl
          rw [e, ents_snoc, hel1]
        dsimp only at hput
        have Hes := Lib.hid hes
        have Hput := Lib.hid (callsIn_wide (n := 3).2 hput)
        clear hr hri hrn hep hes hel1 hput
        gi_wp2_with fail
        refine ⟨trivial, ?_⟩
        refine Hput.out.mono ?_
        rintro e w5 ⟨rfl, hM5, hb5⟩
        have hBr5 : Below W0.heap.size W0 w5 := But.below hBr hb5 hs hBr.size
        gi_wp2_with fail
        gi_roundg (rs.length - (j + 1))
        case measure => rw [Hk.out]; omega
        case rel =>
          refine ⟨j + 1, by go_num, by omega, Lib.hid rfl, Lib.hid (by rw [Hes.out]; exact hM5), Lib.hid (fun q r' hq hr' => ?_), hBr5⟩
          rcases Nat.lt_or_ge q j with h | h
          · exact Hsm.out q r' h hr'
          · obtain rfl : q = j := by omega
            rw [Hr.out] at hr'; cases hr'; omega
    · obtain rfl : j = rs.length := by omega
      rw [List.take_length] at HM
      gi_wp2_with fail
      have hBi : Below wr.heap.size wr (wr.alloc (.cells #[.int .i64 0] 3)) := (Below.refl _ wr).alloc (Nat.le_refl _) _
      have hib := heap_alloc_new wr (.cells #[.int .i64 0] 3)
      have hMi := HM.out.below hBi
      have hszi : (wr.alloc (.cells #[.int .i64 0] 3)).heap.size = wr.heap.size + 1 := by simp
      have hBri := hBr.trans (hBi.mono hBr.size)
      generalize (wr.alloc (.cells #[.int .i64 0] 3)) = Wi at hBi hib hMi hszi hBri ⊢
      refine ⟨trivial, ?_⟩
      refine (callsIn_wide.2 (L.mapall_T Wi m s _ hMi)).mono ?_
      rintro e w2 ⟨rfl, hp1, hp2, hB2⟩
      have hM2 := hMi.below hB2
      have hib2 := (hB2.block _ (lt_of_block hib)).trans hib
      have hBr2 := hBri.trans (hB2.mono hBri.size)
      have hs2 := hB2.size
      have hwr := hBr.size
      have hnq := eq_nil2 97 #[.pointer (some ⟨Wi.heap.size + 1, 0, none⟩)]
      rw [hszi] at hnq hp1 hp2
      clear q0 q1 q2 q3 q4
      gi_wp2_with fail
      refine wpIn_rangeW rfl (by omega) (gf := 97) (lb := #[.pointer (some ⟨wr.heap.size + 1 + 1, 0, none⟩)]) rfl trivial (enters_of Try.func97 (by kernel_rfl) rfl)
        (L.pairs_stops 3 w2.heap.size _ _ s (ents rs) w2 hp1 hp2 hM2.2 (by rw [ents_length]; omega) (Nat.le_refl _)) (fun h k => h.trans k) (fun W l o o' h hc => L.KpY.putObj W l o o' h hc) (Below.refl _ _) (fun _ => rfl)
        (fun pre V => V.heap[wr.heap.size]? = some (.cells #[.int .i64 (pre.length : Int)] 3 (0, 0)) ∧ Below wr.heap.size w2 V)
        (fun _ _ _ => False)
        (OwnFrom.and (fun _ A B row h hg hr => (hg.block _ (lt_of_block h) (fun e => by obtain ⟨-, o, ho, hc⟩ := hr _ e.symm; rw [h] at ho; cases ho; cases hc)).trans h) (ownFrom_below (by omega) (by omega)))
        (fun _ _ _ _ _ hs _ _ => hs)
        ⟨hib2, Below.refl _ _⟩
        (fun x a' V => ∃ Bx, wr.heap.size < Bx ∧ V.heap[Bx]? = some (.cells #[.int .i64 x.key.k, .string x.key.t, .int .i64 x.key.n] 26 (0, 0)) ∧ a' = { tmps := #[.slice a rs.length cap, .pointer (some ⟨w.heap.size, 0, none⟩), .pointer (some ⟨w.heap.size + 1, 0, none⟩), .pointer (some ⟨m, 0, none⟩), .int .i64 (rs.length : Int), .pointer (some ⟨wr.heap.size, 0, none⟩), .func (.func 97) #[] #[.pointer (some ⟨wr.heap.size + 1 + 1, 0, none⟩)], .pointer (some ⟨Bx, 0, none⟩), .slice x.v.a x.v.n x.v.c, .slice a rs.length cap, .int .i64 (rs.length : Int), .bool (decide (40 < (rs.length : Int))), undef, .pointer (some ⟨m, 0, none⟩), .pointer (some ⟨m, 0, none⟩), .bool false, .int .i64 (rs.length : Int), .slice a rs.length cap, .int .i64 (rs.length : Int), .bool false, u20, u21, u22, u23, u24, u25, u26, u27, u28, u29, u30, u31, u32, u33, u34, u35, u36, u37, u38, u39, u40, u41, u42, u43, u44, .pointer (some ⟨m, 0, none⟩), .func (.func 97) #[] #[.pointer (some ⟨wr.heap.size + 1 + 1, 0, none⟩)], .func (.func 97) #[] #[.pointer (some ⟨wr.heap.size + 1 + 1, 0, none⟩)], .bool false, .func (.func 97) #[] #[.pointer (some ⟨wr.heap.size + 1 + 1, 0, none⟩)], .agg #[.int .i64 x.key.k, .string x.key.t, .int .i64 x.key.n], .slice x.v.a x.v.n x.v.c, undef, undef, undef, undef, undef, undef, undef, undef, undef, undef, undef, undef, undef, undef, undef, undef, undef, undef, undef, undef, undef, undef, undef, undef, undef, undef, undef, undef], defers := [] })
        (fun x a' s A B row hs hg hr => by
          obtain ⟨Bx, h1, h2, h3⟩ := hs
          refine ⟨Bx, h1, (hg.block Bx (lt_of_block h2) (fun e => ?_)).trans h2, h3⟩
          obtain ⟨-, o, ho, hc⟩ := hr Bx e.symm
          rw [h2] at ho; cases ho; cases hc)
        ?assign ?body ?done ?stop
      case assign =>
        rintro l2 pre x V K ⟨hy, hBV⟩ hK
        have hbv := hBV.size
        gi_wp2
        exact hK _ _ ((KeepsOthers.alloc _ _).from _) (kpy_below ((Below.refl _ V).alloc (Nat.le_refl _) _)) ⟨(Below.heap_alloc _ _ _ (by have := lt_of_block hy; omega)).trans hy, hBV.alloc (by omega) _⟩ ⟨V.heap.size, lt_of_block hy, heap_alloc_new V _, rfl⟩
      case body =>
        rintro l2 pre x a' V hl2 ⟨r0, hr0⟩ ⟨hy, hBV⟩ ⟨Bx, hBx, bX, rfl⟩ hpre
        have hlen : pre.length < rs.length := by
          have := hpre.length_le
          rw [ents_length] at this
          simp at this; omega
        obtain ⟨r, hr⟩ : ∃ r, rs[pre.length]? = some r := ⟨rs[pre.length], by simp [hlen]⟩
        obtain rfl : x = ⟨⟨2, ⟨#[]⟩, (pre.length : Int)⟩, r.1⟩ := by
          obtain ⟨q, hq⟩ := hpre
          have h1 := ents_get rs pre.length r hr
          rw [← hq] at h1
          simpa using h1
        have hsmall := Hsm.out pre.length r hlen hr
        have hBW : Below W0.heap.size W0 V := hBr2.trans (hBV.mono (by omega))
        obtain ⟨q0, q1, q2⟩ := Hfacts.out V hBW
        obtain ⟨b, off, rfl, hrc, hri, hrn⟩ := Hel.out V pre.length r q2 hr
        have hm : V.cell? ⟨Bx, 0, none⟩ = some (.int .i64 2) ∧ V.cell? ⟨Bx, 1, none⟩ = some (.string ⟨#[]⟩) ∧ V.cell? ⟨Bx, 2, none⟩ = some (.int .i64 pre.length) := by simp [World.cell?, bX]
        have hyc := cell_of_one hy
        have hn1 : ¬ rs.length ≤ pre.length := by omega
        have hn2 : (pre.length : Int) < rs.length := by omega
        have hints := callsIn_wide (n := 1).2 (ints_same V _ r.2 hri (by omega))
        have Hints := Lib.hid hints
        have hbv := hBV.size
        clear hri hrn hr hsmall hints hpre
        gi_wp2_with fail
        refine ⟨trivial, ?_⟩
        refine (CallsIn.inRound l2 Hints.out).mono ?_
        rintro e w5 ⟨rfl, hB5⟩
        have hy5 := (hB5.block _ (lt_of_block hy)).trans hy
        have hyc5 := cell_of_one hy5
        have hyf5 := free_of_one hy5
        gi_wp2_with fail
        refine ⟨KeepsFrom.trans ⟨hB5.size, fun k _ _ hk _ => (hB5.block k (Array.getElem?_eq_some_iff.1 hk).1).trans hk⟩ ((KeepsOthers.setCell _ _ _).from _), (kpy_below hB5).trans (kpy_set hy5 (by decide) (by decide) (by decide)), ?_, ?_⟩
        · have := one_setCell (u := .int .i64 ((pre ++ [(⟨⟨2, ⟨#[]⟩, (pre.length : Int)⟩, r.1⟩ : EntL)]).length : Int)) hy5
          simpa using this
        · exact (hBV.trans (hB5.mono (by omega))).setCell (p := ⟨wr.heap.size, 0, none⟩) (Nat.le_refl _) _
      case done =>
        rintro D xs V hD rfl ⟨hy, hBV⟩ hK
        have hBW : Below W0.heap.size W0 V := hBr2.trans (hBV.mono (by omega))
        obtain ⟨q0, q1, q2⟩ := Hfacts.out V hBW
        have hyc := cell_of_one hy
        rw [ents_length] at hyc
        have hDV := (Array.getElem?_eq_some_iff.1 hK).1
        gi_wp2_with fail
        refine ⟨trivial, ?_⟩
        refine (callsIn_wide.2 (wakes_T V)).mono ?_
        rintro e w12 ⟨rfl, hB12⟩
        have hBW2 := hBW.trans (hB12.mono hBW.size)
        obtain ⟨-, hrc12, hC12⟩ := Hfacts.out w12 hBW2
        have hD12 := (hB12.block D hDV).trans hK
        have hcc := cell_of_one hrc12
        have hff := free_of_one hrc12
        gi_wp2
        have hK' := (KeepsOthers.setCell w12 ⟨w.heap.size + 1, 0, none⟩ (.bool true)).same D _ hD12 rfl
        refine ⟨by simp, .inl ⟨_, _, rfl, run_takeDeferred hK', ?_⟩⟩
        have hc5 := cell_kept (World.cell?_setCell_same' w12 ⟨w.heap.size + 1, 0, none⟩ (.bool true) (by rw [hcc]; rfl)) (grownBy_putObj' _ D (.deferred none)) (fun r e => by cases e; exact ⟨_, hK', rfl⟩)
        refine ⟨.bool true, ?_, ?_, ?_⟩
        · simp [results, Try.results9, go_sem, hc5]
        · rfl
        · have hB5 := But.below hC12 ((But.refl (w.heap.size + 1) w12).setCell 0 (.bool true)) (by omega) hC12.size
          exact hB5.trans (belowK_b (w := w) (by omega) _ D _ _ (by have := hBr2.size; omega) hK' rfl rfl)
      case stop =>
        rintro D c pre W _ _ h _
        exact h.elim

theorem lists_big (w : World) (v : Value) (rs : List (SlV × List Int)) (hv : RowsOf w v rs) (hl : 40 < rs.length) :
    Calls Try.prog 9 #[v] w fun e w' => e = .returned (.bool true) ∧ Below w.heap.size w w' := by
  obtain ⟨a, cap, rfl, -⟩ := hv
  refine (callsIn_wide (n := 4)).1 ?_
  refine callsIn_of_wp_marks Try.func9 rfl trivial ?_ rfl
  simp only [Try.ntmps9, List.size_toArray, List.length_cons, List.length_nil, Nat.reduceAdd, Nat.reduceSub, Array.replicate_succ, Array.replicate_zero, List.push_toArray, List.append_toArray, List.nil_append, List.cons_append]
  have hB0 : Below w.heap.size w ((w.alloc (.cells #[.slice a rs.length cap] 82)).alloc (.cells #[.bool false] 4)) := ((Below.refl _ w).alloc (Nat.le_refl _) _).alloc (by simp) _
  have hrb := heap_alloc_new (w.alloc (.cells #[.slice a rs.length cap] 82)) (.cells #[.bool false] 4)
  simp only [World.size_alloc] at hrb
  have fin : ∀ w1, Below ((w.alloc (.cells #[.slice a rs.length cap] 82)).alloc (.cells #[.bool false] 4)).heap.size ((w.alloc (.cells #[.slice a rs.length cap] 82)).alloc (.cells #[.bool false] 4)) w1 → w1.heap[w.heap.size + 1]? = some (.cells #[.bool false] 4 (0, 0)) ∧ Below w.heap.size w w1 := fun w1 h => ⟨(h.block _ (lt_of_block hrb)).trans hrb, hB0.trans (h.mono hB0.size)⟩
  gi_wp2_with fail
  refine ⟨trivial, ?_⟩
  refine (callsIn_wide.2 (wakes_T _)).mono ?_
  rintro e w1 ⟨rfl, hb⟩
  obtain ⟨h1, h2⟩ := fin w1 hb
  have hcc := cell_of_one h1
  have hff := free_of_one h1
  gi_wp2_with fail
  have hc5 := World.cell?_setCell_same' w1 ⟨w.heap.size + 1, 0, none⟩ (.bool true) (by rw [hcc]; rfl)
  refine ⟨.bool true, ?_, rfl, ?_⟩
  · simp [results, Try.results9, go_sem, hc5]
  · exact But.below h2 ((But.refl (w.heap.size + 1) w1).setCell 0 (.bool true)) (by omega) h2.size

theorem lists_any (w : World) (v : Value) (rs : List (SlV × List Int)) (hv : RowsOf w v rs) :
    Calls Try.prog 9 #[v] w fun e w' => e = .returned (.bool true) ∧ Below w.heap.size w w' := by
  by_cases h : rs.length ≤ 40
  · exact lists_walk w v rs hv h
  · exact lists_big w v rs hv (by omega)

end Go.Proofs.Ytmmpdgabojppnaa
