/- OrderMeanwhile returns true, whatever it is given. Conditions: none but that the lists lie in memory. -/
import Derived.Test.YtpkkdmhmnmjebaaJoinsKS
import Derived.Test.YtpkkdmhmnmjebaaWithoutS
import Derived.Test.YtpkkdmhmnmjebaaUnionSS
import Derived.Test.YtpkkdmhmnmjebaaPartSS
import Derived.Test.YtpkkdmhmnmjebaaWakes
import Derived.Sort.LoopGhostIn
import Derived.Maps.AppendAt
import Derived.Deep.AppendLies
namespace Go.Proofs.Ytpkkdmhmnmjebaa
open Go Go.RowKit Go.Shelf

attribute [local go_sem] Oper.semAt_some

/-- What one round does to the set's members. -/
def mdo (ys : List SymV) (i : Nat) (L : List SymV) (x : SymV) : List SymV := S.drop symCmp (match ys[i]? with | some z => put symCmp L z | none => L) x
def mrun (ys : List SymV) : Nat → List SymV → List SymV → List SymV
  | _, L, [] => L
  | i, L, x :: r => mrun ys (i + 1) (mdo ys i L x) r

theorem mrun_snoc (ys : List SymV) (x : SymV) : ∀ (pre : List SymV) (i : Nat) (L : List SymV), mrun ys i L (pre ++ [x]) = mdo ys (i + pre.length) (mrun ys i L pre) x
  | [], i, L => rfl
  | y :: pre, i, L => by
    show mrun ys (i + 1) (mdo ys i L y) (pre ++ [x]) = _
    rw [mrun_snoc ys x pre]
    have : i + 1 + pre.length = i + (y :: pre).length := by simp; omega
    rw [this]; rfl

theorem length_mdo (ys : List SymV) (i : Nat) (L : List SymV) (x : SymV) : (mdo ys i L x).length ≤ L.length + 1 := by
  unfold mdo
  refine Nat.le_trans (S.length_drop _ _ _) ?_
  split
  · exact length_put _ _ _
  · omega

theorem length_mrun (ys : List SymV) : ∀ (pre : List SymV) (i : Nat) (L : List SymV), (mrun ys i L pre).length ≤ L.length + pre.length
  | [], i, L => by simp [mrun]
  | y :: pre, i, L => by
    have h1 := length_mrun ys pre (i + 1) (mdo ys i L y)
    have h2 := length_mdo ys i L y
    simp only [mrun, List.length_cons]; omega

theorem grown_but {s : Nat} {W W' : World} (h : But s W W') : W.grownBy W' (some s) := ⟨h.os, h.tape, h.output, h.size, fun k hk hne => h.block k hk (fun e => hne (by rw [e]))⟩

theorem row_but {s B : Nat} {W W' : World} {T : TypeId} {k n : Nat} {v : Value} {xs : List Value} (h : But s W W') (hs : s < B) (hr : W.ownsRow B T k v n xs) : W'.ownsRow B T k v n xs := by
  refine hr.kept (grown_but h) ?_
  cases e : v.ownBlock with
  | none => exact .inl rfl
  | some j => exact .inr (fun e' => by have := (World.ownsRow.lt hr j e).1; cases e'; omega)

theorem S.SetAt.kp {W W' : World} {s : Nat} {L : List SymV} (h : S.SetAt W s L) (hs : W'.heap[s]? = W.heap[s]?) (hk : S.Kp W.heap.size W W') : S.SetAt W' s L := by
  obtain ⟨t, p, h1, h2, h3⟩ := h
  exact ⟨t, p, hs.trans h1, hk.lt (Nat.le_refl _) h2, h3⟩

theorem But.below3 {s n₀ : Nat} {a w w' : World} (h : But s a w) (hb : Below n₀ w w') (ha : a.heap.size ≤ n₀) : But s a w' :=
  ⟨hb.os.trans h.os, hb.tape.trans h.tape, hb.output.trans h.output, Nat.le_trans h.size hb.size, fun k hk hs => (hb.block k (by omega)).trans (h.block k hk hs)⟩

theorem lt_of_block' {w : World} {b : Nat} {o : Obj} (h : w.heap[b]? = some o) : b < w.heap.size := (Array.getElem?_eq_some_iff.1 h).1

theorem puts_self {X : List SymV} (h : Sorted symCmp X) : X.foldl (put symCmp) [] = X :=
  S.sorted_ext symCmp_lin S.symCmp_exact (sorted_puts symCmp_lin List.Pairwise.nil) h fun a => by rw [mem_puts S.symCmp_exact]; simp

/-- A way out that is one frame. -/
def AtF (fr : Act) (T : World → Prop) (e : Exit) (a : Act) (w : World) : Prop := e = .normal ∧ a = fr ∧ T w

theorem wpIn_at {F : Fence} {n : Nat} {P : Program} {c : Code} {Q : Exit → Act → World → Prop} {a : Act} {w : World} (fr : Act) (T : World → Prop) (h : c.wpIn F n P (AtF fr T) a w) (k : ∀ w', T w' → Q .normal fr w') : c.wpIn F n P Q a w :=
  wpIn_mono h fun e a' w' h' => by obtain ⟨rfl, rfl, h3⟩ := h'; exact k w' h3

set_option maxRecDepth 100000 in
set_option maxHeartbeats 4000000 in
theorem mean_walk (w : World) (v1 v2 : Value) (xs ys : List SymV) (hv1 : S.SliceOf w v1 xs) (hv2 : S.SliceOf w v2 ys) (hx : xs.length ≤ 40) (hy : ys.length ≤ 40) :
    Calls Try.prog 6 #[v1, v2] w fun e w' => e = .returned (.bool true) ∧ Below w.heap.size w w' := by
  have hw1 : ∀ W, Below w.heap.size w W → S.SliceOf W v1 xs := fun W h => hv1.below h
  obtain ⟨i0, hi, hz0, hz1, hz2⟩ := info_parts S.infoT
  obtain ⟨a1, cap1, rfl, hc1⟩ := hv1
  have hw2 : ∀ W, Below w.heap.size w W → S.SliceOf W v2 ys := fun W h => hv2.below h
  obtain ⟨a2, cap2, rfl, hc2⟩ := hv2
  have lx := S.putl_length xs []
  simp only [List.length_nil, Nat.zero_add] at lx
  refine (callsIn_wide (n := 4)).1 ?_
  refine callsIn_of_wp_marks Try.func6 rfl trivial ?_ rfl
  simp only [Try.ntmps6, List.size_toArray, List.length_cons, List.length_nil, Nat.reduceAdd, Nat.reduceSub, Array.replicate_succ, Array.replicate_zero, List.push_toArray, List.append_toArray, List.nil_append, List.cons_append]
  gi_wp2_with fail
  refine ⟨trivial, ?_⟩
  have hB0 : Below w.heap.size w ((w.alloc (.cells #[.slice a2 ys.length cap2] 28)).alloc (.cells #[.bool false] 4)) := ((Below.refl _ w).alloc (Nat.le_refl _) _).alloc (by simp) _
  have hmb : ((w.alloc (.cells #[.slice a2 ys.length cap2] 28)).alloc (.cells #[.bool false] 4)).heap[w.heap.size]? = some (.cells #[.slice a2 ys.length cap2] 28 (0, 0)) := (Below.heap_alloc _ _ _ (by simp)).trans (heap_alloc_new w _)
  have hrb := heap_alloc_new (w.alloc (.cells #[.slice a2 ys.length cap2] 28)) (.cells #[.bool false] 4)
  simp only [World.size_alloc] at hrb
  have hsz0 : ((w.alloc (.cells #[.slice a2 ys.length cap2] 28)).alloc (.cells #[.bool false] 4)).heap.size = w.heap.size + 2 := by simp
  generalize ((w.alloc (.cells #[.slice a2 ys.length cap2] 28)).alloc (.cells #[.bool false] 4)) = W0 at hB0 hmb hrb hsz0 ⊢
  refine (callsIn_wide.2 (S.new_T W0 _ xs (hw1 _ hB0) (by omega))).mono ?_
  rintro e w1 ⟨s, rfl, hs, hS, hB1⟩
  gi_wp2_with fail
  refine ⟨trivial, ?_⟩
  have hX := sorted_puts symCmp_lin (xs := xs) (l := []) List.Pairwise.nil
  generalize xs.foldl (put symCmp) [] = X at hS lx hX
  have hBa : Below w1.heap.size w1 (w1.alloc (.cells #[.pointer (some ⟨s, 0, none⟩)] 23)) := (Below.refl _ w1).alloc (Nat.le_refl _) _
  have hsb := heap_alloc_new w1 (.cells #[.pointer (some ⟨s, 0, none⟩)] 23)
  have hS1 := hS.below hBa
  have hC1 := hB0.trans ((hB1.trans (hBa.mono hB1.size)).mono hB0.size)
  have hmb1 := ((hB1.trans (hBa.mono hB1.size)).block _ (lt_of_block hmb)).trans hmb
  have hrb1 := ((hB1.trans (hBa.mono hB1.size)).block _ (lt_of_block hrb)).trans hrb
  have hsz1 : (w1.alloc (.cells #[.pointer (some ⟨s, 0, none⟩)] 23)).heap.size = w1.heap.size + 1 := by simp
  have hs1 := hS.lt
  have hs10 := hB1.size
  generalize (w1.alloc (.cells #[.pointer (some ⟨s, 0, none⟩)] 23)) = W1 at hBa hsb hS1 hC1 hmb1 hrb1 hsz1 ⊢
  refine (callsIn_wide.2 (S.lawlist_T W1 s X hS1 (by omega))).mono ?_
  rintro e w2 ⟨vw, rfl, hL, hB2⟩
  have hL2 := (S.SliceGe.slice hL)
  obtain ⟨aw, cw, rfl, hcw⟩ := hL2
  have hsb2 := (hB2.block _ (lt_of_block hsb)).trans hsb
  have hsc2 := cell_of_one hsb2
  have hS2 := hS1.below hB2
  have hC2 := hC1.trans (hB2.mono hC1.size)
  have hmb2 := (hB2.block _ (lt_of_block hmb1)).trans hmb1
  have hrb2 := (hB2.block _ (lt_of_block hrb1)).trans hrb1
  gi_wp2_with fail
  refine ⟨trivial, ?_⟩
  refine (callsIn_wide.2 (S.all_T w2 (some ⟨s, 0, none⟩))).mono ?_
  rintro e w3 ⟨rfl, rfl⟩
  gi_wp2_with fail
  have hBl : Below w2.heap.size w2 (w2.alloc (.cells #[.pointer (some ⟨s, 0, none⟩)] 23)) := (Below.refl _ w2).alloc (Nat.le_refl _) _
  have hbx := heap_alloc_new w2 (.cells #[.pointer (some ⟨s, 0, none⟩)] 23)
  have hS3 := hS2.below hBl
  have hC3 := hC2.trans (hBl.mono hC2.size)
  have hmb3 := (hBl.block _ (lt_of_block hmb2)).trans hmb2
  have hrb3 := (hBl.block _ (lt_of_block hrb2)).trans hrb2
  have hsb3 := (hBl.block _ (lt_of_block hsb2)).trans hsb2
  have hsz3 : (w2.alloc (.cells #[.pointer (some ⟨s, 0, none⟩)] 23)).heap.size = w2.heap.size + 1 := by simp
  have hs2 := hB2.size
  generalize (w2.alloc (.cells #[.pointer (some ⟨s, 0, none⟩)] 23)) = W3 at hBl hbx hS3 hC3 hmb3 hrb3 hsb3 hsz3 ⊢
  have bO := Boxed.new W3 28 (.slice none 0 0)
  have hBg : Below W3.heap.size W3 (W3.alloc (.cells #[.slice none 0 0] 28)) := (Below.refl _ W3).alloc (Nat.le_refl _) _
  rw [hsz3] at bO
  have hbx4 := (hBg.block _ (lt_of_block hbx)).trans hbx
  have hS4 := hS3.below hBg
  have hsz4 : (W3.alloc (.cells #[.slice none 0 0] 28)).heap.size = w2.heap.size + 2 := by simp [hsz3]
  generalize (W3.alloc (.cells #[.slice none 0 0] 28)) = W4 at bO hBg hbx4 hS4 hsz4 ⊢
  have hs4 : s < w2.heap.size := by omega
  refine wpIn_rangeFunc_ownH rfl (by omega) (gf := 64) (lb := #[.pointer (some ⟨w2.heap.size, 0, none⟩)]) rfl trivial (enters_of Try.func64 (by kernel_rfl) rfl)
    (S.all_stops 3 W4.heap.size _ s X W4 hbx4 hS4 (by omega) (Nat.le_refl _)) (fun h k => h.trans k) (fun W l o o' _ h hc _ => S.Kp.putObj W l o o' h hc) (Below.refl _ _) (fun _ => rfl)
    (fun pre W => S.SetAt W s (mrun ys 0 X pre) ∧ (∃ v, Boxed W (w2.heap.size + 1) 28 v ∧ W.ownsRow (w2.heap.size + 1) 26 3 v pre.length (pre.flatMap fun x => [.int .i64 x.k, .string x.t, .int .i64 x.n]) ∧ True) ∧ But s W3 W)
    (fun _ _ _ => False)
    (OwnFrom.and (fun _ A B row h hg hr => S.SetAt.grown h hg (fun r e => (hr r e).2)) (OwnFrom.and (Own.from (holdsRow_own (w2.heap.size + 1) (w2.heap.size + 1) 28 26 3 (fun pre : List SymV => pre.length) (fun pre => pre.flatMap fun x => [.int .i64 x.k, .string x.t, .int .i64 x.n]) (fun _ _ => True)) _)
      (fun _ A B row h hg hr => S.but_grown h hg (fun r e => (hr r e).1) (by omega))))
    (fun _ _ _ _ _ hs _ _ => hs)
    ⟨hS4, ⟨_, bO, World.ownsRow_nil _ _ _ _, trivial⟩, But.of_below hBg⟩
    (fun x a' W => ∃ Bx, W4.heap.size ≤ Bx ∧ W.heap[Bx]? = some (.cells #[.int .i64 x.k, .string x.t, .int .i64 x.n] 26 (0, 0)) ∧ a' = { tmps := #[.slice a1 xs.length cap1, .slice a2 ys.length cap2, undef, .pointer (some ⟨w.heap.size, 0, none⟩), .pointer (some ⟨w.heap.size + 1, 0, none⟩), .pointer (some ⟨w1.heap.size, 0, none⟩), .slice aw X.length cw, .func (.func 64) #[] #[.pointer (some ⟨w2.heap.size, 0, none⟩)], .pointer (some ⟨w2.heap.size + 1, 0, none⟩), .pointer (some ⟨Bx, 0, none⟩), undef, undef, undef, .slice a1 xs.length cap1, .int .i64 (xs.length : Int), .bool (decide (40 < (xs.length : Int))), .bool (decide (40 < (xs.length : Int))), .slice a2 ys.length cap2, .int .i64 (ys.length : Int), .bool (decide (40 < (ys.length : Int))), .bool (decide (40 < (xs.length : Int)) || decide (40 < (ys.length : Int))), undef, .slice a1 xs.length cap1, .pointer (some ⟨s, 0, none⟩), .pointer (some ⟨s, 0, none⟩), .bool false, .pointer (some ⟨s, 0, none⟩), .slice aw X.length cw, .pointer (some ⟨s, 0, none⟩), .func (.func 64) #[] #[.pointer (some ⟨w2.heap.size, 0, none⟩)], .func (.func 64) #[] #[.pointer (some ⟨w2.heap.size, 0, none⟩)], .agg #[.int .i64 x.k, .string x.t, .int .i64 x.n], undef, undef, undef, undef, undef, undef, undef, undef, undef, undef, undef, undef, undef, undef, undef, undef, undef, undef, undef, undef, undef, undef, undef, undef, undef, undef, undef, undef, undef, undef, undef, undef, undef, undef, undef, undef, undef, undef, undef, undef, undef, undef, undef, undef, undef, undef, undef, undef, undef, undef, undef, undef, undef, undef, undef, undef, undef, undef, undef, undef, undef, undef, undef, undef, undef, undef, undef], defers := [] })
    (fun x a' s A B row hs hg hr => by
      obtain ⟨Bx, h1, h2, h3⟩ := hs
      refine ⟨Bx, h1, (hg.block Bx (lt_of_block h2) (fun e => ?_)).trans h2, h3⟩
      obtain ⟨-, o, ho, hc⟩ := hr Bx e.symm
      rw [h2] at ho; cases ho; cases hc)
    ?assign ?body ?done ?stop
  case assign =>
    rintro l pre x W K ⟨hp, ⟨v, hv, hrow, -⟩, hb⟩ hK
    have hbs := hb.size
    have hbv := hv.lt
    have hba : Below W.heap.size W (W.alloc (.cells #[.int .i64 x.k, .string x.t, .int .i64 x.n] 26)) := (Below.refl _ W).alloc (Nat.le_refl _) _
    gi_wp2
    exact hK _ _ ((KeepsOthers.alloc _ _).from _) (S.Kp.of_below (hba.mono (by omega))) ⟨hp.below hba, ⟨v, hv.alloc _, hrow.alloc _, trivial⟩, hb.trans (But.of_below hba)⟩ ⟨W.heap.size, by omega, heap_alloc_new W _, rfl⟩
  case body =>
    rintro l pre x a' W hl ⟨q0, hq0⟩ ⟨hp, ⟨v, hv, hrow, -⟩, hb⟩ ⟨Bx, hBx, bX, rfl⟩ hlt
    have hbs := hb.size
    have hbv := hv.lt
    obtain ⟨a3, c3, rfl, hcap3, hln3⟩ := S.row_cap hrow
    have hc := hv.cell
    have hmc : W.cell? ⟨w.heap.size, 0, none⟩ = some (.slice a2 ys.length cap2) := cell_of_one ((hb.block _ (lt_of_block hmb3) (by omega)).trans hmb3)
    have hsc : W.cell? ⟨w1.heap.size, 0, none⟩ = some (.pointer (some ⟨s, 0, none⟩)) := cell_of_one ((hb.block _ (lt_of_block hsb3) (by omega)).trans hsb3)
    have hm : W.cell? ⟨Bx, 0, none⟩ = some (.int .i64 x.k) ∧ W.cell? ⟨Bx, 1, none⟩ = some (.string x.t) ∧ W.cell? ⟨Bx, 2, none⟩ = some (.int .i64 x.n) := by simp [World.cell?, bX]
    have hlen := length_mrun ys pre 0 X
    have hBxW := lt_of_block bX
    have Hrun : Hid (mrun ys 0 X (pre ++ [x]) = mdo ys pre.length (mrun ys 0 X pre) x) := Lib.hid (by rw [mrun_snoc, Nat.zero_add])
    generalize mrun ys 0 X pre = L at hp hlen Hrun
    have hfacts : ∀ W5, But s W W5 → W5.cell? ⟨w1.heap.size, 0, none⟩ = some (.pointer (some ⟨s, 0, none⟩)) ∧ (W5.cell? ⟨Bx, 0, none⟩ = some (.int .i64 x.k) ∧ W5.cell? ⟨Bx, 1, none⟩ = some (.string x.t) ∧ W5.cell? ⟨Bx, 2, none⟩ = some (.int .i64 x.n)) ∧
        Boxed W5 (w2.heap.size + 1) 28 (.slice a3 pre.length c3) ∧ W5.ownsRow (w2.heap.size + 1) 26 3 (.slice a3 pre.length c3) pre.length (pre.flatMap fun x => [.int .i64 x.k, .string x.t, .int .i64 x.n]) ∧ W5.heap[Bx]? = some (.cells #[.int .i64 x.k, .string x.t, .int .i64 x.n] 26 (0, 0)) := by
      intro W5 h5
      have e1 := h5.block Bx hBxW (by omega)
      exact ⟨S.but_cell h5 (by show w1.heap.size ≠ s; omega) hsc, ⟨(World.cell?_of_block e1).trans hm.1, (World.cell?_of_block e1).trans hm.2.1, (World.cell?_of_block e1).trans hm.2.2⟩, (h5.block _ hbv (by omega)).trans hv, row_but h5 (by omega) hrow, e1.trans bX⟩
    by_cases hpy : pre.length < ys.length
    · obtain ⟨z, hz⟩ : ∃ z, ys[pre.length]? = some z := ⟨ys[pre.length], by simp [hpy]⟩
      rcases hc2 with rfl | ⟨b2, off2, rfl, hel2⟩
      · simp at hpy
      · have hzW := hel2 _ z hz
        have hb2 := World.block_lt_of_cell? w _ hzW.1
        have hC3s := hC3.size
        have hzc : ∀ W' : World, (∀ k, k < w.heap.size → W'.heap[k]? = w.heap[k]?) → (W'.cell? ⟨b2, off2 + pre.length * 3, none⟩ = some (.int .i64 z.k) ∧ W'.cell? ⟨b2, off2 + pre.length * 3 + 1, none⟩ = some (.string z.t) ∧ W'.cell? ⟨b2, off2 + pre.length * 3 + 2, none⟩ = some (.int .i64 z.n)) := by
          intro W' h
          have := h b2 hb2
          refine ⟨(World.cell?_of_block this).trans hzW.1, (World.cell?_of_block this).trans hzW.2.1, (World.cell?_of_block this).trans hzW.2.2⟩
        have hzc0 := hzc W (fun k hk => (hb.block k (by omega) (by omega)).trans (hC3.block k hk))
        have Hz := Lib.hid hz
        clear hzc hzW hel2 hz
        have hd : S.drop symCmp (put symCmp L z) x = mdo ys pre.length L x := by unfold mdo; rw [Hz.out]
        have Hd := Lib.hid hd
        have hln := length_put symCmp L z
        have hpd := callsIn_wide (n := 1).2 (S.put_T W.drew s L z (hp.below (Below.refl _ W).drew) (by omega))
        clear hd
        gi_wp2_with fail
        apply wpIn_at _ (fun w' => S.SetAt w' s (put symCmp L z) ∧ But s W w')
        · gi_region_with (refine ⟨trivial, ?_⟩; refine (CallsIn.inRound l hpd).mono ?_; rintro e w5 ⟨rfl, hS5, hb5⟩)
          all_goals exact ⟨rfl, rfl, hS5, (But.of_below (Below.refl _ W).drew).trans hb5⟩
        rintro w5 ⟨hS5, hb5⟩
        have hq5 := hfacts w5 hb5
        obtain ⟨hsc5, hm5, -, -, -⟩ := hq5
        gi_wp2_with fail
        refine ⟨trivial, ?_⟩
        refine (CallsIn.inRound l (callsIn_wide.2 (S.drop_T w5 s (put symCmp L z) x hS5 (by omega)))).mono ?_
        rintro e w6 ⟨rfl, hS6, hb6⟩
        have hb56 := But.trans hb5 hb6
        obtain ⟨hsc6, hm6, hv6, hrow6, bX6⟩ := hfacts w6 hb56
        have hc6 := hv6.cell
        have hs6 := hb56.size
        gi_wp2_with (gi_at_builtin; refine wpListIn_append_own _ rfl _ _ 28 rfl (w2.heap.size + 1) 26 i0 (.agg #[.int .i64 0, .string ⟨#[]⟩, .int .i64 0]) 3 32 Try.underlying28 hi hz0 hz1 hz2 rfl (by decide) _ _ _ rfl (hrow6.alloc _) ⟨w6.heap.size, 0, none⟩ 1 1 [.int .i64 x.k, .string x.t, .int .i64 x.n] rfl rfl (World.news_of_block (cs := #[.int .i64 x.k, .string x.t, .int .i64 x.n]) (t := 26) (fr := (0, 0)) (heap_alloc_new w6 _)) (by simp [Value.oneCell']) (by unfold maxLen; omega) (by omega) (by simp; omega) ?_; intro v' w7 hown' hgrow _; obtain ⟨g', cap', rfl⟩ := ownsRow_succ hown'; obtain ⟨hv7, hv8, hr8, hk8, hb8⟩ := hv6.appended (by decide) hrow6 (by omega) (Nat.le_refl _) hown' hgrow; have hc7 := hv7.cell; have hf7 := hv7.frozen; have hc8 := hv8.cell)
        have hkp : ∀ n₀, S.Kp n₀ w6 (w7.setCell ⟨w2.heap.size + 1, 0, none⟩ (.slice (some ⟨g', 0, none⟩) (pre.length + 1) cap')) := by
          intro n₀
          refine (S.Kp.trans (B := w6.alloc (.cells #[.int .i64 x.k, .string x.t, .int .i64 x.n] 26)) ?_ (S.kp_row (hrow6.alloc _) hgrow)).trans (S.kp_grown (grownBy_setCell' w7 _ _) fun j ej => ?_)
          · exact fun b c _ hb => (Below.heap_alloc _ _ _ (by have := lt_of_block hb; omega)).trans hb
          · cases ej
            exact ⟨_, _, _, hv7, by decide⟩
        obtain ⟨t6, p6, hc60, -⟩ := id hS6
        have hSf := hS6.kp ((hb8.block s (by omega))) (hkp _)
        obtain ⟨t0, p0, hc00, -⟩ := id hp
        refine ⟨(S.keepsFrom_but hb56 (by omega)).trans (hk8.from _), (S.Kp.of_but hb56 hc00 (by decide)).trans (hkp _), ?_, ⟨_, hv8, by simpa using hr8, trivial⟩, ?_⟩
        · rw [Hrun.out, ← Hd.out]; exact hSf
        · exact (hb.trans hb56).below3 hb8 (by omega)
    · have hd : S.drop symCmp L x = mdo ys pre.length L x := by
        unfold mdo; rw [List.getElem?_eq_none (by omega)]
      have Hd := Lib.hid hd
      clear hd
      have hq5 := hfacts W (But.refl s W)
      obtain ⟨hsc5, hm5, -, -, -⟩ := hq5
      gi_wp2_with fail
      refine ⟨trivial, ?_⟩
      refine (CallsIn.inRound l (callsIn_wide.2 (S.drop_T W s L x hp (by omega)))).mono ?_
      rintro e w6 ⟨rfl, hS6, hb6⟩
      have hb56 := But.trans (But.refl s W) hb6
      obtain ⟨hsc6, hm6, hv6, hrow6, bX6⟩ := hfacts w6 hb56
      have hc6 := hv6.cell
      have hs6 := hb56.size
      gi_wp2_with (gi_at_builtin; refine wpListIn_append_own _ rfl _ _ 28 rfl (w2.heap.size + 1) 26 i0 (.agg #[.int .i64 0, .string ⟨#[]⟩, .int .i64 0]) 3 32 Try.underlying28 hi hz0 hz1 hz2 rfl (by decide) _ _ _ rfl (hrow6.alloc _) ⟨w6.heap.size, 0, none⟩ 1 1 [.int .i64 x.k, .string x.t, .int .i64 x.n] rfl rfl (World.news_of_block (cs := #[.int .i64 x.k, .string x.t, .int .i64 x.n]) (t := 26) (fr := (0, 0)) (heap_alloc_new w6 _)) (by simp [Value.oneCell']) (by unfold maxLen; omega) (by omega) (by simp; omega) ?_; intro v' w7 hown' hgrow _; obtain ⟨g', cap', rfl⟩ := ownsRow_succ hown'; obtain ⟨hv7, hv8, hr8, hk8, hb8⟩ := hv6.appended (by decide) hrow6 (by omega) (Nat.le_refl _) hown' hgrow; have hc7 := hv7.cell; have hf7 := hv7.frozen; have hc8 := hv8.cell)
      have hkp : ∀ n₀, S.Kp n₀ w6 (w7.setCell ⟨w2.heap.size + 1, 0, none⟩ (.slice (some ⟨g', 0, none⟩) (pre.length + 1) cap')) := by
        intro n₀
        refine (S.Kp.trans (B := w6.alloc (.cells #[.int .i64 x.k, .string x.t, .int .i64 x.n] 26)) ?_ (S.kp_row (hrow6.alloc _) hgrow)).trans (S.kp_grown (grownBy_setCell' w7 _ _) fun j ej => ?_)
        · exact fun b c _ hb => (Below.heap_alloc _ _ _ (by have := lt_of_block hb; omega)).trans hb
        · cases ej
          exact ⟨_, _, _, hv7, by decide⟩
      obtain ⟨t6, p6, hc60, -⟩ := id hS6
      have hSf := hS6.kp ((hb8.block s (by omega))) (hkp _)
      obtain ⟨t0, p0, hc00, -⟩ := id hp
      refine ⟨(S.keepsFrom_but hb56 (by omega)).trans (hk8.from _), (S.Kp.of_but hb56 hc00 (by decide)).trans (hkp _), ?_, ⟨_, hv8, by simpa using hr8, trivial⟩, ?_⟩
      · rw [Hrun.out, ← Hd.out]; exact hSf
      · exact (hb.trans hb56).below3 hb8 (by omega)
  case done =>
    rintro D Z W hD rfl ⟨hp, ⟨v, hv, hrow, -⟩, hb⟩ hK
    have hbs := hb.size
    obtain ⟨a3, c3, rfl, hcap3, hln3⟩ := S.row_cap hrow
    have hc := hv.cell
    have hrun := length_mrun ys Z 0 Z
    have hrc : W.cell? ⟨w.heap.size + 1, 0, none⟩ = some (.bool false) := cell_of_one ((hb.block _ (lt_of_block hrb3) (by omega)).trans hrb3)
    have hgot := (S.SliceGe.slice (S.Made.ge hrow))
    have hwas : S.SliceOf W (.slice aw Z.length cw) Z := S.SliceGe.slice (((S.SliceGe.below hL hBl).but hb (by omega)))
    have hCW : Below w.heap.size w W := But.below hC3 hb (by omega) hC3.size
    have hmcW : W.cell? ⟨w.heap.size, 0, none⟩ = some (.slice a2 ys.length cap2) := cell_of_one ((hb.block _ (lt_of_block hmb3) (by omega)).trans hmb3)
    have hbxW : W.heap[w2.heap.size]? = some (.cells #[.pointer (some ⟨s, 0, none⟩)] 23 (0, 0)) := (hb.block _ (lt_of_block hbx) (by omega)).trans hbx
    have hDW := lt_of_block' hK
    have hrW : W.heap[w.heap.size + 1]? = some (.cells #[.bool false] 4 (0, 0)) := (hb.block _ (lt_of_block hrb3) (by omega)).trans hrb3
    have hsd := puts_self hX
    generalize hM : mrun ys 0 Z Z = M at hp hrun
    have HM := Lib.hid hM
    have Hsd := Lib.hid hsd
    have HX := Lib.hid hX
    have hfin : ∀ W', Below W.heap.size W W' → S.SetAt W' s M ∧ S.SliceOf W' (.slice aw Z.length cw) Z ∧ S.SliceOf W' (.slice a2 ys.length cap2) ys ∧ W'.cell? ⟨w.heap.size, 0, none⟩ = some (.slice a2 ys.length cap2) ∧
        W'.heap[w.heap.size + 1]? = some (.cells #[.bool false] 4 (0, 0)) ∧ W'.heap[D]? = some (.deferred (some [])) ∧ W'.heap[w2.heap.size]? = some (.cells #[.pointer (some ⟨s, 0, none⟩)] 23 (0, 0)) ∧ Below w.heap.size w W' := fun W' h =>
      ⟨hp.below h, hwas.below h, hw2 W' (hCW.trans (h.mono hCW.size)), (h.cell (p := ⟨w.heap.size, 0, none⟩) (World.block_lt_of_cell? W _ hmcW)).trans hmcW, (h.block _ (lt_of_block hrW)).trans hrW, (h.block D hDW).trans hK, (h.block _ (lt_of_block hbxW)).trans hbxW, hCW.trans (h.mono hCW.size)⟩
    have Hfin := Lib.hid hfin
    clear hcw hL hc2 hS1 hS2 hS3 hS4 hS hsd hM hX
    gi_wp2_with fail
    refine ⟨trivial, ?_⟩
    refine (callsIn_wide.2 (S.syms_T W _ _ Z Z hgot hwas (by omega) (by omega))).mono ?_
    rintro e wa ⟨⟨q1, rfl, hq1⟩, hBa1⟩
    obtain rfl : q1 = true := hq1.2 rfl
    clear hgot hwas hq1 hrow hv
    gi_wp2_with fail
    gi_loopg [10, 11] Z.length (fun k vr i wr => ∃ j : Nat, i = .int .i64 j ∧ j ≤ Z.length ∧ Hid (k = Z.length - j) ∧ Hid (S.Own wr vr ((Z.take j).foldl (put symCmp) [])) ∧ Below W.heap.size W wr)
    case atStart => exact ⟨0, rfl, by omega, Lib.hid rfl, Lib.hid (by simpa using S.Own.nil wa), hBa1⟩
    case round =>
      obtain ⟨j, rfl, hj, Hk, HO, hBr⟩ := hrel
      have hlO : ((Z.take j).foldl (put symCmp) []).length ≤ 60 := by have := S.putl_length (Z.take j) []; simp at this; omega
      by_cases hlt : j < Z.length
      · obtain ⟨ao, co, rfl⟩ := HO.out.len
        obtain ⟨z, hz⟩ : ∃ z, Z[j]? = some z := ⟨Z[j], by simp [hlt]⟩
        obtain ⟨a9, c9, e9, hs9⟩ := (Hfin.out wr hBr).2.1
        cases e9
        rcases hs9 with rfl | ⟨b, off, rfl, hel⟩
        · simp at hlt
        · have hzc := hel j z hz
          have hO1 : (Z.take (j + 1)).foldl (put symCmp) [] = put symCmp ((Z.take j).foldl (put symCmp) []) z := by
            rw [List.take_add_one, hz, List.foldl_append]; rfl
          have HO1 := Lib.hid hO1
          have hput := callsIn_wide (n := 3).2 (S.ownput_T wr _ _ z HO.out (by omega))
          clear hel hz hO1
          gi_wp2_with fail
          refine ⟨trivial, ?_⟩
          refine hput.mono ?_
          clear hput
          rintro e w8 ⟨vo, rfl, hO8, hB8⟩
          have HO8 := Lib.hid hO8
          clear hO8
          gi_wp2_with fail
          gi_roundg (Z.length - (j + 1))
          case measure => rw [Hk.out]; omega
          case rel => exact ⟨j + 1, by go_num, by omega, Lib.hid rfl, Lib.hid (by rw [HO1.out]; exact HO8.out), hBr.trans (hB8.mono hBr.size)⟩
      · obtain rfl : j = Z.length := by omega
        rw [List.take_length, Hsd.out] at HO
        rw [List.take_length, Hsd.out] at hlO
        obtain ⟨ao, co, rfl⟩ := HO.out.len
        obtain ⟨wq, rfl⟩ : ∃ w', w' = wr := ⟨wr, rfl⟩
        gi_wp2_with fail
        gi_loopg [10, 12] Z.length (fun k vr i wr => ∃ j : Nat, i = .int .i64 j ∧ j ≤ Z.length ∧ Hid (k = Z.length - j) ∧ Hid (S.Own wr vr (mrun ys 0 Z (Z.take j))) ∧ Below W.heap.size W wr)
        case atStart => exact ⟨0, rfl, by omega, Lib.hid rfl, Lib.hid HO.out, hBr⟩
        case round =>
          obtain ⟨j, rfl, hj, Hk2, HO2, hBr2⟩ := hrel
          have hlO2 := length_mrun ys (Z.take j) 0 Z
          rw [List.length_take, Nat.min_eq_left hj] at hlO2
          by_cases hlt : j < Z.length
          · obtain ⟨ao2, co2, rfl⟩ := HO2.out.len
            obtain ⟨x, hz⟩ : ∃ z, Z[j]? = some z := ⟨Z[j], by simp [hlt]⟩
            have Hrun : Hid (mrun ys 0 Z (Z.take (j + 1)) = mdo ys j (mrun ys 0 Z (Z.take j)) x) := Lib.hid (by
              have e : Z.take (j + 1) = Z.take j ++ [x] := by rw [List.take_add_one, hz]; rfl
              rw [e, mrun_snoc, List.length_take, Nat.min_eq_left hj, Nat.zero_add])
            generalize mrun ys 0 Z (Z.take j) = L at HO2 hlO2 Hrun
            have hgoodx : ∀ W', Below W.heap.size W W' → ∃ b off, aw = some ⟨b, off, none⟩ ∧ (W'.cell? ⟨b, off + j * 3, none⟩ = some (.int .i64 x.k) ∧ W'.cell? ⟨b, off + j * 3 + 1, none⟩ = some (.string x.t) ∧ W'.cell? ⟨b, off + j * 3 + 2, none⟩ = some (.int .i64 x.n)) := by
              intro W' h
              obtain ⟨a9, c9, e9, hs9⟩ := (Hfin.out W' h).2.1
              cases e9
              rcases hs9 with rfl | ⟨b, off, rfl, hel⟩
              · simp at hlt
              · exact ⟨b, off, rfl, hel j x hz⟩
            have Hgoodx := Lib.hid hgoodx
            obtain ⟨b, off, rfl, hxc⟩ := hgoodx wr hBr2
            have hmcr := (Hfin.out wr hBr2).2.2.2.1
            clear hgoodx hz
            by_cases hjy : j < ys.length
            · obtain ⟨z, hzy⟩ : ∃ z, ys[j]? = some z := ⟨ys[j], by simp [hjy]⟩
              obtain ⟨a9, c9, e9, hs9⟩ := (Hfin.out wr hBr2).2.2.1
              cases e9
              rcases hs9 with rfl | ⟨b2, off2, rfl, hel2⟩
              · simp at hjy
              · have hzc := hel2 j z hzy
                have hd : S.sans (put symCmp L z) x = mdo ys j L x := by unfold mdo; rw [hzy, S.sans_eq (sorted_put symCmp_lin _ _ HO2.out.2.2)]
                have Hd := Lib.hid hd
                have hln := length_put symCmp L z
                have hput := callsIn_wide (n := 3).2 (S.ownput_T wr _ L z HO2.out (by omega))
                clear hel2 hzy hd
                gi_wp2_with fail
                refine ⟨trivial, ?_⟩
                refine hput.mono ?_
                clear hput
                rintro e w8 ⟨vo, rfl, hO8, hB8⟩
                have HO8 := Lib.hid hO8
                have hBr8 := hBr2.trans (hB8.mono hBr2.size)
                obtain ⟨b', off', e', hxc8⟩ := Hgoodx.out w8 hBr8
                cases e'
                obtain ⟨ao8, co8, rfl⟩ := hO8.len
                clear hO8 hxc hzc
                have hwo := callsIn_wide (n := 3).2 (S.without_T w8 _ (put symCmp L z) x (HO8).out.1 (by omega))
                gi_wp2_with fail
                refine ⟨trivial, ?_⟩
                refine hwo.mono ?_
                clear hwo
                rintro e w9 ⟨vo2, rfl, hM9, hB9⟩
                have HO9 : Hid (S.Own w9 vo2 (mdo ys j L x)) := Lib.hid ⟨by rw [← Hd.out]; exact (S.SliceGe.slice (S.Made.ge hM9)), S.Made.fits hM9, by rw [← Hd.out, S.sans_eq (HO8).out.2.2]; exact S.sorted_drop _ _ (HO8).out.2.2⟩
                clear hM9
                gi_wp2_with fail
                gi_roundg (Z.length - (j + 1))
                case measure => rw [Hk2.out]; omega
                case rel => exact ⟨j + 1, by go_num, by omega, Lib.hid rfl, Lib.hid (by rw [Hrun.out]; exact HO9.out), hBr8.trans (hB9.mono hBr8.size)⟩
            · have hd : S.sans L x = mdo ys j L x := by unfold mdo; rw [List.getElem?_eq_none (by omega), S.sans_eq HO2.out.2.2]
              have Hd := Lib.hid hd
              clear hd
              have hwo := callsIn_wide (n := 3).2 (S.without_T wr _ L x (HO2).out.1 (by omega))
              gi_wp2_with fail
              refine ⟨trivial, ?_⟩
              refine hwo.mono ?_
              clear hwo
              rintro e w9 ⟨vo2, rfl, hM9, hB9⟩
              have HO9 : Hid (S.Own w9 vo2 (mdo ys j L x)) := Lib.hid ⟨by rw [← Hd.out]; exact (S.SliceGe.slice (S.Made.ge hM9)), S.Made.fits hM9, by rw [← Hd.out, S.sans_eq (HO2).out.2.2]; exact S.sorted_drop _ _ (HO2).out.2.2⟩
              clear hM9
              gi_wp2_with fail
              gi_roundg (Z.length - (j + 1))
              case measure => rw [Hk2.out]; omega
              case rel => exact ⟨j + 1, by go_num, by omega, Lib.hid rfl, Lib.hid (by rw [Hrun.out]; exact HO9.out), hBr2.trans (hB9.mono hBr2.size)⟩
          · obtain rfl : j = Z.length := by omega
            rw [List.take_length, HM.out] at HO2
            rw [List.take_length, HM.out] at hlO2
            obtain ⟨ao2, co2, rfl⟩ := HO2.out.len
            have hlM : M.length ≤ 200 := by omega
            obtain ⟨hS9, -, -, -, hrc9, hD9, hbx9, hC9⟩ := Hfin.out wr hBr2
            have hlist := callsIn_wide (n := 3).2 (S.list_T 64 #[.pointer (some ⟨w2.heap.size, 0, none⟩)] _ M wr (enters_of Try.func64 (by kernel_rfl) rfl)
              (S.all_stops 2 _ w2.heap.size s M wr hbx9 hS9 (by omega) (Nat.le_refl _)) (by omega) (Nat.le_refl _))
            gi_wp2_with fail
            refine ⟨trivial, ?_⟩
            refine hlist.mono ?_
            clear hlist
            rintro e w10 ⟨vl, rfl, hM10, hB10⟩
            have hl10 := S.SliceGe.slice (S.Made.ge hM10)
            have hr10 := hBr2.trans (hB10.mono hBr2.size)
            have hs10' : S.SliceOf w10 (.slice ao2 M.length co2) M := (HO2.out.below hB10).1
            gi_wp2_with fail
            refine ⟨trivial, ?_⟩
            refine (callsIn_wide.2 (S.syms_T w10 _ _ M M hl10 hs10' (by omega) (by omega))).mono ?_
            rintro e w11 ⟨⟨q2, rfl, hq2⟩, hB11⟩
            obtain rfl : q2 = true := hq2.2 rfl
            have hr11 := hr10.trans (hB11.mono hr10.size)
            gi_wp2_with fail
            refine ⟨trivial, ?_⟩
            refine (callsIn_wide.2 (wakes_T w11)).mono ?_
            rintro e w12 ⟨rfl, hB12⟩
            have hr12 := hr11.trans (hB12.mono hr11.size)
            obtain ⟨-, -, -, -, hrc12, hD12, -, hC12⟩ := Hfin.out w12 hr12
            have hcc := cell_of_one hrc12
            have hff := free_of_one hrc12
            gi_wp2
            have hK' := (KeepsOthers.setCell w12 ⟨w.heap.size + 1, 0, none⟩ (.bool true)).same D _ hD12 rfl
            refine ⟨by simp, .inl ⟨_, _, rfl, run_takeDeferred hK', ?_⟩⟩
            have hc5 := cell_kept (World.cell?_setCell_same' w12 ⟨w.heap.size + 1, 0, none⟩ (.bool true) (by rw [hcc]; rfl)) (grownBy_putObj' _ D (.deferred none)) (fun r e => by cases e; exact ⟨_, hK', rfl⟩)
            refine ⟨.bool true, ?_, ?_, ?_⟩
            · simp [results, Try.results6, go_sem, hc5]
            · rfl
            · have hB5 := But.below hC12 ((But.refl (w.heap.size + 1) w12).setCell 0 (.bool true)) (by omega) hC12.size
              exact hB5.trans (belowK_b (w := w) (by omega) _ D _ _ (by omega) hK' rfl rfl)
  case stop =>
    rintro D c pre W _ _ h _
    exact h.elim

theorem mean_big1 (w : World) (v1 v2 : Value) (xs ys : List SymV) (hv1 : S.SliceOf w v1 xs) (hv2 : S.SliceOf w v2 ys) (hx : 40 < xs.length ∨ xs.length ≤ 40 ∧ 40 < ys.length) :
    Calls Try.prog 6 #[v1, v2] w fun e w' => e = .returned (.bool true) ∧ Below w.heap.size w w' := by
  obtain ⟨a1, cap1, rfl, -⟩ := hv1
  obtain ⟨a2, cap2, rfl, -⟩ := hv2
  refine (callsIn_wide (n := 4)).1 ?_
  refine callsIn_of_wp_marks Try.func6 rfl trivial ?_ rfl
  simp only [Try.ntmps6, List.size_toArray, List.length_cons, List.length_nil, Nat.reduceAdd, Nat.reduceSub, Array.replicate_succ, Array.replicate_zero, List.push_toArray, List.append_toArray, List.nil_append, List.cons_append]
  have hB0 : Below w.heap.size w ((w.alloc (.cells #[.slice a2 ys.length cap2] 28)).alloc (.cells #[.bool false] 4)) := ((Below.refl _ w).alloc (Nat.le_refl _) _).alloc (by simp) _
  have hrb := heap_alloc_new (w.alloc (.cells #[.slice a2 ys.length cap2] 28)) (.cells #[.bool false] 4)
  simp only [World.size_alloc] at hrb
  have fin : ∀ w1, Below ((w.alloc (.cells #[.slice a2 ys.length cap2] 28)).alloc (.cells #[.bool false] 4)).heap.size ((w.alloc (.cells #[.slice a2 ys.length cap2] 28)).alloc (.cells #[.bool false] 4)) w1 → w1.heap[w.heap.size + 1]? = some (.cells #[.bool false] 4 (0, 0)) ∧ Below w.heap.size w w1 := fun w1 h => ⟨(h.block _ (lt_of_block hrb)).trans hrb, hB0.trans (h.mono hB0.size)⟩
  rcases hx with hx | ⟨hx, hy⟩
  · gi_wp2_with fail
    refine ⟨trivial, ?_⟩
    refine (callsIn_wide.2 (wakes_T _)).mono ?_
    rintro e w1 ⟨rfl, hb⟩
    obtain ⟨h1, h2⟩ := fin w1 hb
    have hcc := cell_of_one h1
    have hff := free_of_one h1
    gi_wp2_with fail
    have hc5 := World.cell?_setCell_same' w1 ⟨w.heap.size + 1, 0, none⟩ (.bool true) (by rw [hcc]; rfl)
    refine ⟨.bool true, ?_, rfl, ?_⟩
    · simp [results, Try.results6, go_sem, hc5]
    · exact But.below h2 ((But.refl (w.heap.size + 1) w1).setCell 0 (.bool true)) (by omega) h2.size
  · gi_wp2_with fail
    refine ⟨trivial, ?_⟩
    refine (callsIn_wide.2 (wakes_T _)).mono ?_
    rintro e w1 ⟨rfl, hb⟩
    obtain ⟨h1, h2⟩ := fin w1 hb
    have hcc := cell_of_one h1
    have hff := free_of_one h1
    gi_wp2_with fail
    have hc5 := World.cell?_setCell_same' w1 ⟨w.heap.size + 1, 0, none⟩ (.bool true) (by rw [hcc]; rfl)
    refine ⟨.bool true, ?_, rfl, ?_⟩
    · simp [results, Try.results6, go_sem, hc5]
    · exact But.below h2 ((But.refl (w.heap.size + 1) w1).setCell 0 (.bool true)) (by omega) h2.size

theorem mean_any (w : World) (v1 v2 : Value) (xs ys : List SymV) (hv1 : S.SliceOf w v1 xs) (hv2 : S.SliceOf w v2 ys) :
    Calls Try.prog 6 #[v1, v2] w fun e w' => e = .returned (.bool true) ∧ Below w.heap.size w w' := by
  by_cases h1 : xs.length ≤ 40
  · by_cases h2 : ys.length ≤ 40
    · exact mean_walk w v1 v2 xs ys hv1 hv2 h1 h2
    · exact mean_big1 w v1 v2 xs ys hv1 hv2 (.inr ⟨h1, by omega⟩)
  · exact mean_big1 w v1 v2 xs ys hv1 hv2 (.inl (by omega))

end Go.Proofs.Ytpkkdmhmnmjebaa
