/- What the statements' pairs tells of a map. Conditions: the map lies in memory; at most 700 keys, all of them asked for. -/
import Derived.Test.YtbpibbcehfkeeaaPairsEE
import Derived.Test.YtbpibbcehfkeeaaFromGE
import Derived.Maps.AppendAt
import Derived.Deep.AppendLies
import Derived.Lib.OwnKind
import Derived.OneCell
import Derived.Deep.Onto
import Derived.Deep.RegionWith
import Derived.Stop.RegionWithIn
namespace Go.Proofs.Ytbpibbcehfkeeaa.E
open Go Go.RowKit Go.Shelf Go.Lib

attribute [local go_sem] Oper.semAt_some

theorem mapfrom_T (w : World) (m s : Nat) (L : List EntV) (k : SymV) (h : MapAt w m s L) :
    Calls Try.prog 53 #[.pointer (some ⟨m, 0, none⟩), .agg #[.int .i64 k.k, .string k.t, .int .i64 k.n]] w fun e w' => ∃ B, e = .returned (.func (.func 81) #[] #[.pointer (some ⟨B, 0, none⟩)]) ∧ Below w.heap.size w w' := by
  have hB0 : Below w.heap.size w (w.alloc (.cells #[.int .i64 k.k, .string k.t, .int .i64 k.n] 26)) := (Below.refl _ w).alloc (Nat.le_refl _) _
  have h0 := h.below hB0
  have hc := cell_of_one h0.1
  have hx := heap_alloc_new w (.cells #[.int .i64 k.k, .string k.t, .int .i64 k.n] 26)
  go_enter Try.func53, Try.ntmps53
  go_wp2_with fail
  generalize (w.alloc (.cells #[.int .i64 k.k, .string k.t, .int .i64 k.n] 26)) = W0 at hB0 h0 hc hx ⊢
  have hk : ∀ W, Below W0.heap.size W0 W → (W.cell? ⟨w.heap.size, 0, none⟩ = some (.int .i64 k.k) ∧ W.cell? ⟨w.heap.size, 1, none⟩ = some (.string k.t) ∧ W.cell? ⟨w.heap.size, 2, none⟩ = some (.int .i64 k.n)) ∧ W.cell? ⟨m, 0, none⟩ = some (.pointer (some ⟨s, 0, none⟩)) := by
    intro W hb
    have e1 := (hb.block _ (lt_of_block hx)).trans hx
    have e2 := cell_of_one (h0.below hb).1
    refine ⟨by simp [World.cell?, e1], e2⟩
  obtain ⟨⟨k0, k1, k2⟩, -⟩ := hk _ (Below.refl _ _)
  have hfr := from_T W0.drew (some ⟨s, 0, none⟩) ⟨k, 0⟩
  dsimp only at hfr
  go_region_held3 (fun W => (W.cell? ⟨w.heap.size, 0, none⟩ = some (.int .i64 k.k) ∧ W.cell? ⟨w.heap.size, 1, none⟩ = some (.string k.t) ∧ W.cell? ⟨w.heap.size, 2, none⟩ = some (.int .i64 k.n)) ∧ W.cell? ⟨m, 0, none⟩ = some (.pointer (some ⟨s, 0, none⟩)))
    (first | go_keep | assumption)
    (first
      | ((with_reducible refine hfr.mono ?_); rintro e w1 ⟨rfl, hw1⟩; (have hC1 : Below W0.heap.size W0 w1 := by rw [hw1]; exact ((Below.refl W0.heap.size W0).drew.alloc (Nat.le_refl _) _).alloc (by simp) _); clear hw1; have hh1 := hk _ hC1)
      | ((with_reducible refine (pairs_T _ _ _).mono ?_); rintro e w2 ⟨rfl, hw2⟩; (have hC2 : Below W0.heap.size W0 w2 := by rw [hw2]; exact hC1.alloc hC1.size _); clear hw2; have hh2 := hk _ hC2)
      | fail "no arm")
  go_wp2_with fail
  go_ret
  exact ⟨_, rfl, hB0.trans (hC2.mono hB0.size)⟩

theorem infoS : (Try.prog.info? 26).map (fun i => (i.zero, i.size, i.bytes)) = some (some (.agg #[.int .i64 0, .string ⟨#[]⟩, .int .i64 0]), 3, 32) := by kernel_rfl
theorem infoI : (Try.prog.info? 3).map (fun i => (i.zero, i.size, i.bytes)) = some (some (.int .i64 0), 1, 8) := by kernel_rfl

theorem row_cap3 {B : Nat} {W : World} {T : TypeId} {k n : Nat} {v : Value} {xs : List Value} (h : W.ownsRow B T k v n xs) :
    ∃ a cap, v = .slice a n cap ∧ cap ≤ maxLen ∧ n ≤ cap := by
  rcases h.2 with ⟨rfl, h0⟩ | ⟨g, cap, cur, rfl, hb, hg, hn, hm, hs, ht⟩
  · exact ⟨none, 0, by rw [h0], by unfold maxLen; omega, by omega⟩
  · exact ⟨_, cap, rfl, hm, hn⟩

theorem rows_ne {W : World} {B B' : Nat} {T T' : TypeId} {k k' n n' : Nat} {v v' : Value} {xs xs' : List Value} (h : W.ownsRow B T k v n xs) (h' : W.ownsRow B' T' k' v' n' xs') (hT : T ≠ T') : v'.ownBlock = none ∨ v'.ownBlock ≠ v.ownBlock := by
  cases e : v'.ownBlock with
  | none => exact .inl rfl
  | some g =>
    refine .inr fun e2 => ?_
    obtain ⟨c, f, hc⟩ := ownsRow_kind h g e2.symm
    obtain ⟨c', f', hc'⟩ := ownsRow_kind h' g e
    rw [hc] at hc'
    cases hc'
    exact hT rfl

/-- Two lists of unlike kinds in boxes of their own: one is appended to. -/
theorem two_lists {V w1 : World} {n₀ bk bv m nk nv sk sv : Nat} {tk tv ek ev : TypeId} {vk vv v' : Value} {xs ys zs : List Value} {tmp : Obj} (hk : Boxed V bk tk vk) (hkr : V.ownsRow n₀ ek sk vk nk xs) (hv : Boxed V bv tv vv) (hvr : V.ownsRow n₀ ev sv vv nv ys)
    (hne : bv ≠ bk) (h1 : tk ≠ ek) (h2 : tv ≠ ek) (h3 : ek ≠ ev) (h4 : tk ≠ ev) (hn₀ : n₀ ≤ V.heap.size) (hB : n₀ ≤ bk) (hown : w1.ownsRow n₀ ek sk v' m zs) (hgrow : (V.alloc tmp).grownBy w1 vk.ownBlock) :
    Boxed w1 bk tk vk ∧ Boxed (w1.setCell ⟨bk, 0, none⟩ v') bk tk v' ∧ (w1.setCell ⟨bk, 0, none⟩ v').ownsRow n₀ ek sk v' m zs ∧ KeepsOthers V (w1.setCell ⟨bk, 0, none⟩ v') ∧ Below n₀ V (w1.setCell ⟨bk, 0, none⟩ v') ∧
      Boxed (w1.setCell ⟨bk, 0, none⟩ v') bv tv vv ∧ (w1.setCell ⟨bk, 0, none⟩ v').ownsRow n₀ ev sv vv nv ys := by
  obtain ⟨a1, a2, a3, a4, a5⟩ := hk.appended h1 hkr hn₀ hB hown hgrow
  have b1 : Boxed w1 bv tv vv := (hv.alloc tmp).kept hgrow (Boxed.not_row (hv.alloc tmp) h2 (hkr.alloc tmp))
  have c1 := (hvr.alloc tmp).kept hgrow (rows_ne (hkr.alloc tmp) (hvr.alloc tmp) h3)
  exact ⟨a1, a2, a3, a4, a5, b1.other hne v', c1.kept (grownBy_setCell' w1 bk v') (.inr (Boxed.not_row a1 h4 c1).symm)⟩

/-- An append to a list and the store of what it made leave the trees' nodes and the boxes of what iterators call back. -/
theorem kpy_step {n₀ B b n k : Nat} {W w1 : World} {T t : TypeId} {v : Value} {xs : List Value} {tmp : Obj} (hr : W.ownsRow B T k v n xs) (hg : (W.alloc tmp).grownBy w1 v.ownBlock) (h1 : T ≠ 172) (h2 : T ≠ 37) (h3 : T ≠ 102)
    (hb : Boxed w1 b t v) (k1 : t ≠ 172) (k2 : t ≠ 37) (k3 : t ≠ 102) (u : Value) : KpY n₀ W (w1.setCell ⟨b, 0, none⟩ u) := by
  have key : ∀ (c : Nat) (cs : Array Value) (T' : TypeId), T' ≠ T → T' ≠ t → W.heap[c]? = some (.cells cs T' (0, 0)) → (w1.setCell ⟨b, 0, none⟩ u).heap[c]? = some (.cells cs T' (0, 0)) := by
    intro c cs T' hT ht hc
    have ha : (W.alloc tmp).heap[c]? = some (.cells cs T' (0, 0)) := (Below.heap_alloc _ _ _ (by have := lt_of_block hc; omega)).trans hc
    have e1 : w1.heap[c]? = some (.cells cs T' (0, 0)) := by
      refine (hg.block c (lt_of_block ha) fun e => ?_).trans ha
      obtain ⟨c', f', hk⟩ := ownsRow_kind (hr.alloc tmp) c e.symm
      rw [ha] at hk; cases hk; exact hT rfl
    refine (Below.heap_setCell _ _ _ _ ?_).trans e1
    rintro rfl
    rw [show w1.heap[c]? = _ from hb] at e1
    cases e1; exact ht rfl
  refine ⟨fun c cs _ hc => key c cs _ (Ne.symm h1) (Ne.symm k1) hc, fun c cs T' hT hc => ?_⟩
  rcases hT with rfl | rfl
  · exact key c cs _ (Ne.symm h2) (Ne.symm k2) hc
  · exact key c cs _ (Ne.symm h3) (Ne.symm k3) hc

theorem kpy_below {n₀ : Nat} {W W' : World} (h : Below W.heap.size W W') : KpY n₀ W W' := ⟨fun b _ _ hb => (h.block b (lt_of_block hb)).trans hb, fun b _ _ _ hb => (h.block b (lt_of_block hb)).trans hb⟩

/-- A way out that is one frame. -/
def OnlyAt (a0 : Act) (w0 : World) : Exit → Act → World → Prop
  | .normal, a, w => a = a0 ∧ w = w0
  | _, _, _ => False

theorem OnlyAt.imp {Q : Exit → Act → World → Prop} {a0 : Act} {w0 : World} (h : Q .normal a0 w0) : ∀ e a w, OnlyAt a0 w0 e a w → Q e a w := by
  intro e a w hq
  cases e <;> first | exact hq.elim | (obtain ⟨rfl, rfl⟩ := hq; exact h)

theorem eq_nilP (gf : Nat) (lb : Array Value) (w : World) : (binOp .eql 60 (.func (.func gf) #[] lb) .nilFunc).run Try.prog w = .ok (.bool false) w := by kernel_rfl

set_option pp.deepTerms true
set_option pp.maxSteps 1000000
set_option maxRecDepth 100000 in
set_option maxHeartbeats 4000000 in
theorem lawpairs_T (w : World) (m s : Nat) (L : List EntV) (k : SymV) (n : Nat) (h : MapAt w m s L) (hs : L.length ≤ 700) (hn : L.length ≤ n) (hn2 : n ≤ 100000) :
    Calls Try.prog 21 #[.pointer (some ⟨m, 0, none⟩), .agg #[.int .i64 k.k, .string k.t, .int .i64 k.n], .bool true, .int .i64 n] w fun e w' => ∃ vk vv, e = .returned (.tuple #[vk, vv]) ∧
      w'.ownsRow w.heap.size 26 3 vk L.length (L.flatMap fun x => [.int .i64 x.key.k, .string x.key.t, .int .i64 x.key.n]) ∧ w'.ownsRow w.heap.size 3 1 vv L.length (L.flatMap fun x => [.int .i64 x.v]) ∧ Below w.heap.size w w' := by
  obtain ⟨i0, hi, hz0, hz1, hz2⟩ := info_parts infoS
  obtain ⟨i1, hj, hy0, hy1, hy2⟩ := info_parts infoI
  refine (callsIn_wide (n := 4)).1 ?_
  refine callsIn_of_wp_marks Try.func21 rfl trivial ?_ rfl
  simp only [Try.ntmps21, List.size_toArray, List.length_cons, List.length_nil, Nat.reduceAdd, Nat.reduceSub, Array.replicate_succ, Array.replicate_zero, List.push_toArray, List.append_toArray, List.nil_append, List.cons_append]
  have hB0 : Below w.heap.size w ((((w.alloc (.cells #[.int .i64 k.k, .string k.t, .int .i64 k.n] 26)).alloc (.cells #[.int .i64 n] 3)).alloc (.cells #[.slice none 0 0] 29)).alloc (.cells #[.slice none 0 0] 30)) := ((((Below.refl _ w).alloc (Nat.le_refl _) _).alloc (by simp) _).alloc (by simp; omega) _).alloc (by simp; omega) _
  have hvb := Boxed.new (((w.alloc (.cells #[.int .i64 k.k, .string k.t, .int .i64 k.n] 26)).alloc (.cells #[.int .i64 n] 3)).alloc (.cells #[.slice none 0 0] 29)) 30 (.slice none 0 0)
  have hkb := (Boxed.new ((w.alloc (.cells #[.int .i64 k.k, .string k.t, .int .i64 k.n] 26)).alloc (.cells #[.int .i64 n] 3)) 29 (.slice none 0 0)).alloc (.cells #[.slice none 0 0] 30)
  have hnb : ((((w.alloc (.cells #[.int .i64 k.k, .string k.t, .int .i64 k.n] 26)).alloc (.cells #[.int .i64 n] 3)).alloc (.cells #[.slice none 0 0] 29)).alloc (.cells #[.slice none 0 0] 30)).heap[w.heap.size + 1]? = some (.cells #[.int .i64 n] 3 (0, 0)) := by
    have := heap_alloc_new (w.alloc (.cells #[.int .i64 k.k, .string k.t, .int .i64 k.n] 26)) (.cells #[.int .i64 n] 3)
    simp only [World.size_alloc] at this
    exact (Below.heap_alloc _ _ _ (by simp <;> omega)).trans ((Below.heap_alloc _ _ _ (by simp <;> omega)).trans this)
  have hfb : ((((w.alloc (.cells #[.int .i64 k.k, .string k.t, .int .i64 k.n] 26)).alloc (.cells #[.int .i64 n] 3)).alloc (.cells #[.slice none 0 0] 29)).alloc (.cells #[.slice none 0 0] 30)).heap[w.heap.size]? = some (.cells #[.int .i64 k.k, .string k.t, .int .i64 k.n] 26 (0, 0)) := (Below.heap_alloc _ _ _ (by simp <;> omega)).trans ((Below.heap_alloc _ _ _ (by simp <;> omega)).trans ((Below.heap_alloc _ _ _ (by simp <;> omega)).trans (heap_alloc_new w _)))
  have hsz : ((((w.alloc (.cells #[.int .i64 k.k, .string k.t, .int .i64 k.n] 26)).alloc (.cells #[.int .i64 n] 3)).alloc (.cells #[.slice none 0 0] 29)).alloc (.cells #[.slice none 0 0] 30)).heap.size = w.heap.size + 4 := by simp
  simp only [World.size_alloc] at hvb hkb
  gi_wp2_with fail
  generalize ((((w.alloc (.cells #[.int .i64 k.k, .string k.t, .int .i64 k.n] 26)).alloc (.cells #[.int .i64 n] 3)).alloc (.cells #[.slice none 0 0] 29)).alloc (.cells #[.slice none 0 0] 30)) = W0 at hB0 hvb hkb hnb hfb hsz ⊢
  have h0 := h.below hB0
  refine ⟨trivial, ?_⟩
  refine (callsIn_wide.2 (mapfrom_T W0 m s L k h0)).mono ?_
  rintro e w1 ⟨B, rfl, hB1⟩
  have h1 := h0.below hB1
  gi_wp2_with fail
  refine ⟨trivial, ?_⟩
  refine (callsIn_wide.2 (mapall_T w1 m s L h1)).mono ?_
  rintro e w2 ⟨rfl, hp1, hp2, hB2⟩
  have h2 := h1.below hB2
  have hC2 := hB1.trans (hB2.mono hB1.size)
  have hvb2 : Boxed w2 _ _ _ := (hC2.block _ hvb.lt).trans hvb
  have hkb2 : Boxed w2 _ _ _ := (hC2.block _ hkb.lt).trans hkb
  have hnb2 := (hC2.block _ (lt_of_block hnb)).trans hnb
  have hs1 := hB1.size
  have hs2 := hB2.size
  have hnq := eq_nilP 81 #[.pointer (some ⟨w1.heap.size + 1, 0, none⟩)]
  gi_wp2_with fail
  have hkr := World.ownsRow_nil w2 (w.heap.size + 1 + 1) 26 3
  have hvr := World.ownsRow_nil w2 (w.heap.size + 1 + 1) 3 1
  refine wpIn_rangeW rfl (by omega) (gf := 81) (lb := #[.pointer (some ⟨w1.heap.size + 1, 0, none⟩)]) rfl trivial (enters_of Try.func81 (by kernel_rfl) rfl)
    (pairs_stops 3 w2.heap.size _ _ s L w2 hp1 hp2 h2.2 (by omega) (Nat.le_refl _)) (fun h k => h.trans k) (fun W l o o' h hc => KpY.putObj W l o o' h hc) (Below.refl _ _) (fun _ => rfl)
    (fun pre V => (∃ v, Boxed V (w.heap.size + 1 + 1) 29 v ∧ V.ownsRow (w.heap.size + 1 + 1) 26 3 v pre.length (pre.flatMap fun x => [.int .i64 x.key.k, .string x.key.t, .int .i64 x.key.n]) ∧ True) ∧
      (∃ v, Boxed V (w.heap.size + 1 + 1 + 1) 30 v ∧ V.ownsRow (w.heap.size + 1 + 1) 3 1 v pre.length (pre.flatMap fun x => [.int .i64 x.v]) ∧ True) ∧ Below (w.heap.size + 1 + 1) w2 V)
    (fun _ _ _ => False)
    (OwnFrom.and (Own.from (holdsRow_own (w.heap.size + 1 + 1) (w.heap.size + 1 + 1) 29 26 3 (fun pre : List EntV => pre.length) (fun pre => pre.flatMap fun x => [.int .i64 x.key.k, .string x.key.t, .int .i64 x.key.n]) (fun _ _ => True)) _)
      (OwnFrom.and (Own.from (holdsRow_own (w.heap.size + 1 + 1) (w.heap.size + 1 + 1 + 1) 30 3 1 (fun pre : List EntV => pre.length) (fun pre => pre.flatMap fun x => [.int .i64 x.v]) (fun _ _ => True)) _) (ownFrom_below (by omega) (by omega))))
    (fun _ _ _ _ _ hs _ _ => hs)
    ⟨⟨_, hkb2, hkr, trivial⟩, ⟨_, hvb2, hvr, trivial⟩, Below.refl _ _⟩
    (fun x a' V => ∃ Bx, w2.heap.size ≤ Bx ∧ V.heap[Bx]? = some (.cells #[.int .i64 x.key.k, .string x.key.t, .int .i64 x.key.n] 26 (0, 0)) ∧ a' = { tmps := #[.pointer (some ⟨m, 0, none⟩), .agg #[.int .i64 k.k, .string k.t, .int .i64 k.n], .bool true, .int .i64 (n : Int), undef, .pointer (some ⟨w.heap.size, 0, none⟩), undef, .pointer (some ⟨w.heap.size + 1, 0, none⟩), .slice none 0 0, .slice none 0 0, .pointer (some ⟨w.heap.size + 1 + 1, 0, none⟩), .pointer (some ⟨w.heap.size + 1 + 1 + 1, 0, none⟩), .func (.func 81) #[] #[.pointer (some ⟨w1.heap.size + 1, 0, none⟩)], .pointer (some ⟨Bx, 0, none⟩), .int .i64 x.v, .pointer (some ⟨m, 0, none⟩), .agg #[.int .i64 k.k, .string k.t, .int .i64 k.n], .func (.func 81) #[] #[.pointer (some ⟨B, 0, none⟩)], .bool true, .pointer (some ⟨m, 0, none⟩), .func (.func 81) #[] #[.pointer (some ⟨w1.heap.size + 1, 0, none⟩)], .func (.func 81) #[] #[.pointer (some ⟨w1.heap.size + 1, 0, none⟩)], .bool false, .func (.func 81) #[] #[.pointer (some ⟨w1.heap.size + 1, 0, none⟩)], .agg #[.int .i64 x.key.k, .string x.key.t, .int .i64 x.key.n], .int .i64 x.v, undef, undef, undef, undef, undef, undef, undef, undef, undef, undef, undef, undef, undef, undef], defers := [] })
    (fun x a' s A B row hs hg hr => by
      obtain ⟨Bx, h1, h2, h3⟩ := hs
      refine ⟨Bx, h1, (hg.block Bx (lt_of_block h2) (fun e => ?_)).trans h2, h3⟩
      obtain ⟨-, o, ho, hc⟩ := hr Bx e.symm
      rw [h2] at ho; cases ho; cases hc)
    ?assign ?body ?done ?stop
  case assign =>
    rintro l2 pre x V K ⟨⟨vk, hk1, hk2, -⟩, ⟨vv, hv1, hv2, -⟩, hBV⟩ hK
    have hbv := hBV.size
    gi_wp2
    exact hK _ _ ((KeepsOthers.alloc _ _).from _) (kpy_below ((Below.refl _ V).alloc (Nat.le_refl _) _)) ⟨⟨vk, hk1.alloc _, hk2.alloc _, trivial⟩, ⟨vv, hv1.alloc _, hv2.alloc _, trivial⟩, hBV.alloc (by omega) _⟩ ⟨V.heap.size, by omega, heap_alloc_new V _, rfl⟩
  case body =>
    rintro l2 pre x a' V hl2 ⟨r0, hr0⟩ ⟨⟨vk, hk1, hk2, -⟩, ⟨vv, hv1, hv2, -⟩, hBV⟩ ⟨Bx, hBx, bX, rfl⟩ hpre
    have hlen : pre.length < L.length := by
      have := hpre.length_le
      simp at this; omega
    have hbv := hBV.size
    have hnc : V.cell? ⟨w.heap.size + 1, 0, none⟩ = some (.int .i64 n) := cell_of_one ((hBV.block _ (by omega)).trans hnb2)
    have hm : V.cell? ⟨Bx, 0, none⟩ = some (.int .i64 x.key.k) ∧ V.cell? ⟨Bx, 1, none⟩ = some (.string x.key.t) ∧ V.cell? ⟨Bx, 2, none⟩ = some (.int .i64 x.key.n) := by simp [World.cell?, bX]
    obtain ⟨a3, c3, rfl, hcap3, hln3⟩ := row_cap3 hk2
    obtain ⟨a4, c4, rfl, hcap4, hln4⟩ := row_cap3 hv2
    have hkc := hk1.cell
    have hvc := hv1.cell
    have hvf := hv1.frozen
    have hn1 : ¬ n ≤ pre.length := by omega
    have hn3 : ¬ (n : Int) ≤ pre.length := by omega
    clear hpre
    gi_wp2_with (first
      | (gi_at_builtin; refine wpListIn_append_own _ rfl _ _ 29 rfl (w.heap.size + 1 + 1) 26 i0 (.agg #[.int .i64 0, .string ⟨#[]⟩, .int .i64 0]) 3 32 Try.underlying29 hi hz0 hz1 hz2 rfl (by decide) _ _ _ rfl (hk2.alloc _) ⟨V.heap.size, 0, none⟩ 1 1 [.int .i64 x.key.k, .string x.key.t, .int .i64 x.key.n] rfl rfl (World.news_of_block (cs := #[.int .i64 x.key.k, .string x.key.t, .int .i64 x.key.n]) (t := 26) (fr := (0, 0)) (heap_alloc_new V _)) (by simp [Value.oneCell']) (by unfold maxLen; omega) (by omega) (by simp; omega) ?_; intro v' w5 hown' hgrow _; obtain ⟨g', cap', rfl⟩ := ownsRow_succ hown'; obtain ⟨hk5, hk6, hkr6, hkk6, hkb6, hv6, hvr6⟩ := two_lists hk1 hk2 hv1 hv2 (by omega) (by decide) (by decide) (by decide) (by decide) (by omega) (Nat.le_refl _) hown' hgrow; have hkc5 := hk5.cell; have hkf5 := hk5.frozen; have hkc6 := hk6.cell; have hvc6 := hv6.cell; have hsz5 := hkb6.size; (have hsz6 : V.heap.size ≤ w5.heap.size := by simpa [World.setCell] using hsz5); (have hse : (w5.setCell ⟨w.heap.size + 1 + 1, 0, none⟩ (.slice (some ⟨g', 0, none⟩) (pre.length + 1) cap')).heap.size = w5.heap.size := by simp [World.setCell]); have hkp6 := kpy_step (n₀ := w2.heap.size) hk2 hgrow (by decide) (by decide) (by decide) hk5 (by decide) (by decide) (by decide) (.slice (some ⟨g', 0, none⟩) (pre.length + 1) cap'))
      | (gi_at_builtin; refine wpListIn_append_own _ rfl _ _ 30 rfl (w.heap.size + 1 + 1) 3 i1 (.int .i64 0) 1 8 Try.underlying30 hj hy0 hy1 hy2 rfl (by decide) _ _ _ rfl (hvr6.alloc _) ⟨_, 0, none⟩ 1 1 [.int .i64 x.v] rfl rfl (by have q := cell_one_new (w5.setCell ⟨w.heap.size + 1 + 1, 0, none⟩ (.slice (some ⟨g', 0, none⟩) (pre.length + 1) cap')) (.int .i64 x.v) 3; rw [hse] at q; exact q) (by simp [Value.oneCell']) (by unfold maxLen; omega) (by omega) (by simp; omega) ?_; intro v'' w7 hown7 hgrow7 _; obtain ⟨g7, cap7, rfl⟩ := ownsRow_succ hown7; obtain ⟨hv8, hv9, hvr9, hvk9, hvb9, hk9, hkr9⟩ := two_lists hv6 hvr6 hk6 hkr6 (by omega) (by decide) (by decide) (by decide) (by decide) (by omega) (by omega) hown7 hgrow7; have hvc8 := hv8.cell; have hvf8 := hv8.frozen; have hkp9 := kpy_step (n₀ := w2.heap.size) hvr6 hgrow7 (by decide) (by decide) (by decide) hv8 (by decide) (by decide) (by decide) (.slice (some ⟨g7, 0, none⟩) (pre.length + 1) cap7))
      | fail)
    refine ⟨(hkk6.from _).trans (hvk9.from _), hkp6.trans hkp9, ⟨_, hk9, by simpa using hkr9⟩, ⟨_, hv9, by simpa using hvr9⟩, (hBV.trans hkb6).trans hvb9⟩
  case done =>
    rintro D xs V hD rfl ⟨⟨vk, hk1, hk2, -⟩, ⟨vv, hv1, hv2, -⟩, hBV⟩ hK
    have hkc := hk1.cell
    have hvc := hv1.cell
    gi_wp2
    refine wpIn_mono (Q := OnlyAt { tmps := #[.pointer (some ⟨m, 0, none⟩), .agg #[.int .i64 k.k, .string k.t, .int .i64 k.n], .bool true, .int .i64 (n : Int), undef, .pointer (some ⟨w.heap.size, 0, none⟩), undef, .pointer (some ⟨w.heap.size + 1, 0, none⟩), vk, vv, .pointer (some ⟨w.heap.size + 1 + 1, 0, none⟩), .pointer (some ⟨w.heap.size + 1 + 1 + 1, 0, none⟩), .func (.func 81) #[] #[.pointer (some ⟨w1.heap.size + 1, 0, none⟩)], undef, undef, .pointer (some ⟨m, 0, none⟩), .agg #[.int .i64 k.k, .string k.t, .int .i64 k.n], .func (.func 81) #[] #[.pointer (some ⟨B, 0, none⟩)], .bool true, .pointer (some ⟨m, 0, none⟩), .func (.func 81) #[] #[.pointer (some ⟨w1.heap.size + 1, 0, none⟩)], .func (.func 81) #[] #[.pointer (some ⟨w1.heap.size + 1, 0, none⟩)], .bool false, .func (.func 81) #[] #[.pointer (some ⟨w1.heap.size + 1, 0, none⟩)], undef, undef, undef, undef, undef, undef, undef, undef, undef, undef, undef, undef, undef, undef, vk, vv], defers := [{ target := .collected D, args := #[] }] } V.drew) ?_ (OnlyAt.imp ?_)
    · gi_region_with (fail)
      all_goals exact ⟨rfl, rfl⟩
    gi_wp2
    refine ⟨by simp, .inl ⟨_, _, rfl, run_takeDeferred (show V.drew.heap[D]? = _ from hK), ?_⟩⟩
    refine ⟨_, results_tmp2 rfl _ _ _, vk, vv, rfl, ?_, ?_, ?_⟩
    · exact World.ownsRow.mono (ownsRow_putObj hk2.drew _ hK rfl) (by omega)
    · exact World.ownsRow.mono (ownsRow_putObj hv2.drew _ hK rfl) (by omega)
    · exact (((hB0.trans (hC2.mono hB0.size)).trans (hBV.mono (by omega)))).drew.trans (belowK_b (w := w) (Nat.le_refl _) V.drew D _ _ (by omega) hK rfl rfl)
  case stop =>
    rintro D c pre W _ _ h _
    exact h.elim

end Go.Proofs.Ytbpibbcehfkeeaa.E
