/- Drain as a sequence. Conditions: the queue lies in memory. -/
import Derived.Test.YtckdojneogeblaaQLoop
namespace Go.Proofs.Ytckdojneogeblaa.QI
open Go Go.RowKit Go.Shelf

attribute [local go_sem] Oper.semAt_some

theorem drain_T (w : World) (p : Option Addr) :
    Calls Try.prog 21 #[.pointer p] w fun e w' => e = .returned (.func (.func 31) #[] #[.pointer (some ⟨w.heap.size, 0, none⟩)]) ∧ w' = w.alloc (.cells #[.pointer p] 23) := by
  have hmf : ∀ (fn : Fn) (first cap : Array Value) (w : World), (Instr.makeFunc fn first cap).run Try.prog w = .ok (.func fn first cap) w := fun _ _ _ _ => rfl
  go_enter Try.func21, Try.ntmps21
  go_wp2_with fail
  go_ret
  exact ⟨rfl, rfl⟩

/-- What Drain asks ahead of a round: the queue holds st pre. -/
def DRq (Bn s room : Nat) (st : List Int → List Int) (pre : List Int) (W : World) : Prop := W.heap[Bn]? = some (.cells #[.pointer (some ⟨s, 0, none⟩)] 23 (0, 0)) ∧ ∃ u pp, QAt s W s room u pp (st pre)

/-- What Drain does ahead of telling x. -/
def DMv (s room : Nat) (st : List Int → List Int) (pre : List Int) (x : Int) (W W2 : World) : Prop := ∃ u pp u2 pp2 t, st pre = x :: t ∧ QAt s W s room u pp (st pre) ∧ QAt s W2 s room u2 pp2 t ∧ FrQ s none W W2 ∧ Ends W.heap.size u u2

theorem dmv_keeps {s room : Nat} {st : List Int → List Int} {pre : List Int} {x : Int} {W W2 : World} (h : DMv s room st pre x W W2) : KeepsFrom 0 W W2 := by
  obtain ⟨u, pp, u2, pp2, t, -, h1, -, h2, -⟩ := h
  exact FrQ.keeps h2 h1.1 (fun g l e => by cases e)

theorem dme_keeps {W W2 : World} (h : Below W.heap.size W W2) : KeepsFrom 0 W W2 := ⟨h.size, fun k o _ hk _ => (h.block k (lt_of_get hk)).trans hk⟩

set_option maxRecDepth 100000 in
set_option maxHeartbeats 1000000 in
theorem drain_stops (n : Nat) (Bn s room : Nat) (w : World) (T : List Int) (st : List Int → List Int) (hst : ∀ j x, T[j]? = some x → ∃ t, st (T.take j) = x :: t) (hend : st T = []) :
    SeqM Fence.wide n Try.prog 31 #[.pointer (some ⟨Bn, 0, none⟩)] (fun x : Int => #[.int .i64 x]) (fun _ _ => True) (DRq Bn s room st) (DMv s room st) (fun _ W W' => Below W.heap.size W W') (fun ys => ys = T) (fun pre => pre <+: T) w := by
  intro l J Jm Jx W hW hRq hMv hMe hY h0
  have pop1 : ∀ j W1, Hid (J (T.take j) W1) → j ≤ T.length → Calls Try.prog 13 #[.pointer (some ⟨s, 0, none⟩)] W1 fun e W2 => (∃ x, T[j]? = some x ∧ e = .returned (.tuple #[.int .i64 x, .bool true]) ∧ Hid (Jm (T.take j) x W2) ∧ W2.heap[Bn]? = some (.cells #[.pointer (some ⟨s, 0, none⟩)] 23 (0, 0))) ∨ (j = T.length ∧ e = .returned (.tuple #[.int .i64 0, .bool false]) ∧ Hid (J T W2)) := by
    intro j W1 hJ hj
    obtain ⟨hb, u, pp, hQ⟩ := hRq _ _ hJ.out
    rcases Nat.lt_or_eq_of_le hj with hlt | rfl
    · obtain ⟨x, hx⟩ : ∃ x, T[j]? = some x := ⟨T[j], by simp [hlt]⟩
      obtain ⟨t, ht⟩ := hst j x hx
      have hQ' := hQ
      rw [ht] at hQ'
      refine (pop_some s W1 s room u pp x t hQ' (Nat.le_of_lt hQ.lt)).mono ?_
      rintro e W2 ⟨rfl, u2, ⟨pp2, hQ2⟩, hF, hE⟩
      have hm : DMv s room st (T.take j) x W1 W2 := ⟨u, pp, u2, pp2, t, ht, hQ, hQ2, hF, hE⟩
      refine .inl ⟨x, hx, rfl, Lib.hid (hMv _ _ _ _ hJ.out hm ⟨(dmv_keeps hm).size, fun k o _ => (dmv_keeps hm).same k o (Nat.zero_le _)⟩), (hF.block Bn (lt_of_block hb) ?_ (fun g l e => by cases e)).trans hb⟩
      rintro rfl
      have := hQ.1
      rw [hb] at this
      simp at this
    · rw [List.take_length] at hJ hQ
      rw [hend] at hQ
      refine (pop_none s W1 s room u pp hQ).mono ?_
      rintro e W2 ⟨rfl, hB⟩
      exact .inr ⟨rfl, rfl, Lib.hid (hMe _ _ _ rfl hJ.out hB ⟨(dme_keeps hB).size, fun k o _ => (dme_keeps hB).same k o (Nat.zero_le _)⟩)⟩
  have HJ0 : Hid (J (T.take 0) W) := Lib.hid (by simpa using h0)
  have hbox : W.cell? ⟨Bn, 0, none⟩ = some (.pointer (some ⟨s, 0, none⟩)) := cell_of_heap (hRq _ _ HJ0.out).1 (i := 0) rfl
  let C : Nat → Int → Bool → World → Prop := fun j xv tv W2 => (tv = true ∧ T[j]? = some xv ∧ Jm (T.take j) xv W2 ∧ W2.heap[Bn]? = some (.cells #[.pointer (some ⟨s, 0, none⟩)] 23 (0, 0))) ∨ (tv = false ∧ j = T.length ∧ J T W2)
  have pop2 : ∀ j W1, Hid (J (T.take j) W1) → j ≤ T.length → Calls Try.prog 13 #[.pointer (some ⟨s, 0, none⟩)] W1 fun e W2 => ∃ xv tv, e = .returned (.tuple #[.int .i64 xv, .bool tv]) ∧ Hid (C j xv tv W2) := fun j W1 hJ hj => (pop1 j W1 hJ hj).mono fun e W2 h => by
    rcases h with ⟨x, hx, rfl, h1, h2⟩ | ⟨h0, rfl, h1⟩
    · exact ⟨x, true, rfl, Lib.hid (.inl ⟨rfl, hx, h1.out, h2⟩)⟩
    · exact ⟨0, false, rfl, Lib.hid (.inr ⟨rfl, h0, h1.out⟩)⟩
  have hC : ∀ j xv tv W2, Hid (C j xv tv W2) → (tv = true ∧ T[j]? = some xv ∧ Jm (T.take j) xv W2 ∧ W2.heap[Bn]? = some (.cells #[.pointer (some ⟨s, 0, none⟩)] 23 (0, 0))) ∨ (tv = false ∧ j = T.length ∧ J T W2) := fun _ _ _ _ h => h.out
  clear pop1
  clear_value C
  refine callsIn_wide.2 ((callsIn_wide (n := 3)).1 ?_)
  refine callsIn_of_wp Try.func31 rfl trivial ?_ rfl
  simp only [Try.ntmps31, List.size_toArray, List.length_cons, List.length_nil, Nat.reduceAdd, Nat.reduceSub, Array.replicate_succ, Array.replicate_zero, List.push_toArray, List.append_toArray, List.nil_append, List.cons_append]
  gi_wp2_with fail
  refine ⟨trivial, ?_⟩
  refine (callsIn_wide.2 (pop2 0 W HJ0 (Nat.zero_le _))).mono ?_
  rintro e w1 ⟨x0, t0, rfl, HC0⟩
  gi_wp2_with fail
  gi_loopg [3, 4] (T.length - 0) (fun m xv tv wr => ∃ (j : Nat) (x : Int) (b : Bool), xv = .int .i64 x ∧ tv = .bool b ∧ j ≤ T.length ∧ Hid (m = T.length - j) ∧ Hid (C j x b wr))
  case atStart => exact ⟨0, x0, t0, rfl, rfl, Nat.zero_le _, Lib.hid rfl, HC0⟩
  case round =>
    obtain ⟨j, x, b, rfl, rfl, hj, Hm, HC⟩ := hrel
    rcases hC j x b wr HC with ⟨rfl, hx, hJm, hbx⟩ | ⟨rfl, rfl, hJT⟩
    · have hlt : j < T.length := (List.getElem?_eq_some_iff.1 hx).1
      have htk : T.take (j + 1) = T.take j ++ [x] := by rw [List.take_add_one, hx]; rfl
      have Htk := Lib.hid htk
      have hR0 := hY (T.take j) x wr hJm (by rw [← htk]; exact List.take_prefix _ _)
      obtain ⟨fn, tmps, assign, body, hyd, hR⟩ := YieldAt.anyDepth rfl 2 hR0
      clear hx htk hR0 hJm
      gi_wp2_with fail
      refine hR.mono ?_
      rintro e W2 ⟨-, (⟨rfl, hJ2, -⟩ | ⟨rfl, hx2⟩)⟩
      · have HJ2 : Hid (J (T.take (j + 1)) W2) := Lib.hid (by rw [Htk.out]; exact hJ2)
        have hbox2 : W2.cell? ⟨Bn, 0, none⟩ = some (.pointer (some ⟨s, 0, none⟩)) := cell_of_heap (hRq _ _ HJ2.out).1 (i := 0) rfl
        clear hJ2
        gi_wp2_with fail
        refine ⟨trivial, ?_⟩
        refine (callsIn_wide.2 (pop2 (j + 1) W2 HJ2 (by omega))).mono ?_
        rintro e w3 ⟨x3, t3, rfl, HC3⟩
        gi_wp2_with fail
        gi_roundg (T.length - (j + 1))
        case measure => rw [Hm.out]; omega
        case rel => exact ⟨j + 1, x3, t3, rfl, rfl, by omega, Lib.hid rfl, HC3⟩
      · gi_wp2_with fail
        refine bodyPost_ret (results_none rfl _ _ _) rfl ?_
        exact ⟨⟨_, rfl⟩, .inr ⟨T.take (j + 1), List.take_prefix _ _, by rw [Htk.out]; exact hx2⟩⟩
    · have HJT := Lib.hid hJT
      clear hJT
      gi_wp2_with fail
      go_end0
      exact ⟨⟨_, rfl⟩, .inl ⟨_, rfl, HJT.out⟩⟩

/-- What holds while First goes through Drain. -/
def DG (w : World) (m Bn s room : Nat) (Q : List Int) (r : Option Nat) (W : World) : Prop :=
  W.heap[Bn]? = some (.cells #[.pointer (some ⟨s, 0, none⟩)] 23 (0, 0)) ∧ (∃ u pp, QAt s W s room u pp Q ∧ ∀ g l, endOf u = some (g, l) → some g ≠ r ∧ (g < w.heap.size ∨ m ≤ g)) ∧ (∀ k, r = some k → k < W.heap.size) ∧ FrQ s none w W

theorem qat_inj {B s room : Nat} {W : World} {u u' : Value} {pp pp' : Nat} {xs xs' : List Int} (h : QAt B W s room u pp xs) (h' : QAt B W s room u' pp' xs') : u = u' := by
  have := h.1.symm.trans h'.1
  simp at this
  exact this.1

theorem host_drain (w : World) (m Bn s room : Nat) (L : List Int) (S Sp : List Int → Prop) (hs : s < w.heap.size) (hb : Bn < w.heap.size) (hbs : Bn ≠ s) (hm : w.heap.size ≤ m) :
    Host w.heap.size m (DRq Bn s room (fun pre => L.drop pre.length)) (DMv s room (fun pre => L.drop pre.length)) (fun _ W W' => Below W.heap.size W W') S Sp (fun _ _ => True) (fun pre r W => DG w m Bn s room (L.drop pre.length) r W) (fun pre _ r W => DG w m Bn s room (L.drop (pre.length + 1)) r W) where
  rq pre r W h := ⟨h.1, h.2.1.imp fun u h => h.imp fun pp h => h.1⟩
  mv pre x r W W2 hmW h hM := by
    obtain ⟨hbx, ⟨u, pp, hQ, hu⟩, hr, hF⟩ := h
    obtain ⟨u', pp', u2, pp2, t, ht, hQ', hQ2, hF2, hE⟩ := hM
    obtain rfl := qat_inj hQ hQ'
    have ht2 : L.drop (pre.length + 1) = t := by
      have := congrArg List.tail ht
      rwa [List.tail_drop] at this
    have blk : ∀ k, k < W.heap.size → k ≠ s → W2.heap[k]? = W.heap[k]? := fun k hk hne => hF2.block k hk hne (fun g l e => by cases e)
    refine ⟨⟨(blk Bn (lt_of_block hbx) hbs).trans hbx, ⟨u2, pp2, by rw [ht2]; exact hQ2, fun g l e => ?_⟩, fun k e => by have := hr k e; have := hF2.size; omega, hF.trans hF2 (fun g l e => by cases e)⟩, hF2.size, fun k hk hkW => blk k hkW (by omega)⟩
    rcases hE g l e with ⟨l0, e0, -⟩ | h
    · exact hu g l0 e0
    · exact ⟨fun e2 => by have := hr g e2.symm; omega, by omega⟩
  me pre r W W2 hmW _ h hB := by
    obtain ⟨hbx, ⟨u, pp, hQ, hu⟩, hr, hF⟩ := h
    exact ⟨⟨(hB.block Bn (lt_of_block hbx)).trans hbx, ⟨u, pp, hQ.below hB, hu⟩, fun k e => by have := hr k e; have := hB.size; omega, hF.trans (FrQ.of_below (r := none) hB) (fun g l e => by cases e)⟩, hB.size, fun k _ hk => hB.block k hk⟩
  mvK pre x W1 W2 h := dmv_keeps h
  meK pre W1 W2 h := dme_keeps h
  st pre r W W' row hn h hg hr' := by
    obtain ⟨hbx, ⟨u, pp, hQ, hu⟩, hr, hF⟩ := h
    have hc := fun q e => (hr' q e).2
    refine ⟨(grownBy_keeps_cells hg hc hbx rfl).trans hbx, ⟨u, pp, ⟨(grownBy_keeps_cells hg hc hQ.1 rfl).trans hQ.1, Rw.grow hQ.2.1 hg hc, hQ.2.2⟩, hu⟩, fun k e => by have := hr k e; have := hg.size; omega, hg.os.trans hF.os, hg.tape.trans hF.tape, hg.output.trans hF.output, Nat.le_trans hF.size hg.size, fun k hk h1 h2 => (hg.block k (by have := hF.size; omega) (fun e => by have := (hr' k e.symm).1; omega)).trans (hF.block k hk h1 h2), fun g l e => by cases e⟩
  stm pre x r W W' row hn h hg hr' := by
    obtain ⟨hbx, ⟨u, pp, hQ, hu⟩, hr, hF⟩ := h
    have hc := fun q e => (hr' q e).2
    refine ⟨(grownBy_keeps_cells hg hc hbx rfl).trans hbx, ⟨u, pp, ⟨(grownBy_keeps_cells hg hc hQ.1 rfl).trans hQ.1, Rw.grow hQ.2.1 hg hc, hQ.2.2⟩, hu⟩, fun k e => by have := hr k e; have := hg.size; omega, hg.os.trans hF.os, hg.tape.trans hF.tape, hg.output.trans hF.output, Nat.le_trans hF.size hg.size, fun k hk h1 h2 => (hg.block k (by have := hF.size; omega) (fun e => by have := (hr' k e.symm).1; omega)).trans (hF.block k hk h1 h2), fun g l e => by cases e⟩
  body pre x r r' W W' hn h _ h1 h2 h3 h4 h5 h6 h7 h8 := by
    obtain ⟨hbx, ⟨u, pp, hQ, hu⟩, hr, hF⟩ := h
    have old : ∀ k, k < w.heap.size → W'.heap[k]? = W.heap[k]? := fun k hk => h5 k (by omega) (.inl hk) (fun e => by have := h6 k e.symm; omega)
    refine ⟨(old Bn hb).trans hbx, ⟨u, pp, ?_, fun g l e => ⟨fun e2 => ?_, (hu g l e).2⟩⟩, h8, h1.trans hF.os, h2.trans hF.tape, h3.trans hF.output, Nat.le_trans hF.size h4, fun k hk h9 h10 => (old k hk).trans (hF.block k hk h9 h10), fun g l e => by cases e⟩
    · rw [List.length_append]
      exact ⟨(old s hs).trans hQ.1, hQ.2.1.keep fun g l e => h5 g (hQ.2.1.end_ge g l e).2.1 (hu g l e).2 (hu g l e).1, hQ.2.2⟩
    · rcases h7 with rfl | ⟨k, rfl, hk⟩
      · exact (hu g l e).1 e2
      · have := (hQ.2.1.end_ge g l e).2.1; cases e2; omega
  kpT _ _ := trivial
  kpO _ _ _ _ _ _ := trivial
  kpB _ _ _ := trivial

/-- First of Drain. -/
theorem first_drain (w : World) (Bn s room : Nat) (u : Value) (pp : Nat) (L : List Int) (k : Nat) (hB : w.heap[Bn]? = some (.cells #[.pointer (some ⟨s, 0, none⟩)] 23 (0, 0))) (hQ : QAt s w s room u pp L) (hk : k ≤ 100000) :
    Calls Try.prog 20 #[.func (.func 31) #[] #[.pointer (some ⟨Bn, 0, none⟩)], .int .i64 k] w fun e w' => ∃ v, e = .returned v ∧ IntsOf w' v (L.take k) ∧ (∃ u pp, QAt s w' s room u pp (L.drop k)) ∧ FrQ s none w w' := by
  have hbs : Bn ≠ s := by
    rintro rfl
    have := hQ.1
    rw [hB] at this
    simp at this
  have hL := hQ.2.2
  refine (first_M _ _ L k w (enters_of Try.func31 (by kernel_rfl) rfl) (drain_stops 2 Bn s room w L (fun pre => L.drop pre.length) (fun j x hx => ?_) (by simp)) (host_drain w (w.heap.size + 2) Bn s room L _ _ hQ.lt (lt_of_block hB) hbs (by omega)) ⟨hB, ⟨u, pp, by simpa using hQ, fun g l e => ⟨(by simp), .inl (hQ.2.1.end_ge g l e).2.1⟩⟩, (by simp), FrQ.of_below (Below.refl _ _)⟩ (by omega) hk).mono ?_
  · obtain ⟨hj, rfl⟩ := List.getElem?_eq_some_iff.1 hx
    refine ⟨L.drop (j + 1), ?_⟩
    simp only [List.length_take, Nat.min_eq_left (Nat.le_of_lt hj)]
    exact List.drop_eq_getElem_cons hj
  · rintro e w' ⟨v, rfl, hR, hG⟩
    obtain ⟨-, ⟨u', pp', hQ', -⟩, -, hF⟩ := hG
    refine ⟨v, rfl, Rw.ints hR, ⟨u', pp', ?_⟩, hF⟩
    rcases Nat.le_total k L.length with h | h
    · rwa [List.length_take, Nat.min_eq_left h] at hQ'
    · rw [List.length_take, Nat.min_eq_right h] at hQ'
      rw [List.drop_length] at hQ'
      rwa [List.drop_of_length_le h]

/-- The numbers that the law pushes meanwhile. -/
def pushes (k : Nat) : List Int := (List.range k).map fun i : Nat => 1000 + (i : Int)
/-- What the queue holds behind the rounds pre. -/
def dst (left : List Int) (mm : Nat) (pre : List Int) : List Int := (left ++ pushes (min pre.length mm)).drop pre.length
/-- All that is told. -/
def dT (left : List Int) (mm : Nat) : List Int := if left = [] then [] else left ++ pushes mm

theorem pushes_length (k : Nat) : (pushes k).length = k := by simp [pushes]
theorem pushes_succ (k : Nat) : pushes (k + 1) = pushes k ++ [1000 + (k : Int)] := by simp [pushes, List.range_succ]
theorem pushes_get {k i : Nat} (h : i < k) : (pushes k)[i]? = some (1000 + (i : Int)) := by simp [pushes, h]

theorem dst_head (left : List Int) (mm : Nat) : ∀ j x, (dT left mm)[j]? = some x → ∃ t, dst left mm ((dT left mm).take j) = x :: t := by
  intro j x hx
  unfold dT at hx ⊢
  split at hx
  · simp at hx
  · rename_i hl
    rw [if_neg hl]
    obtain ⟨hj, hx'⟩ := List.getElem?_eq_some_iff.1 hx
    have hl0 : 0 < left.length := List.length_pos_iff.2 hl
    rw [List.length_append, pushes_length] at hj
    have e : ((left ++ pushes mm).take j).length = j := by rw [List.length_take, List.length_append, pushes_length]; omega
    unfold dst
    rw [e]
    have hlt : j < (left ++ pushes (min j mm)).length := by rw [List.length_append, pushes_length]; omega
    refine ⟨(left ++ pushes (min j mm)).drop (j + 1), (List.drop_eq_getElem_cons hlt).trans ?_⟩
    congr 1
    have h1 : (left ++ pushes (min j mm))[j]? = (left ++ pushes mm)[j]? := by
      rcases Nat.lt_or_ge j left.length with h | h
      · rw [List.getElem?_append_left h, List.getElem?_append_left h]
      · rw [List.getElem?_append_right h, List.getElem?_append_right h, pushes_get (by omega), pushes_get (by omega)]
    have h2 := List.getElem?_eq_getElem hlt
    rw [h1, hx] at h2
    exact (Option.some.inj h2).symm

theorem dst_end (left : List Int) (mm : Nat) : dst left mm (dT left mm) = [] := by
  unfold dst dT
  split
  · rename_i h; subst h; simp [pushes]
  · rename_i h
    have hl0 : 0 < left.length := List.length_pos_iff.2 h
    rw [List.drop_eq_nil_iff]
    simp only [List.length_append, pushes_length]
    omega

theorem dst_nil (left : List Int) (mm : Nat) : dst left mm [] = left := by simp [dst, pushes]

theorem dst_step {left : List Int} {mm : Nat} {pre : List Int} {x : Int} {t : List Int} (h : dst left mm pre = x :: t) : dst left mm (pre ++ [x]) = if pre.length < mm then t ++ [1000 + (pre.length : Int)] else t := by
  unfold dst at h ⊢
  have hlen : pre.length < (left ++ pushes (min pre.length mm)).length := by
    rcases Nat.lt_or_ge pre.length (left ++ pushes (min pre.length mm)).length with h1 | h1
    · exact h1
    · rw [List.drop_of_length_le h1] at h; cases h
  have ht : t = (left ++ pushes (min pre.length mm)).drop (pre.length + 1) := by
    have := congrArg List.tail h
    rw [List.tail_drop] at this
    exact this.symm
  simp only [List.length_append, List.length_cons, List.length_nil, Nat.zero_add]
  split
  · rename_i hlt
    rw [Nat.min_eq_left (by omega), pushes_succ, ← List.append_assoc, List.drop_append_of_le_length (by rw [Nat.min_eq_left (by omega)] at hlen; omega), ht, Nat.min_eq_left (by omega)]
  · rename_i hge
    rw [ht, Nat.min_eq_right (by omega), Nat.min_eq_right (by omega)]

theorem dT_length (left : List Int) (mm : Nat) : (dT left mm).length ≤ left.length + mm := by
  unfold dT
  split
  · simp
  · simp [pushes_length]

/-- AllQ, a number's box at M, and a second box of the queue at Bd. -/
structure DI (n8 s O Bq Rb M Bd mm : Nat) (v uq : Value) (pp : Nat) (qs pre : List Int) (W : World) : Prop where
  a : AllQ n8 s O Bq Rb none v uq pp qs pre W
  m : W.heap[M]? = some (.cells #[.int .i64 (mm : Nat)] 3 (0, 0))
  d : W.heap[Bd]? = some (.cells #[.pointer (some ⟨s, 0, none⟩)] 23 (0, 0))

section
variable {n8 s O Bq Rb M Bd mm : Nat} {v uq : Value} {pp : Nat} {qs pre : List Int} {W : World}

theorem DI.below (h : DI n8 s O Bq Rb M Bd mm v uq pp qs pre W) {W' : World} (hB : Below W.heap.size W W') : DI n8 s O Bq Rb M Bd mm v uq pp qs pre W' :=
  ⟨h.a.below hB, (hB.block _ (lt_of_block h.m)).trans h.m, (hB.block _ (lt_of_block h.d)).trans h.d⟩

theorem DI.grow (h : DI n8 s O Bq Rb M Bd mm v uq pp qs pre W) {W' : World} {row : Option Nat} (hg : W.grownBy W' row) (hr : ∀ q, row = some q → ∃ o : Obj, W.heap[q]? = some o ∧ o.isCells = false) : DI n8 s O Bq Rb M Bd mm v uq pp qs pre W' :=
  ⟨h.a.grow hg hr, (grownBy_keeps_cells hg hr h.m rfl).trans h.m, (grownBy_keeps_cells hg hr h.d rfl).trans h.d⟩

theorem DI.pop (h : DI n8 s O Bq Rb M Bd mm v uq pp qs pre W) (h1 : Rb ≠ s) (h2 : Bq ≠ s) (h3 : s < O) (h4 : M < s) (h5 : O < Bd) {W' : World} {uq' : Value} {pp' : Nat} {qs' : List Int} (hQ : QAt s W' s 1000 uq' pp' qs') (hF : FrQ s none W W') (hE : Ends W.heap.size uq uq') : DI n8 s O Bq Rb M Bd mm v uq' pp' qs' pre W' :=
  ⟨h.a.pop h1 h2 h3 (fun _ _ e => by cases e) hQ hF hE, (hF.block _ (lt_of_block h.m) (by omega) (fun _ _ e => by cases e)).trans h.m, (hF.block _ (lt_of_block h.d) (by omega) (fun _ _ e => by cases e)).trans h.d⟩

theorem DI.push (h : DI n8 s O Bq Rb M Bd mm v uq pp qs pre W) (h1 : Rb ≠ s) (h2 : Bq ≠ s) (h3 : s < O) (h4 : M < s) (h5 : O < Bd) {W' : World} {uq' : Value} {pp' : Nat} {qs' : List Int} (hQ : QAt s W' s 1000 uq' pp' qs') (hF : FrQ s (endOf uq) W W') (hE : Ends W.heap.size uq uq') : DI n8 s O Bq Rb M Bd mm v uq' pp' qs' pre W' :=
  ⟨h.a.push h1 h2 h3 (fun _ _ e => by cases e) hQ hF hE, (hF.block _ (lt_of_block h.m) (by omega) (fun g l e => by have := (h.a.q.2.1.end_ge g l e).1; omega)).trans h.m, (hF.block _ (lt_of_block h.d) (by omega) (fun g l e => (Rw.ne_of h.a.q.2.1 h.d (by decide) g l e).symm)).trans h.d⟩

theorem DI.step (h : DI n8 s O Bq Rb M Bd mm v uq pp qs pre W) (h1 : Rb < O) (h2 : Bq < O) (h3 : s < O) (h4 : M < s) (h5 : O < Bd) {w1 : World} {v' : Value} {x : Int}
    (hF : Fr (endOf v) (W.alloc (.cells #[.int .i64 x] 3)) w1) (hE : ∀ g l, endOf v' = some (g, l) → (∃ l0, endOf v = some (g, l0) ∧ l0 ≤ l) ∨ (W.alloc (.cells #[.int .i64 x] 3)).heap.size ≤ g) (hR : Rw en 3 (O + 1) w1 v' (pre ++ [x])) :
    DI n8 s O Bq Rb M Bd mm v' uq pp qs (pre ++ [x]) (w1.setCell ⟨O, 0, none⟩ v') ∧ KeepsFrom 0 W (w1.setCell ⟨O, 0, none⟩ v') ∧ Below O W (w1.setCell ⟨O, 0, none⟩ v') := by
  obtain ⟨a1, a2, a3⟩ := h.a.step h1 h2 h3 hF hE hR
  obtain ⟨s1, s2, s3, s4, s5, s6, s7⟩ := step_out O h.a.bo h.a.row hF hE hR
  refine ⟨⟨a1, (a3.block _ (by omega)).trans h.m, (s5 Bd (lt_of_block h.d) (by omega) (fun e => ?_)).trans h.d⟩, a2, a3⟩
  obtain ⟨⟨g, l⟩, e1, e2⟩ := Option.map_eq_some_iff.1 e.symm
  exact Rw.ne_of h.a.row h.d (by decide) g l e1 e2

end

end Go.Proofs.Ytckdojneogeblaa.QI
