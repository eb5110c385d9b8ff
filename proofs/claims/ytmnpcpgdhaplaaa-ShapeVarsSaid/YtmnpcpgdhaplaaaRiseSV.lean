/- What rise of a tree's nodes does with a loop's body. Conditions: the tree lies in memory; at most 800000 members. -/
import Derived.Test.YtmnpcpgdhaplaaaMg14
import Derived.RangeFuncKeeps
import Derived.RangeFuncNested
import Derived.RangeFuncBound
import Derived.RangeFuncLeaves
import Derived.Shelf.Abstract
import Derived.OwnWalkIn
import Derived.TacticsInMore
import Derived.WalkLawsBesides
namespace Go.Proofs.Ytmnpcpgdhaplaaa.V
open Go Go.RowKit Go.Shelf

attribute [local go_sem] Oper.semAt_some

/-- Every node that was there below n₀ is there. -/
def Kp (n₀ : Nat) (W W' : World) : Prop := ∀ (b : Nat) (c : Array Value), b < n₀ → W.heap[b]? = some (.cells c 142 (0, 0)) → W'.heap[b]? = some (.cells c 142 (0, 0))

theorem Kp.refl (n₀ : Nat) (W : World) : Kp n₀ W W := fun _ _ _ h => h
theorem Kp.trans {n₀ : Nat} {A B C : World} (h : Kp n₀ A B) (k : Kp n₀ B C) : Kp n₀ A C := fun b c hn hb => k b c hn (h b c hn hb)
theorem Kp.lt {n₀ : Nat} {W W' : World} (h : Kp n₀ W W') (hn : W.heap.size ≤ n₀) {t : Tr VarV} {p : Option Addr} (ht : LT W t p) : LT W' t p :=
  IsT.keep (fun b c hb => h b c (Nat.lt_of_lt_of_le (lt_of_block hb) hn) hb) t p ht
theorem Kp.of_below {n₀ : Nat} {W W' : World} (h : Below n₀ W W') : Kp n₀ W W' := fun b _ hn hb => (h.block b hn).trans hb
theorem Kp.of_but {n₀ s : Nat} {W W' : World} (h : But s W W') {c : Array Value} {T : TypeId} {f : Nat × Nat} (hs : W.heap[s]? = some (.cells c T f)) (hT : T ≠ 142) : Kp n₀ W W' := by
  intro b c' _ hb
  refine (h.block b (lt_of_block hb) ?_).trans hb
  rintro rfl
  rw [hs] at hb
  simp at hb
  exact hT hb.2.1
theorem Kp.putObj {n₀ : Nat} (W : World) (l : Nat) (o o' : Obj) (h : W.heap[l]? = some o) (hc : o.isCells = false) : Kp n₀ W (W.putObj l o') := by
  intro b c _ hb
  refine (World.putObj_heap_other ?_).trans hb
  rintro rfl
  rw [h] at hb
  cases hb
  cases hc

theorem room_of_none {F : Fence} (hd : F.depth = none) (k : Nat) : F.room k := fun d h => by rw [hd] at h; cases h
theorem RoundIn.anyDepth {F : Fence} (hd : F.depth = none) {m m' : Nat} {P : Program} {l : Nat} {f : FuncId} {tmps : Array Value} {assign body : Code} {w : World} {R : Ending → World → Prop}
    (h : RoundIn F m P l f tmps assign body w R) : RoundIn F m' P l f tmps assign body w R := ⟨h.1, fun c cs _ => h.2 c cs (room_of_none hd _)⟩
theorem YieldAt.anyDepth {F : Fence} (hd : F.depth = none) {m : Nat} (m' : Nat) {P : Program} {l : Nat} {args : Array Value} {W : World} {R : Ending → World → Prop} (h : YieldAt F m P l args W R) : YieldAt F m' P l args W R := by
  obtain ⟨fn, tmps, assign, body, hy, hR⟩ := h
  exact ⟨fn, tmps, assign, body, hy, RoundIn.anyDepth hd hR⟩

/-- What one round of the caller's loop does. -/
def Rounds (n₀ l : Nat) (G : List VarV → Prop) (J Jx : List VarV → World → Prop) : Prop :=
  ∀ m pre x W, J pre W → G (pre ++ [x]) → YieldAt Fence.wide m Try.prog l #[.agg #[.string x.name, .int .i64 x.nth]] W fun e W' =>
    (e = .returned (.bool true) ∧ J (pre ++ [x]) W' ∧ Kp n₀ W W') ∨ (e = .returned (.bool false) ∧ Jx (pre ++ [x]) W')

/-- What rise comes to over the members L, behind those that have come. -/
def Rose (n₀ : Nat) (pre L : List VarV) (J Jx : List VarV → World → Prop) (W : World) (e : Ending) (W' : World) : Prop :=
  (e = .returned (.bool true) ∧ J (pre ++ L) W' ∧ Kp n₀ W W') ∨ (e = .returned (.bool false) ∧ ∃ q, q <+: L ∧ Jx (pre ++ q) W')

set_option maxRecDepth 100000 in
set_option maxHeartbeats 2000000 in
theorem rise_in (n₀ : Nat) (w0 : World) (hn : w0.heap.size ≤ n₀) (l : Nat) (G : List VarV → Prop) (hG : ∀ a b, a <+: b → G b → G a) (J Jx : List VarV → World → Prop) (hY : Rounds n₀ l G J Jx) (T : Tr VarV) :
    ∀ (n : Nat) (p : Option Addr) (i : Nat) (z : Int) (pre : List VarV) (W : World), LT w0 T p → Kp n₀ w0 W → z = i → T.size ≤ 800000 → J pre W → G (pre ++ T.list.drop i) →
      CallsIn Fence.wide n Try.prog 101 #[.pointer p, .int .i64 z, .func (.yield l) #[] #[]] W (Rose n₀ pre (T.list.drop i) J Jx W) := by
  induction T with
  | nil =>
    intro n p i z pre W ht0 hK hz hs hJ hN
    have hz0 : 0 ≤ z := by omega
    clear hz
    obtain rfl : p = none := ht0
    refine callsIn_of_wp Try.func101 rfl trivial ?_ rfl
    simp only [Try.ntmps101, List.size_toArray, List.length_cons, List.length_nil, Nat.reduceAdd, Nat.reduceSub, Array.replicate_succ, Array.replicate_zero, List.push_toArray, List.append_toArray, List.nil_append, List.cons_append]
    gi_wp2_with fail
    refine ⟨trivial, fun h => (by cases h), ?_⟩
    refine (callsIn_wide.2 (count_T W .nil none rfl)).mono ?_
    rintro e w' ⟨rfl, rfl⟩
    simp only [Tr.size, Tr.list, List.length_nil]
    gi_wp2_with fail
    go_ret
    exact .inl ⟨rfl, by simpa [Tr.list] using hJ, Kp.refl _ _⟩
  | node tl v tr ihl ihr =>
    intro n p i z pre W ht0 hK hz hs hJ hN
    have hz0 : 0 ≤ z := by omega
    have hcT := callsIn_wide (n := n - 1).2 (count_T W _ _ (hK.lt hn ht0))
    have hsn := size_node tl tr v
    obtain ⟨b, pl, pr, rfl, hb0, hl0, hr0⟩ := ht0
    have hbn : b < n₀ := Nat.lt_of_lt_of_le (lt_of_block hb0) hn
    have hb := hK b _ hbn hb0
    have hl := hK.lt hn hl0
    clear hb0
    obtain ⟨c0, c1, c2, -⟩ := node_cells hb
    have Hb := Lib.hid hb
    have Hz := Lib.hid hz
    clear hb
    by_cases hge : tl.size + tr.size + 1 ≤ i
    · have hge' : ((tl.node v tr).size : Int) ≤ z := by omega
      clear hz
      refine callsIn_of_wp Try.func101 rfl trivial ?_ rfl
      simp only [Try.ntmps101, List.size_toArray, List.length_cons, List.length_nil, Nat.reduceAdd, Nat.reduceSub, Array.replicate_succ, Array.replicate_zero, List.push_toArray, List.append_toArray, List.nil_append, List.cons_append]
      gi_wp2_with fail
      refine ⟨trivial, fun h => (by cases h), ?_⟩
      refine hcT.mono ?_
      rintro e w' ⟨rfl, rfl⟩
      gi_wp2_with fail
      go_ret
      refine .inl ⟨rfl, ?_, Kp.refl _ _⟩
      rw [List.drop_eq_nil_of_le (by unfold Tr.size at hsn hge; omega)]
      simpa using hJ
    · have hlt0 : z < ((tl.node v tr).size : Int) := by omega
      rw [hsn] at hs
      rcases Nat.lt_trichotomy i tl.size with hlt | heq | hgt
      · have e0 : (tl.node v tr).list.drop i = tl.list.drop i ++ v :: tr.list := List.drop_append_of_le_length (Nat.le_of_lt hlt)
        have hN1 : G (pre ++ tl.list.drop i) := hG _ _ ⟨v :: tr.list, by rw [e0]; simp⟩ hN
        have hN2 : G (pre ++ tl.list.drop i ++ [v]) := hG _ _ ⟨tr.list, by rw [e0]; simp⟩ hN
        have hN3 : G (pre ++ tl.list.drop i ++ [v] ++ tr.list.drop 0) := hG _ _ ⟨[], by rw [e0]; simp⟩ hN
        have E0 := Lib.hid e0
        clear e0 hN
        have h1 : z < tl.size := by omega
        have h2 : z ≤ tl.size := by omega
        have H0 : Hid ((max (z - tl.size - 1) 0 : Int) = (0 : Nat)) := Lib.hid (by omega)
        clear hz hge hlt
        refine callsIn_of_wp Try.func101 rfl trivial ?_ rfl
        simp only [Try.ntmps101, List.size_toArray, List.length_cons, List.length_nil, Nat.reduceAdd, Nat.reduceSub, Array.replicate_succ, Array.replicate_zero, List.push_toArray, List.append_toArray, List.nil_append, List.cons_append]
        gi_wp2_with fail
        refine ⟨trivial, fun h => (by cases h), ?_⟩
        refine hcT.mono ?_
        rintro e w' ⟨rfl, rfl⟩
        gi_wp2_with fail
        refine ⟨trivial, fun h => (by cases h), ?_⟩
        refine (callsIn_wide.2 (count_T W _ _ hl)).mono ?_
        rintro e w' ⟨rfl, rfl⟩
        gi_wp2_with fail
        refine ⟨trivial, fun h => (by cases h), ?_⟩
        refine (ihl (n - 1) pl i z pre W hl0 hK Hz.out (by omega) hJ hN1).mono ?_
        rintro e W1 (⟨rfl, hJ1, hk1⟩ | ⟨rfl, q, hq, hx⟩)
        · obtain ⟨d0, -, -, -⟩ := node_cells (hk1 b _ hbn Hb.out)
          obtain ⟨fn, tmps, assign, body, hy, hR⟩ := hY (n - 1) _ v W1 hJ1 hN2
          gi_wp2_with fail
          refine ⟨fun h => (by cases h), ?_⟩
          refine hR.mono ?_
          rintro e W2 (⟨rfl, hJ2, hk2⟩ | ⟨rfl, hx⟩)
          · have hk12 := hk1.trans hk2
            obtain ⟨-, -, e2, -⟩ := node_cells (hk12 b _ hbn Hb.out)
            gi_wp2_with fail
            refine ⟨trivial, fun h => (by cases h), ?_⟩
            refine (ihr (n - 1) pr 0 0 _ W2 hr0 (hK.trans hk12) rfl (by omega) hJ2 hN3).mono ?_
            rintro e W3 (⟨rfl, hJ3, hk3⟩ | ⟨rfl, q, hq, hx⟩)
            · gi_wp2_with fail
              go_ret
              exact .inl ⟨rfl, by rw [E0.out]; simpa [List.append_assoc] using hJ3, hk12.trans hk3⟩
            · gi_wp2_with fail
              go_ret
              obtain ⟨r, hr'⟩ := hq
              exact .inr ⟨rfl, tl.list.drop i ++ v :: q, ⟨r, by rw [E0.out]; simpa using hr'⟩, by simpa [List.append_assoc] using hx⟩
          · gi_wp2_with fail
            go_ret
            exact .inr ⟨rfl, tl.list.drop i ++ [v], ⟨tr.list, by rw [E0.out]; simp⟩, by simpa [List.append_assoc] using hx⟩
        · gi_wp2_with fail
          go_ret
          obtain ⟨r, hr'⟩ := hq
          exact .inr ⟨rfl, q, ⟨r ++ v :: tr.list, by rw [E0.out, ← hr']; simp⟩, hx⟩
      · have e0 : (tl.node v tr).list.drop i = v :: tr.list := by
          rw [heq]; exact List.drop_left
        have hN2 : G (pre ++ [v]) := hG _ _ ⟨tr.list, by rw [e0]; simp⟩ hN
        have hN3 : G (pre ++ [v] ++ tr.list.drop 0) := hG _ _ ⟨[], by rw [e0]; simp⟩ hN
        have E0 := Lib.hid e0
        clear e0 hN
        have h1 : (z < tl.size) = False := by simp; omega
        have h2 : z ≤ tl.size := by omega
        have H0 : Hid ((max (z - tl.size - 1) 0 : Int) = (0 : Nat)) := Lib.hid (by omega)
        clear hz hge heq
        obtain ⟨fn, tmps, assign, body, hy, hR⟩ := hY (n - 1) _ v W hJ hN2
        refine callsIn_of_wp Try.func101 rfl trivial ?_ rfl
        simp only [Try.ntmps101, List.size_toArray, List.length_cons, List.length_nil, Nat.reduceAdd, Nat.reduceSub, Array.replicate_succ, Array.replicate_zero, List.push_toArray, List.append_toArray, List.nil_append, List.cons_append]
        gi_wp2_with fail
        refine ⟨trivial, fun h => (by cases h), ?_⟩
        refine hcT.mono ?_
        rintro e w' ⟨rfl, rfl⟩
        gi_wp2_with fail
        refine ⟨trivial, fun h => (by cases h), ?_⟩
        refine (callsIn_wide.2 (count_T W _ _ hl)).mono ?_
        rintro e w' ⟨rfl, rfl⟩
        gi_wp2_with fail
        refine ⟨trivial, ?_⟩
        gi_wp2_with fail
        refine ⟨fun h => (by cases h), ?_⟩
        refine hR.mono ?_
        rintro e W2 (⟨rfl, hJ2, hk2⟩ | ⟨rfl, hx⟩)
        · obtain ⟨-, -, e2, -⟩ := node_cells (hk2 b _ hbn Hb.out)
          gi_wp2_with fail
          refine ⟨trivial, fun h => (by cases h), ?_⟩
          refine (ihr (n - 1) pr 0 0 _ W2 hr0 (hK.trans hk2) rfl (by omega) hJ2 hN3).mono ?_
          rintro e W3 (⟨rfl, hJ3, hk3⟩ | ⟨rfl, q, hq, hx⟩)
          · gi_wp2_with fail
            go_ret
            exact .inl ⟨rfl, by rw [E0.out]; simpa [List.append_assoc] using hJ3, hk2.trans hk3⟩
          · gi_wp2_with fail
            go_ret
            obtain ⟨r, hr'⟩ := hq
            exact .inr ⟨rfl, v :: q, ⟨r, by rw [E0.out]; simpa using hr'⟩, by simpa [List.append_assoc] using hx⟩
        · gi_wp2_with fail
          go_ret
          exact .inr ⟨rfl, [v], ⟨tr.list, by rw [E0.out]; simp⟩, by simpa [List.append_assoc] using hx⟩
      · have e0 : (tl.node v tr).list.drop i = tr.list.drop (i - tl.size - 1) := by
          show (tl.list ++ v :: tr.list).drop i = _
          rw [List.drop_append, List.drop_eq_nil_of_le (by unfold Tr.size at hgt; omega), show i - tl.list.length = (i - tl.size - 1) + 1 by unfold Tr.size at *; omega]
          rfl
        have hN3 : G (pre ++ tr.list.drop (i - tl.size - 1)) := by rw [e0] at hN; exact hN
        have E0 := Lib.hid e0
        clear e0 hN
        have h1 : (z < tl.size) = False := by simp; omega
        have h2 : (z ≤ tl.size) = False := by simp; omega
        have H0 : Hid (z - tl.size - 1 = ((i - tl.size - 1 : Nat) : Int)) := Lib.hid (by omega)
        have h4 : (tl.size : Int) + 1 ≤ z := by omega
        have h5 : z ≤ 800000 := by omega
        have h6 : max (z - tl.size - 1) 0 = z - tl.size - 1 := by omega
        clear hz hge hgt
        refine callsIn_of_wp Try.func101 rfl trivial ?_ rfl
        simp only [Try.ntmps101, List.size_toArray, List.length_cons, List.length_nil, Nat.reduceAdd, Nat.reduceSub, Array.replicate_succ, Array.replicate_zero, List.push_toArray, List.append_toArray, List.nil_append, List.cons_append]
        gi_wp2_with fail
        refine ⟨trivial, fun h => (by cases h), ?_⟩
        refine hcT.mono ?_
        rintro e w' ⟨rfl, rfl⟩
        gi_wp2_with fail
        refine ⟨trivial, fun h => (by cases h), ?_⟩
        refine (callsIn_wide.2 (count_T W _ _ hl)).mono ?_
        rintro e w' ⟨rfl, rfl⟩
        gi_wp2_with fail
        refine ⟨trivial, ?_⟩
        gi_wp2_with fail
        refine ⟨fun _ h => (by cases h), ?_⟩
        gi_wp2_with fail
        refine ⟨trivial, fun h => (by cases h), ?_⟩
        refine (ihr (n - 1) pr (i - tl.size - 1) _ _ W hr0 hK H0.out (by omega) hJ hN3).mono ?_
        rintro e W3 (⟨rfl, hJ3, hk3⟩ | ⟨rfl, q, hq, hx⟩)
        · gi_wp2_with fail
          go_ret
          exact .inl ⟨rfl, by rw [E0.out]; exact hJ3, hk3⟩
        · gi_wp2_with fail
          go_ret
          exact .inr ⟨rfl, q, by rw [E0.out]; exact hq, hx⟩
end Go.Proofs.Ytmnpcpgdhaplaaa.V
