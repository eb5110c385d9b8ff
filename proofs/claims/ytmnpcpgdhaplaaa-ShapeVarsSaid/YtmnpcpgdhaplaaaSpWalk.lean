/- What walk over conditions does with a loop's body; what spots hands a loop. Conditions: the conditions lie in memory; at most 1000 of them. -/
import Derived.Test.YtmnpcpgdhaplaaaMg1
import Derived.Test.YtmnpcpgdhaplaaaMg3
import Derived.RangeFuncKeeps
import Derived.RangeFuncNested
import Derived.RangeFuncBound
import Derived.RangeFuncLeaves
import Derived.Shelf.Abstract
import Derived.OwnWalkIn
import Derived.TacticsInMore
import Derived.WalkLawsBesides
import Derived.Sort.LoopGhostIn
namespace Go.Proofs.Ytmnpcpgdhaplaaa
open Go Go.RowKit Go.Shelf

attribute [local go_sem] Oper.semAt_some

/-- What a loop's body over spots leaves as it lies: the conditions' rows, boxes of one condition, spots. -/
def KpC (lo hi : Nat) (W W' : World) : Prop := W.heap.size ≤ W'.heap.size ∧ ∀ (b : Nat) (c : Array Value) (T : TypeId) (f : Nat × Nat), W.heap[b]? = some (.cells c T f) → ((lo ≤ b ∧ b < hi) ∨ (T = 64 ∧ c.size = 7) ∨ T = 77) → W'.heap[b]? = some (.cells c T f)

theorem KpC.refl (lo hi : Nat) (W : World) : KpC lo hi W W := ⟨Nat.le_refl _, fun _ _ _ _ h _ => h⟩
theorem KpC.trans {lo hi : Nat} {A B C : World} (h : KpC lo hi A B) (k : KpC lo hi B C) : KpC lo hi A C := ⟨Nat.le_trans h.1 k.1, fun b c T f hb hc => k.2 b c T f (h.2 b c T f hb hc) hc⟩
theorem KpC.keep {lo hi : Nat} {W W' : World} (h : KpC lo hi W W') : KeepIn lo hi W W' := fun b c T f h1 h2 hb => h.2 b c T f hb (.inl ⟨h1, h2⟩)
theorem KpC.of_below {lo hi : Nat} {W W' : World} (h : Below W.heap.size W W') : KpC lo hi W W' := ⟨h.size, fun b _ _ _ hb _ => (h.block b (lt_of_block hb)).trans hb⟩
theorem KpC.putObj {lo hi : Nat} (W : World) (l : Nat) (o o' : Obj) (h : W.heap[l]? = some o) (hc : o.isCells = false) : KpC lo hi W (W.putObj l o') := by
  refine ⟨by simp [World.putObj], fun b c T f hb _ => (World.putObj_heap_other ?_).trans hb⟩
  rintro rfl
  rw [h] at hb
  cases hb
  cases hc
/-- A store into a block that was not there. -/
theorem KpC.set {lo hi : Nat} {W W' : World} (h : KpC lo hi W W') {b o : Nat} (hb : W.heap.size ≤ b) (v : Value) : KpC lo hi W (W'.setCell ⟨b, o, none⟩ v) := by
  refine ⟨by simpa using h.1, fun k c T f hk hc => (Below.heap_setCell _ _ _ _ ?_).trans (h.2 k c T f hk hc)⟩
  have := lt_of_block hk
  show k ≠ b
  omega

theorem room_of_none {F : Fence} (hd : F.depth = none) (k : Nat) : F.room k := fun d h => by rw [hd] at h; cases h
theorem RoundIn.anyDepth {F : Fence} (hd : F.depth = none) {m m' : Nat} {P : Program} {l : Nat} {f : FuncId} {tmps : Array Value} {assign body : Code} {w : World} {R : Ending → World → Prop}
    (h : RoundIn F m P l f tmps assign body w R) : RoundIn F m' P l f tmps assign body w R := ⟨h.1, fun c cs _ => h.2 c cs (room_of_none hd _)⟩
theorem YieldAt.anyDepth {F : Fence} (hd : F.depth = none) {m : Nat} (m' : Nat) {P : Program} {l : Nat} {args : Array Value} {W : World} {R : Ending → World → Prop} (h : YieldAt F m P l args W R) : YieldAt F m' P l args W R := by
  obtain ⟨fn, tmps, assign, body, hy, hR⟩ := h
  exact ⟨fn, tmps, assign, body, hy, RoundIn.anyDepth hd hR⟩

def RoundsC (lo hi l : Nat) (G : List (SpotV × CondV) → Prop) (J Jx : List (SpotV × CondV) → World → Prop) : Prop :=
  ∀ m pre x W, J pre W → G (pre ++ [x]) → YieldAt Fence.wide m Try.prog l #[.agg #[.int .i64 x.1.count, .int .i64 x.1.depth], .agg #[.int .i64 x.2.h.kind, .bool x.2.h.goal, .string x.2.h.id, .slice x.2.h.attr.a x.2.h.attr.n x.2.h.attr.c, .slice x.2.h.value.a x.2.h.value.n x.2.h.value.c, .bool x.2.h.acc, .slice x.2.h.conds.a x.2.h.conds.n x.2.h.conds.c]] W fun e W' =>
    (e = .returned (.bool true) ∧ J (pre ++ [x]) W' ∧ KpC lo hi W W') ∨ (e = .returned (.bool false) ∧ Jx (pre ++ [x]) W')

def Walked (lo hi : Nat) (pre : List (SpotV × CondV)) (n d : Int) (cs : List CondV) (J Jx : List (SpotV × CondV) → World → Prop) (W : World) (e : Ending) (W' : World) : Prop :=
  (e = .returned (.tuple #[.int .i64 (n + sizeL cs), .bool true]) ∧ J (pre ++ flatL n d cs) W' ∧ KpC lo hi W W') ∨ (e = .returned (.tuple #[.int .i64 0, .bool false]) ∧ ∃ q, q <+: flatL n d cs ∧ Jx (pre ++ q) W')

theorem spot_cells {W : World} {b : Nat} {n d : Int} (h : W.heap[b]? = some (.cells #[.int .i64 n, .int .i64 d] 77 (0, 0))) :
    W.cell? ⟨b, 0, none⟩ = some (.int .i64 n) ∧ W.cell? ⟨b, 1, none⟩ = some (.int .i64 d) ∧ W.frozen? ⟨b, 0, none⟩ = false := by simp [World.cell?, World.frozen?, h]

theorem cond_cells {W : World} {b : Nat} {c : CondV} (h : W.heap[b]? = some (.cells #[.int .i64 c.h.kind, .bool c.h.goal, .string c.h.id, .slice c.h.attr.a c.h.attr.n c.h.attr.c, .slice c.h.value.a c.h.value.n c.h.value.c, .bool c.h.acc, .slice c.h.conds.a c.h.conds.n c.h.conds.c] 64 (0, 0))) :
    W.cell? ⟨b, 0, none⟩ = some (.int .i64 c.h.kind) ∧ W.cell? ⟨b, 1, none⟩ = some (.bool c.h.goal) ∧ W.cell? ⟨b, 2, none⟩ = some (.string c.h.id) ∧ W.cell? ⟨b, 3, none⟩ = some (.slice c.h.attr.a c.h.attr.n c.h.attr.c) ∧ W.cell? ⟨b, 4, none⟩ = some (.slice c.h.value.a c.h.value.n c.h.value.c) ∧ W.cell? ⟨b, 5, none⟩ = some (.bool c.h.acc) ∧ W.cell? ⟨b, 6, none⟩ = some (.slice c.h.conds.a c.h.conds.n c.h.conds.c) := by simp [World.cell?, h]

theorem set_blockC {w : World} {b o : Nat} {c : Array Value} {T : TypeId} {f : Nat × Nat} (h : w.heap[b]? = some (.cells c T f)) (v : Value) : (w.setCell ⟨b, o, none⟩ v).heap[b]? = some (.cells (c.setIfInBounds o v) T f) := by
  have hlt := lt_of_block h
  have h' : w.heap[b] = .cells c T f := by simpa [Array.getElem?_eq_getElem hlt] using h
  show (w.heap.modify b _)[b]? = _
  rw [Array.getElem?_eq_getElem (by simpa using hlt), Array.getElem_modify_self, h']
  rfl

set_option pp.deepTerms true
set_option pp.maxSteps 1000000
set_option maxRecDepth 100000 in
set_option maxHeartbeats 2000000 in
theorem walk_in (lo hi l H : Nat) (G : List (SpotV × CondV) → Prop) (hG : ∀ a b, a <+: b → G b → G a) (J Jx : List (SpotV × CondV) → World → Prop) (hJ : OwnT H J) (hY : RoundsC lo hi l G J Jx) : ∀ (k : Nat) (cs : List CondV), sizeL cs ≤ k →
    ∀ (n : Nat) (s : SlH) (pre : List (SpotV × CondV)) (W : World) (z d : Int), H ≤ W.heap.size → hi ≤ W.heap.size → CondsOk lo hi W s cs → 0 ≤ z → z + sizeL cs ≤ 100000 → 0 ≤ d → d + sizeL cs ≤ 100000 → J pre W → G (pre ++ flatL z d cs) →
      CallsIn Fence.wide n Try.prog 65 #[.slice s.a s.n s.c, .agg #[.int .i64 z, .int .i64 d], .func (.yield l) #[] #[]] W (Walked lo hi pre z d cs J Jx W) := by
  intro k
  induction k using Nat.strongRecOn with
  | _ k ih =>
  intro cs hk n s pre W z d hHW hhW hC hz hzb hd hdb hj hg
  obtain ⟨a, m, cp⟩ := s
  obtain rfl : m = cs.length := hC.1.1
  have hsl := sizeL_le cs
  rcases hC.1.2 with rfl | ⟨b, off, hlo, hhi, ha, -⟩
  · have hj0 := hJ.own.alloc (.cells #[.int .i64 z, .int .i64 d] 77) hj
    have hsb := heap_alloc_new W (.cells #[.int .i64 z, .int .i64 d] 77)
    have hK0 : KpC lo hi W (W.alloc (.cells #[.int .i64 z, .int .i64 d] 77)) := KpC.of_below ((Below.refl _ W).alloc (Nat.le_refl _) _)
    refine callsIn_of_wp Try.func65 rfl trivial ?_ rfl
    simp only [Try.ntmps65, List.size_toArray, List.length_cons, List.length_nil, Nat.reduceAdd, Nat.reduceSub, Array.replicate_succ, Array.replicate_zero, List.push_toArray, List.append_toArray, List.nil_append, List.cons_append]
    gi_wp2_with fail
    generalize (W.alloc (.cells #[.int .i64 z, .int .i64 d] 77)) = W0 at hj0 hsb hK0 ⊢
    gi_loopg [14] 0 (fun m iv wr => iv = .int .i64 0 ∧ J pre wr ∧ wr.heap[W.heap.size]? = some (.cells #[.int .i64 z, .int .i64 d] 77 (0, 0)) ∧ KpC lo hi W wr)
    case atStart => exact ⟨rfl, hj0, hsb, hK0⟩
    case round =>
      obtain ⟨rfl, hj1, hsp, hK⟩ := hrel
      obtain ⟨q0, q1, q2⟩ := spot_cells hsp
      gi_wp2_with fail
      go_ret2
      exact .inl ⟨by simp [sizeL], by simpa [flatL] using hj1, hK⟩
  replace ha : a = some ⟨b, off, none⟩ := ha
  subst ha
  have hB0 : Below W.heap.size W (W.alloc (.cells #[.int .i64 z, .int .i64 d] 77)) := (Below.refl _ W).alloc (Nat.le_refl _) _
  have hsb := heap_alloc_new W (.cells #[.int .i64 z, .int .i64 d] 77)
  have hj0 := hJ.own.alloc (.cells #[.int .i64 z, .int .i64 d] 77) hj
  have HC := Lib.hid hC
  have HG := Lib.hid hg
  clear hj hC hg
  refine callsIn_of_wp Try.func65 rfl trivial ?_ rfl
  simp only [Try.ntmps65, List.size_toArray, List.length_cons, List.length_nil, Nat.reduceAdd, Nat.reduceSub, Array.replicate_succ, Array.replicate_zero, List.push_toArray, List.append_toArray, List.nil_append, List.cons_append]
  gi_wp2_with fail
  generalize (W.alloc (.cells #[.int .i64 z, .int .i64 d] 77)) = W0 at hB0 hsb hj0 ⊢
  have hW0 := hB0.size
  gi_loopg [14] cs.length (fun m iv wr => ∃ j : Nat, iv = .int .i64 j ∧ j ≤ cs.length ∧ Hid (m = cs.length - j ∧ J (pre ++ flatL z d (cs.take j)) wr) ∧ wr.heap[W.heap.size]? = some (.cells #[.int .i64 (z + sizeL (cs.take j)), .int .i64 d] 77 (0, 0)) ∧ KpC lo hi W wr)
  case atStart => exact ⟨0, rfl, by omega, Lib.hid ⟨rfl, by simpa [flatL] using hj0⟩, by simpa [sizeL] using hsb, KpC.of_below hB0⟩
  case round =>
    obtain ⟨j, rfl, hj, Hm, hsp, hK⟩ := hrel
    by_cases hlt : j < cs.length
    · obtain ⟨c, hc⟩ : ∃ c, cs[j]? = some c := ⟨cs[j], by simp [hlt]⟩
      have hCw := HC.out.keep hK.keep
      obtain ⟨b', off', -, -, hsa, hcell⟩ := hCw.1.at hc
      obtain ⟨rfl, rfl⟩ : b = b' ∧ off = off' := by simpa using hsa
      have hc0 : wr.cell? ⟨b, off + j * 7, none⟩ = _ := hcell 0 _ rfl
      have hc1 := hcell 1 _ rfl
      have hc2 := hcell 2 _ rfl
      have hc3 := hcell 3 _ rfl
      have hc4 := hcell 4 _ rfl
      have hc5 := hcell 5 _ rfl
      have hc6 := hcell 6 _ rfl
      have hcmem : c ∈ cs := List.mem_of_getElem? hc
      have hszc := sizeL_mem hcmem
      obtain ⟨p0, p1, p2⟩ := spot_cells hsp
      have hBc : Below wr.heap.size wr (wr.alloc (.cells #[.int .i64 c.h.kind, .bool c.h.goal, .string c.h.id, .slice c.h.attr.a c.h.attr.n c.h.attr.c, .slice c.h.value.a c.h.value.n c.h.value.c, .bool c.h.acc, .slice c.h.conds.a c.h.conds.n c.h.conds.c] 64)) := (Below.refl _ wr).alloc (Nat.le_refl _) _
      have hcb := heap_alloc_new wr (.cells #[.int .i64 c.h.kind, .bool c.h.goal, .string c.h.id, .slice c.h.attr.a c.h.attr.n c.h.attr.c, .slice c.h.value.a c.h.value.n c.h.value.c, .bool c.h.acc, .slice c.h.conds.a c.h.conds.n c.h.conds.c] 64)
      have hspc := (hBc.block _ (lt_of_block hsp)).trans hsp
      have hjc := hJ.own.alloc (.cells #[.int .i64 c.h.kind, .bool c.h.goal, .string c.h.id, .slice c.h.attr.a c.h.attr.n c.h.attr.c, .slice c.h.value.a c.h.value.n c.h.value.c, .bool c.h.acc, .slice c.h.conds.a c.h.conds.n c.h.conds.c] 64) Hm.out.2
      have hKc := hK.trans (KpC.of_below (lo := lo) (hi := hi) hBc)
      have hfl : flatL z d (cs.take (j + 1)) = flatL z d (cs.take j) ++ (⟨z + sizeL (cs.take j), d⟩, c) :: flatL (z + sizeL (cs.take j) + 1) (d + 1) c.inner := by
        rw [List.take_add_one, hc, flatL_append, Option.toList_some, flatL_cons, flatL_nil, List.append_nil]
      have hfp : flatL z d (cs.take (j + 1)) <+: flatL z d cs := ⟨flatL (z + sizeL (cs.take (j + 1))) d (cs.drop (j + 1)), by rw [← flatL_append, List.take_append_drop]⟩
      have hszt : sizeL (cs.take (j + 1)) = sizeL (cs.take j) + (1 + sizeL c.inner) := by
        rw [List.take_add_one, hc, sizeL_append, Option.toList_some, sizeL_cons]; simp [sizeL]
      have hszl : sizeL (cs.take (j + 1)) ≤ sizeL cs := by
        have e := sizeL_append (cs.take (j + 1)) (cs.drop (j + 1))
        rw [List.take_append_drop] at e; omega
      have hg1 : G (pre ++ flatL z d (cs.take j) ++ [(⟨z + sizeL (cs.take j), d⟩, c)]) := by
        refine hG _ _ ?_ HG.out
        obtain ⟨r, hr⟩ := hfp
        exact ⟨flatL (z + sizeL (cs.take j) + 1) (d + 1) c.inner ++ r, by rw [← hr, hfl]; simp⟩
      have hg2 : G (pre ++ flatL z d (cs.take j) ++ [(⟨z + sizeL (cs.take j), d⟩, c)] ++ flatL (z + sizeL (cs.take j) + 1) (d + 1) c.inner) := by
        refine hG _ _ ?_ HG.out
        obtain ⟨r, hr⟩ := hfp
        exact ⟨r, by rw [← hr, hfl]; simp⟩
      obtain ⟨fn, tmps, assign, body, hyd, hR⟩ := hY (n - 1) _ (⟨z + sizeL (cs.take j), d⟩, c) _ hjc hg1
      have Hfl := Lib.hid hfl
      have Hfp := Lib.hid hfp
      have Hszt := Lib.hid hszt
      have Hg2 := Lib.hid hg2
      have Hc := Lib.hid hc
      have HR := Lib.hid hR
      obtain ⟨q0, q1, -⟩ := spot_cells hspc
      obtain ⟨r0, r1, r2, r3, r4, r5, r6⟩ := cond_cells hcb
      have hsz1 : (sizeL (cs.take j) : Int) + (1 + sizeL c.inner) ≤ sizeL cs := by omega
      clear hfl hfp hg1 hg2 hszt hc hcell hR hjc
      gi_wp2_with fail
      refine ⟨fun h => (by cases h), ?_⟩
      refine HR.out.mono ?_
      rintro e W2 (⟨rfl, hJ2, hK2⟩ | ⟨rfl, hx⟩)
      · have hsp2 := hK2.2 _ _ _ _ hspc (.inr (.inr rfl))
        have hcb2 := hK2.2 _ _ _ _ hcb (.inr (.inl ⟨rfl, rfl⟩))
        have hKK := hKc.trans hK2
        have hCi : CondsOk lo hi W2 c.h.conds c.inner := (condOk_iff.1 (condOkL_iff.1 (HC.out.keep hKK.keep).2 c hcmem)).2.2
        have hcall := ih (sizeL c.inner) (by omega) c.inner (Nat.le_refl _) (n - 1) c.h.conds _ W2 (z + sizeL (cs.take j) + 1) (d + 1) (Nat.le_trans hHW hKK.1) (Nat.le_trans hhW hKK.1) hCi (by omega) (by omega) (by omega) (by omega) hJ2 Hg2.out
        have w1 : IntKind.i64.wrap (z + (sizeL (cs.take j) : Int) + 1) = z + sizeL (cs.take j) + 1 := IntWalk.i64_in _ (by omega)
        have w2 : IntKind.i64.wrap (d + 1) = d + 1 := IntWalk.i64_in _ (by omega)
        clear q0 q1 r0 r1 r2 r3 r4 r5 r6 p0 p1 p2
        obtain ⟨q0, q1, q2⟩ := spot_cells hsp2
        obtain ⟨r0, r1, r2, r3, r4, r5, r6⟩ := cond_cells hcb2
        have hcall' := Lib.hid hcall
        clear hcall hc0 hc1 hc2 hc3 hc4 hc5 hc6
        gi_wp2_with fail
        refine ⟨trivial, fun h => (by cases h), ?_⟩
        refine hcall'.out.mono ?_
        rintro e W3 (⟨rfl, hJ3, hK3⟩ | ⟨rfl, q, hq, hx⟩)
        · have hsp3 := hK3.2 _ _ _ _ hsp2 (.inr (.inr rfl))
          have hKf := hKK.trans hK3
          have hj4 := hJ.spot _ W3 W.heap.size 0 _ (.int .i64 (z + sizeL (cs.take j) + 1 + sizeL c.inner)) hHW hJ3 hsp3
          have hs4 := set_blockC (o := 0) hsp3 (.int .i64 (z + sizeL (cs.take j) + 1 + sizeL c.inner))
          have hK4 := KpC.set hKf (b := W.heap.size) (o := 0) (Nat.le_refl _) (.int .i64 (z + sizeL (cs.take j) + 1 + sizeL c.inner))
          clear q0 q1 q2 r0 r1 r2 r3 r4 r5 r6
          obtain ⟨q0, q1, q2⟩ := spot_cells hsp3
          have HJ4 := Lib.hid hj4
          have Hs4 := Lib.hid hs4
          have HK4 := Lib.hid hK4
          clear hj4 hs4 hK4
          gi_wp2_with fail
          gi_roundg (cs.length - (j + 1))
          case measure => rw [Hm.out.1]; omega
          case rel =>
            have e1 : z + (sizeL (cs.take (j + 1)) : Int) = z + sizeL (cs.take j) + 1 + sizeL c.inner := by rw [Hszt.out]; omega
            refine ⟨j + 1, by go_num, by omega, Lib.hid ⟨rfl, ?_⟩, ?_, HK4.out⟩
            · rw [Hfl.out]
              simpa using HJ4.out
            · rw [e1]; simpa using Hs4.out
        · gi_wp2_with fail
          go_ret2
          obtain ⟨r, hr⟩ := Hfp.out
          obtain ⟨r', hr'⟩ := hq
          exact .inr ⟨rfl, flatL z d (cs.take j) ++ (⟨z + sizeL (cs.take j), d⟩, c) :: q, ⟨r' ++ r, by rw [← hr, Hfl.out, ← hr']; simp⟩, by simpa using hx⟩
      · gi_wp2_with fail
        go_ret2
        obtain ⟨r, hr⟩ := Hfp.out
        exact .inr ⟨rfl, flatL z d (cs.take j) ++ [(⟨z + sizeL (cs.take j), d⟩, c)], ⟨flatL (z + sizeL (cs.take j) + 1) (d + 1) c.inner ++ r, by rw [← hr, Hfl.out]; simp⟩, by simpa using hx⟩
    · obtain rfl : j = cs.length := by omega
      rw [List.take_length] at Hm hsp
      obtain ⟨q0, q1, q2⟩ := spot_cells hsp
      gi_wp2_with fail
      go_ret2
      exact .inl ⟨rfl, Hm.out.2, hK⟩

end Go.Proofs.Ytmnpcpgdhaplaaa
