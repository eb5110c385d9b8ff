/- What Tokens hands a loop. Conditions: the text is not too long; the tables lie as the program lays them. -/
import Derived.Test.YtlnnblfkigcipaaDoorLxStepK
import Derived.RangeFuncNested
import Derived.RangeFuncKeeps
import Derived.RangeFuncBound
import Derived.OwnWalkIn
import Derived.TacticsInMore
import Derived.Sort.LoopGhostIn
import Derived.RangeFuncLeaves
namespace Go.Proofs.YtlnnblfkigcipaaDoor
open Go Go.RowKit

attribute [local go_sem] Oper.semAt_some

theorem tokens_T (w : World) (t : ByteArray) :
    Calls Tryd.prog 14 #[.string t] w fun e w' => e = .returned (.func (.func 21) #[] #[.pointer (some ⟨w.heap.size, 0, none⟩)]) ∧ w' = w.alloc (.cells #[.string t] 9) := by
  have hmf : ∀ (fn : Fn) (first cap : Array Value) (w : World), (Instr.makeFunc fn first cap).run Tryd.prog w = .ok (.func fn first cap) w := fun _ _ _ _ => rfl
  go_enter Tryd.func14, Tryd.ntmps14
  go_wp2_with fail
  go_ret
  exact ⟨rfl, rfl⟩

/-- What a loop's body leaves as it lies: what was there, texts' boxes, tokens' boxes. -/
def Kq (n₀ : Nat) (W W' : World) : Prop :=
  (∀ (b : Nat) (c : Array Value) (T : TypeId) (f : Nat × Nat), b < n₀ → W.heap[b]? = some (.cells c T f) → W'.heap[b]? = some (.cells c T f)) ∧
  (∀ (b : Nat) (c : Array Value), W.heap[b]? = some (.cells c 30 (0, 0)) → c.size = 3 → W'.heap[b]? = some (.cells c 30 (0, 0))) ∧
  (∀ (b : Nat) (c : Array Value), W.heap[b]? = some (.cells c 9 (0, 0)) → W'.heap[b]? = some (.cells c 9 (0, 0)))

theorem Kq.refl (n₀ : Nat) (W : World) : Kq n₀ W W := ⟨fun _ _ _ _ _ h => h, fun _ _ h _ => h, fun _ _ h => h⟩
theorem Kq.trans {n₀ : Nat} {A B C : World} (h : Kq n₀ A B) (k : Kq n₀ B C) : Kq n₀ A C :=
  ⟨fun b c T f hn hb => k.1 b c T f hn (h.1 b c T f hn hb), fun b c hb hs => k.2.1 b c (h.2.1 b c hb hs) hs, fun b c hb => k.2.2 b c (h.2.2 b c hb)⟩
theorem Kq.of_below {n₀ : Nat} {W W' : World} (h : Below W.heap.size W W') : Kq n₀ W W' :=
  ⟨fun b _ _ _ _ hb => (h.block b (lt_of_block hb)).trans hb, fun b _ hb _ => (h.block b (lt_of_block hb)).trans hb, fun b _ hb => (h.block b (lt_of_block hb)).trans hb⟩
theorem Kq.putObj {n₀ : Nat} (W : World) (l : Nat) (o o' : Obj) (h : W.heap[l]? = some o) (hc : o.isCells = false) : Kq n₀ W (W.putObj l o') := by
  have k : ∀ (b : Nat) (c : Array Value) (T : TypeId) (f : Nat × Nat), W.heap[b]? = some (.cells c T f) → (W.putObj l o').heap[b]? = some (.cells c T f) := by
    intro b c T f hb
    refine (World.putObj_heap_other ?_).trans hb
    rintro rfl
    rw [h] at hb
    cases hb
    cases hc
  exact ⟨fun b c T f _ hb => k b c T f hb, fun b c hb _ => k b c _ _ hb, fun b c hb => k b c _ _ hb⟩

theorem cell_block {w : World} {b o : Nat} {v : Value} (h : w.cell? ⟨b, o, none⟩ = some v) : ∃ c T f, w.heap[b]? = some (.cells c T f) ∧ c[o]? = some v := by
  unfold World.cell? at h
  cases hb : w.heap[b]? with
  | none => simp [hb] at h
  | some ob =>
    cases ob with
    | cells c T f => exact ⟨c, T, f, rfl, by simpa [hb] using h⟩
    | _ => simp [hb] at h

theorem Kq.cell {n₀ : Nat} {W W' : World} (h : Kq n₀ W W') {b o : Nat} {v : Value} (hb : b < n₀) (hv : W.cell? ⟨b, o, none⟩ = some v) : W'.cell? ⟨b, o, none⟩ = some v := by
  obtain ⟨c, T, f, h1, h2⟩ := cell_block hv
  simp [World.cell?, h.1 b c T f hb h1, h2]

theorem EnvX.kq {n₀ : Nat} {W W' : World} (hE : EnvX W) (hn : 7 ≤ n₀) (h : Kq n₀ W W') : EnvX W' := by
  obtain ⟨⟨h1, ⟨t2, p2, h2⟩, ⟨t3, p3, h3⟩⟩, h4⟩ := hE
  refine ⟨⟨?_, ⟨t2, p2, h.cell (by omega) h2⟩, ⟨t3, p3, h.cell (by omega) h3⟩⟩, fun j v hv => h.cell (by omega) (h4 j v hv)⟩
  have hg : Tryd.prog.globalNamed "internal/strconv.uint64pow10" = some 6 := by kernel_rfl
  unfold Lib.TabIs World.var? at h1 ⊢
  rw [hg] at h1 ⊢
  simp only [Option.bind_some] at h1 ⊢
  cases hb : W.heap[6]? with
  | none => simp [hb] at h1
  | some ob =>
    cases ob with
    | cells c T f => rw [hb] at h1; rw [h.1 6 c T f (by omega) hb]; exact h1
    | _ => simp [hb] at h1

theorem grown_below {W W' : World} (h : Below W.heap.size W W') : W.grownBy W' none := ⟨h.os, h.tape, h.output, h.size, fun k hk _ => h.block k hk⟩

theorem room_of_none {F : Fence} (hd : F.depth = none) (k : Nat) : F.room k := fun d h => by rw [hd] at h; cases h
theorem RoundIn.anyDepth {F : Fence} (hd : F.depth = none) {m m' : Nat} {P : Program} {l : Nat} {f : FuncId} {tmps : Array Value} {assign body : Code} {w : World} {R : Ending → World → Prop}
    (h : RoundIn F m P l f tmps assign body w R) : RoundIn F m' P l f tmps assign body w R := ⟨h.1, fun c cs _ => h.2 c cs (room_of_none hd _)⟩
theorem YieldAt.anyDepth {F : Fence} (hd : F.depth = none) {m : Nat} (m' : Nat) {P : Program} {l : Nat} {args : Array Value} {W : World} {R : Ending → World → Prop} (h : YieldAt F m P l args W R) : YieldAt F m' P l args W R := by
  obtain ⟨fn, tmps, assign, body, hy, hR⟩ := h
  exact ⟨fn, tmps, assign, body, hy, RoundIn.anyDepth hd hR⟩

theorem mem_tok {W : World} {b : Nat} {x : SymV} (h : W.heap[b]? = some (.cells #[.int .i64 x.k, .string x.t, .int .i64 x.n] 30 (0, 0))) : W.cell? ⟨b, 0, none⟩ = some (.int .i64 x.k) ∧ W.cell? ⟨b, 1, none⟩ = some (.string x.t) ∧ W.cell? ⟨b, 2, none⟩ = some (.int .i64 x.n) := by simp [World.cell?, h]

set_option maxRecDepth 100000 in
set_option maxHeartbeats 1600000 in
theorem tokens_stops (n n₀ : Nat) (Bt : Nat) (t : ByteArray) (w : World) (hm : t.size ≤ 100000) (hB : w.heap[Bt]? = some (.cells #[.string t] 9 (0, 0))) (hE : EnvX w) (hn : 7 ≤ n₀) :
    SeqStopsK Fence.wide n Tryd.prog 21 #[.pointer (some ⟨Bt, 0, none⟩)] (fun x : SymV => #[.agg #[.int .i64 x.k, .string x.t, .int .i64 x.n]]) (Kq n₀) (fun xs => xs = toksA t.data.toList) (fun pre => pre <+: toksA t.data.toList) (toksA t.data.toList).length w := by
  intro l J Jx W hW hJ _ hY h0
  have hBW := (hW.block Bt (lt_of_block hB)).trans hB
  have hEW := hE.below hW
  have hT : Hid (∀ W', Kq n₀ W W' → W'.cell? ⟨Bt, 0, none⟩ = some (.string t)) := Lib.hid (fun W' hk => cell_of_one (hk.2.2 _ _ hBW))
  have hEk : Hid (∀ W', Kq n₀ W W' → EnvX W') := Lib.hid (fun W' hk => hEW.kq hn hk)
  clear hB hE hBW hEW hW
  have Hstep := Lib.hid (next_step t hm)
  obtain ⟨L, hL⟩ : ∃ L, L = toksA t.data.toList := ⟨_, rfl⟩
  rw [← hL] at hY ⊢
  have hL0 : Hid (L = [] ++ toks t.size ((t.data.toList.drop 0).length + 1) (t.data.toList.drop 0)) := Lib.hid (by rw [hL]; unfold toksA; rw [size_list]; rfl)
  clear hL
  refine callsIn_wide.2 ((callsIn_wide (n := 3)).1 ?_)
  refine callsIn_of_wp Tryd.func21 rfl trivial ?_ rfl
  simp only [Tryd.ntmps21, List.size_toArray, List.length_cons, List.length_nil, Nat.reduceAdd, Nat.reduceSub, Array.replicate_succ, Array.replicate_zero, List.push_toArray, List.append_toArray, List.nil_append, List.cons_append]
  gi_wp2_with fail
  gi_loopg [3, 4, 5] t.size (fun m av tv bv wr => ∃ (i : Nat) (pre : List SymV), av = .int .i64 i ∧ i ≤ t.size ∧ Hid (m = t.size - i) ∧ Hid (J pre wr) ∧ Hid (L = pre ++ toks t.size ((t.data.toList.drop i).length + 1) (t.data.toList.drop i)) ∧ Kq n₀ W wr)
  case atStart => exact ⟨0, [], rfl, by omega, Lib.hid rfl, Lib.hid h0, hL0, Kq.refl _ _⟩
  case round =>
    obtain ⟨i, pre, rfl, hi, Hm, HJ, HL, hK⟩ := hrel
    obtain ⟨x, i', hcall, hcase⟩ := Hstep.out i hi
    have hcall := callsIn_wide (n := 2).2 (hcall wr (hEk.out wr hK))
    have hT := hT.out wr hK
    have hlen : pre.length < L.length := by
      rw [HL.out]
      rcases hcase with ⟨-, h⟩ | ⟨-, -, -, -, h⟩ <;> rw [h] <;> simp
    have hfin : (x.k = 5 ∨ x.k = 6) → L = pre ++ [x] := by
      intro h
      rw [HL.out]
      rcases hcase with ⟨-, h'⟩ | ⟨h1, h2, -⟩
      · rw [h']
      · omega
    have hpre : pre ++ [x] <+: L := by
      rw [HL.out]
      rcases hcase with ⟨-, h'⟩ | ⟨-, -, -, -, h'⟩
      · rw [h']; exact List.prefix_refl _
      · rw [h']; exact ⟨_, by rw [List.append_assoc]; rfl⟩
    have Hcase := Lib.hid hcase
    have Hfin := Lib.hid hfin
    clear hcase hfin
    gi_wp2_with fail
    refine ⟨trivial, hcall.mono ?_⟩
    rintro e w1 ⟨rfl, hB1⟩
    have hBa : Below w1.heap.size w1 (w1.alloc (.cells #[.int .i64 x.k, .string x.t, .int .i64 x.n] 30)) := (Below.refl _ w1).alloc (Nat.le_refl _) _
    have hC1 := hB1.trans (hBa.mono hB1.size)
    have hxn := heap_alloc_new w1 (.cells #[.int .i64 x.k, .string x.t, .int .i64 x.n] 30)
    have hJ1 := hJ pre wr _ none HJ.out (grown_below hC1) (fun r e => by cases e)
    have hK1 := hK.trans (Kq.of_below hC1)
    obtain ⟨fn, tmps, assign, body, hyd, hR⟩ := YieldAt.anyDepth rfl 2 (hY pre x _ hJ1 hlen)
    obtain ⟨m0, m1, m2⟩ := mem_tok hxn
    clear hcall hJ1
    gi_wp2_with fail
    refine hR.mono ?_
    rintro e W2 (⟨rfl, hJ2, hK2⟩ | ⟨rfl, hx2⟩)
    · have hx2 := hK2.2.1 _ _ hxn rfl
      have hC2 := hK1.trans hK2
      obtain ⟨y0, y1, y2⟩ := mem_tok hx2
      rcases Hcase.out with ⟨h5 | h6, -⟩ | ⟨h5, h6, hlt, hle, hrest⟩
      · have b5 : (x.k == 5) = true := by simp [h5]
        have he := Hfin.out (.inl h5)
        have He := Lib.hid he
        clear h5 he
        gi_wp2_with fail
        refine bodyPost_ret (results_none rfl _ _ _) rfl ?_
        exact ⟨⟨_, rfl⟩, .inl ⟨_, He.out.symm, hJ2⟩⟩
      · have b5 : (x.k == 5) = false := by simp [h6]
        have b6 : (x.k == 6) = true := by simp [h6]
        have he := Hfin.out (.inr h6)
        have He := Lib.hid he
        clear h6 he
        gi_wp2_with fail
        refine bodyPost_ret (results_none rfl _ _ _) rfl ?_
        exact ⟨⟨_, rfl⟩, .inl ⟨_, He.out.symm, hJ2⟩⟩
      · have b5 : (x.k == 5) = false := by simp [h5]
        have b6 : (x.k == 6) = false := by simp [h6]
        have Hr := Lib.hid hrest
        have Hlt := Lib.hid hlt
        clear h5 h6 hrest hlt
        gi_wp2_with fail
        gi_roundg (t.size - i')
        case measure => have := Hlt.out; rw [Hm.out]; omega
        case rel => exact ⟨i', pre ++ [x], rfl, hle, Lib.hid rfl, Lib.hid hJ2, Lib.hid (by rw [HL.out, Hr.out]; simp), hC2⟩
    · gi_wp2_with fail
      refine bodyPost_ret (results_none rfl _ _ _) rfl ?_
      exact ⟨⟨_, rfl⟩, .inr ⟨pre ++ [x], hpre, hx2⟩⟩

end Go.Proofs.YtlnnblfkigcipaaDoor
