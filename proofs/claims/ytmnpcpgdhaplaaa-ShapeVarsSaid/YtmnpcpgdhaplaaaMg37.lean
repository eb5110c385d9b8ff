/- What All of a set hands a loop. Conditions: the set lies in memory; at most 800000 members.
What names of a scope answers. Conditions: the scope lies in memory; at most 10000 names. -/
import Derived.Test.YtmnpcpgdhaplaaaRiseSV
import Derived.Test.YtmnpcpgdhaplaaaMg3
import Derived.Test.YtmnpcpgdhaplaaaMg15
import Derived.Test.YtmnpcpgdhaplaaaMg35
import Derived.Test.YtmnpcpgdhaplaaaShShape
namespace Go.Proofs.Ytmnpcpgdhaplaaa.V
open Go Go.RowKit Go.Shelf

attribute [local go_sem] Oper.semAt_some

theorem all_T (w : World) (p : Option Addr) :
    Calls Try.prog 81 #[.pointer p] w fun e w' => e = .returned (.func (.func 100) #[] #[.pointer (some ⟨w.heap.size, 0, none⟩)]) ∧ w' = w.alloc (.cells #[.pointer p] 83) := by
  have hmf : ∀ (fn : Fn) (first cap : Array Value) (w : World), (Instr.makeFunc fn first cap).run Try.prog w = .ok (.func fn first cap) w := fun _ _ _ _ => rfl
  go_enter Try.func81, Try.ntmps81
  go_wp2_with fail
  go_ret
  exact ⟨rfl, rfl⟩

set_option maxHeartbeats 1000000 in
theorem all_stops (n n₀ : Nat) (Bn s : Nat) (L : List VarV) (w : World) (hB : w.heap[Bn]? = some (.cells #[.pointer (some ⟨s, 0, none⟩)] 83 (0, 0))) (hS : SetAt w s L) (hs : L.length ≤ 800000) (hn : w.heap.size ≤ n₀) :
    SeqW Fence.wide n Try.prog 100 #[.pointer (some ⟨Bn, 0, none⟩)] (fun x : VarV => #[.agg #[.string x.name, .int .i64 x.nth]]) (Kp n₀) (fun xs => xs = L) (fun pre => pre <+: L) w := by
  intro l J Jx W hW _ _ hY h0
  have c1 := cell_of_one ((hW.block Bn (lt_of_block hB)).trans hB)
  obtain ⟨t, p, h1, h2, rfl, -⟩ := hS
  have c2 := cell_of_one ((hW.block s (lt_of_block h1)).trans h1)
  have hK : Kp n₀ w W := fun b _ _ hb => (hW.block b (lt_of_block hb)).trans hb
  clear h1 hB hW
  refine callsIn_of_wp Try.func100 rfl trivial ?_ rfl
  simp only [Try.ntmps100, List.size_toArray, List.length_cons, List.length_nil, Nat.reduceAdd, Nat.reduceSub, Array.replicate_succ, Array.replicate_zero, List.push_toArray, List.append_toArray, List.nil_append, List.cons_append]
  gi_wp2_with fail
  refine ⟨trivial, fun h => (by cases h), ?_⟩
  refine (rise_in n₀ w hn l (fun q => q <+: t.list) (fun a b h k => h.trans k) J Jx (fun m pre x W hj hl => YieldAt.anyDepth rfl m (YieldAt.mono (hY pre x W hj hl) fun _ _ q => q.2)) t (n - 1) p 0 0 [] W h2 hK rfl hs h0 (by simp)).mono ?_
  rintro e W1 (⟨rfl, hJ1, _⟩ | ⟨rfl, q, hq, hx⟩)
  · gi_wp2_with fail
    go_end0
    exact ⟨⟨_, rfl⟩, .inl ⟨_, rfl, by simpa using hJ1⟩⟩
  · gi_wp2_with fail
    go_end0
    exact ⟨⟨_, rfl⟩, .inr ⟨q, by simpa using hq, by simpa using hx⟩⟩

end Go.Proofs.Ytmnpcpgdhaplaaa.V

namespace Go.Proofs.Ytmnpcpgdhaplaaa
open Go Go.RowKit Go.Shelf

attribute [local go_sem] Oper.semAt_some

theorem infoStr : (Try.prog.info? 9).map (fun i => (i.zero, i.size, i.bytes)) = some (some (.string ⟨#[]⟩), 1, 16) := by kernel_rfl

theorem flatR_str (K : List ByteArray) : flatR strCells K = K.map Value.string := by
  induction K with
  | nil => rfl
  | cons x xs ih => simp [flatR, ih]

theorem wpListIn_make_full {F : Fence} {n : Nat} {P : Program} (w : World) {ops : Array Oper} {rest : List Oper} {o : Oper} {a : Act} {Q : Exit → Act → World → Prop}
    (hg : o.guard = none) (l c : Operand) (t : TypeId) (hop : o.op = Op.makeSlice t l c)
    (base : Nat) (e : TypeId) (i : TypeInfo) (z : Value) (size : Nat) (h1 : P.underlying t = some (.slice e)) (h2 : P.info? e = some i) (h3 : i.zero = some z) (h4 : i.size = size)
    (kl kc : IntKind) (L C : Int) (m : Nat) (hl : a.eval l = .int kl L) (hc : a.eval c = .int kc C) (hL : L = (m : Int)) (hC : C = (m : Int)) (b2 : i.bytes * m ≤ 281474976710656) (b3 : m ≤ maxLen) (b4 : base ≤ w.heap.size)
    (hK : ∀ w', w'.ownsRow base e size (.slice (some ⟨w.heap.size, 0, none⟩) m m) m (madeCells z.cells (m * size)).toList → w.grownBy w' none → wpListIn F n P ops Q rest (a.put o.dst (.slice (some ⟨w.heap.size, 0, none⟩) m m)) w') :
    wpListIn F n P ops Q (o :: rest) a w := by
  refine wpListIn_plain hg fun K hK' => ?_
  obtain ⟨w', hrun, r1, r2⟩ := run_make_full (P := P) w base t e i z size h1 h2 h3 h4 kl kc m b2 b3 b4
  subst hL
  subst hC
  unfold Oper.wpIn
  refine ⟨?_, ?_⟩
  · simp [Oper.about, hop]
  · rw [Oper.semAt_plain F _ _ (by rw [hop]; intro c hc'; cases hc')]
    simp [execOp, hop, hl, hc, hrun, Result.andThen]
    exact hK' _ _ (hK w' r1 r2)

set_option pp.deepTerms true
set_option pp.maxSteps 1000000
set_option maxRecDepth 100000 in
set_option maxHeartbeats 3200000 in
theorem names_T (w : World) (s : Nat) (K : List ByteArray) (h : Sc w s K) (hK : K.length ≤ 10000) :
    Calls Try.prog 52 #[.agg #[.pointer (some ⟨s, 0, none⟩)]] w fun e w' => ∃ g c, e = .returned (.slice g K.length c) ∧ Mk strCells 9 1 w.heap.size w' (.slice g K.length c) K ∧ Below w.heap.size w w' := by
  obtain ⟨i0, hi, hz0, hz1, hz2⟩ := info_parts3 infoStr
  have hlen := h.2
  have hB0 : Below w.heap.size w (w.alloc (.cells #[.pointer (some ⟨s, 0, none⟩)] 85)) := below2 _ _ _
  have hS0 := h.1.below hB0
  have hslt := h.lt
  have hln := V.len_T (w.alloc (.cells #[.pointer (some ⟨s, 0, none⟩)] 85)) s (setOf K) hS0
  rw [hlen] at hln
  refine (callsIn_wide (n := 3)).1 ?_
  refine callsIn_of_wp_marks Try.func52 rfl trivial ?_ rfl
  simp only [Try.ntmps52, List.size_toArray, List.length_cons, List.length_nil, Nat.reduceAdd, Nat.reduceSub, Array.replicate_succ, Array.replicate_zero, List.push_toArray, List.append_toArray, List.nil_append, List.cons_append]
  gi_wp2_with fail
  refine ⟨trivial, ?_⟩
  refine (callsIn_wide.2 hln).mono ?_
  rintro e w1 ⟨rfl, hw1⟩
  obtain rfl := hw1
  gi_wp2_with (refine wpListIn_make_full _ rfl _ _ 33 rfl w.heap.size 9 i0 (.string ⟨#[]⟩) 1 Try.underlying33 hi hz0 hz1 .i64 .i64 _ _ K.length rfl rfl rfl rfl (by rw [hz2]; omega) (by unfold maxLen; omega) hB0.size ?_; intro W2 hrow2 hg2; have hB2 : Below w.heap.size w W2 := hB0.grown hg2 hB0.size (fun k e => by cases e); have hbx2 : W2.heap[w.heap.size]? = some (.cells #[.pointer (some ⟨s, 0, none⟩)] 85 (0, 0)) := (hg2.block _ (by simp) (fun e => by cases e)).trans (heap_alloc_new w _); have d0 := cell_of_one hbx2; have hltb : w.heap.size < W2.heap.size := lt_of_block hbx2; have hneb : ¬ W2.heap.size = w.heap.size := by omega)
  have hgrow2 : W2.heap[w.heap.size + 1]? = some (.cells (rowP K.length []) 9 (0, 0)) := by
    rcases hrow2.2 with ⟨e, -⟩ | ⟨g, cap, cur, e, -, h2, -, -, h5, h6⟩
    · cases e
    · simp only [World.size_alloc, Value.slice.injEq, Option.some.injEq, Addr.mk.injEq] at e
      obtain ⟨⟨rfl, -⟩, -, rfl⟩ := e
      rw [h2, rowP_nil]
      have : cur.toList = List.replicate K.length (.string ⟨#[]⟩) := by
        have e1 : (madeCells (Value.string ⟨#[]⟩).cells (K.length * 1)).toList = List.replicate (K.length * 1) (.string ⟨#[]⟩) := toList_madeCells_one _ _
        rw [← h6, List.take_of_length_le (by rw [Array.length_toList, h5]; exact Nat.le_refl _)] at e1
        rw [e1, Nat.mul_one]
      have e2 : cur = Array.replicate K.length (.string ⟨#[]⟩) := by
        apply Array.ext'
        rw [this]; simp
      rw [e2]
  have hlt2 : w.heap.size + 1 < W2.heap.size := lt_of_block hgrow2
  have hS2 : V.SetAt W2 s (setOf K) := h.1.below hB2
  obtain ⟨N, hN⟩ : ∃ N, N = W2.heap.size := ⟨_, rfl⟩
  have hv3 : (W2.alloc (.cells #[.slice (some ⟨w.heap.size + 1, 0, none⟩) K.length K.length] 33)).heap[N]? = some (.cells #[.slice (some ⟨w.heap.size + 1, 0, none⟩) K.length K.length] 33 (0, 0)) := by rw [hN]; exact heap_alloc_new W2 _
  have hB3 : Below W2.heap.size W2 (W2.alloc (.cells #[.slice (some ⟨w.heap.size + 1, 0, none⟩) K.length K.length] 33)) := below2 _ _ _
  have hgrow3 := (hB3.block _ hlt2).trans hgrow2
  have hS3 := hS2.below hB3
  have hC3 := hB2.trans (hB3.mono hB2.size)
  have hsz3 : (W2.alloc (.cells #[.slice (some ⟨w.heap.size + 1, 0, none⟩) K.length K.length] 33)).heap.size = N + 1 := by rw [hN]; simp
  rw [← hN]
  rw [← hN] at hlt2 hneb
  have HN := Lib.hid hN
  clear hgrow2 hB3 hg2 hrow2 hbx2 d0 hS0 hln hltb
  generalize (W2.alloc (.cells #[.slice (some ⟨w.heap.size + 1, 0, none⟩) K.length K.length] 33)) = W3 at hv3 hgrow3 hS3 hC3 hsz3 ⊢
  have Hsz3 := Lib.hid hsz3
  refine ⟨trivial, ?_⟩
  refine (callsIn_wide.2 (V.all_T W3 (some ⟨s, 0, none⟩))).mono ?_
  rintro e W4 ⟨rfl, hW4⟩
  have hB4 : Below W3.heap.size W3 W4 := by rw [hW4]; exact below2 _ _ _
  have hbn4 : W4.heap[W3.heap.size]? = some (.cells #[.pointer (some ⟨s, 0, none⟩)] 83 (0, 0)) := by rw [hW4]; exact heap_alloc_new W3 _
  have hv4 := (hB4.block _ (lt_of_block hv3)).trans hv3
  have hgrow4 := (hB4.block _ (lt_of_block hgrow3)).trans hgrow3
  have hS4 := hS3.below hB4
  have hC4 := hC3.trans (hB4.mono hC3.size)
  have hsz4 : W4.heap.size = N + 2 := by rw [hW4, World.size_alloc, hsz3]
  have heg : ∀ args w, (callFunc 100 args).run Try.prog w = .ok (.enter 100 args) w := fun args w => rfl
  have Hsz4 := Lib.hid hsz4
  clear hW4 hsz3 hsz4 hN
  gi_wp2_with fail
  refine wpIn_rangeW rfl (by omega) (gf := 100) (lb := #[.pointer (some ⟨W3.heap.size, 0, none⟩)]) rfl trivial heg (V.all_stops 2 W4.heap.size W3.heap.size s (setOf K) W4 hbn4 hS4 (by rw [hlen]; omega) (Nat.le_refl _)) (fun h k => V.Kp.trans h k) (fun W l o o' h hc => V.Kp.putObj W l o o' h hc) (Below.refl _ _) (fun _ => rfl)
    (fun pre W => (W.heap[w.heap.size + 1]? = some (.cells (rowP K.length pre) 9 (0, 0)) ∧ W.heap[N]? = some (.cells #[.slice (some ⟨w.heap.size + 1, 0, none⟩) K.length K.length] 33 (0, 0))) ∧ Below w.heap.size w W)
    (fun _ _ _ => False)
    (fun pre W W' row hs hg hr => by
      obtain ⟨⟨h1, h2⟩, hb⟩ := hs
      have hne : ∀ b c T f, W.heap[b]? = some (.cells c T f) → some b ≠ row := fun b c T f hb e => by
        obtain ⟨-, o, ho, hc⟩ := hr b e.symm
        rw [hb] at ho; cases ho; cases hc
      exact ⟨⟨(hg.block _ (lt_of_block h1) (hne _ _ _ _ h1)).trans h1, (hg.block _ (lt_of_block h2) (hne _ _ _ _ h2)).trans h2⟩, hb.grown hg hb.size (fun k e => by have := (hr k e).1; have := Hsz4.out; omega)⟩)
    (fun _ _ _ _ _ hs _ _ => hs)
    ⟨⟨hgrow4, hv4⟩, hC4⟩
    (fun x a' W => ∃ Bx, w.heap.size + 1 < Bx ∧ W.heap[Bx]? = some (.cells #[.string x.name, .int .i64 x.nth] 121 (0, 0)) ∧ a' = { tmps := #[.agg #[.pointer (some ⟨s, 0, none⟩)], .pointer (some ⟨w.heap.size, 0, none⟩), .slice none 0 0, .pointer (some ⟨N, 0, none⟩), .pointer (some ⟨Bx, 0, none⟩), .pointer (some ⟨w.heap.size, 0, none⟩), .pointer (some ⟨s, 0, none⟩), .int .i64 K.length, .slice (some ⟨w.heap.size + 1, 0, none⟩) K.length K.length, .pointer (some ⟨w.heap.size, 0, none⟩), .pointer (some ⟨s, 0, none⟩), .func (.func 100) #[] #[.pointer (some ⟨W3.heap.size, 0, none⟩)], .agg #[.string x.name, .int .i64 x.nth], undef, undef, undef, undef, undef, undef, undef], defers := [] })
    (fun x a' s A B row hs hg hr => by
      obtain ⟨Bx, h1, h2, h3⟩ := hs
      refine ⟨Bx, h1, (hg.block Bx (lt_of_block h2) (fun e => ?_)).trans h2, h3⟩
      obtain ⟨-, o, ho, hc⟩ := hr Bx e.symm
      rw [h2] at ho; cases ho; cases hc)
    ?assign ?body ?done ?stop
  case assign =>
    rintro l pre x W K' ⟨⟨h1, h2⟩, hB⟩ hK'
    have hlt := lt_of_block h1
    gi_wp2
    refine hK' _ _ ((KeepsOthers.alloc _ _).from _) (fun b c hn hb => (Below.heap_alloc _ _ _ (lt_of_block hb)).trans hb) ⟨⟨(Below.heap_alloc _ _ _ hlt).trans h1, (Below.heap_alloc _ _ _ (lt_of_block h2)).trans h2⟩, hB.trans ((Below.refl _ W).alloc hB.size _)⟩ ⟨W.heap.size, hlt, heap_alloc_new W _, rfl⟩
  case body =>
    rintro l pre x a' W hl ⟨r, hr⟩ ⟨⟨h1, h2⟩, hB⟩ ⟨Bx, hBx, bX, rfl⟩ hpre
    obtain ⟨i, hxi, hilt⟩ := setOf_place hlen hpre
    obtain ⟨nm, nt⟩ := x
    obtain rfl : nt = i := hxi
    have hsz := rowOf_size K.length pre.reverse
    obtain ⟨u, hu⟩ : ∃ u, (rowP K.length pre)[i]? = some u := ⟨_, Array.getElem?_eq_getElem (by rw [rowP, hsz]; exact hilt)⟩
    have e0 := cell_of_one h2
    have e1 : W.cell? ⟨Bx, 0, none⟩ = some (.string nm) := by simp [World.cell?, bX]
    have e2 : W.cell? ⟨Bx, 1, none⟩ = some (.int .i64 i) := by simp [World.cell?, bX]
    have e3 : W.cell? ⟨w.heap.size + 1, i, none⟩ = some u := by simp [World.cell?, h1, hu]
    have e4 : W.frozen? ⟨w.heap.size + 1, i, none⟩ = false := by simp [World.frozen?, h1]
    have hset : (W.setCell ⟨w.heap.size + 1, i, none⟩ (.string nm)).heap[w.heap.size + 1]? = some (.cells (rowP K.length (pre ++ [⟨nm, i⟩])) 9 (0, 0)) := by
      rw [rowP_snoc, Int.toNat_natCast]
      exact set_blockC h1 _
    have hbut := (But.refl (w.heap.size + 1) W).setCell i (.string nm)
    have hN1 : N ≠ w.heap.size + 1 := by omega
    have F := Lib.hid (And.intro h1 (And.intro h2 (And.intro hset hbut)))
    have hilt' : (i : Int) < (K.length : Int) := by omega
    have hi0 : (0 : Int) ≤ (i : Int) := by omega
    clear h1 h2 hset hbut hu hsz hpre
    gi_wp2
    obtain ⟨h1, h2, hset, hbut⟩ := F.out
    refine ⟨⟨hbut.size, fun k o _ hk ho => (hbut.block k (lt_of_block hk) (fun e => by subst e; rw [h1] at hk; cases hk; cases ho)).trans hk⟩, V.Kp.of_but hbut h1 (by decide), ⟨hset, (hbut.block _ (lt_of_block h2) hN1).trans h2⟩, V.below_but hB hbut (Nat.le_succ _) hB.size⟩
  case done =>
    rintro D ys W hD rfl ⟨⟨h1, h2⟩, hB⟩ hK'
    have e0 := cell_of_one h2
    have hrow : W.ownsRow w.heap.size 9 1 (.slice (some ⟨w.heap.size + 1, 0, none⟩) K.length K.length) K.length (flatR strCells K) := by
      rw [rowP_all hlen] at h1
      refine ⟨by rw [flatR_length (k := 1) (fun _ => rfl)], .inr ⟨_, _, _, rfl, Nat.le_succ _, h1, Nat.le_refl _, by unfold maxLen; omega, by simp, ?_⟩⟩
      rw [flatR_str, List.toList_toArray, List.take_of_length_le (by simp)]
    have Hrow := Lib.hid hrow
    clear hrow h1 h2
    gi_wp2
    refine ⟨by simp, .inl ⟨_, _, rfl, run_takeDeferred hK', ?_⟩⟩
    exact ⟨_, results_tmp rfl _ _ _, _, _, rfl, ownsRow_putObj Hrow.out _ hK' rfl, hB.trans (belowK_b (w := w) (Nat.le_refl _) W D _ _ (by have := Hsz4.out; omega) hK' rfl rfl)⟩
  case stop =>
    rintro D c pre W _ _ h _
    exact h.elim

end Go.Proofs.Ytmnpcpgdhaplaaa
