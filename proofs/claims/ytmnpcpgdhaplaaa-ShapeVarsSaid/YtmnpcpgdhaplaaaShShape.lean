/- What Shape answers. Conditions: the production lies in memory; at most 50000 conditions, 1000 actions. -/
import Derived.Test.YtmnpcpgdhaplaaaMg10
import Derived.Deep.MidRow
import Derived.Deep.WholeRow
namespace Go.Proofs.Ytmnpcpgdhaplaaa
open Go Go.RowKit Go.Shelf

attribute [local go_sem] Oper.semAt_some

def badC (x : SpotV × CondV) : Option (Int × Int) := if condE x.2 x.1.depth == 0 then none else some (x.1.count, condE x.2 x.1.depth)
def firstBad (l : List (SpotV × CondV)) : Option (Int × Int) := l.findSome? badC
def badAct (l : List ActV) : Option Nat := l.findIdx? (fun a => !actB a)
def shapeP (p : ProdV) : Int × Int := if wholeE p != 0 then (-1, wholeE p) else match firstBad (flatL 0 0 p.cs) with
  | some r => r
  | none => match badAct p.xs with
    | some i => ((sizeL p.cs : Int) + i, 9)
    | none => (-1, 0)

theorem flat_ok {lo hi : Nat} {W : World} (k : Nat) : ∀ (cs : List CondV), sizeL cs ≤ k → CondOkL lo hi W cs → ∀ n d x, x ∈ flatL n d cs → CondOk lo hi W x.2 := by
  induction k with
  | zero =>
    intro cs h _ n d x hx
    have := sizeL_le cs
    obtain rfl : cs = [] := List.length_eq_zero_iff.1 (by omega)
    simp [flatL] at hx
  | succ k ih =>
    intro cs
    induction cs with
    | nil => intro _ _ n d x hx; simp [flatL] at hx
    | cons c cs ih2 =>
      intro h hc n d x hx
      rw [sizeL_cons] at h
      rw [condOkL_iff] at hc
      rw [flatL_cons] at hx
      have hcc := hc c (by simp)
      rcases List.mem_append.1 hx with hx | hx
      · rcases List.mem_cons.1 hx with hx | hx
        · rw [hx]; exact hcc
        · exact ih c.inner (by omega) (condOk_iff.1 hcc).2.2.2 _ _ x hx
      · exact ih2 (by omega) (condOkL_iff.2 fun c' h' => hc c' (by simp [h'])) _ _ x hx

/-- A load of a whole row, by one fact, within a fence. -/
theorem wpListIn_load_mid {F : Fence} {n : Nat} {P : Program} {ops : Array Oper} {rest : List Oper} {op : Oper} {a : Act} {w : World} {Q : Exit → Act → World → Prop} (hgd : op.guard = none) (ty : TypeId) (x : Operand) (ho : op.op = .load ty x)
    (b o : Nat) (hx : a.eval x = .pointer (some ⟨b, o, none⟩)) (cs : List Value) (d : TypeDesc) (hc : w.rangeAt b o cs)
    (hu : P.underlying ty = some d) (hd : d.isRow = true) (hi : (P.info? ty).map (·.size) = some cs.length)
    (h : wpListIn F n P ops Q rest (a.put op.dst (.agg cs.toArray)) w) : wpListIn F n P ops Q (op :: rest) a w := by
  refine wpListIn_plain hgd fun K hK' => ?_
  unfold Oper.wpIn
  refine ⟨?_, ?_⟩
  · simp [Oper.about, ho]
  · rw [Oper.semAt_plain F _ _ (by rw [ho]; intro c hc'; cases hc')]
    unfold execOp
    simp only [ho, hx, Instr.loadAt, Instr.sureAddr, Sem.run_bind, Sem.run_pure, Result.andThen_ok, run_loadVar_mid w b o ty cs d hc hu hd hi]
    exact hK' _ _ h

/-- A store of a whole row into the box that was made last; a load of a whole box; within a fence. -/
theorem wpListIn_store_new {F : Fence} {n : Nat} {P : Program} {ops : Array Oper} {rest : List Oper} {op : Oper} {a : Act} {w : World} {Q : Exit → Act → World → Prop} (hgd : op.guard = none) (ty : TypeId) (x y : Operand) (ho : op.op = .store ty x y) (hd : op.dst = none)
    (w0 : World) (old cells : Array Value) (hx : a.eval x = .pointer (some ⟨w0.heap.size, 0, none⟩)) (hy : a.eval y = .agg cells) (hw : w = w0.alloc (.cells old ty))
    (hi : (P.info? ty).map (·.size) = some cells.size) (hold : old.size = cells.size) (h1 : cells.all (·.oneCell') = true)
    (h : wpListIn F n P ops Q rest a (w0.alloc (.cells cells ty))) : wpListIn F n P ops Q (op :: rest) a w := by
  subst hw
  refine wpListIn_plain hgd fun K hK' => ?_
  unfold Oper.wpIn
  refine ⟨?_, ?_⟩
  · simp [Oper.about, ho]
  · rw [Oper.semAt_plain F _ _ (by rw [ho]; intro c hc'; cases hc')]
    unfold execOp
    simp only [ho, hx, hy, Instr.storeAt, Instr.sureAddr, Sem.run_bind, Sem.run_pure, Result.andThen_ok, run_storeVar_new w0 ty old cells hi hold h1]
    first
      | exact hK' _ _ h
      | exact hK' _ _ (by rw [hd]; exact h)
      | (simp only [Oper.uponIn]; exact hK' _ _ (by rw [hd]; exact h))

theorem wpListIn_load_row {F : Fence} {n : Nat} {P : Program} {ops : Array Oper} {rest : List Oper} {op : Oper} {a : Act} {w : World} {Q : Exit → Act → World → Prop} (hgd : op.guard = none) (ty : TypeId) (x : Operand) (ho : op.op = .load ty x)
    (g : Nat) (hx : a.eval x = .pointer (some ⟨g, 0, none⟩)) (t : TypeId) (cs : Array Value) (fr : Nat × Nat) (d : TypeDesc) (hg : w.heap[g]? = some (.cells cs t fr))
    (hu : P.underlying ty = some d) (hd : (match d with | .struct _ | .array _ _ => true | _ => false) = true) (hi : (P.info? ty).map (·.size) = some cs.size)
    (h : wpListIn F n P ops Q rest (a.put op.dst (.agg cs)) w) : wpListIn F n P ops Q (op :: rest) a w := by
  refine wpListIn_plain hgd fun K hK' => ?_
  unfold Oper.wpIn
  refine ⟨?_, ?_⟩
  · simp [Oper.about, ho]
  · rw [Oper.semAt_plain F _ _ (by rw [ho]; intro c hc'; cases hc')]
    unfold execOp
    simp only [ho, hx, Instr.loadAt, Instr.sureAddr, Sem.run_bind, Sem.run_pure, Result.andThen_ok, run_loadVar_row w g t ty cs fr d hg hu hd hi]
    exact hK' _ _ h

theorem act_one (a : ActV) : (#[.string a.id, .string a.attr.var, .int .i64 a.attr.sym.k, .string a.attr.sym.t, .int .i64 a.attr.sym.n, .int .i64 a.value.op, .string a.value.a.var, .int .i64 a.value.a.sym.k, .string a.value.a.sym.t, .int .i64 a.value.a.sym.n, .string a.value.b.var, .int .i64 a.value.b.sym.k, .string a.value.b.sym.t, .int .i64 a.value.b.sym.n, .int .i64 a.pref, .string a.other.var, .int .i64 a.other.sym.k, .string a.other.sym.t, .int .i64 a.other.sym.n] : Array Value).all (·.oneCell') = true := by simp [Value.oneCell']

theorem keepsFrom_belowC {B : Nat} {W W' : World} (h : Below W.heap.size W W') : KeepsFrom B W W' := ⟨h.size, fun k _ _ hk _ => (h.block k (lt_of_block hk)).trans hk⟩

/-- Two boxes, stored into one behind the other. -/
theorem two_set {W : World} {b : Nat} {x y : Value} {T T' : TypeId} (h1 : W.heap[b]? = some (.cells #[x] T (0, 0))) (h2 : W.heap[b + 1]? = some (.cells #[y] T' (0, 0))) (u v : Value) :
    (W.setCell ⟨b, 0, none⟩ u).cell? ⟨b + 1, 0, none⟩ = some y ∧ (W.setCell ⟨b, 0, none⟩ u).frozen? ⟨b + 1, 0, none⟩ = false ∧
    ((W.setCell ⟨b, 0, none⟩ u).setCell ⟨b + 1, 0, none⟩ v).heap[b]? = some (.cells #[u] T (0, 0)) ∧ ((W.setCell ⟨b, 0, none⟩ u).setCell ⟨b + 1, 0, none⟩ v).heap[b + 1]? = some (.cells #[v] T' (0, 0)) := by
  have k1 : (W.setCell ⟨b, 0, none⟩ u).heap[b]? = some (.cells #[u] T (0, 0)) := by have := set_blockC (o := 0) h1 u; simpa using this
  have k2 : (W.setCell ⟨b, 0, none⟩ u).heap[b + 1]? = some (.cells #[y] T' (0, 0)) := (Below.heap_setCell _ _ _ _ (by show b + 1 ≠ b; omega)).trans h2
  refine ⟨cell_of_one k2, free_of_one k2, (Below.heap_setCell _ _ _ _ (by show b ≠ b + 1; omega)).trans k1, ?_⟩
  have := set_blockC (o := 0) k2 v
  simpa using this

theorem below_two {B b : Nat} {w W : World} (h : Below B w W) (hb : B ≤ b) (u v : Value) : Below B w ((W.setCell ⟨b, 0, none⟩ u).setCell ⟨b + 1, 0, none⟩ v) :=
  (h.setCell (p := ⟨b, 0, none⟩) hb u).setCell (p := ⟨b + 1, 0, none⟩) (Nat.le_succ_of_le hb) v

set_option pp.deepTerms true
set_option pp.maxSteps 1000000
set_option maxRecDepth 100000 in
set_option maxHeartbeats 3200000 in
theorem shape_T (w : World) (lo hi : Nat) (p : ProdV) (h : ProdOk lo hi w p) (hhi : hi ≤ w.heap.size) (hs : sizeL p.cs ≤ 50000) (hx : p.xs.length ≤ 1000) :
    Calls Try.prog 13 #[.agg #[.string p.name, .slice p.conds.a p.conds.n p.conds.c, .slice p.acts.a p.acts.n p.acts.c]] w fun e w' => e = .returned (.tuple #[.int .i64 (shapeP p).1, .int .i64 (shapeP p).2]) ∧ Below w.heap.size w w' := by
  have na : p.acts.n = p.xs.length := h.2.1
  obtain ⟨aa, haa⟩ : ∃ a, p.acts.a = a := ⟨_, rfl⟩
  rw [na, haa]
  refine (callsIn_wide (n := 3)).1 ?_
  refine callsIn_of_wp_marks Try.func13 rfl trivial ?_ rfl
  simp only [Try.ntmps13, List.size_toArray, List.length_cons, List.length_nil, Nat.reduceAdd, Nat.reduceSub, Array.replicate_succ, Array.replicate_zero, List.push_toArray, List.append_toArray, List.nil_append, List.cons_append]
  have hwE : ∀ W, Below w.heap.size w W → Calls Try.prog 38 #[.agg #[.string p.name, .slice p.conds.a p.conds.n p.conds.c, .slice aa p.xs.length p.acts.c]] W fun e w' => e = .returned (.int .i64 (wholeE p)) ∧ Below W.heap.size W w' := fun W hW => by
    have := whole_T W lo hi p (h.keep (KeepIn.of_below hW hhi)) (Nat.le_trans hhi hW.size) hs
    rw [na, haa] at this
    exact this
  have HwE := Lib.hid hwE
  clear hwE
  gi_wp2_with fail
  have hB1 : Below w.heap.size w (((w.alloc (.cells #[.string p.name, .slice p.conds.a p.conds.n p.conds.c, .slice aa p.xs.length p.acts.c] 25)).alloc (.cells #[.int .i64 0] 3)).alloc (.cells #[.int .i64 0] 28)) := (((Below.refl _ w).alloc (Nat.le_refl _) _).alloc (by simp) _).alloc (by simp <;> omega) _
  have hp1 : (((w.alloc (.cells #[.string p.name, .slice p.conds.a p.conds.n p.conds.c, .slice aa p.xs.length p.acts.c] 25)).alloc (.cells #[.int .i64 0] 3)).alloc (.cells #[.int .i64 0] 28)).heap[w.heap.size]? = some (.cells #[.string p.name, .slice p.conds.a p.conds.n p.conds.c, .slice aa p.xs.length p.acts.c] 25 (0, 0)) := (Below.heap_alloc _ _ _ (by simp <;> omega)).trans ((Below.heap_alloc _ _ _ (by simp)).trans (heap_alloc_new w _))
  have hi1 : (((w.alloc (.cells #[.string p.name, .slice p.conds.a p.conds.n p.conds.c, .slice aa p.xs.length p.acts.c] 25)).alloc (.cells #[.int .i64 0] 3)).alloc (.cells #[.int .i64 0] 28)).heap[w.heap.size + 1]? = some (.cells #[.int .i64 0] 3 (0, 0)) := by
    refine (Below.heap_alloc _ _ _ (by simp)).trans ?_
    have := heap_alloc_new (w.alloc (.cells #[.string p.name, .slice p.conds.a p.conds.n p.conds.c, .slice aa p.xs.length p.acts.c] 25)) (.cells #[.int .i64 0] 3)
    rwa [World.size_alloc] at this
  have he1 := heap_alloc_new (((w.alloc (.cells #[.string p.name, .slice p.conds.a p.conds.n p.conds.c, .slice aa p.xs.length p.acts.c] 25)).alloc (.cells #[.int .i64 0] 3))) (.cells #[.int .i64 0] 28)
  simp only [World.size_alloc] at he1
  generalize (((w.alloc (.cells #[.string p.name, .slice p.conds.a p.conds.n p.conds.c, .slice aa p.xs.length p.acts.c] 25)).alloc (.cells #[.int .i64 0] 3)).alloc (.cells #[.int .i64 0] 28)) = W0 at hB1 hp1 hi1 he1 ⊢
  refine ⟨trivial, ?_⟩
  refine (callsIn_wide.2 (HwE.out W0 hB1)).mono ?_
  rintro e W1 ⟨rfl, hB2⟩
  have hp2 := (hB2.block _ (lt_of_block hp1)).trans hp1
  have hi2 := (hB2.block _ (lt_of_block hi1)).trans hi1
  have he2 := (hB2.block _ (lt_of_block he1)).trans he1
  have hC1 := hB1.trans (hB2.mono hB1.size)
  clear hp1 hi1 he1 hB1 hB2
  cases hE : (wholeE p != 0)
  case true =>
    have HE := Lib.hid hE
    have q0 := cell_of_one hi2
    have q1 := free_of_one hi2
    have q2 := cell_of_one he2
    have q3 := free_of_one he2
    obtain ⟨q4, q5, r0, r1⟩ := two_set hi2 he2 (.int .i64 (-1)) (.int .i64 (wholeE p))
    have hbt := below_two hC1 (Nat.le_succ _) (b := w.heap.size + 1) (.int .i64 (-1)) (.int .i64 (wholeE p))
    have R0 := Lib.hid (cell_of_one r0)
    have R1 := Lib.hid (cell_of_one r1)
    have Hbt := Lib.hid hbt
    clear r0 r1 hbt
    gi_wp2_with fail
    have r0 := R0.out
    have r1 := R1.out
    refine ⟨.tuple #[.int .i64 (-1), .int .i64 (wholeE p)], ?_, ?_, Hbt.out⟩
    · simp [results, Try.results13, go_sem, r0, r1]
    · rw [shapeP, HE.out]; rfl
  have HE := Lib.hid hE
  have g0 : W1.cell? ⟨w.heap.size, 1, none⟩ = some (.slice p.conds.a p.conds.n p.conds.c) := by simp [World.cell?, hp2]
  gi_wp2_with fail
  refine ⟨trivial, ?_⟩
  refine (callsIn_wide.2 (spots_T W1 p.conds)).mono ?_
  rintro e W2 ⟨rfl, hw2⟩
  have hB2 : Below W1.heap.size W1 W2 := by rw [hw2]; exact (Below.refl _ W1).alloc (Nat.le_refl _) _
  have hbl : W2.heap[W1.heap.size]? = some (.cells #[.slice p.conds.a p.conds.n p.conds.c] 22 (0, 0)) := by rw [hw2]; exact heap_alloc_new W1 _
  clear hw2
  have hp3 := (hB2.block _ (lt_of_block hp2)).trans hp2
  have hi3 := (hB2.block _ (lt_of_block hi2)).trans hi2
  have he3 := (hB2.block _ (lt_of_block he2)).trans he2
  have hC2 := hC1.trans (hB2.mono hC1.size)
  obtain ⟨rb, hrb⟩ : ∃ r, r = (firstBad (flatL 0 0 p.cs)).getD (0, 0) := ⟨_, rfl⟩
  gi_wp2_with fail
  refine wpIn_rangeC rfl (by omega) (gf := 64) (lb := #[.pointer (some ⟨W1.heap.size, 0, none⟩)]) rfl trivial (enters_of Try.func64 (by kernel_rfl) rfl)
    (spots_stops 2 lo hi W1.heap.size p.conds p.cs W2 hbl (h.1.keep (KeepIn.of_below hC2 hhi)) (Nat.le_trans hhi hC2.size) hs) (fun h k => h.trans k) (fun W l o o' h hc => KpC.putObj W l o o' h hc) (Below.refl _ _) (fun _ => rfl)
    (fun pre W => ((∀ x ∈ pre, badC x = none) ∧ W.heap[w.heap.size + 1]? = some (.cells #[.int .i64 0] 3 (0, 0))) ∧ (W.heap[w.heap.size + 1 + 1]? = some (.cells #[.int .i64 0] 28 (0, 0)) ∧ W.heap[w.heap.size]? = some (.cells #[.string p.name, .slice p.conds.a p.conds.n p.conds.c, .slice aa p.xs.length p.acts.c] 25 (0, 0))) ∧ Below w.heap.size w W)
    (fun c _ W => (c = .ret ∧ firstBad (flatL 0 0 p.cs) = some rb) ∧ (W.heap[w.heap.size + 1]? = some (.cells #[.int .i64 rb.1] 3 (0, 0)) ∧ W.heap[w.heap.size + 1 + 1]? = some (.cells #[.int .i64 rb.2] 28 (0, 0))) ∧ Below w.heap.size w W)
    (OwnT.and (OwnT.and (OwnT.pure _ _) (OwnT.block _ (w.heap.size + 1) (fun _ : List (SpotV × CondV) => #[.int .i64 0]) 3 (by decide))) (OwnT.and (OwnT.and (OwnT.block _ (w.heap.size + 1 + 1) (fun _ : List (SpotV × CondV) => #[.int .i64 0]) 28 (by decide)) (OwnT.block _ w.heap.size (fun _ : List (SpotV × CondV) => #[.string p.name, .slice p.conds.a p.conds.n p.conds.c, .slice aa p.xs.length p.acts.c]) 25 (by decide))) (OwnT.below (Nat.le_refl _) hC2.size)))
    (fun c => OwnT.and (OwnT.pure _ (fun _ => c = .ret ∧ firstBad (flatL 0 0 p.cs) = some rb)) (OwnT.and (OwnT.and (OwnT.block _ (w.heap.size + 1) (fun _ : List (SpotV × CondV) => #[.int .i64 rb.1]) 3 (by decide)) (OwnT.block _ (w.heap.size + 1 + 1) (fun _ : List (SpotV × CondV) => #[.int .i64 rb.2]) 28 (by decide))) (OwnT.below (Nat.le_refl _) hC2.size)))
    ⟨⟨by simp, hi3⟩, ⟨he3, hp3⟩, hC2⟩
    (fun x a' W => ∃ Bs Bc, (w.heap.size + 1 + 1 < Bs ∧ w.heap.size + 1 + 1 < Bc) ∧ (W.heap[Bs]? = some (.cells #[.int .i64 x.1.count, .int .i64 x.1.depth] 77 (0, 0)) ∧ W.heap[Bc]? = some (.cells #[.int .i64 x.2.h.kind, .bool x.2.h.goal, .string x.2.h.id, .slice x.2.h.attr.a x.2.h.attr.n x.2.h.attr.c, .slice x.2.h.value.a x.2.h.value.n x.2.h.value.c, .bool x.2.h.acc, .slice x.2.h.conds.a x.2.h.conds.n x.2.h.conds.c] 64 (0, 0))) ∧ a' = { tmps := #[.agg #[.string p.name, .slice p.conds.a p.conds.n p.conds.c, .slice aa p.xs.length p.acts.c], .pointer (some ⟨w.heap.size, 0, none⟩), .pointer (some ⟨w.heap.size + 1, 0, none⟩), .pointer (some ⟨w.heap.size + 1 + 1, 0, none⟩), .int .i64 (wholeE p), .pointer (some ⟨Bs, 0, none⟩), .pointer (some ⟨Bc, 0, none⟩), undef, undef, undef, .agg #[.string p.name, .slice p.conds.a p.conds.n p.conds.c, .slice aa p.xs.length p.acts.c], .int .i64 (wholeE p), .int .i64 (wholeE p), .bool false, undef, .pointer (some ⟨w.heap.size, 1, none⟩), .slice p.conds.a p.conds.n p.conds.c, .func (.func 64) #[] #[.pointer (some ⟨W1.heap.size, 0, none⟩)], .agg #[.int .i64 x.1.count, .int .i64 x.1.depth], .agg #[.int .i64 x.2.h.kind, .bool x.2.h.goal, .string x.2.h.id, .slice x.2.h.attr.a x.2.h.attr.n x.2.h.attr.c, .slice x.2.h.value.a x.2.h.value.n x.2.h.value.c, .bool x.2.h.acc, .slice x.2.h.conds.a x.2.h.conds.n x.2.h.conds.c], undef, undef, undef, undef, undef, undef, undef, undef, undef, undef, undef, undef, undef, undef, undef, undef, undef, undef, undef, undef, undef, undef, undef, undef, undef, undef], defers := [] })
    (fun x a' s A B row hs hg hr => by
      obtain ⟨Bs, Bc, h1, ⟨h2, h3⟩, h4⟩ := hs
      refine ⟨Bs, Bc, h1, ⟨(hg.block Bs (lt_of_block h2) (fun e => ?_)).trans h2, (hg.block Bc (lt_of_block h3) (fun e => ?_)).trans h3⟩, h4⟩
      · obtain ⟨-, o, ho, hc⟩ := hr Bs e.symm
        rw [h2] at ho; cases ho; cases hc
      · obtain ⟨-, o, ho, hc⟩ := hr Bc e.symm
        rw [h3] at ho; cases ho; cases hc)
    ?assign ?body ?done ?stop
  case assign =>
    rintro l pre x W K ⟨⟨hpre, hb⟩, ⟨he, hpb⟩, hB⟩ hK
    have hBa : Below W.heap.size W ((W.alloc (.cells #[.int .i64 x.1.count, .int .i64 x.1.depth] 77)).alloc (.cells #[.int .i64 x.2.h.kind, .bool x.2.h.goal, .string x.2.h.id, .slice x.2.h.attr.a x.2.h.attr.n x.2.h.attr.c, .slice x.2.h.value.a x.2.h.value.n x.2.h.value.c, .bool x.2.h.acc, .slice x.2.h.conds.a x.2.h.conds.n x.2.h.conds.c] 64)) := ((Below.refl _ W).alloc (Nat.le_refl _) _).alloc (by simp) _
    have hn1 : ((W.alloc (.cells #[.int .i64 x.1.count, .int .i64 x.1.depth] 77)).alloc (.cells #[.int .i64 x.2.h.kind, .bool x.2.h.goal, .string x.2.h.id, .slice x.2.h.attr.a x.2.h.attr.n x.2.h.attr.c, .slice x.2.h.value.a x.2.h.value.n x.2.h.value.c, .bool x.2.h.acc, .slice x.2.h.conds.a x.2.h.conds.n x.2.h.conds.c] 64)).heap[W.heap.size]? = some (.cells #[.int .i64 x.1.count, .int .i64 x.1.depth] 77 (0, 0)) := (Below.heap_alloc _ _ _ (by simp)).trans (heap_alloc_new W _)
    have hn2 := heap_alloc_new (W.alloc (.cells #[.int .i64 x.1.count, .int .i64 x.1.depth] 77)) (.cells #[.int .i64 x.2.h.kind, .bool x.2.h.goal, .string x.2.h.id, .slice x.2.h.attr.a x.2.h.attr.n x.2.h.attr.c, .slice x.2.h.value.a x.2.h.value.n x.2.h.value.c, .bool x.2.h.acc, .slice x.2.h.conds.a x.2.h.conds.n x.2.h.conds.c] 64)
    rw [World.size_alloc] at hn2
    gi_wp2
    exact hK _ _ (((KeepsOthers.alloc _ _).from _).trans ((KeepsOthers.alloc _ _).from _)) (KpC.of_below hBa) ⟨⟨hpre, (hBa.block _ (lt_of_block hb)).trans hb⟩, ⟨(hBa.block _ (lt_of_block he)).trans he, (hBa.block _ (lt_of_block hpb)).trans hpb⟩, hB.trans (hBa.mono hB.size)⟩ ⟨W.heap.size, W.heap.size + 1, ⟨lt_of_block he, Nat.lt_succ_of_lt (lt_of_block he)⟩, ⟨hn1, hn2⟩, rfl⟩
  case body =>
    rintro l pre x a' W hl ⟨r, hr⟩ ⟨⟨hpre, hb⟩, ⟨he, hpb⟩, hB⟩ ⟨Bs, Bc, ⟨hBs, hBc⟩, ⟨bS, bC⟩, rfl⟩ hlt
    as_aux_lemma =>
      have hxm : x ∈ flatL 0 0 p.cs := by
        obtain ⟨r, hr⟩ := hlt
        rw [← hr]; simp
      have hok := flat_ok _ p.cs (Nat.le_refl _) (h.1.keep (KeepIn.of_below hB hhi)).2 0 0 x hxm
      have hcall := callsIn_wide (n := 0).2 (cond_T W lo hi x.2 x.1.depth hok (Nat.le_trans hhi hB.size))
      have Hcall := Lib.hid hcall
      obtain ⟨s0, s1, -⟩ := spot_cells bS
      obtain ⟨r0, r1, r2, r3, r4, r5, r6⟩ := cond_cells bC
      clear hcall hok hxm
      gi_wp2_with fail
      refine ⟨trivial, ?_⟩
      refine (CallsIn.inRound l Hcall.out).mono ?_
      rintro e W3 ⟨rfl, hB3⟩
      have hb3 := (hB3.block _ (lt_of_block hb)).trans hb
      have he3 := (hB3.block _ (lt_of_block he)).trans he
      have hpb3 := (hB3.block _ (lt_of_block hpb)).trans hpb
      have bS3 := (hB3.block _ (lt_of_block bS)).trans bS
      have hC3 := hB.trans (hB3.mono hB.size)
      cases hcE : (condE x.2 x.1.depth != 0)
      · have HcE := Lib.hid hcE
        have Hlt := Lib.hid hlt
        clear hlt s0 s1 r0 r1 r2 r3 r4 r5 r6
        gi_wp2_with fail
        refine ⟨keepsFrom_belowC hB3, KpC.of_below hB3, ⟨fun y hy => ?_, hb3⟩, ⟨he3, hpb3⟩, hC3⟩
        rcases List.mem_append.1 hy with hy | hy
        · exact hpre y hy
        · obtain rfl : y = x := by simpa using hy
          have h0 : (condE y.2 y.1.depth == 0) = true := by have := HcE.out; simpa using this
          rw [badC, h0]; rfl
      · have HcE := Lib.hid hcE
        have hfb : firstBad (flatL 0 0 p.cs) = some (x.1.count, condE x.2 x.1.depth) := by
          obtain ⟨q, hq⟩ := hlt
          have h0 : (condE x.2 x.1.depth == 0) = false := by simpa using hcE
          rw [firstBad, ← hq, List.findSome?_append, List.findSome?_append, List.findSome?_eq_none_iff.2 hpre]
          simp [badC, h0]
        have hrb2 : rb = (x.1.count, condE x.2 x.1.depth) := by rw [hrb, hfb]; rfl
        have q0 := cell_of_one hb3
        have q1 := free_of_one hb3
        obtain ⟨q4, q5, t0, t1⟩ := two_set hb3 he3 (.int .i64 x.1.count) (.int .i64 (condE x.2 x.1.depth))
        have hbt := below_two hC3 (Nat.le_succ _) (b := w.heap.size + 1) (.int .i64 x.1.count) (.int .i64 (condE x.2 x.1.depth))
        have hk2 : KeepsFrom W2.heap.size W ((W3.setCell ⟨w.heap.size + 1, 0, none⟩ (.int .i64 x.1.count)).setCell ⟨w.heap.size + 1 + 1, 0, none⟩ (.int .i64 (condE x.2 x.1.depth))) := (keepsFrom_belowC hB3).trans (((KeepsOthers.setCell _ _ _).from _).trans ((KeepsOthers.setCell _ _ _).from _))
        have T0 := Lib.hid t0
        have T1 := Lib.hid t1
        have Hbt := Lib.hid hbt
        have Hk2 := Lib.hid hk2
        have Hfb := Lib.hid hfb
        have Hrb2 := Lib.hid hrb2
        obtain ⟨s0', s1', -⟩ := spot_cells bS3
        clear hlt s0 s1 r0 r1 r2 r3 r4 r5 r6 t0 t1 hbt hk2 hfb hrb2 hrb
        gi_wp2_with fail
        refine ⟨Hk2.out, ⟨rfl, ?_⟩, ⟨?_, ?_⟩, Hbt.out⟩
        · rw [Hfb.out, Hrb2.out]
        · rw [Hrb2.out]; exact T0.out
        · rw [Hrb2.out]; exact T1.out
  case done =>
    rintro D ys W hD rfl ⟨⟨hpre, hb⟩, ⟨he, hpb⟩, hB⟩ hK
    have hfn : firstBad (flatL 0 0 p.cs) = none := List.findSome?_eq_none_iff.2 hpre
    have Hfn := Lib.hid hfn
    have g2 : W.cell? ⟨w.heap.size, 2, none⟩ = some (.slice aa p.xs.length p.acts.c) := by simp [World.cell?, hpb]
    have hrow : RowIn lo hi 19 actCells W ⟨aa, p.xs.length, p.acts.c⟩ p.xs := by
      have := h.2.keep (KeepIn.of_below hB hhi)
      rw [← haa, ← na]; exact this
    have Hsz := Lib.hid (fun W' (hW : Below W.heap.size W W') => size_T W' lo hi p.conds p.cs (h.1.keep (KeepIn.of_below (hB.trans (hW.mono hB.size)) hhi)) (Nat.le_trans hhi (Nat.le_trans hB.size hW.size)) hs)
    have Hfacts := Lib.hid (fun W' (hW : Below W.heap.size W W') => (⟨(hW.block _ (lt_of_block hb)).trans hb, (hW.block _ (lt_of_block he)).trans he, (hW.block _ (lt_of_block hpb)).trans hpb, (hW.block D (Array.getElem?_eq_some_iff.1 hK).1).trans hK⟩ : W'.heap[w.heap.size + 1]? = some (.cells #[.int .i64 0] 3 (0, 0)) ∧ W'.heap[w.heap.size + 1 + 1]? = some (.cells #[.int .i64 0] 28 (0, 0)) ∧ W'.heap[w.heap.size]? = some (.cells #[.string p.name, .slice p.conds.a p.conds.n p.conds.c, .slice aa p.xs.length p.acts.c] 25 (0, 0)) ∧ W'.heap[D]? = some (.deferred (some []))))
    have Hrow := Lib.hid hrow
    have hDlt : w.heap.size + 1 + 1 < D := by have := lt_of_block he3; omega
    clear hfn hpre hrow
    gi_wp2_with fail
    gi_loopg [32] p.xs.length (fun k iv wr => ∃ j : Nat, iv = .int .i64 j ∧ j ≤ p.xs.length ∧ Hid (k = p.xs.length - j ∧ ∀ a ∈ p.xs.take j, actB a = true) ∧ Below W.heap.size W wr)
    case atStart => exact ⟨0, rfl, by omega, Lib.hid ⟨rfl, by simp⟩, Below.refl _ _⟩
    case round =>
      obtain ⟨j, rfl, hj, Hm, hBr⟩ := hrel
      obtain ⟨hb4, he4, hp4, hK4⟩ := Hfacts.out wr hBr
      have hBw : Below w.heap.size w wr := hB.trans (hBr.mono hB.size)
      by_cases hlt : j < p.xs.length
      · obtain ⟨a, ha⟩ : ∃ a, p.xs[j]? = some a := ⟨p.xs[j], by simp [hlt]⟩
        obtain ⟨b, off, -, -, haa2, hcell⟩ := (Hrow.out.keep (KeepIn.of_below hBr (Nat.le_trans hhi hB.size))).at ha
        replace haa2 : aa = some ⟨b, off, none⟩ := haa2
        subst haa2
        have hrange : wr.rangeAt b (off + j * 19) (actCells a) := hcell
        have Hrange := Lib.hid hrange
        have hBa : Below wr.heap.size wr (wr.alloc (.cells #[.string a.id, .string a.attr.var, .int .i64 a.attr.sym.k, .string a.attr.sym.t, .int .i64 a.attr.sym.n, .int .i64 a.value.op, .string a.value.a.var, .int .i64 a.value.a.sym.k, .string a.value.a.sym.t, .int .i64 a.value.a.sym.n, .string a.value.b.var, .int .i64 a.value.b.sym.k, .string a.value.b.sym.t, .int .i64 a.value.b.sym.n, .int .i64 a.pref, .string a.other.var, .int .i64 a.other.sym.k, .string a.other.sym.t, .int .i64 a.other.sym.n] 59)) := below2 _ _ _
        have hcall := callsIn_wide (n := 2).2 (act_T (wr.alloc (.cells #[.string a.id, .string a.attr.var, .int .i64 a.attr.sym.k, .string a.attr.sym.t, .int .i64 a.attr.sym.n, .int .i64 a.value.op, .string a.value.a.var, .int .i64 a.value.a.sym.k, .string a.value.a.sym.t, .int .i64 a.value.a.sym.n, .string a.value.b.var, .int .i64 a.value.b.sym.k, .string a.value.b.sym.t, .int .i64 a.value.b.sym.n, .int .i64 a.pref, .string a.other.var, .int .i64 a.other.sym.k, .string a.other.sym.t, .int .i64 a.other.sym.n] 59)) a)
        have Ha := Lib.hid ha
        clear hcell ha hrange
        have hnb := heap_alloc_new wr (.cells #[.string a.id, .string a.attr.var, .int .i64 a.attr.sym.k, .string a.attr.sym.t, .int .i64 a.attr.sym.n, .int .i64 a.value.op, .string a.value.a.var, .int .i64 a.value.a.sym.k, .string a.value.a.sym.t, .int .i64 a.value.a.sym.n, .string a.value.b.var, .int .i64 a.value.b.sym.k, .string a.value.b.sym.t, .int .i64 a.value.b.sym.n, .int .i64 a.pref, .string a.other.var, .int .i64 a.other.sym.k, .string a.other.sym.t, .int .i64 a.other.sym.n] 59)
        have Hnb := Lib.hid hnb
        clear hnb
        gi_wp2_with (first
          | refine wpListIn_load_mid rfl 59 _ rfl b (off + j * 19) rfl _ _ Hrange.out Try.underlying59 rfl (by kernel_rfl) ?_
          | refine wpListIn_store_new rfl 59 _ _ rfl rfl wr _ #[.string a.id, .string a.attr.var, .int .i64 a.attr.sym.k, .string a.attr.sym.t, .int .i64 a.attr.sym.n, .int .i64 a.value.op, .string a.value.a.var, .int .i64 a.value.a.sym.k, .string a.value.a.sym.t, .int .i64 a.value.a.sym.n, .string a.value.b.var, .int .i64 a.value.b.sym.k, .string a.value.b.sym.t, .int .i64 a.value.b.sym.n, .int .i64 a.pref, .string a.other.var, .int .i64 a.other.sym.k, .string a.other.sym.t, .int .i64 a.other.sym.n] rfl rfl rfl (by kernel_rfl) rfl (act_one a) ?_
          | refine wpListIn_load_row rfl 59 _ rfl wr.heap.size rfl _ _ _ _ Hnb.out Try.underlying59 rfl (by kernel_rfl) ?_)
        refine ⟨trivial, ?_⟩
        refine hcall.mono ?_
        rintro e w5 ⟨rfl, hB5⟩
        have hBr5 : Below W.heap.size W w5 := hBr.trans ((hBa.trans (hB5.mono hBa.size)).mono hBr.size)
        have hC5 := hB.trans (hBr5.mono hB.size)
        cases hact : actB a
        · have Hact := Lib.hid hact
          as_aux_lemma =>
            obtain ⟨-, -, hp5, -⟩ := Hfacts.out w5 hBr5
            have g1 : w5.cell? ⟨w.heap.size, 1, none⟩ = some (.slice p.conds.a p.conds.n p.conds.c) := by simp [World.cell?, hp5]
            gi_wp2_with fail
            refine ⟨trivial, ?_⟩
            refine (callsIn_wide.2 (Hsz.out w5 hBr5)).mono ?_
            rintro e w6 ⟨rfl, hB6⟩
            have hBr6 := hBr5.trans (hB6.mono hBr5.size)
            have hC6 := hC5.trans (hB6.mono hC5.size)
            obtain ⟨hb6, he6, hp6, hK6⟩ := Hfacts.out w6 hBr6
            have wr1 : IntKind.i64.wrap ((sizeL p.cs : Int) + (j : Int)) = (sizeL p.cs : Int) + j := IntWalk.i64_in _ (by omega)
            obtain ⟨q4, q5, t0, t1⟩ := two_set hb6 he6 (.int .i64 ((sizeL p.cs : Int) + (j : Int))) (.int .i64 9)
            have hbt := below_two hC6 (Nat.le_succ _) (b := w.heap.size + 1) (.int .i64 ((sizeL p.cs : Int) + (j : Int))) (.int .i64 9)
            have hKD := (Below.heap_setCell (w6.setCell ⟨w.heap.size + 1, 0, none⟩ (.int .i64 ((sizeL p.cs : Int) + (j : Int)))) ⟨w.heap.size + 1 + 1, 0, none⟩ (.int .i64 9) D (by show D ≠ w.heap.size + 1 + 1; omega)).trans ((Below.heap_setCell w6 ⟨w.heap.size + 1, 0, none⟩ (.int .i64 ((sizeL p.cs : Int) + (j : Int))) D (by show D ≠ w.heap.size + 1; omega)).trans hK6)
            have Q := Lib.hid (cell_of_one t0)
            have Q' := Lib.hid (cell_of_one t1)
            have Hbt := Lib.hid hbt
            have HKD := Lib.hid hKD
            have q0 := cell_of_one hb6
            have q1 := free_of_one hb6
            clear t0 t1 hbt hKD
            gi_wp2_with fail
            refine ⟨by simp, .inl ⟨_, _, rfl, run_takeDeferred HKD.out, ?_⟩⟩
            have hc4 := cell_kept Q.out (grownBy_putObj' _ D (.deferred none)) (fun r e => by cases e; exact ⟨_, HKD.out, rfl⟩)
            have hc5 := cell_kept Q'.out (grownBy_putObj' _ D (.deferred none)) (fun r e => by cases e; exact ⟨_, HKD.out, rfl⟩)
            refine ⟨.tuple #[.int .i64 ((sizeL p.cs : Int) + (j : Int)), .int .i64 9], ?_, ?_, ?_⟩
            · simp [results, Try.results13, go_sem, hc4, hc5]
            · have h0 := HE.out
              have hidx : badAct p.xs = some j := by
                unfold badAct
                rw [List.findIdx?_eq_some_iff_getElem]
                obtain ⟨h1, h2⟩ := List.getElem?_eq_some_iff.1 Ha.out
                refine ⟨h1, by rw [h2, Hact.out]; rfl, fun i hi => ?_⟩
                have h3 : p.xs[i] ∈ p.xs.take j := List.mem_of_getElem? (i := i) (by rw [List.getElem?_take_of_lt hi]; exact List.getElem?_eq_getElem _)
                rw [Hm.out.2 _ h3]; simp
              rw [shapeP, h0, Hfn.out, hidx]; rfl
            · exact Hbt.out.trans (belowK_b (w := w) (by omega) _ D _ _ (by omega) HKD.out rfl rfl)
        · have Hact := Lib.hid hact
          gi_wp2_with fail
          gi_roundg (p.xs.length - (j + 1))
          case measure => rw [Hm.out.1]; omega
          case rel =>
            refine ⟨j + 1, by go_num, by omega, Lib.hid ⟨rfl, fun y hy => ?_⟩, hBr5⟩
            rw [List.take_add_one, Ha.out] at hy
            rcases List.mem_append.1 hy with hy | hy
            · exact Hm.out.2 y hy
            · obtain rfl : y = a := by simpa using hy
              exact Hact.out
      · obtain rfl : j = p.xs.length := by omega
        as_aux_lemma =>
          obtain ⟨q4, q5, t0, t1⟩ := two_set hb4 he4 (.int .i64 (-1)) (.int .i64 0)
          have hbt := below_two hBw (Nat.le_succ _) (b := w.heap.size + 1) (.int .i64 (-1)) (.int .i64 0)
          have hKD := (Below.heap_setCell (wr.setCell ⟨w.heap.size + 1, 0, none⟩ (.int .i64 (-1))) ⟨w.heap.size + 1 + 1, 0, none⟩ (.int .i64 0) D (by show D ≠ w.heap.size + 1 + 1; omega)).trans ((Below.heap_setCell wr ⟨w.heap.size + 1, 0, none⟩ (.int .i64 (-1)) D (by show D ≠ w.heap.size + 1; omega)).trans hK4)
          have Q := Lib.hid (cell_of_one t0)
          have Q' := Lib.hid (cell_of_one t1)
          have Hbt := Lib.hid hbt
          have HKD := Lib.hid hKD
          have q0 := cell_of_one hb4
          have q1 := free_of_one hb4
          clear t0 t1 hbt hKD
          gi_wp2_with fail
          refine ⟨by simp, .inl ⟨_, _, rfl, run_takeDeferred HKD.out, ?_⟩⟩
          have hc4 := cell_kept Q.out (grownBy_putObj' _ D (.deferred none)) (fun r e => by cases e; exact ⟨_, HKD.out, rfl⟩)
          have hc5 := cell_kept Q'.out (grownBy_putObj' _ D (.deferred none)) (fun r e => by cases e; exact ⟨_, HKD.out, rfl⟩)
          refine ⟨.tuple #[.int .i64 (-1), .int .i64 0], ?_, ?_, ?_⟩
          · simp [results, Try.results13, go_sem, hc4, hc5]
          · have h0 := HE.out
            have hidx : badAct p.xs = none := by
              unfold badAct
              rw [List.findIdx?_eq_none_iff]
              intro x hx
              have h3 := Hm.out.2 x (by rw [List.take_length]; exact hx)
              rw [h3]; rfl
            rw [shapeP, h0, Hfn.out, hidx]; rfl
          · exact Hbt.out.trans (belowK_b (w := w) (by omega) _ D _ _ (by omega) HKD.out rfl rfl)
  case stop =>
    rintro D c pre W hD hpre ⟨⟨rfl, hf⟩, ⟨hb, he⟩, hB⟩ hK
    as_aux_lemma =>
      gi_wp2
      refine ⟨by simp, .inl ⟨_, _, rfl, run_takeDeferred hK, ?_⟩⟩
      have hc4 := cell_kept (cell_of_one hb) (grownBy_putObj' _ D (.deferred none)) (fun r e => by cases e; exact ⟨_, hK, rfl⟩)
      have hc5 := cell_kept (cell_of_one he) (grownBy_putObj' _ D (.deferred none)) (fun r e => by cases e; exact ⟨_, hK, rfl⟩)
      refine ⟨.tuple #[.int .i64 rb.1, .int .i64 rb.2], ?_, ?_, ?_⟩
      · simp [results, Try.results13, go_sem, hc4, hc5]
      · have h0 := HE.out
        rw [shapeP, h0, hf]; rfl
      · exact hB.trans (belowK_b (w := w) (by have := hC2.size; omega) _ D _ _ (by have := hC2.size; omega) hK rfl rfl)

end Go.Proofs.Ytmnpcpgdhaplaaa
