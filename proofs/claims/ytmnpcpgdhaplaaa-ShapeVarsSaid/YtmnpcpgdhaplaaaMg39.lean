/- A production that a law is given lies in memory, its texts are no longer than may be. Conditions: the production can be read.
ShapeVars returns true, whatever it is given, and what it is given reads as it did. Conditions: none. -/
import Derived.Test.YtmnpcpgdhaplaaaMg19
import Derived.Test.YtmnpcpgdhaplaaaMg38
import Derived.Deep.Slices
import Derived.Test.YtmnpcpgdhaplaaaRows
namespace Go.Proofs.Ytmnpcpgdhaplaaa.In
open Go Go.RowKit Go.ChangeShapes Go.WideShapes Go.ChangeAt Go.Deep

section
variable {H : Type} {enc : TypeId × Value → H} {W : World}

/-- A row that can be read lies in memory. -/
theorem open_row {α : Type} [Inhabited α] {t e : TypeId} {k : Nat} (hk : 0 < k) (cells : α → List Value) (Q : α → Prop) (hlen : ∀ y, (cells y).length = k)
    (ht : Try.prog.underlying t = some (.slice e)) (hc : Try.prog.cellsOf e = k) {n : Nat}
    (each : ∀ m cs x, m + 1 = n → cs.length = k → DataW.trod enc Try.prog W 0 (fun _ => true) true m e cs = some x → ∃ y, cs = cells y ∧ Q y)
    {cs : List Value} {x : DataW H × List MemPlace} (h : DataW.trod enc Try.prog W 0 (fun _ => true) true n t cs = some x) :
    ∃ (s : SlH) (xs : List α), cs = [.slice s.a s.n s.c] ∧ RowIn 0 W.heap.size k cells W s xs ∧ s.n ≤ s.c ∧ s.n ≤ maxLen ∧ ∀ y ∈ xs, Q y := by
  rcases DataW.trod_slice ht h with ⟨rfl, -⟩ | ⟨a, len, cap, elems, rest, m, hn, rfl, -, -, hl, hmax, hel, hx, -, -⟩
  · exact ⟨⟨none, 0, 0⟩, [], rfl, ⟨rfl, .inl rfl⟩, Nat.le_refl _, Nat.zero_le _, by simp⟩
  rw [hc] at hx
  have each' : ∀ i, i < len → ∃ y, (∀ j u, (cells y)[j]? = some u → W.cell? (a.add (i * k + j)) = some u) ∧ Q y := fun i hi => by
    have hxi := hx i hi
    rw [List.getElem?_eq_getElem (by omega)] at hxi
    obtain ⟨cs', h1, h2⟩ := Option.bind_eq_some_iff.1 hxi
    obtain ⟨-, hlen', hcell⟩ := World.cells?_some h1
    obtain ⟨y, rfl, hq⟩ := each m _ _ hn.symm hlen' h2
    refine ⟨y, fun j u hu => ?_, hq⟩
    have hj : j < k := by rw [← hlen y]; exact (List.getElem?_eq_some_iff.1 hu).1
    have := hcell j hj
    rw [add_add] at this
    rw [this, hu]
  obtain ⟨q, hq⟩ := choose_lt each'
  have hlen2 : ((List.range len).map q).length = len := by simp
  refine ⟨⟨some a, len, cap⟩, (List.range len).map q, rfl, ⟨by rw [hlen2], ?_⟩, hl, Nat.le_trans hl hmax, ?_⟩
  · by_cases h0 : len = 0
    · exact .inl (by subst h0; simp)
    · have hc0 : (cells (q 0))[0]? = some ((cells (q 0))[0]'(by rw [hlen]; exact hk)) := List.getElem?_eq_getElem _
      have h00 := (hq 0 (by omega)).1 0 _ hc0
      obtain ⟨b, off, spot⟩ := a
      obtain rfl : spot = none := by
        have := World.cell?_spot h00
        simpa [Addr.add] using this
      have hb : b < W.heap.size := by
        rw [add_plain] at h00
        obtain ⟨_, _, _, hh, -⟩ := cell_blockC h00
        exact (Array.getElem?_eq_some_iff.1 hh).1
      refine .inr ⟨b, off, Nat.zero_le _, hb, rfl, fun i x hx j u hu => ?_⟩
      have hi : i < len := by have := (List.getElem?_eq_some_iff.1 hx).1; simpa using this
      have e := (hq i hi).1
      rw [show q i = x by simpa [List.getElem?_map, List.getElem?_range hi] using hx] at e
      have := e j u hu
      rw [add_plain] at this
      rw [← this, Nat.add_assoc]
  · intro y hy
    obtain ⟨i, hi, rfl⟩ := List.mem_map.1 hy
    exact (hq i (by simpa using hi)).2

noncomputable def sf (i : Nat) : Field := (Try.prog.fieldsOf 47)[i]!
theorem sf_under : Try.prog.underlying 47 = some (.struct #[sf 0, sf 1, sf 2]) := by kernel_rfl
theorem sf_offs : ((sf 0).offset, (sf 1).offset, (sf 2).offset) = (0, 1, 2) := by kernel_rfl
theorem sf_cells : (Try.prog.cellsOf (sf 0).type, Try.prog.cellsOf (sf 1).type, Try.prog.cellsOf (sf 2).type) = (1, 1, 1) := by kernel_rfl
theorem sf_t0 : Try.prog.underlying (sf 0).type = some (.int .i64) := by kernel_rfl
theorem sf_t1 : Try.prog.underlying (sf 1).type = some .string := by kernel_rfl
theorem sf_t2 : Try.prog.underlying (sf 2).type = some (.int .i64) := by kernel_rfl

set_option maxRecDepth 100000 in
theorem open_sym {n : Nat} {cs : List Value} {x : DataW H × List MemPlace} (hlen : cs.length = 3) (h2 : DataW.trod enc Try.prog W 0 (fun _ => true) true n 47 cs = some x) :
    ∃ y : SymV, cs = symCells y ∧ y.t.size ≤ maxLen := by
  obtain ⟨xs, k, hk, hxy, _, hxl, hf⟩ := DataW.trod_struct sf_under h2
  have ho := sf_offs
  have hc := sf_cells
  simp only [Prod.mk.injEq] at ho hc
  match xs, hxl, cs, hlen with
  | [y0, y1, y2], _, [v0, v1, v2], _ =>
    have g0 := hf 0 (sf 0) rfl
    have g1 := hf 1 (sf 1) rfl
    have g2 := hf 2 (sf 2) rfl
    simp [ho.1, ho.2.1, ho.2.2, hc.1, hc.2.1, hc.2.2] at g0 g1 g2
    obtain ⟨z0, q0, -⟩ := DataW.trod_int sf_t0 g0
    obtain ⟨z1, q1, -, hs⟩ := DataW.trod_string sf_t1 g1
    obtain ⟨z2, q2, -⟩ := DataW.trod_int sf_t2 g2
    simp only [List.cons.injEq, and_true] at q0 q1 q2
    subst q0 q1 q2
    exact ⟨⟨z0, z1, z2⟩, rfl, hs⟩

noncomputable def tf (i : Nat) : Field := (Try.prog.fieldsOf 67)[i]!
theorem tf_under : Try.prog.underlying 67 = some (.struct #[tf 0, tf 1, tf 2, tf 3]) := by kernel_rfl
theorem tf_offs : ((tf 0).offset, (tf 1).offset, (tf 2).offset, (tf 3).offset) = (0, 1, 2, 5) := by kernel_rfl
theorem tf_cells : (Try.prog.cellsOf (tf 0).type, Try.prog.cellsOf (tf 1).type, Try.prog.cellsOf (tf 2).type, Try.prog.cellsOf (tf 3).type) = (1, 1, 3, 1) := by kernel_rfl
theorem tf_t : ((tf 2).type, (tf 3).type) = (47, 44) := by kernel_rfl
theorem tf_t0 : Try.prog.underlying (tf 0).type = some (.int .i64) := by kernel_rfl
theorem tf_t1 : Try.prog.underlying (tf 1).type = some .string := by kernel_rfl
theorem c_sym : Try.prog.cellsOf 47 = 3 := by kernel_rfl
theorem c_test : Try.prog.cellsOf 67 = 6 := by kernel_rfl
theorem c_cond : Try.prog.cellsOf 64 = 7 := by kernel_rfl
theorem c_act : Try.prog.cellsOf 59 = 19 := by kernel_rfl
theorem c_prod : Try.prog.cellsOf 25 = 3 := by kernel_rfl

set_option maxRecDepth 100000 in
theorem open_test {n : Nat} {cs : List Value} {x : DataW H × List MemPlace} (hlen : cs.length = 6) (h2 : DataW.trod enc Try.prog W 0 (fun _ => true) true n 67 cs = some x) :
    ∃ y : TestV, cs = testCells y ∧ (TestFit y ∧ RowIn 0 W.heap.size 3 symCells W y.lst y.syms ∧ y.lst.n ≤ y.lst.c ∧ y.lst.n ≤ maxLen) := by
  obtain ⟨xs, k, hk, hxy, _, hxl, hf⟩ := DataW.trod_struct tf_under h2
  have ho := tf_offs
  have hc := tf_cells
  have ht := tf_t
  simp only [Prod.mk.injEq] at ho hc ht
  match xs, hxl, cs, hlen with
  | [y0, y1, y2, y3], _, [v0, v1, v2, v3, v4, v5], _ =>
    have g0 := hf 0 (tf 0) rfl
    have g1 := hf 1 (tf 1) rfl
    have g2 := hf 2 (tf 2) rfl
    have g3 := hf 3 (tf 3) rfl
    simp [ho.1, ho.2.1, ho.2.2.1, ho.2.2.2, hc.1, hc.2.1, hc.2.2.1, hc.2.2.2] at g0 g1 g2 g3
    rw [ht.1] at g2
    rw [ht.2] at g3
    obtain ⟨z0, q0, -⟩ := DataW.trod_int tf_t0 g0
    obtain ⟨z1, q1, -, hs⟩ := DataW.trod_string tf_t1 g1
    obtain ⟨z2, q2, hs2⟩ := open_sym rfl g2
    haveI : Inhabited SymV := ⟨⟨0, ⟨#[]⟩, 0⟩⟩
    obtain ⟨s, l, q3, hrow, hle, hmx, hfit⟩ := open_row (by decide) symCells (fun y => y.t.size ≤ maxLen) (fun _ => rfl) Try.underlying44 c_sym (fun m cs x _ => open_sym) g3
    simp only [List.cons.injEq, and_true] at q0 q1 q2 q3
    obtain ⟨rfl, rfl, rfl⟩ := q2
    subst q0 q1 q3
    exact ⟨⟨z0, z1, z2, s, l⟩, rfl, ⟨hs, hs2, hfit⟩, hrow, hle, hmx⟩

theorem open_tests {n : Nat} {cs : List Value} {x : DataW H × List MemPlace} (h : DataW.trod enc Try.prog W 0 (fun _ => true) true n 62 cs = some x) :
    ∃ (s : SlH) (l : List TestV), cs = [.slice s.a s.n s.c] ∧ TestsOk 0 W.heap.size W s l ∧ ∀ t ∈ l, TestFit t := by
  haveI : Inhabited TestV := ⟨⟨0, ⟨#[]⟩, ⟨0, ⟨#[]⟩, 0⟩, ⟨none, 0, 0⟩, []⟩⟩
  obtain ⟨s, l, q, hrow, -, -, hfit⟩ := open_row (by decide) testCells (fun y => TestFit y ∧ RowIn 0 W.heap.size 3 symCells W y.lst y.syms ∧ y.lst.n ≤ y.lst.c ∧ y.lst.n ≤ maxLen) (fun _ => rfl) Try.underlying62 c_test (fun m cs x _ => open_test) h
  exact ⟨s, l, q, ⟨hrow, fun t ht => (hfit t ht).2.1⟩, fun t ht => (hfit t ht).1⟩

noncomputable def cf (i : Nat) : Field := (Try.prog.fieldsOf 64)[i]!
theorem cf_under : Try.prog.underlying 64 = some (.struct #[cf 0, cf 1, cf 2, cf 3, cf 4, cf 5, cf 6]) := by kernel_rfl
theorem cf_offs : ((cf 0).offset, (cf 1).offset, (cf 2).offset, (cf 3).offset, (cf 4).offset, (cf 5).offset, (cf 6).offset) = (0, 1, 2, 3, 4, 5, 6) := by kernel_rfl
theorem cf_cells : (Try.prog.cellsOf (cf 0).type, Try.prog.cellsOf (cf 1).type, Try.prog.cellsOf (cf 2).type, Try.prog.cellsOf (cf 3).type, Try.prog.cellsOf (cf 4).type, Try.prog.cellsOf (cf 5).type, Try.prog.cellsOf (cf 6).type) = (1, 1, 1, 1, 1, 1, 1) := by kernel_rfl
theorem cf_t : ((cf 3).type, (cf 4).type, (cf 6).type) = (62, 62, 22) := by kernel_rfl
theorem cf_t0 : Try.prog.underlying (cf 0).type = some (.int .i64) := by kernel_rfl
theorem cf_t1 : Try.prog.underlying (cf 1).type = some .bool := by kernel_rfl
theorem cf_t2 : Try.prog.underlying (cf 2).type = some .string := by kernel_rfl
theorem cf_t5 : Try.prog.underlying (cf 5).type = some .bool := by kernel_rfl

instance : Inhabited CondV := ⟨.mk ⟨0, false, ⟨#[]⟩, ⟨none, 0, 0⟩, [], ⟨none, 0, 0⟩, [], false, ⟨none, 0, 0⟩⟩ []⟩

set_option maxRecDepth 100000 in
theorem open_cond : ∀ (n : Nat) (cs : List Value) (x : DataW H × List MemPlace), cs.length = 7 → DataW.trod enc Try.prog W 0 (fun _ => true) true n 64 cs = some x →
    ∃ y : CondV, cs = condCells y ∧ (CondOk 0 W.heap.size W y ∧ FitC y) := by
  intro n
  induction n using Nat.strongRecOn with
  | _ n ih =>
  intro cs x hlen h2
  obtain ⟨xs, k, hk, hxy, _, hxl, hf⟩ := DataW.trod_struct cf_under h2
  have ho := cf_offs
  have hc := cf_cells
  have ht := cf_t
  simp only [Prod.mk.injEq] at ho hc ht
  match xs, hxl, cs, hlen with
  | [y0, y1, y2, y3, y4, y5, y6], _, [v0, v1, v2, v3, v4, v5, v6], _ =>
    have g0 := hf 0 (cf 0) rfl
    have g1 := hf 1 (cf 1) rfl
    have g2 := hf 2 (cf 2) rfl
    have g3 := hf 3 (cf 3) rfl
    have g4 := hf 4 (cf 4) rfl
    have g5 := hf 5 (cf 5) rfl
    have g6 := hf 6 (cf 6) rfl
    simp [ho.1, ho.2.1, ho.2.2.1, ho.2.2.2.1, ho.2.2.2.2.1, ho.2.2.2.2.2.1, ho.2.2.2.2.2.2, hc.1, hc.2.1, hc.2.2.1, hc.2.2.2.1, hc.2.2.2.2.1, hc.2.2.2.2.2.1, hc.2.2.2.2.2.2] at g0 g1 g2 g3 g4 g5 g6
    rw [ht.1] at g3
    rw [ht.2.1] at g4
    rw [ht.2.2] at g6
    obtain ⟨z0, q0, -⟩ := DataW.trod_int cf_t0 g0
    obtain ⟨z1, q1, -⟩ := DataW.trod_bool cf_t1 g1
    obtain ⟨z2, q2, -, hs⟩ := DataW.trod_string cf_t2 g2
    obtain ⟨s3, l3, q3, ok3, fit3⟩ := open_tests g3
    obtain ⟨s4, l4, q4, ok4, fit4⟩ := open_tests g4
    obtain ⟨z5, q5, -⟩ := DataW.trod_bool cf_t5 g5
    obtain ⟨s6, l6, q6, hrow, -, -, hfit⟩ := open_row (by decide) condCells (fun y => CondOk 0 W.heap.size W y ∧ FitC y) (fun _ => rfl) Try.underlying22 c_cond (fun m cs x hm hl => ih m (by omega) cs x hl) g6
    simp only [List.cons.injEq, and_true] at q0 q1 q2 q3 q4 q5 q6
    subst q0 q1 q2 q3 q4 q5 q6
    exact ⟨.mk ⟨z0, z1, z2, s3, l3, s4, l4, z5, s6⟩ l6, rfl, condOk_iff.2 ⟨ok3, ok4, hrow, condOkL_iff.2 fun c hc => (hfit c hc).1⟩, fitC_eq.2 ⟨⟨hs, fit3, fit4⟩, fitL_iff.2 fun c hc => (hfit c hc).2⟩⟩

theorem open_conds {n : Nat} {cs : List Value} {x : DataW H × List MemPlace} (h : DataW.trod enc Try.prog W 0 (fun _ => true) true n 22 cs = some x) :
    ∃ (s : SlH) (l : List CondV), cs = [.slice s.a s.n s.c] ∧ CondsOk 0 W.heap.size W s l ∧ FitL l ∧ s.n ≤ maxLen ∧ s.n ≤ s.c := by
  obtain ⟨s, l, q, hrow, hcap, hmx, hfit⟩ := open_row (by decide) condCells (fun y => CondOk 0 W.heap.size W y ∧ FitC y) (fun _ => rfl) Try.underlying22 c_cond (fun m cs x _ hl => open_cond m cs x hl) h
  exact ⟨s, l, q, ⟨hrow, condOkL_iff.2 fun c hc => (hfit c hc).1⟩, fitL_iff.2 fun c hc => (hfit c hc).2, hmx, hcap⟩

noncomputable def af (i : Nat) : Field := (Try.prog.fieldsOf 55)[i]!
theorem af_under : Try.prog.underlying 55 = some (.struct #[af 0, af 1]) := by kernel_rfl
theorem af_offs : ((af 0).offset, (af 1).offset) = (0, 1) := by kernel_rfl
theorem af_cells : (Try.prog.cellsOf (af 0).type, Try.prog.cellsOf (af 1).type) = (1, 3) := by kernel_rfl
theorem af_t : (af 1).type = 47 := by kernel_rfl
theorem af_t0 : Try.prog.underlying (af 0).type = some .string := by kernel_rfl

set_option maxRecDepth 100000 in
theorem open_atom {n : Nat} {cs : List Value} {x : DataW H × List MemPlace} (hlen : cs.length = 4) (h2 : DataW.trod enc Try.prog W 0 (fun _ => true) true n 55 cs = some x) :
    ∃ y : AtomV, cs = .string y.var :: symCells y.sym ∧ AtomFit y := by
  obtain ⟨xs, k, hk, hxy, _, hxl, hf⟩ := DataW.trod_struct af_under h2
  have ho := af_offs
  have hc := af_cells
  simp only [Prod.mk.injEq] at ho hc
  match xs, hxl, cs, hlen with
  | [y0, y1], _, [v0, v1, v2, v3], _ =>
    have g0 := hf 0 (af 0) rfl
    have g1 := hf 1 (af 1) rfl
    simp [ho.1, ho.2, hc.1, hc.2] at g0 g1
    rw [af_t] at g1
    obtain ⟨z0, q0, -, hs⟩ := DataW.trod_string af_t0 g0
    obtain ⟨z1, q1, hs2⟩ := open_sym rfl g1
    simp only [List.cons.injEq, and_true] at q0 q1
    obtain ⟨rfl, rfl, rfl⟩ := q1
    subst q0
    exact ⟨⟨z0, z1⟩, rfl, hs, hs2⟩

noncomputable def ef (i : Nat) : Field := (Try.prog.fieldsOf 57)[i]!
theorem ef_under : Try.prog.underlying 57 = some (.struct #[ef 0, ef 1, ef 2]) := by kernel_rfl
theorem ef_offs : ((ef 0).offset, (ef 1).offset, (ef 2).offset) = (0, 1, 5) := by kernel_rfl
theorem ef_cells : (Try.prog.cellsOf (ef 0).type, Try.prog.cellsOf (ef 1).type, Try.prog.cellsOf (ef 2).type) = (1, 4, 4) := by kernel_rfl
theorem ef_t : ((ef 1).type, (ef 2).type) = (55, 55) := by kernel_rfl
theorem ef_t0 : Try.prog.underlying (ef 0).type = some (.int .i64) := by kernel_rfl

set_option maxRecDepth 100000 in
theorem open_term {n : Nat} {cs : List Value} {x : DataW H × List MemPlace} (hlen : cs.length = 9) (h2 : DataW.trod enc Try.prog W 0 (fun _ => true) true n 57 cs = some x) :
    ∃ y : TermV, cs = .int .i64 y.op :: .string y.a.var :: (symCells y.a.sym ++ .string y.b.var :: symCells y.b.sym) ∧ AtomFit y.a ∧ AtomFit y.b := by
  obtain ⟨xs, k, hk, hxy, _, hxl, hf⟩ := DataW.trod_struct ef_under h2
  have ho := ef_offs
  have hc := ef_cells
  have ht := ef_t
  simp only [Prod.mk.injEq] at ho hc ht
  match xs, hxl, cs, hlen with
  | [y0, y1, y2], _, [v0, v1, v2, v3, v4, v5, v6, v7, v8], _ =>
    have g0 := hf 0 (ef 0) rfl
    have g1 := hf 1 (ef 1) rfl
    have g2 := hf 2 (ef 2) rfl
    simp [ho.1, ho.2.1, ho.2.2, hc.1, hc.2.1, hc.2.2] at g0 g1 g2
    rw [ht.1] at g1
    rw [ht.2] at g2
    obtain ⟨z0, q0, -⟩ := DataW.trod_int ef_t0 g0
    obtain ⟨z1, q1, f1⟩ := open_atom rfl g1
    obtain ⟨z2, q2, f2⟩ := open_atom rfl g2
    simp only [List.cons.injEq, and_true] at q0 q1 q2
    obtain ⟨rfl, rfl, rfl, rfl⟩ := q1
    obtain ⟨rfl, rfl, rfl, rfl⟩ := q2
    subst q0
    exact ⟨⟨z0, z1, z2⟩, rfl, f1, f2⟩

noncomputable def xf (i : Nat) : Field := (Try.prog.fieldsOf 59)[i]!
theorem xf_under : Try.prog.underlying 59 = some (.struct #[xf 0, xf 1, xf 2, xf 3, xf 4]) := by kernel_rfl
theorem xf_offs : ((xf 0).offset, (xf 1).offset, (xf 2).offset, (xf 3).offset, (xf 4).offset) = (0, 1, 5, 14, 15) := by kernel_rfl
theorem xf_cells : (Try.prog.cellsOf (xf 0).type, Try.prog.cellsOf (xf 1).type, Try.prog.cellsOf (xf 2).type, Try.prog.cellsOf (xf 3).type, Try.prog.cellsOf (xf 4).type) = (1, 4, 9, 1, 4) := by kernel_rfl
theorem xf_t : ((xf 1).type, (xf 2).type, (xf 4).type) = (55, 57, 55) := by kernel_rfl
theorem xf_t0 : Try.prog.underlying (xf 0).type = some .string := by kernel_rfl
theorem xf_t3 : Try.prog.underlying (xf 3).type = some (.int .i64) := by kernel_rfl

set_option maxRecDepth 100000 in
theorem open_act {n : Nat} {cs : List Value} {x : DataW H × List MemPlace} (hlen : cs.length = 19) (h2 : DataW.trod enc Try.prog W 0 (fun _ => true) true n 59 cs = some x) :
    ∃ y : ActV, cs = actCells y ∧ ActFit y := by
  obtain ⟨xs, k, hk, hxy, _, hxl, hf⟩ := DataW.trod_struct xf_under h2
  have ho := xf_offs
  have hc := xf_cells
  have ht := xf_t
  simp only [Prod.mk.injEq] at ho hc ht
  match xs, hxl, cs, hlen with
  | [y0, y1, y2, y3, y4], _, [v0, v1, v2, v3, v4, v5, v6, v7, v8, v9, v10, v11, v12, v13, v14, v15, v16, v17, v18], _ =>
    have g0 := hf 0 (xf 0) rfl
    have g1 := hf 1 (xf 1) rfl
    have g2 := hf 2 (xf 2) rfl
    have g3 := hf 3 (xf 3) rfl
    have g4 := hf 4 (xf 4) rfl
    simp [ho.1, ho.2.1, ho.2.2.1, ho.2.2.2.1, ho.2.2.2.2, hc.1, hc.2.1, hc.2.2.1, hc.2.2.2.1, hc.2.2.2.2] at g0 g1 g2 g3 g4
    rw [ht.1] at g1
    rw [ht.2.1] at g2
    rw [ht.2.2] at g4
    obtain ⟨z0, q0, -, hs⟩ := DataW.trod_string xf_t0 g0
    obtain ⟨z1, q1, f1⟩ := open_atom rfl g1
    obtain ⟨z2, q2, f2, f3⟩ := open_term rfl g2
    obtain ⟨z3, q3, -⟩ := DataW.trod_int xf_t3 g3
    obtain ⟨z4, q4, f4⟩ := open_atom rfl g4
    simp only [List.cons.injEq, and_true, List.cons_append, List.nil_append] at q0 q1 q2 q3 q4
    obtain ⟨rfl, rfl, rfl, rfl⟩ := q1
    obtain ⟨rfl, rfl, rfl, rfl, rfl, rfl, rfl, rfl, rfl⟩ := q2
    obtain ⟨rfl, rfl, rfl, rfl⟩ := q4
    subst q0 q3
    exact ⟨⟨z0, z1, z2, z3, z4⟩, rfl, hs, f1, f2, f3, f4⟩

noncomputable def pf (i : Nat) : Field := (Try.prog.fieldsOf 25)[i]!
theorem pf_under : Try.prog.underlying 25 = some (.struct #[pf 0, pf 1, pf 2]) := by kernel_rfl
theorem pf_offs : ((pf 0).offset, (pf 1).offset, (pf 2).offset) = (0, 1, 2) := by kernel_rfl
theorem pf_cells : (Try.prog.cellsOf (pf 0).type, Try.prog.cellsOf (pf 1).type, Try.prog.cellsOf (pf 2).type) = (1, 1, 1) := by kernel_rfl
theorem pf_t : ((pf 1).type, (pf 2).type) = (22, 23) := by kernel_rfl
theorem pf_t0 : Try.prog.underlying (pf 0).type = some .string := by kernel_rfl

set_option maxRecDepth 100000 in
theorem open_prod {v : Value} {d : DataW H} {ps : List MemPlace} (hval : Value.okWide Try.prog W .any 0 25 v) (h : DataW.Trod enc Try.prog W 0 (fun _ => true) true 25 v d ps) :
    ∃ p : ProdV, v = .agg #[.string p.name, .slice p.conds.a p.conds.n p.conds.c, .slice p.acts.a p.acts.n p.acts.c] ∧ ProdOk 0 W.heap.size W p ∧ ProdFit p ∧ p.conds.n ≤ maxLen ∧ p.acts.n ≤ maxLen ∧ p.conds.n ≤ p.conds.c := by
  obtain ⟨cs, rfl, hsz⟩ := okWide_struct pf_under hval
  rw [c_prod] at hsz
  obtain ⟨fuel, h2⟩ := h
  obtain ⟨xs, k, hk, hxy, _, hxl, hf⟩ := DataW.trod_struct pf_under h2
  have ho := pf_offs
  have hc := pf_cells
  have ht := pf_t
  simp only [Prod.mk.injEq] at ho hc ht
  obtain ⟨cs⟩ := cs
  match xs, hxl, cs, hsz with
  | [y0, y1, y2], _, [v0, v1, v2], _ =>
    have g0 := hf 0 (pf 0) rfl
    have g1 := hf 1 (pf 1) rfl
    have g2 := hf 2 (pf 2) rfl
    simp [Value.cells, ho.1, ho.2.1, ho.2.2, hc.1, hc.2.1, hc.2.2] at g0 g1 g2
    rw [ht.1] at g1
    rw [ht.2] at g2
    obtain ⟨z0, q0, -, hs⟩ := DataW.trod_string pf_t0 g0
    obtain ⟨s1, l1, q1, ok1, f1, m1, m1c⟩ := open_conds g1
    haveI : Inhabited ActV := ⟨⟨⟨#[]⟩, ⟨⟨#[]⟩, ⟨0, ⟨#[]⟩, 0⟩⟩, ⟨0, ⟨⟨#[]⟩, ⟨0, ⟨#[]⟩, 0⟩⟩, ⟨⟨#[]⟩, ⟨0, ⟨#[]⟩, 0⟩⟩⟩, 0, ⟨⟨#[]⟩, ⟨0, ⟨#[]⟩, 0⟩⟩⟩⟩
    obtain ⟨s2, l2, q2, hrow, -, m2, hfit⟩ := open_row (by decide) actCells ActFit (fun _ => rfl) Try.underlying23 c_act (fun m cs x _ => open_act) g2
    simp only [List.cons.injEq, and_true] at q0 q1 q2
    subst q0 q1 q2
    exact ⟨⟨z0, s1, l1, s2, l2⟩, rfl, ⟨ok1, hrow⟩, ⟨hs, f1, hfit⟩, m1, m2, m1c⟩
end

end Go.Proofs.Ytmnpcpgdhaplaaa.In

namespace Go.Proofs.Ytmnpcpgdhaplaaa
open Go Go.RowKit Go.ChangeShapes Go.WideShapes Go.ChangeAt

set_option maxRecDepth 100000 in
theorem varslaw_lifted (os : Os) (started : os.Started) (H : Type) (enc : TypeId × Value → H) :
    ReturnsInHanded {} Try.checked os 5 .any (Rows.shapeVarsSpec.pre6 enc Try.prog Try.f5 Rows.shapeVarsRow.domain false)
      (Rows.shapeVarsSpec.post enc Try.prog Try.f5 false true false false) := by
  refine returnsInHanded_of_change (C := Try.checked) own started (by kernel_rfl) Try.func5
    (ChangeSpec.witness6 (enc := enc) (C := Try.checked) false ⟨#[], #[.agg #[.string ⟨#[]⟩, .slice none 0 0, .slice none 0 0]], []⟩ 8 (by kernel_rfl) (by kernel_rfl) (by kernel_rfl) (by kernel_rfl)) ?_
  intro W base args ds gs before hval0 hW _ _
  have hval : ∀ (j : Nat) t v, Try.f5.params[j]? = some t → args[j]? = some v → Value.okWide Try.prog W .any base t v := hval0
  have hW' := hW
  obtain ⟨p, q, hA0, hV, -, -, -⟩ := hW
  have hA : DataW.TrodAll enc Try.prog W 0 (fun _ => true) true Try.f5.params.toList args.toList ds p := hA0
  rw [Try.params5] at hA hval
  obtain ⟨v0, vs, d0, ds0, p0, q0, hargs, rfl, rfl, h0, hr⟩ := trodAll_cons hA
  obtain ⟨rfl, rfl, rfl⟩ := trodAll_nil hr
  obtain rfl : args = #[v0] := by cases args; simp_all
  obtain ⟨rfl, rfl⟩ := trodVars_none hV
  obtain ⟨p0, rfl, ok0, fit0, -, -, cap0⟩ := In.open_prod (hval 0 25 v0 rfl rfl) h0
  refine (varslaw_T W p0 ok0 fit0 cap0).mono fun e W' ⟨he, hB⟩ => ?_
  subst he
  exact ⟨_, rfl, law_post laidOut (by rw [Try.params5]; decide +kernel) (by kernel_rfl) Try.underlying4 rfl hW' rfl hB⟩

set_option maxRecDepth 100000 in
theorem varslaw_holds : Rows.ShapeVarsSaid :=
  OpenClaim.holds_of_wide 5 Try.f5 rfl rfl rfl rfl rfl rfl rfl ⟨rfl, rfl, rfl, rfl, rfl⟩ rfl rfl rfl rfl rfl (by kernel_rfl) Try.func5 (by kernel_rfl)
    (of_decide_eq_true (by kernel_rfl)) (by unfold Func.isWrapper; first | (rw [if_pos (by decide +kernel)]; kernel_rfl) | (rw [if_neg (by decide +kernel)]; exact ⟨rfl, rfl⟩))
    (fun os started H enc _ => varslaw_lifted os started H enc)

end Go.Proofs.Ytmnpcpgdhaplaaa
