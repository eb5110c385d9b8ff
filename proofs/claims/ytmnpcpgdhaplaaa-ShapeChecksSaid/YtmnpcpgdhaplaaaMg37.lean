/- What the statements' own Conds, Acts, Prod answer: whether two are the same, wherever they lie. Conditions: they lie in memory.
What the statements' own Conds answers: whether two rows of conditions are the same, wherever they lie. Conditions: they lie in memory. -/
import Derived.Test.YtmnpcpgdhaplaaaKeepSame2
import Derived.Deep.MidRow
namespace Go.Proofs.Ytmnpcpgdhaplaaa
open Go Go.RowKit

theorem atom_equalD (d : Nat) (x y : AtomV) (w : World) : (Op.equalIn (d + 3) 55 (.agg #[.string x.var, .int .i64 x.sym.k, .string x.sym.t, .int .i64 x.sym.n]) (.agg #[.string y.var, .int .i64 y.sym.k, .string y.sym.t, .int .i64 y.sym.n])).run Try.prog w = .ok (sameA x y) w := by
  have hs := fun (x y : SymV) w => sym_equalD d x y w
  rw [run_equalIn_struct _ (d + 2) _ _ _ atom_under atom_held]
  simp only [Program.fieldsOf, Try.underlying55]
  cases h1 : (x.var.toList == y.var.toList)
  · simp [go_sem, Op.eqFields, hs, h1, sameA]
  cases h2 : same x.sym y.sym
  · simp [go_sem, Op.eqFields, hs, h1, h2, sameA]
  · simp [go_sem, Op.eqFields, hs, h1, h2, sameA]

theorem sameA_iff {x y : AtomV} : sameA x y = true ↔ x = y := by
  unfold sameA
  rw [Bool.and_eq_true, same_iff]
  obtain ⟨v, s⟩ := x
  obtain ⟨v', s'⟩ := y
  simp only [beq_iff_eq, AtomV.mk.injEq]
  exact ⟨fun h => ⟨toList_inj h.1, h.2⟩, fun h => ⟨by rw [h.1], h.2⟩⟩

theorem term_under : Try.prog.underlying 57 = some (.struct (Try.prog.fieldsOf 57)) := by kernel_rfl
theorem term_held : Try.prog.stoodInHeld 57 = false := by kernel_rfl
def sameTm (x y : TermV) : Bool := x.op == y.op && (sameA x.a y.a && sameA x.b y.b)
theorem sameTm_iff {x y : TermV} : sameTm x y = true ↔ x = y := by
  unfold sameTm
  rw [Bool.and_eq_true, Bool.and_eq_true, sameA_iff, sameA_iff]
  obtain ⟨o, a, b⟩ := x
  obtain ⟨o', a', b'⟩ := y
  simp

set_option maxHeartbeats 1600000 in
theorem term_equalD (d : Nat) (x y : TermV) (w : World) : (Op.equalIn (d + 4) 57 (.agg #[.int .i64 x.op, .string x.a.var, .int .i64 x.a.sym.k, .string x.a.sym.t, .int .i64 x.a.sym.n, .string x.b.var, .int .i64 x.b.sym.k, .string x.b.sym.t, .int .i64 x.b.sym.n]) (.agg #[.int .i64 y.op, .string y.a.var, .int .i64 y.a.sym.k, .string y.a.sym.t, .int .i64 y.a.sym.n, .string y.b.var, .int .i64 y.b.sym.k, .string y.b.sym.t, .int .i64 y.b.sym.n])).run Try.prog w = .ok (sameTm x y) w := by
  have hs := fun (x y : AtomV) w => atom_equalD d x y w
  rw [run_equalIn_struct _ (d + 3) _ _ _ term_under term_held]
  simp only [Program.fieldsOf, Try.underlying57]
  cases h1 : (x.op == y.op)
  · simp [go_sem, Op.eqFields, hs, h1, sameTm]
  cases h2 : sameA x.a y.a
  · simp [go_sem, Op.eqFields, hs, h1, h2, sameTm]
  cases h3 : sameA x.b y.b
  · simp [go_sem, Op.eqFields, hs, h1, h2, h3, sameTm]
  · simp [go_sem, Op.eqFields, hs, h1, h2, h3, sameTm]

theorem act_under : Try.prog.underlying 59 = some (.struct (Try.prog.fieldsOf 59)) := by kernel_rfl
theorem act_held : Try.prog.stoodInHeld 59 = false := by kernel_rfl
theorem act_guard : Try.prog.eqGuardType Try.prog.depth 59 = false := by kernel_rfl
def sameAct (x y : ActV) : Bool := x.id.toList == y.id.toList && (sameA x.attr y.attr && (sameTm x.value y.value && (x.pref == y.pref && sameA x.other y.other)))
theorem sameAct_iff {x y : ActV} : sameAct x y = true ↔ x = y := by
  unfold sameAct
  rw [Bool.and_eq_true, Bool.and_eq_true, Bool.and_eq_true, Bool.and_eq_true, sameA_iff, sameA_iff, sameTm_iff]
  obtain ⟨i, a, v, p, o⟩ := x
  obtain ⟨i', a', v', p', o'⟩ := y
  simp only [beq_iff_eq, ActV.mk.injEq]
  exact ⟨fun h => ⟨toList_inj h.1, h.2⟩, fun h => ⟨by rw [h.1], h.2⟩⟩

set_option maxHeartbeats 3200000 in
theorem act_equal (x y : ActV) (w : World) : (Op.equalIn 10000 59 (.agg #[.string x.id, .string x.attr.var, .int .i64 x.attr.sym.k, .string x.attr.sym.t, .int .i64 x.attr.sym.n, .int .i64 x.value.op, .string x.value.a.var, .int .i64 x.value.a.sym.k, .string x.value.a.sym.t, .int .i64 x.value.a.sym.n, .string x.value.b.var, .int .i64 x.value.b.sym.k, .string x.value.b.sym.t, .int .i64 x.value.b.sym.n, .int .i64 x.pref, .string x.other.var, .int .i64 x.other.sym.k, .string x.other.sym.t, .int .i64 x.other.sym.n]) (.agg #[.string y.id, .string y.attr.var, .int .i64 y.attr.sym.k, .string y.attr.sym.t, .int .i64 y.attr.sym.n, .int .i64 y.value.op, .string y.value.a.var, .int .i64 y.value.a.sym.k, .string y.value.a.sym.t, .int .i64 y.value.a.sym.n, .string y.value.b.var, .int .i64 y.value.b.sym.k, .string y.value.b.sym.t, .int .i64 y.value.b.sym.n, .int .i64 y.pref, .string y.other.var, .int .i64 y.other.sym.k, .string y.other.sym.t, .int .i64 y.other.sym.n])).run Try.prog w = .ok (sameAct x y) w := by
  have hs := fun (x y : AtomV) w => atom_equalD 9996 x y w
  have ht := fun (x y : TermV) w => term_equalD 9995 x y w
  rw [run_equalIn_struct _ 9999 _ _ _ act_under act_held]
  simp only [Program.fieldsOf, Try.underlying59]
  cases h1 : (x.id.toList == y.id.toList)
  · simp [go_sem, Op.eqFields, hs, ht, h1, sameAct]
  cases h2 : sameA x.attr y.attr
  · simp [go_sem, Op.eqFields, hs, ht, h1, h2, sameAct]
  cases h3 : sameTm x.value y.value
  · simp [go_sem, Op.eqFields, hs, ht, h1, h2, h3, sameAct]
  cases h4 : (x.pref == y.pref)
  · simp [go_sem, Op.eqFields, hs, ht, h1, h2, h3, h4, sameAct]
  cases h5 : sameA x.other y.other
  · simp [go_sem, Op.eqFields, hs, ht, h1, h2, h3, h4, h5, sameAct]
  · simp [go_sem, Op.eqFields, hs, ht, h1, h2, h3, h4, h5, sameAct]

/-- A load of an action, by its own name. -/
def actLoad (v : Value) : Sem Value := Instr.loadAt 59 v
theorem fold_load (v : Value) : Instr.loadAt 59 v = actLoad v := rfl
attribute [local go_sem ↓] fold_load

set_option pp.deepTerms true
set_option pp.maxSteps 1000000
set_option maxRecDepth 100000 in
set_option maxHeartbeats 3200000 in
theorem keepacts_T (w : World) (lo hi lo' hi' : Nat) (s s' : SlH) (a b : List ActV) (h : RowIn lo hi 19 actCells w s a) (h' : RowIn lo' hi' 19 actCells w s' b) (hl : a.length ≤ 100000) :
    Calls Try.prog 51 #[.slice s.a s.n s.c, .slice s'.a s'.n s'.c] w fun e w' => e = .returned (.bool (decB (a = b))) ∧ ∃ n, w' = w.drewN n := by
  obtain ⟨p, m, c⟩ := s
  obtain ⟨p', m', c'⟩ := s'
  obtain rfl : m = a.length := h.1
  obtain rfl : m' = b.length := h'.1
  have Ha := Lib.hid h
  have Hb := Lib.hid h'
  have hse := act_equal
  have hsg := act_guard
  clear h h'
  by_cases hlen : a.length = b.length
  case neg =>
    have g0 : ((a.length : Int) == (b.length : Int)) = false := by simp; omega
    have g1 : ((a.length : Int) = (b.length : Int)) = False := eq_false (by omega)
    have Hne : Hid (a ≠ b) := Lib.hid fun e => hlen (by rw [e])
    clear hlen
    go_enter Try.func51, Try.ntmps51
    go_wp2_with fail
    go_ret
    exact ⟨by rw [decB_f Hne.out]; rfl, 0, rfl⟩
  have g0 : ((a.length : Int) == (b.length : Int)) = true := by simp [hlen]
  have Hlen := Lib.hid hlen
  clear hlen
  go_enter Try.func51, Try.ntmps51
  go_wp2_with fail
  go_loopg [5] a.length (fun k iv wr => ∃ j : Nat, iv = .int .i64 j ∧ j ≤ a.length ∧ Hid (k = a.length - j ∧ a.take j = b.take j) ∧ ∃ n, wr = w.drewN n)
  case atStart => exact ⟨0, rfl, by omega, Lib.hid ⟨rfl, rfl⟩, 0, rfl⟩
  case round =>
    obtain ⟨j, rfl, hj, Hm, n, hwr⟩ := hrel
    have Hwr := Lib.hid hwr
    by_cases hlt : j < a.length
    · have hltb : j < b.length := by have := Hlen.out; omega
      obtain ⟨x, hx⟩ : ∃ x, a[j]? = some x := ⟨a[j], by simp [hlt]⟩
      obtain ⟨y, hy⟩ : ∃ x, b[j]? = some x := ⟨b[j], by simp [hltb]⟩
      obtain ⟨b1, o1, -, -, hs1, hc1⟩ := (hwr ▸ Ha.out.drewN n : RowIn lo hi 19 actCells wr _ _).at hx
      obtain ⟨b2, o2, -, -, hs2, hc2⟩ := (hwr ▸ Hb.out.drewN n : RowIn lo' hi' 19 actCells wr _ _).at hy
      replace hs1 : p = some ⟨b1, o1, none⟩ := hs1
      replace hs2 : p' = some ⟨b2, o2, none⟩ := hs2
      subst hs1 hs2
      have hL1 : ∀ m, (actLoad (.pointer (some ⟨b1, o1 + j * 19, none⟩))).run Try.prog (wr.drewN m) = .ok (.agg #[.string x.id, .string x.attr.var, .int .i64 x.attr.sym.k, .string x.attr.sym.t, .int .i64 x.attr.sym.n, .int .i64 x.value.op, .string x.value.a.var, .int .i64 x.value.a.sym.k, .string x.value.a.sym.t, .int .i64 x.value.a.sym.n, .string x.value.b.var, .int .i64 x.value.b.sym.k, .string x.value.b.sym.t, .int .i64 x.value.b.sym.n, .int .i64 x.pref, .string x.other.var, .int .i64 x.other.sym.k, .string x.other.sym.t, .int .i64 x.other.sym.n]) (wr.drewN m) := fun m => run_loadAt_mid (wr.drewN m) b1 (o1 + j * 19) 59 (actCells x) _ (fun q v hv => hc1 q v hv) Try.underlying59 rfl (by kernel_rfl)
      have hL2 : ∀ m, (actLoad (.pointer (some ⟨b2, o2 + j * 19, none⟩))).run Try.prog (wr.drewN m) = .ok (.agg #[.string y.id, .string y.attr.var, .int .i64 y.attr.sym.k, .string y.attr.sym.t, .int .i64 y.attr.sym.n, .int .i64 y.value.op, .string y.value.a.var, .int .i64 y.value.a.sym.k, .string y.value.a.sym.t, .int .i64 y.value.a.sym.n, .string y.value.b.var, .int .i64 y.value.b.sym.k, .string y.value.b.sym.t, .int .i64 y.value.b.sym.n, .int .i64 y.pref, .string y.other.var, .int .i64 y.other.sym.k, .string y.other.sym.t, .int .i64 y.other.sym.n]) (wr.drewN m) := fun m => run_loadAt_mid (wr.drewN m) b2 (o2 + j * 19) 59 (actCells y) _ (fun q v hv => hc2 q v hv) Try.underlying59 rfl (by kernel_rfl)
      have Hx := Lib.hid hx
      have Hy := Lib.hid hy
      clear hc1 hc2 hx hy hwr
      cases hs : sameAct x y
      · have Hne : Hid (x ≠ y) := Lib.hid fun e => by rw [sameAct_iff.2 e] at hs; cases hs
        go_wp2_with fail
        go_quiet (fail)
        go_wp2_with fail
        go_ret
        exact ⟨by rw [decB_f (ne_at Hx.out Hy.out Hne.out)]; rfl, _, by rw [Hwr.out, World.drewN_drewN]⟩
      · have Heq : Hid (x = y) := Lib.hid (sameAct_iff.1 hs)
        go_wp2_with fail
        go_quiet (fail)
        go_wp2_with fail
        go_roundg (a.length - (j + 1))
        case measure => rw [Hm.out.1]; omega
        case rel => exact ⟨j + 1, by go_num, by omega, Lib.hid ⟨rfl, take_step Hm.out.2 Hx.out Hy.out Heq.out⟩, _, by rw [Hwr.out, World.drewN_drewN]⟩
    · obtain rfl : j = a.length := by omega
      have Heq : Hid (a = b) := Lib.hid (by
        have := Hm.out.2
        rw [List.take_length, Hlen.out, List.take_length] at this
        exact this)
      clear hwr
      go_wp2_with fail
      go_ret
      exact ⟨by rw [decB_t Heq.out]; rfl, n, Hwr.out⟩

end Go.Proofs.Ytmnpcpgdhaplaaa

namespace Go.Proofs.Ytmnpcpgdhaplaaa
open Go Go.RowKit

mutual
def SmallC : CondV → Prop
  | .mk h l => CondSmall (.mk h l) ∧ SmallL l
def SmallL : List CondV → Prop
  | [] => True
  | c :: cs => SmallC c ∧ SmallL cs
end
theorem smallC_eq {c : CondV} : SmallC c ↔ CondSmall c ∧ SmallL c.inner := by cases c; rfl
theorem smallL_iff {cs : List CondV} : SmallL cs ↔ ∀ c ∈ cs, SmallC c := by
  induction cs with
  | nil => simp [SmallL]
  | cons c cs ih => simp [SmallL, ih]
theorem light_small (k : Nat) : ∀ cs, sizeL cs ≤ k → LightL cs → SmallL cs := by
  induction k with
  | zero =>
    intro cs h _
    have := sizeL_le cs
    obtain rfl : cs = [] := List.length_eq_zero_iff.1 (by omega)
    trivial
  | succ k ih =>
    intro cs h hl
    rw [smallL_iff]
    intro c hc
    have := sizeL_mem hc
    obtain ⟨h1, h2⟩ := lightC_eq.1 (lightL_iff.1 hl c hc)
    exact smallC_eq.2 ⟨h1.small, ih _ (by omega) h2⟩

theorem cell_on {W W' : World} (hB : Below W.heap.size W W') {b o : Nat} {v : Value} (h : W.cell? ⟨b, o, none⟩ = some v) : W'.cell? ⟨b, o, none⟩ = some v := by
  obtain ⟨c, T, f, k1, -⟩ := cell_blockC h
  rw [World.cell?_of_block (hB.block b (lt_of_block k1))]
  exact h

set_option pp.deepTerms true
set_option pp.maxSteps 1000000
set_option maxRecDepth 100000 in
set_option maxHeartbeats 3200000 in
theorem keepconds_T : ∀ (k : Nat) (a : List CondV), sizeL a ≤ k → ∀ (w : World) (lo hi lo' hi' : Nat) (s s' : SlH) (b : List CondV), CondsOk lo hi w s a → hi ≤ w.heap.size → CondsOk lo' hi' w s' b → hi' ≤ w.heap.size → sizeL a ≤ 100000 → SmallL a →
    Calls Try.prog 25 #[.slice s.a s.n s.c, .slice s'.a s'.n s'.c] w fun e w' => e = .returned (.bool (decB (bareL a = bareL b))) ∧ Below w.heap.size w w' := by
  intro k
  induction k using Nat.strongRecOn with
  | _ k ih =>
  intro a hk w lo hi lo' hi' s s' b h hhi h' hhi' hsz hsm
  obtain ⟨p, m, c⟩ := s
  obtain ⟨p', m', c'⟩ := s'
  obtain rfl : m = a.length := h.1.1
  obtain rfl : m' = b.length := h'.1.1
  have hsl := sizeL_le a
  have Ha := Lib.hid h
  have Hb := Lib.hid h'
  have Hsm := Lib.hid hsm
  clear h h' hsm
  by_cases hlen : a.length = b.length
  case neg =>
    have g0 : ((a.length : Int) == (b.length : Int)) = false := by simp; omega
    have g1 : ((a.length : Int) = (b.length : Int)) = False := eq_false (by omega)
    have Hne : Hid (bareL a ≠ bareL b) := Lib.hid fun e => hlen (by rw [bareL_map, bareL_map] at e; simpa using congrArg List.length e)
    clear hlen
    go_enter Try.func25, Try.ntmps25
    go_wp2_with fail
    go_ret
    exact ⟨by rw [decB_f Hne.out]; rfl, Below.refl _ _⟩
  have g0 : ((a.length : Int) == (b.length : Int)) = true := by simp [hlen]
  have g2 : ((a.length : Int) != (b.length : Int)) = false := by simp [hlen]
  have Hlen := Lib.hid hlen
  clear hlen
  go_enter Try.func25, Try.ntmps25
  go_wp2_with fail
  go_loopg [5] a.length (fun k iv wr => ∃ j : Nat, iv = .int .i64 j ∧ j ≤ a.length ∧ Hid (k = a.length - j ∧ (a.map bareC).take j = (b.map bareC).take j) ∧ Below w.heap.size w wr)
  case atStart => exact ⟨0, rfl, by omega, Lib.hid ⟨rfl, rfl⟩, Below.refl _ _⟩
  case round =>
    obtain ⟨j, rfl, hj, Hm, hB⟩ := hrel
    by_cases hlt : j < a.length
    · have hltb : j < b.length := by have := Hlen.out; omega
      obtain ⟨x, hx⟩ : ∃ x, a[j]? = some x := ⟨a[j], by simp [hlt]⟩
      obtain ⟨y, hy⟩ : ∃ x, b[j]? = some x := ⟨b[j], by simp [hltb]⟩
      have hBd : Below w.heap.size w wr.drew := hB.drew
      have ka := Ha.out.keep (KeepIn.of_below hBd hhi)
      have kb := Hb.out.keep (KeepIn.of_below hBd hhi')
      obtain ⟨b1, o1, -, -, hs1, hc1⟩ := ka.1.at hx
      obtain ⟨b2, o2, -, -, hs2, hc2⟩ := kb.1.at hy
      replace hs1 : p = some ⟨b1, o1, none⟩ := hs1
      replace hs2 : p' = some ⟨b2, o2, none⟩ := hs2
      subst hs1 hs2
      have c0 : wr.drew.cell? ⟨b1, o1 + j * 7, none⟩ = some (.int .i64 x.h.kind) := hc1 0 _ rfl
      have c1 : wr.drew.cell? ⟨b1, o1 + j * 7 + 1, none⟩ = some (.bool x.h.goal) := hc1 1 _ rfl
      have c2 : wr.drew.cell? ⟨b1, o1 + j * 7 + 2, none⟩ = some (.string x.h.id) := hc1 2 _ rfl
      have c3 : wr.drew.cell? ⟨b1, o1 + j * 7 + 3, none⟩ = some (.slice x.h.attr.a x.h.attr.n x.h.attr.c) := hc1 3 _ rfl
      have c4 : wr.drew.cell? ⟨b1, o1 + j * 7 + 4, none⟩ = some (.slice x.h.value.a x.h.value.n x.h.value.c) := hc1 4 _ rfl
      have c5 : wr.drew.cell? ⟨b1, o1 + j * 7 + 5, none⟩ = some (.bool x.h.acc) := hc1 5 _ rfl
      have c6 : wr.drew.cell? ⟨b1, o1 + j * 7 + 6, none⟩ = some (.slice x.h.conds.a x.h.conds.n x.h.conds.c) := hc1 6 _ rfl
      have d0 : wr.drew.cell? ⟨b2, o2 + j * 7, none⟩ = some (.int .i64 y.h.kind) := hc2 0 _ rfl
      have d1 : wr.drew.cell? ⟨b2, o2 + j * 7 + 1, none⟩ = some (.bool y.h.goal) := hc2 1 _ rfl
      have d2 : wr.drew.cell? ⟨b2, o2 + j * 7 + 2, none⟩ = some (.string y.h.id) := hc2 2 _ rfl
      have d3 : wr.drew.cell? ⟨b2, o2 + j * 7 + 3, none⟩ = some (.slice y.h.attr.a y.h.attr.n y.h.attr.c) := hc2 3 _ rfl
      have d4 : wr.drew.cell? ⟨b2, o2 + j * 7 + 4, none⟩ = some (.slice y.h.value.a y.h.value.n y.h.value.c) := hc2 4 _ rfl
      have d5 : wr.drew.cell? ⟨b2, o2 + j * 7 + 5, none⟩ = some (.bool y.h.acc) := hc2 5 _ rfl
      have d6 : wr.drew.cell? ⟨b2, o2 + j * 7 + 6, none⟩ = some (.slice y.h.conds.a y.h.conds.n y.h.conds.c) := hc2 6 _ rfl
      have hxm := List.mem_of_getElem? hx
      have hszc := sizeL_mem hxm
      have okx := condOkL_iff.1 ka.2 x hxm
      have oky := condOkL_iff.1 kb.2 y (List.mem_of_getElem? hy)
      have hsx := smallC_eq.1 (smallL_iff.1 Hsm.out x hxm)
      have h1w : hi ≤ wr.drew.heap.size := Nat.le_trans hhi hBd.size
      have h2w : hi' ≤ wr.drew.heap.size := Nat.le_trans hhi' hBd.size
      have hcall := keepcond_T wr.drew lo hi lo' hi' x y okx h1w oky h2w hsx.1 (fun W hW => ih (sizeL x.inner) (by omega) x.inner (Nat.le_refl _) W lo hi lo' hi' x.h.conds y.h.conds y.inner ((condOk_iff.1 okx).2.2.keep (KeepIn.of_below hW h1w)) (Nat.le_trans h1w hW.size) ((condOk_iff.1 oky).2.2.keep (KeepIn.of_below hW h2w)) (Nat.le_trans h2w hW.size) (by omega) hsx.2)
      have hx' : (a.map bareC)[j]? = some (bareC x) := by rw [List.getElem?_map, hx]; rfl
      have hy' : (b.map bareC)[j]? = some (bareC y) := by rw [List.getElem?_map, hy]; rfl
      have Hx := Lib.hid hx'
      have Hy := Lib.hid hy'
      clear hc1 hc2 hx hy hx' hy' ka kb okx oky hsx
      go_wp2_with fail
      go_region_held3 (fun W => W.cell? ⟨b1, o1 + j * 7, none⟩ = some (.int .i64 x.h.kind) ∧ W.cell? ⟨b1, o1 + j * 7 + 1, none⟩ = some (.bool x.h.goal) ∧ W.cell? ⟨b1, o1 + j * 7 + 2, none⟩ = some (.string x.h.id) ∧ W.cell? ⟨b1, o1 + j * 7 + 3, none⟩ = some (.slice x.h.attr.a x.h.attr.n x.h.attr.c) ∧ W.cell? ⟨b1, o1 + j * 7 + 4, none⟩ = some (.slice x.h.value.a x.h.value.n x.h.value.c) ∧ W.cell? ⟨b1, o1 + j * 7 + 5, none⟩ = some (.bool x.h.acc) ∧ W.cell? ⟨b1, o1 + j * 7 + 6, none⟩ = some (.slice x.h.conds.a x.h.conds.n x.h.conds.c) ∧ W.cell? ⟨b2, o2 + j * 7, none⟩ = some (.int .i64 y.h.kind) ∧ W.cell? ⟨b2, o2 + j * 7 + 1, none⟩ = some (.bool y.h.goal) ∧ W.cell? ⟨b2, o2 + j * 7 + 2, none⟩ = some (.string y.h.id) ∧ W.cell? ⟨b2, o2 + j * 7 + 3, none⟩ = some (.slice y.h.attr.a y.h.attr.n y.h.attr.c) ∧ W.cell? ⟨b2, o2 + j * 7 + 4, none⟩ = some (.slice y.h.value.a y.h.value.n y.h.value.c) ∧ W.cell? ⟨b2, o2 + j * 7 + 5, none⟩ = some (.bool y.h.acc) ∧ W.cell? ⟨b2, o2 + j * 7 + 6, none⟩ = some (.slice y.h.conds.a y.h.conds.n y.h.conds.c))
        (first | go_keep | assumption)
        (first
          | ((with_reducible refine hcall.mono ?_); rintro e w2 ⟨rfl, hB2⟩; have hBw2 := hBd.trans (hB2.mono hBd.size); have S2 : w2.cell? ⟨b1, o1 + j * 7, none⟩ = some (.int .i64 x.h.kind) ∧ w2.cell? ⟨b1, o1 + j * 7 + 1, none⟩ = some (.bool x.h.goal) ∧ w2.cell? ⟨b1, o1 + j * 7 + 2, none⟩ = some (.string x.h.id) ∧ w2.cell? ⟨b1, o1 + j * 7 + 3, none⟩ = some (.slice x.h.attr.a x.h.attr.n x.h.attr.c) ∧ w2.cell? ⟨b1, o1 + j * 7 + 4, none⟩ = some (.slice x.h.value.a x.h.value.n x.h.value.c) ∧ w2.cell? ⟨b1, o1 + j * 7 + 5, none⟩ = some (.bool x.h.acc) ∧ w2.cell? ⟨b1, o1 + j * 7 + 6, none⟩ = some (.slice x.h.conds.a x.h.conds.n x.h.conds.c) ∧ w2.cell? ⟨b2, o2 + j * 7, none⟩ = some (.int .i64 y.h.kind) ∧ w2.cell? ⟨b2, o2 + j * 7 + 1, none⟩ = some (.bool y.h.goal) ∧ w2.cell? ⟨b2, o2 + j * 7 + 2, none⟩ = some (.string y.h.id) ∧ w2.cell? ⟨b2, o2 + j * 7 + 3, none⟩ = some (.slice y.h.attr.a y.h.attr.n y.h.attr.c) ∧ w2.cell? ⟨b2, o2 + j * 7 + 4, none⟩ = some (.slice y.h.value.a y.h.value.n y.h.value.c) ∧ w2.cell? ⟨b2, o2 + j * 7 + 5, none⟩ = some (.bool y.h.acc) ∧ w2.cell? ⟨b2, o2 + j * 7 + 6, none⟩ = some (.slice y.h.conds.a y.h.conds.n y.h.conds.c) := ⟨(cell_on hB2 c0), (cell_on hB2 c1), (cell_on hB2 c2), (cell_on hB2 c3), (cell_on hB2 c4), (cell_on hB2 c5), (cell_on hB2 c6), (cell_on hB2 d0), (cell_on hB2 d1), (cell_on hB2 d2), (cell_on hB2 d3), (cell_on hB2 d4), (cell_on hB2 d5), (cell_on hB2 d6)⟩)
          | fail "no arm")
      by_cases e : bareC x = bareC y
      · rw [decB_t e]
        have Heq := Lib.hid e
        clear e
        go_wp2_with fail
        go_roundg (a.length - (j + 1))
        case measure => rw [Hm.out.1]; omega
        case rel => exact ⟨j + 1, by go_num, by omega, Lib.hid ⟨rfl, take_step Hm.out.2 Hx.out Hy.out Heq.out⟩, hBw2⟩
      · rw [decB_f e]
        have Hne : Hid (bareL a ≠ bareL b) := Lib.hid (by rw [bareL_map, bareL_map]; exact ne_at Hx.out Hy.out e)
        clear e
        go_wp2_with fail
        go_ret
        exact ⟨by rw [decB_f Hne.out]; rfl, hBw2⟩
    · obtain rfl : j = a.length := by omega
      have Heq : Hid (bareL a = bareL b) := Lib.hid (by
        have := Hm.out.2
        have e1 : (a.map bareC).take a.length = a.map bareC := by rw [← List.length_map (f := bareC), List.take_length]
        have e2 : (b.map bareC).take a.length = b.map bareC := by rw [Hlen.out, ← List.length_map (f := bareC), List.take_length]
        rw [e1, e2] at this
        rw [bareL_map, bareL_map]
        exact this)
      go_wp2_with fail
      go_ret
      exact ⟨by rw [decB_t Heq.out]; rfl, hB⟩

end Go.Proofs.Ytmnpcpgdhaplaaa
