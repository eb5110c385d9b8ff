/- What the statements' own CopyTests, CopyCond, CopyConds, CopyProd answer: the same, in new memory. Conditions: what is copied lies in memory, and is small. -/
import Derived.Test.YtmnpcpgdhaplaaaRwTy
import Derived.Test.YtmnpcpgdhaplaaaInsPl
import Derived.Test.YtmnpcpgdhaplaaaWake
import Derived.Great.BuildSlice
namespace Go.Proofs.Ytmnpcpgdhaplaaa
open Go Go.RowKit

set_option pp.deepTerms true
set_option pp.maxSteps 1000000
set_option maxRecDepth 100000 in
set_option maxHeartbeats 1600000 in
theorem copysyms_T (w : World) (lo hi : Nat) (s : SlH) (l : List SymV) (h : RowIn lo hi 3 symCells w s l) (hl : l.length ≤ 1000) :
    Calls Try.prog 107 #[.slice s.a s.n s.c] w fun e w' => ∃ g c, e = .returned (.slice g l.length c) ∧ RowIn w.heap.size w'.heap.size 3 symCells w' ⟨g, l.length, c⟩ l ∧ Below w.heap.size w w' := by
  have Hh := Lib.hid h
  go_enter Try.func107, Try.ntmps107
  go_wp2_with (at_builtin; refine append_mk symTy rfl _ _ rfl w.heap.size (.slice none 0 0) [] rfl Mk.nil lo hi _ _ _ l rfl Hh.out (by simp; omega) (Nat.le_refl _) ?_; intro g c w1 hM hnil hg hv)
  rw [List.nil_append] at hM
  simp only [List.length_nil, Nat.zero_add] at hM hv ⊢
  go_ret
  exact ⟨g, c, rfl, Mk.row (s := ⟨g, l.length, c⟩) symTy.len hM, (Below.refl _ _).grown hg (Nat.le_refl _) (fun k e => by cases e)⟩

set_option maxRecDepth 100000 in
set_option maxHeartbeats 1600000 in
theorem copyacts_T (w : World) (lo hi : Nat) (s : SlH) (l : List ActV) (h : RowIn lo hi 19 actCells w s l) (hl : l.length ≤ 1000) :
    Calls Try.prog 47 #[.slice s.a s.n s.c] w fun e w' => ∃ g c, e = .returned (.slice g l.length c) ∧ RowIn w.heap.size w'.heap.size 19 actCells w' ⟨g, l.length, c⟩ l ∧ Below w.heap.size w w' := by
  have Hh := Lib.hid h
  go_enter Try.func47, Try.ntmps47
  go_wp2_with (at_builtin; refine append_mk actTy rfl _ _ rfl w.heap.size (.slice none 0 0) [] rfl Mk.nil lo hi _ _ _ l rfl Hh.out (by simp; omega) (Nat.le_refl _) ?_; intro g c w1 hM hnil hg hv)
  rw [List.nil_append] at hM
  simp only [List.length_nil, Nat.zero_add] at hM hv ⊢
  go_ret
  exact ⟨g, c, rfl, Mk.row (s := ⟨g, l.length, c⟩) actTy.len hM, (Below.refl _ _).grown hg (Nat.le_refl _) (fun k e => by cases e)⟩

/-- What a test needs of its own. -/
def QTest (lo hi : Nat) (W : World) (t : TestV) : Prop := RowIn lo hi 3 symCells W t.lst t.syms
theorem qTest_keep (lo hi : Nat) (W W' : World) (t : TestV) (h : QTest lo hi W t) (k : KeepIn lo hi W W') : QTest lo hi W' t := RowIn.keep h k

theorem tests_of {B : Nat} {w : World} {s : SlH} {l : List TestV} (hM : Mk testCells 67 6 B w (.slice s.a s.n s.c) l) (hK : Kids QTest B w (.slice s.a s.n s.c) l) : TestsOk B w.heap.size w s l :=
  ⟨hM.row testTy.len, fun t ht => by
    obtain ⟨lo, hi, h1, h2, h3, -⟩ := hK t ht
    exact RowIn.widen h3 h1 h2⟩

set_option maxRecDepth 100000 in
set_option maxHeartbeats 3200000 in
theorem copytests_T (w : World) (lo hi : Nat) (s : SlH) (l : List TestV) (h : TestsOk lo hi w s l) (hhi : hi ≤ w.heap.size) (hl : l.length ≤ 1000) (hs : ∀ t ∈ l, t.syms.length ≤ 1000) :
    Calls Try.prog 95 #[.slice s.a s.n s.c] w fun e w' => ∃ (s' : SlH) (l' : List TestV), e = .returned (.slice s'.a s'.n s'.c) ∧ TestsOk w.heap.size w'.heap.size w' s' l' ∧ l'.map bareT = l.map bareT ∧ Below w.heap.size w w' := by
  obtain ⟨a, m, cp⟩ := s
  obtain rfl : m = l.length := h.1.1
  have Hh := Lib.hid h
  have Hs := Lib.hid hs
  clear h hs
  go_enter Try.func95, Try.ntmps95
  go_wp2_with fail
  go_loopg [3, 4] l.length (fun k ov iv wr => ∃ (j : Nat) (g : Option Addr) (c : Nat) (l' : List TestV), ov = .slice g j c ∧ iv = .int .i64 j ∧ j ≤ l.length ∧ Hid (k = l.length - j ∧ l'.length = j ∧ l'.map bareT = (l.take j).map bareT ∧ Mk testCells 67 6 w.heap.size wr (.slice g j c) l' ∧ Kids QTest w.heap.size wr (.slice g j c) l') ∧ Below w.heap.size w wr)
  case atStart => exact ⟨0, none, 0, [], rfl, rfl, by omega, Lib.hid ⟨rfl, rfl, rfl, Mk.nil, Kids.nil⟩, Below.refl _ _⟩
  case round =>
    obtain ⟨j, g, c, l', rfl, rfl, hj, Hm, hB⟩ := hrel
    obtain rfl : j = l'.length := Hm.out.2.1.symm
    by_cases hlt : l'.length < l.length
    · obtain ⟨t, hx⟩ : ∃ t, l[l'.length]? = some t := ⟨l[l'.length], by simp [hlt]⟩
      have hh := Hh.out.keep (KeepIn.of_below hB hhi)
      obtain ⟨b, off, hlo, hbhi, hsa, hcell⟩ := hh.1.at hx
      replace hsa : a = some ⟨b, off, none⟩ := hsa
      subst hsa
      have hbw : b < wr.heap.size := Nat.lt_of_lt_of_le hbhi (Nat.le_trans hhi hB.size)
      have c0 : wr.cell? ⟨b, off + l'.length * 6, none⟩ = _ := hcell 0 _ rfl
      have c1 := hcell 1 _ rfl
      have c2 := hcell 2 _ rfl
      have c3 := hcell 3 _ rfl
      have c4 := hcell 4 _ rfl
      have c5 := hcell 5 _ rfl
      have hBa : Below wr.heap.size wr (wr.alloc (.cells #[.int .i64 t.rel, .string t.var, .int .i64 t.sym.k, .string t.sym.t, .int .i64 t.sym.n, .slice t.lst.a t.lst.n t.lst.c] 67)) := below2 _ _ _
      have hnb := heap_alloc_new wr (.cells #[.int .i64 t.rel, .string t.var, .int .i64 t.sym.k, .string t.sym.t, .int .i64 t.sym.n, .slice t.lst.a t.lst.n t.lst.c] 67)
      have d5 : (wr.alloc (.cells #[.int .i64 t.rel, .string t.var, .int .i64 t.sym.k, .string t.sym.t, .int .i64 t.sym.n, .slice t.lst.a t.lst.n t.lst.c] 67)).cell? ⟨b, off + l'.length * 6 + 5, none⟩ = some (.slice t.lst.a t.lst.n t.lst.c) := by
        rw [World.cell?_of_block (hBa.block b hbw)]
        exact c5
      have hsy := (hh.2 t (List.mem_of_getElem? hx)).keep (KeepIn.of_below hBa (Nat.le_trans hhi hB.size))
      have hcall := copysyms_T _ lo hi t.lst t.syms hsy (Hs.out t (List.mem_of_getElem? hx))
      have hsz1 : (wr.alloc (.cells #[.int .i64 t.rel, .string t.var, .int .i64 t.sym.k, .string t.sym.t, .int .i64 t.sym.n, .slice t.lst.a t.lst.n t.lst.c] 67)).heap.size = wr.heap.size + 1 := by simp
      have Hx := Lib.hid hx
      clear hcell hh hx hsy
      go_wp2_with fail
      generalize (wr.alloc (.cells #[.int .i64 t.rel, .string t.var, .int .i64 t.sym.k, .string t.sym.t, .int .i64 t.sym.n, .slice t.lst.a t.lst.n t.lst.c] 67)) = W1 at hBa hnb hcall hsz1 d5 ⊢
      refine hcall.mono ?_
      rintro e w2 ⟨g2, cc2, rfl, hrow2, hB2⟩
      have hnb2 := (hB2.block _ (lt_of_block hnb)).trans hnb
      have f5c : w2.cell? ⟨wr.heap.size, 5, none⟩ = some (.slice t.lst.a t.lst.n t.lst.c) := by simp [World.cell?, hnb2]
      have f5 : w2.frozen? ⟨wr.heap.size, 5, none⟩ = false := by simp [World.frozen?, hnb2]
      have hset : (w2.setCell ⟨wr.heap.size, 5, none⟩ (.slice g2 t.syms.length cc2)).heap[wr.heap.size]? = some (.cells #[.int .i64 t.rel, .string t.var, .int .i64 t.sym.k, .string t.sym.t, .int .i64 t.sym.n, .slice g2 t.syms.length cc2] 67 (0, 0)) := by
        have := set_blockC (o := 5) hnb2 (.slice g2 t.syms.length cc2)
        simpa using this
      have hBs : Below wr.heap.size wr (w2.setCell ⟨wr.heap.size, 5, none⟩ (.slice g2 t.syms.length cc2)) := (hBa.trans (hB2.mono hBa.size)).setCell (p := ⟨wr.heap.size, 5, none⟩) (Nat.le_refl _) _
      have hrow3 : RowIn (wr.heap.size + 1) w2.heap.size 3 symCells (w2.setCell ⟨wr.heap.size, 5, none⟩ (.slice g2 t.syms.length cc2)) ⟨g2, t.syms.length, cc2⟩ t.syms := by
        rw [hsz1] at hrow2
        refine hrow2.keep (fun b' c' T' f' h1 h2 hb => ?_)
        exact (Below.heap_setCell _ _ _ _ (by show b' ≠ wr.heap.size; omega)).trans hb
      have hss : (w2.setCell ⟨wr.heap.size, 5, none⟩ (.slice g2 t.syms.length cc2)).heap.size = w2.heap.size := by simp [World.setCell]
      have q0 := hset
      have r0 : (w2.setCell ⟨wr.heap.size, 5, none⟩ (.slice g2 t.syms.length cc2)).cell? ⟨wr.heap.size, 0, none⟩ = some (.int .i64 t.rel) := by simp [World.cell?, hset]
      have r1 : (w2.setCell ⟨wr.heap.size, 5, none⟩ (.slice g2 t.syms.length cc2)).cell? ⟨wr.heap.size, 1, none⟩ = some (.string t.var) := by simp [World.cell?, hset]
      have r2 : (w2.setCell ⟨wr.heap.size, 5, none⟩ (.slice g2 t.syms.length cc2)).cell? ⟨wr.heap.size, 2, none⟩ = some (.int .i64 t.sym.k) := by simp [World.cell?, hset]
      have r3 : (w2.setCell ⟨wr.heap.size, 5, none⟩ (.slice g2 t.syms.length cc2)).cell? ⟨wr.heap.size, 3, none⟩ = some (.string t.sym.t) := by simp [World.cell?, hset]
      have r4 : (w2.setCell ⟨wr.heap.size, 5, none⟩ (.slice g2 t.syms.length cc2)).cell? ⟨wr.heap.size, 4, none⟩ = some (.int .i64 t.sym.n) := by simp [World.cell?, hset]
      have r5 : (w2.setCell ⟨wr.heap.size, 5, none⟩ (.slice g2 t.syms.length cc2)).cell? ⟨wr.heap.size, 5, none⟩ = some (.slice g2 t.syms.length cc2) := by simp [World.cell?, hset]
      have hsrc : RowIn 0 ((w2.setCell ⟨wr.heap.size, 5, none⟩ (.slice g2 t.syms.length cc2)).alloc (.cells #[.int .i64 t.rel, .string t.var, .int .i64 t.sym.k, .string t.sym.t, .int .i64 t.sym.n, .slice g2 t.syms.length cc2] 67)).heap.size 6 testCells ((w2.setCell ⟨wr.heap.size, 5, none⟩ (.slice g2 t.syms.length cc2)).alloc (.cells #[.int .i64 t.rel, .string t.var, .int .i64 t.sym.k, .string t.sym.t, .int .i64 t.sym.n, .slice g2 t.syms.length cc2] 67)) ⟨some ⟨w2.heap.size, 0, none⟩, 1, 1⟩ [⟨t.rel, t.var, t.sym, ⟨g2, t.syms.length, cc2⟩, t.syms⟩] := by
        have q := heap_alloc_new (w2.setCell ⟨wr.heap.size, 5, none⟩ (.slice g2 t.syms.length cc2)) (.cells #[.int .i64 t.rel, .string t.var, .int .i64 t.sym.k, .string t.sym.t, .int .i64 t.sym.n, .slice g2 t.syms.length cc2] 67)
        rw [hss] at q
        exact rowIn_box q (Nat.zero_le _)
      have Hsrc := Lib.hid hsrc
      clear hsrc
      have Hfacts := Lib.hid (And.intro hset (And.intro hBs (And.intro hrow3 hss)))
      clear hset hBs hrow3 hss q0 hnb2 hnb hBa hB2 c0 c1 c2 c3 c4 c5 d5 hcall
      go_wp2_with (at_builtin; refine append_mk testTy rfl _ _ rfl w.heap.size (.slice g l'.length c) l' rfl (Hm.out.2.2.2.1.below (Hfacts.out.2.1.alloc Hfacts.out.2.1.size _)) 0 _ _ _ _ [⟨t.rel, t.var, t.sym, ⟨g2, t.syms.length, cc2⟩, t.syms⟩] rfl Hsrc.out (by simp; omega) (Nat.le_trans hB.size (Nat.le_trans Hfacts.out.2.1.size (by simp))) ?_; intro g' c' w4 hM4 hnil hg4 hv4)
      obtain ⟨hset, hBs, hrow3, hss⟩ := Hfacts.out
      have hB3 := hBs.alloc hBs.size (.cells #[.int .i64 t.rel, .string t.var, .int .i64 t.sym.k, .string t.sym.t, .int .i64 t.sym.n, .slice g2 t.syms.length cc2] 67)
      have hM3 := Hm.out.2.2.2.1.below hB3
      have hK3 := Hm.out.2.2.2.2.below qTest_keep hB3
      have hrow4 : QTest (wr.heap.size + 1) w2.heap.size ((w2.setCell ⟨wr.heap.size, 5, none⟩ (.slice g2 t.syms.length cc2)).alloc (.cells #[.int .i64 t.rel, .string t.var, .int .i64 t.sym.k, .string t.sym.t, .int .i64 t.sym.n, .slice g2 t.syms.length cc2] 67)) ⟨t.rel, t.var, t.sym, ⟨g2, t.syms.length, cc2⟩, t.syms⟩ := by
        refine RowIn.keep hrow3 (KeepIn.of_below (below2 _ _ _) (by rw [hss]; exact Nat.le_refl _))
      have hK3' := hK3.snoc (Nat.le_trans hB.size (Nat.le_succ _)) (by simp [hss]) hrow4 (fun b' hb' => .inl (by have := (ownsRow_block Hm.out.2.2.2.1 hb').2; omega))
      have hK4 := hK3'.grow qTest_keep hg4 hv4
      have hB4 := (hB.trans (hB3.mono hB.size)).grown hg4 (Nat.le_trans hB.size hB3.size) (fun k e => (ownsRow_block hM3 e).1)
      have H4 := Lib.hid (And.intro hM4 (And.intro hK4 hB4))
      clear hset hBs hrow3 hss hB3 hM3 hK3 hrow4 hK3' hK4 hB4 hM4 hg4 hv4 r0 r1 r2 r3 r4 r5
      simp only [List.length_cons, List.length_nil, Nat.zero_add] at H4 ⊢
      go_wp2_with fail
      go_roundg (l.length - (l'.length + 1))
      case measure => rw [Hm.out.1]; omega
      case rel =>
        refine ⟨l'.length + 1, g', c', l' ++ [⟨t.rel, t.var, t.sym, ⟨g2, t.syms.length, cc2⟩, t.syms⟩], by go_num, by go_num, by omega, Lib.hid ⟨rfl, by simp, ?_, H4.out.1, H4.out.2.1⟩, H4.out.2.2⟩
        rw [List.take_add_one, Hx.out, List.map_append, List.map_append, Hm.out.2.2.1]
        rfl
    · have hjl : l'.length = l.length := by omega
      obtain ⟨-, -, e, hM, hK⟩ := Hm.out
      rw [hjl, List.take_length] at e
      rw [hjl] at hM hK
      have H5 := Lib.hid (And.intro e (And.intro hM hK))
      clear e hM hK
      go_wp2_with fail
      go_ret
      exact ⟨⟨g, l.length, c⟩, rfl, l', tests_of (s := ⟨g, l.length, c⟩) H5.out.2.1 H5.out.2.2, H5.out.1, hB⟩


/-- A guard: the next step stores into a world that was stored into last. -/
theorem at_set_store {P : Program} {ops : Array Oper} {rest : List Oper} {a : Act} {w : World} {p : Addr} {v : Value} {Q : Exit → Act → World → Prop} {d : _} {ty : TypeId} {x y : Operand} {t : _} {pos : _} {af : _} {g : _}
    (h : wpList P ops Q ({ dst := d, op := .store ty x y, type := t, pos := pos, after := af, guard := g } :: rest) a (w.setCell p v)) : wpList P ops Q ({ dst := d, op := .store ty x y, type := t, pos := pos, after := af, guard := g } :: rest) a (w.setCell p v) := h

theorem row7_all {W : World} {b : Nat} {x0 x1 x2 x3 x4 x5 x6 : Value} {T : TypeId} (h : W.heap[b]? = some (.cells #[x0, x1, x2, x3, x4, x5, x6] T (0, 0))) : (W.cell? ⟨b, 0, none⟩ = some x0 ∧ W.cell? ⟨b, 1, none⟩ = some x1 ∧ W.cell? ⟨b, 2, none⟩ = some x2 ∧ W.cell? ⟨b, 3, none⟩ = some x3 ∧ W.cell? ⟨b, 4, none⟩ = some x4 ∧ W.cell? ⟨b, 5, none⟩ = some x5 ∧ W.cell? ⟨b, 6, none⟩ = some x6) ∧ W.frozen? ⟨b, 3, none⟩ = false ∧ W.frozen? ⟨b, 4, none⟩ = false ∧ W.frozen? ⟨b, 6, none⟩ = false := by simp [World.cell?, World.frozen?, h]

theorem keepIn_set {lo hi b o : Nat} {W : World} (hb : b < lo) (v : Value) : KeepIn lo hi W (W.setCell ⟨b, o, none⟩ v) := fun b' c T f h1 _ hh => (Below.heap_setCell _ _ _ _ (by show b' ≠ b; omega)).trans hh
theorem setRow_get {W : World} {b : Nat} {old cs : Array Value} {T : TypeId} (h : W.heap[b]? = some (.cells old T (0, 0))) : (W.setRow b cs).heap[b]? = some (.cells cs T (0, 0)) := setRow_heap W b old cs T (0, 0) h

set_option maxRecDepth 100000 in
set_option maxHeartbeats 3200000 in
theorem copycond_T (w : World) (lo hi : Nat) (c : CondV) (h : CondOk lo hi w c) (hhi : hi ≤ w.heap.size) (hl : CondLight c)
    (hrec : ∀ W, Below w.heap.size w W → Calls Try.prog 46 #[.slice c.h.conds.a c.h.conds.n c.h.conds.c] W fun e w' => ∃ (s' : SlH) (cs' : List CondV), e = .returned (.slice s'.a s'.n s'.c) ∧ CondsOk W.heap.size w'.heap.size w' s' cs' ∧ bareL cs' = bareL c.inner ∧ Below W.heap.size W w') :
    Calls Try.prog 74 #[.agg #[.int .i64 c.h.kind, .bool c.h.goal, .string c.h.id, .slice c.h.attr.a c.h.attr.n c.h.attr.c, .slice c.h.value.a c.h.value.n c.h.value.c, .bool c.h.acc, .slice c.h.conds.a c.h.conds.n c.h.conds.c]] w fun e w' => ∃ c' : CondV, e = .returned (.agg #[.int .i64 c'.h.kind, .bool c'.h.goal, .string c'.h.id, .slice c'.h.attr.a c'.h.attr.n c'.h.attr.c, .slice c'.h.value.a c'.h.value.n c'.h.value.c, .bool c'.h.acc, .slice c'.h.conds.a c'.h.conds.n c'.h.conds.c]) ∧ CondOk w.heap.size w'.heap.size w' c' ∧ bareC c' = bareC c ∧ Below w.heap.size w w' := by
  obtain ⟨oka, okv, -⟩ := condOk_iff.1 h
  obtain ⟨-, la, lv, ta, tv⟩ := hl
  have hca : ∀ W, Below w.heap.size w W → Calls Try.prog 95 #[.slice c.h.attr.a c.h.attr.n c.h.attr.c] W fun e w' => ∃ (s' : SlH) (l' : List TestV), e = .returned (.slice s'.a s'.n s'.c) ∧ TestsOk W.heap.size w'.heap.size w' s' l' ∧ l'.map bareT = c.h.attrs.map bareT ∧ Below W.heap.size W w' := fun W hW =>
    copytests_T W lo hi c.h.attr c.h.attrs (oka.keep (KeepIn.of_below hW hhi)) (Nat.le_trans hhi hW.size) (by omega) (fun t ht => by have := (ta t ht).1; omega)
  have hcv : ∀ W, Below w.heap.size w W → Calls Try.prog 95 #[.slice c.h.value.a c.h.value.n c.h.value.c] W fun e w' => ∃ (s' : SlH) (l' : List TestV), e = .returned (.slice s'.a s'.n s'.c) ∧ TestsOk W.heap.size w'.heap.size w' s' l' ∧ l'.map bareT = c.h.values.map bareT ∧ Below W.heap.size W w' := fun W hW =>
    copytests_T W lo hi c.h.value c.h.values (okv.keep (KeepIn.of_below hW hhi)) (Nat.le_trans hhi hW.size) (by omega) (fun t ht => by have := (tv t ht).1; omega)
  have Hca := Lib.hid hca
  have Hcv := Lib.hid hcv
  have Hrec := Lib.hid hrec
  have hB0 : Below w.heap.size w ((w.alloc (.cells #[.int .i64 c.h.kind, .bool c.h.goal, .string c.h.id, .slice c.h.attr.a c.h.attr.n c.h.attr.c, .slice c.h.value.a c.h.value.n c.h.value.c, .bool c.h.acc, .slice c.h.conds.a c.h.conds.n c.h.conds.c] 64)).alloc (.cells #[.int .i64 0, .bool false, .string ⟨#[]⟩, .slice none 0 0, .slice none 0 0, .bool false, .slice none 0 0] 64)) := ((Below.refl _ w).alloc (Nat.le_refl _) _).alloc (by simp) _
  have hb0 : ((w.alloc (.cells #[.int .i64 c.h.kind, .bool c.h.goal, .string c.h.id, .slice c.h.attr.a c.h.attr.n c.h.attr.c, .slice c.h.value.a c.h.value.n c.h.value.c, .bool c.h.acc, .slice c.h.conds.a c.h.conds.n c.h.conds.c] 64)).alloc (.cells #[.int .i64 0, .bool false, .string ⟨#[]⟩, .slice none 0 0, .slice none 0 0, .bool false, .slice none 0 0] 64)).heap[w.heap.size]? = some (.cells #[.int .i64 c.h.kind, .bool c.h.goal, .string c.h.id, .slice c.h.attr.a c.h.attr.n c.h.attr.c, .slice c.h.value.a c.h.value.n c.h.value.c, .bool c.h.acc, .slice c.h.conds.a c.h.conds.n c.h.conds.c] 64 (0, 0)) := (Below.heap_alloc _ _ _ (by simp)).trans (heap_alloc_new w _)
  have hz0 : ((w.alloc (.cells #[.int .i64 c.h.kind, .bool c.h.goal, .string c.h.id, .slice c.h.attr.a c.h.attr.n c.h.attr.c, .slice c.h.value.a c.h.value.n c.h.value.c, .bool c.h.acc, .slice c.h.conds.a c.h.conds.n c.h.conds.c] 64)).alloc (.cells #[.int .i64 0, .bool false, .string ⟨#[]⟩, .slice none 0 0, .slice none 0 0, .bool false, .slice none 0 0] 64)).heap[w.heap.size + 1]? = some (.cells #[.int .i64 0, .bool false, .string ⟨#[]⟩, .slice none 0 0, .slice none 0 0, .bool false, .slice none 0 0] 64 (0, 0)) := by
    have := heap_alloc_new (w.alloc (.cells #[.int .i64 c.h.kind, .bool c.h.goal, .string c.h.id, .slice c.h.attr.a c.h.attr.n c.h.attr.c, .slice c.h.value.a c.h.value.n c.h.value.c, .bool c.h.acc, .slice c.h.conds.a c.h.conds.n c.h.conds.c] 64)) (.cells #[.int .i64 0, .bool false, .string ⟨#[]⟩, .slice none 0 0, .slice none 0 0, .bool false, .slice none 0 0] 64)
    simpa using this
  clear hca hcv hrec h oka okv la lv ta tv
  have n3 := (row7_all hb0).1.2.2.2.1
  go_enter Try.func74, Try.ntmps74
  go_wp2_with fail
  generalize ((w.alloc (.cells #[.int .i64 c.h.kind, .bool c.h.goal, .string c.h.id, .slice c.h.attr.a c.h.attr.n c.h.attr.c, .slice c.h.value.a c.h.value.n c.h.value.c, .bool c.h.acc, .slice c.h.conds.a c.h.conds.n c.h.conds.c] 64)).alloc (.cells #[.int .i64 0, .bool false, .string ⟨#[]⟩, .slice none 0 0, .slice none 0 0, .bool false, .slice none 0 0] 64)) = W0 at hB0 hb0 hz0 n3 ⊢
  refine (Hca.out W0 hB0).mono ?_
  rintro e w1 ⟨s1, l1, rfl, ok1, be1, hB1⟩
  have hb1 := (hB1.block _ (lt_of_block hb0)).trans hb0
  have hz1 := (hB1.block _ (lt_of_block hz0)).trans hz0
  have hlo1 : w.heap.size + 2 ≤ W0.heap.size := lt_of_block hz0
  have hC1 := (hB0.trans (hB1.mono hB0.size)).setCell (p := ⟨w.heap.size, 3, none⟩) (Nat.le_refl _) (.slice s1.a s1.n s1.c)
  have hb2 : (w1.setCell ⟨w.heap.size, 3, none⟩ (.slice s1.a s1.n s1.c)).heap[w.heap.size]? = some (.cells #[.int .i64 c.h.kind, .bool c.h.goal, .string c.h.id, .slice s1.a s1.n s1.c, .slice c.h.value.a c.h.value.n c.h.value.c, .bool c.h.acc, .slice c.h.conds.a c.h.conds.n c.h.conds.c] 64 (0, 0)) := by
    have := set_blockC (o := 3) hb1 (.slice s1.a s1.n s1.c)
    simpa using this
  have hz2 : (w1.setCell ⟨w.heap.size, 3, none⟩ (.slice s1.a s1.n s1.c)).heap[w.heap.size + 1]? = some (.cells #[.int .i64 0, .bool false, .string ⟨#[]⟩, .slice none 0 0, .slice none 0 0, .bool false, .slice none 0 0] 64 (0, 0)) := (Below.heap_setCell _ _ _ _ (by show w.heap.size + 1 ≠ w.heap.size; omega)).trans hz1
  have ok2 := ok1.keep (keepIn_set (lo := W0.heap.size) (hi := w1.heap.size) (b := w.heap.size) (o := 3) (W := w1) (by omega) (.slice s1.a s1.n s1.c))
  have hs2 : (w1.setCell ⟨w.heap.size, 3, none⟩ (.slice s1.a s1.n s1.c)).heap.size = w1.heap.size := by simp [World.setCell]
  obtain ⟨⟨-, -, -, m3, -, -, -⟩, f3, -, -⟩ := row7_all hb1
  obtain ⟨⟨-, -, -, -, m4, -, -⟩, -, f4, -⟩ := row7_all hb2
  clear hb1 hz1 ok1 n3
  go_wp2_with fail
  generalize (w1.setCell ⟨w.heap.size, 3, none⟩ (.slice s1.a s1.n s1.c)) = W2 at hC1 hb2 hz2 ok2 hs2 m4 f4 ⊢
  refine (Hcv.out W2 hC1).mono ?_
  rintro e w3 ⟨s2, l2, rfl, ok3, be2, hB3⟩
  have hb3 := (hB3.block _ (lt_of_block hb2)).trans hb2
  have hz3 := (hB3.block _ (lt_of_block hz2)).trans hz2
  have hC3 := (hC1.trans (hB3.mono hC1.size)).setCell (p := ⟨w.heap.size, 4, none⟩) (Nat.le_refl _) (.slice s2.a s2.n s2.c)
  have hb4 : (w3.setCell ⟨w.heap.size, 4, none⟩ (.slice s2.a s2.n s2.c)).heap[w.heap.size]? = some (.cells #[.int .i64 c.h.kind, .bool c.h.goal, .string c.h.id, .slice s1.a s1.n s1.c, .slice s2.a s2.n s2.c, .bool c.h.acc, .slice c.h.conds.a c.h.conds.n c.h.conds.c] 64 (0, 0)) := by
    have := set_blockC (o := 4) hb3 (.slice s2.a s2.n s2.c)
    simpa using this
  have hz4 : (w3.setCell ⟨w.heap.size, 4, none⟩ (.slice s2.a s2.n s2.c)).heap[w.heap.size + 1]? = some (.cells #[.int .i64 0, .bool false, .string ⟨#[]⟩, .slice none 0 0, .slice none 0 0, .bool false, .slice none 0 0] 64 (0, 0)) := (Below.heap_setCell _ _ _ _ (by show w.heap.size + 1 ≠ w.heap.size; omega)).trans hz3
  have ok1' := (ok2.keep (KeepIn.of_below hB3 (by omega))).keep (keepIn_set (lo := W0.heap.size) (hi := w1.heap.size) (b := w.heap.size) (o := 4) (W := w3) (by omega) (.slice s2.a s2.n s2.c))
  have ok2' := ok3.keep (keepIn_set (lo := W2.heap.size) (hi := w3.heap.size) (b := w.heap.size) (o := 4) (W := w3) (by have := hB1.size; omega) (.slice s2.a s2.n s2.c))
  have hs4 : (w3.setCell ⟨w.heap.size, 4, none⟩ (.slice s2.a s2.n s2.c)).heap.size = w3.heap.size := by simp [World.setCell]
  clear m3 f3 m4 f4
  obtain ⟨⟨-, -, -, -, m4, -, -⟩, -, f4, -⟩ := row7_all hb3
  obtain ⟨⟨-, -, -, -, -, -, m6⟩, -, -, f6⟩ := row7_all hb4
  clear hb3 hz3 ok3 hb2 hz2 ok2
  go_wp2_with fail
  generalize (w3.setCell ⟨w.heap.size, 4, none⟩ (.slice s2.a s2.n s2.c)) = W4 at hC3 hb4 hz4 ok1' ok2' hs4 m6 f6 ⊢
  refine (Hrec.out W4 hC3).mono ?_
  rintro e w5 ⟨s3, cs3, rfl, ok5, be3, hB5⟩
  have hb5 := (hB5.block _ (lt_of_block hb4)).trans hb4
  have hz5 := (hB5.block _ (lt_of_block hz4)).trans hz4
  have hC5 := (hC3.trans (hB5.mono hC3.size)).setCell (p := ⟨w.heap.size, 6, none⟩) (Nat.le_refl _) (.slice s3.a s3.n s3.c)
  have hb6 : (w5.setCell ⟨w.heap.size, 6, none⟩ (.slice s3.a s3.n s3.c)).heap[w.heap.size]? = some (.cells #[.int .i64 c.h.kind, .bool c.h.goal, .string c.h.id, .slice s1.a s1.n s1.c, .slice s2.a s2.n s2.c, .bool c.h.acc, .slice s3.a s3.n s3.c] 64 (0, 0)) := by
    have := set_blockC (o := 6) hb5 (.slice s3.a s3.n s3.c)
    simpa using this
  have hz6 : (w5.setCell ⟨w.heap.size, 6, none⟩ (.slice s3.a s3.n s3.c)).heap[w.heap.size + 1]? = some (.cells #[.int .i64 0, .bool false, .string ⟨#[]⟩, .slice none 0 0, .slice none 0 0, .bool false, .slice none 0 0] 64 (0, 0)) := (Below.heap_setCell _ _ _ _ (by show w.heap.size + 1 ≠ w.heap.size; omega)).trans hz5
  have hW45 := hB5.size
  have hW2W4 : W2.heap.size ≤ W4.heap.size := by have := hB3.size; omega
  have k1 := (ok1'.keep (KeepIn.of_below hB5 (by have := hB3.size; omega))).keep (keepIn_set (lo := W0.heap.size) (hi := w1.heap.size) (b := w.heap.size) (o := 6) (W := w5) (by omega) (.slice s3.a s3.n s3.c))
  have k2 := (ok2'.keep (KeepIn.of_below hB5 (by omega))).keep (keepIn_set (lo := W2.heap.size) (hi := w3.heap.size) (b := w.heap.size) (o := 6) (W := w5) (by have := hB1.size; omega) (.slice s3.a s3.n s3.c))
  have k3 := ok5.keep (keepIn_set (lo := W4.heap.size) (hi := w5.heap.size) (b := w.heap.size) (o := 6) (W := w5) (by have := hB1.size; omega) (.slice s3.a s3.n s3.c))
  have hs6 : (w5.setCell ⟨w.heap.size, 6, none⟩ (.slice s3.a s3.n s3.c)).heap.size = w5.heap.size := by simp [World.setCell]
  clear m4 f4 m6 f6
  obtain ⟨⟨-, -, -, -, -, -, m6⟩, -, -, f6⟩ := row7_all hb5
  obtain ⟨⟨r0, r1, r2, r3, r4, r5, r6⟩, -⟩ := row7_all hb6
  have Hz6 := Lib.hid hz6
  have hone : (#[.int .i64 c.h.kind, .bool c.h.goal, .string c.h.id, .slice s1.a s1.n s1.c, .slice s2.a s2.n s2.c, .bool c.h.acc, .slice s3.a s3.n s3.c] : Array Value).all (·.oneCell') = true := by kernel_rfl
  clear hb5 hz5 ok5 hb4 hz4 ok1' ok2' hz6 hb6
  go_wp2_with (with_reducible refine at_set_store ?_; refine wpList_store_rowTo rfl 64 _ _ rfl rfl (w.heap.size + 1) #[.int .i64 c.h.kind, .bool c.h.goal, .string c.h.id, .slice s1.a s1.n s1.c, .slice s2.a s2.n s2.c, .bool c.h.acc, .slice s3.a s3.n s3.c] rfl rfl _ _ Hz6.out (by kernel_rfl) rfl hone ?_)
  have hz7 : ((w5.setCell ⟨w.heap.size, 6, none⟩ (.slice s3.a s3.n s3.c)).setRow (w.heap.size + 1) #[.int .i64 c.h.kind, .bool c.h.goal, .string c.h.id, .slice s1.a s1.n s1.c, .slice s2.a s2.n s2.c, .bool c.h.acc, .slice s3.a s3.n s3.c]).heap[w.heap.size + 1]? = _ := setRow_get Hz6.out
  have hBt := but_setRow (w5.setCell ⟨w.heap.size, 6, none⟩ (.slice s3.a s3.n s3.c)) (w.heap.size + 1) #[.int .i64 c.h.kind, .bool c.h.goal, .string c.h.id, .slice s1.a s1.n s1.c, .slice s2.a s2.n s2.c, .bool c.h.acc, .slice s3.a s3.n s3.c]
  have kb : ∀ lo hi, w.heap.size + 2 ≤ lo → hi ≤ w5.heap.size → KeepIn lo hi (w5.setCell ⟨w.heap.size, 6, none⟩ (.slice s3.a s3.n s3.c)) ((w5.setCell ⟨w.heap.size, 6, none⟩ (.slice s3.a s3.n s3.c)).setRow (w.heap.size + 1) #[.int .i64 c.h.kind, .bool c.h.goal, .string c.h.id, .slice s1.a s1.n s1.c, .slice s2.a s2.n s2.c, .bool c.h.acc, .slice s3.a s3.n s3.c]) := fun lo hi h1 h2 b' c' T' f' g1 g2 hh => (hBt.block b' (by rw [hs6]; omega) (by omega)).trans hh
  have hsz : ((w5.setCell ⟨w.heap.size, 6, none⟩ (.slice s3.a s3.n s3.c)).setRow (w.heap.size + 1) #[.int .i64 c.h.kind, .bool c.h.goal, .string c.h.id, .slice s1.a s1.n s1.c, .slice s2.a s2.n s2.c, .bool c.h.acc, .slice s3.a s3.n s3.c]).heap.size = w5.heap.size := by rw [← hs6]; simp [World.setRow]
  have hfin : Below w.heap.size w ((w5.setCell ⟨w.heap.size, 6, none⟩ (.slice s3.a s3.n s3.c)).setRow (w.heap.size + 1) #[.int .i64 c.h.kind, .bool c.h.goal, .string c.h.id, .slice s1.a s1.n s1.c, .slice s2.a s2.n s2.c, .bool c.h.acc, .slice s3.a s3.n s3.c]) := V.below_but hC5 hBt (Nat.le_succ _) hC5.size
  have z1 := hB1.size
  have z3 := hB3.size
  have K1 := (k1.keep (kb _ _ (by omega) (by omega))).widen (lo' := w.heap.size) (hi' := w5.heap.size) (by omega) (by omega)
  have K2 := (k2.keep (kb _ _ (by omega) (by omega))).widen (lo' := w.heap.size) (hi' := w5.heap.size) (by omega) (by omega)
  have K3 := k3.keep (kb _ _ (by omega) (by omega))
  obtain ⟨⟨t0, t1, t2, t3, t4, t5, t6⟩, -⟩ := row7_all hz7
  refine bodyPost_ret (v := .agg #[.int .i64 c.h.kind, .bool c.h.goal, .string c.h.id, .slice s1.a s1.n s1.c, .slice s2.a s2.n s2.c, .bool c.h.acc, .slice s3.a s3.n s3.c]) (by simp [results, Try.results74, go_sem, t0, t1, t2, t3, t4, t5, t6]) rfl ?_
  refine ⟨.mk ⟨c.h.kind, c.h.goal, c.h.id, s1, l1, s2, l2, c.h.acc, s3⟩ cs3, rfl, ?_, ?_, hfin⟩
  · rw [hsz]
    exact condOk_iff.2 ⟨K1, K2, K3.1.widen (by omega) (by omega), condOkL_widen (by omega) (by omega) _ _ (Nat.le_refl _) K3.2⟩
  · obtain ⟨h0, l0⟩ := c
    simp only [bareC, CondV.h, CondV.inner] at be1 be2 be3 ⊢
    rw [be1, be2, be3]


/-- What a condition needs of its own. -/
theorem qCond_keep (lo hi : Nat) (W W' : World) (c : CondV) (h : CondOk lo hi W c) (k : KeepIn lo hi W W') : CondOk lo hi W' c := h.keep k

theorem conds_of {B : Nat} {w : World} {s : SlH} {l : List CondV} (hM : Mk condCells 64 7 B w (.slice s.a s.n s.c) l) (hK : Kids CondOk B w (.slice s.a s.n s.c) l) : CondsOk B w.heap.size w s l :=
  ⟨hM.row condTy.len, condOkL_iff.2 fun t ht => by
    obtain ⟨lo, hi, h1, h2, h3, -⟩ := hK t ht
    exact h3.widen h1 h2⟩

set_option maxRecDepth 100000 in
set_option maxHeartbeats 3200000 in
theorem copyconds_T : ∀ (k : Nat) (cs : List CondV), sizeL cs ≤ k → ∀ (w : World) (lo hi : Nat) (s : SlH), CondsOk lo hi w s cs → hi ≤ w.heap.size → sizeL cs ≤ 1000 → LightL cs →
    Calls Try.prog 46 #[.slice s.a s.n s.c] w fun e w' => ∃ (s' : SlH) (cs' : List CondV), e = .returned (.slice s'.a s'.n s'.c) ∧ CondsOk w.heap.size w'.heap.size w' s' cs' ∧ bareL cs' = bareL cs ∧ Below w.heap.size w w' := by
  intro k
  induction k using Nat.strongRecOn with
  | _ k ih =>
  intro cs hk w lo hi s hC hhi hsz hl
  obtain ⟨a, m, cp⟩ := s
  obtain rfl : m = cs.length := hC.1.1
  have hsl := sizeL_le cs
  have HC := Lib.hid hC
  have Hl := Lib.hid hl
  clear hC hl
  go_enter Try.func46, Try.ntmps46
  go_wp2_with fail
  go_loopg [3, 4] cs.length (fun k ov iv wr => ∃ (j : Nat) (g : Option Addr) (c : Nat) (l' : List CondV), ov = .slice g j c ∧ iv = .int .i64 j ∧ j ≤ cs.length ∧ Hid (k = cs.length - j ∧ l'.length = j ∧ bareL l' = bareL (cs.take j) ∧ Mk condCells 64 7 w.heap.size wr (.slice g j c) l' ∧ Kids CondOk w.heap.size wr (.slice g j c) l') ∧ Below w.heap.size w wr)
  case atStart => exact ⟨0, none, 0, [], rfl, rfl, by omega, Lib.hid ⟨rfl, rfl, rfl, Mk.nil, Kids.nil⟩, Below.refl _ _⟩
  case round =>
    obtain ⟨j, g, cp0, l', rfl, rfl, hj, Hm, hB⟩ := hrel
    obtain rfl : j = l'.length := Hm.out.2.1.symm
    by_cases hlt : l'.length < cs.length
    · obtain ⟨c, hx⟩ : ∃ c, cs[l'.length]? = some c := ⟨cs[l'.length], by simp [hlt]⟩
      have hh := HC.out.keep (KeepIn.of_below hB hhi)
      obtain ⟨b, off, hlo, hbhi, hsa, hcell⟩ := hh.1.at hx
      replace hsa : a = some ⟨b, off, none⟩ := hsa
      subst hsa
      have c0 : wr.cell? ⟨b, off + l'.length * 7, none⟩ = _ := hcell 0 _ rfl
      have c1 := hcell 1 _ rfl
      have c2 := hcell 2 _ rfl
      have c3 := hcell 3 _ rfl
      have c4 := hcell 4 _ rfl
      have c5 := hcell 5 _ rfl
      have c6 := hcell 6 _ rfl
      have hcm : c ∈ cs := List.mem_of_getElem? hx
      have hszc := sizeL_mem hcm
      have hok := condOkL_iff.1 hh.2 c hcm
      have hlc := lightC_eq.1 (lightL_iff.1 Hl.out c hcm)
      have hwr : hi ≤ wr.heap.size := Nat.le_trans hhi hB.size
      have hcall := copycond_T wr lo hi c hok hwr hlc.1 (fun W hW => ih (sizeL c.inner) (by omega) c.inner (Nat.le_refl _) W lo hi c.h.conds ((condOk_iff.1 hok).2.2.keep (KeepIn.of_below hW hwr)) (Nat.le_trans hwr hW.size) (by omega) hlc.2)
      have Hx := Lib.hid hx
      clear hcell hh hx hok hlc
      go_wp2_with fail
      refine hcall.mono ?_
      rintro e w2 ⟨c', rfl, ok2, be2, hB2⟩
      have hsrc : RowIn 0 (w2.alloc (.cells #[.int .i64 c'.h.kind, .bool c'.h.goal, .string c'.h.id, .slice c'.h.attr.a c'.h.attr.n c'.h.attr.c, .slice c'.h.value.a c'.h.value.n c'.h.value.c, .bool c'.h.acc, .slice c'.h.conds.a c'.h.conds.n c'.h.conds.c] 64)).heap.size 7 condCells (w2.alloc (.cells #[.int .i64 c'.h.kind, .bool c'.h.goal, .string c'.h.id, .slice c'.h.attr.a c'.h.attr.n c'.h.attr.c, .slice c'.h.value.a c'.h.value.n c'.h.value.c, .bool c'.h.acc, .slice c'.h.conds.a c'.h.conds.n c'.h.conds.c] 64)) ⟨some ⟨w2.heap.size, 0, none⟩, 1, 1⟩ [c'] := rowIn_box (heap_alloc_new w2 (.cells #[.int .i64 c'.h.kind, .bool c'.h.goal, .string c'.h.id, .slice c'.h.attr.a c'.h.attr.n c'.h.attr.c, .slice c'.h.value.a c'.h.value.n c'.h.value.c, .bool c'.h.acc, .slice c'.h.conds.a c'.h.conds.n c'.h.conds.c] 64)) (Nat.zero_le _)
      have Hsrc := Lib.hid hsrc
      have Hf := Lib.hid (And.intro ok2 (And.intro be2 hB2))
      clear hsrc ok2 be2 hB2 c0 c1 c2 c3 c4 c5 c6 hcall
      go_wp2_with (at_builtin; refine append_mk condTy rfl _ _ rfl w.heap.size (.slice g l'.length cp0) l' rfl (Hm.out.2.2.2.1.below (Hf.out.2.2.alloc Hf.out.2.2.size _)) 0 _ _ _ _ [c'] rfl Hsrc.out (by simp; omega) (Nat.le_trans hB.size (Nat.le_trans Hf.out.2.2.size (by simp))) ?_; intro g' cc' w4 hM4 hnil hg4 hv4)
      obtain ⟨ok2, be2, hBs⟩ := Hf.out
      have hB3 := hBs.alloc hBs.size (.cells #[.int .i64 c'.h.kind, .bool c'.h.goal, .string c'.h.id, .slice c'.h.attr.a c'.h.attr.n c'.h.attr.c, .slice c'.h.value.a c'.h.value.n c'.h.value.c, .bool c'.h.acc, .slice c'.h.conds.a c'.h.conds.n c'.h.conds.c] 64)
      have hM3 := Hm.out.2.2.2.1.below hB3
      have hK3 := Hm.out.2.2.2.2.below qCond_keep hB3
      have ok4 : CondOk wr.heap.size w2.heap.size (w2.alloc (.cells #[.int .i64 c'.h.kind, .bool c'.h.goal, .string c'.h.id, .slice c'.h.attr.a c'.h.attr.n c'.h.attr.c, .slice c'.h.value.a c'.h.value.n c'.h.value.c, .bool c'.h.acc, .slice c'.h.conds.a c'.h.conds.n c'.h.conds.c] 64)) c' := ok2.keep (KeepIn.of_below (below2 _ _ _) (Nat.le_refl _))
      have hK3' := hK3.snoc hB.size (by simp) ok4 (fun b' hb' => .inl (ownsRow_block Hm.out.2.2.2.1 hb').2)
      have hK4 := hK3'.grow qCond_keep hg4 hv4
      have hB4 := (hB.trans (hB3.mono hB.size)).grown hg4 (Nat.le_trans hB.size hB3.size) (fun k e => (ownsRow_block hM3 e).1)
      have H4 := Lib.hid (And.intro hM4 (And.intro hK4 (And.intro hB4 be2)))
      clear hBs hB3 hM3 hK3 ok4 ok2 be2 hK3' hK4 hB4 hM4 hg4 hv4
      simp only [List.length_cons, List.length_nil, Nat.zero_add] at H4 ⊢
      go_wp2_with fail
      go_roundg (cs.length - (l'.length + 1))
      case measure => rw [Hm.out.1]; omega
      case rel =>
        refine ⟨l'.length + 1, g', cc', l' ++ [c'], by go_num, by go_num, by omega, Lib.hid ⟨rfl, by simp, ?_, H4.out.1, H4.out.2.1⟩, H4.out.2.2.1⟩
        have e1 := Hm.out.2.2.1
        have e2 := H4.out.2.2.2
        rw [bareL_map] at e1 ⊢
        rw [bareL_map] at e1 ⊢
        rw [List.take_add_one, Hx.out, List.map_append, List.map_append, e1]
        simp [e2]
    · have hjl : l'.length = cs.length := by omega
      obtain ⟨-, -, e, hM, hK⟩ := Hm.out
      rw [hjl, List.take_length] at e
      rw [hjl] at hM hK
      have H5 := Lib.hid (And.intro e (And.intro hM hK))
      clear e hM hK
      go_wp2_with fail
      go_ret
      exact ⟨⟨g, cs.length, cp0⟩, rfl, l', conds_of (s := ⟨g, cs.length, cp0⟩) H5.out.2.1 H5.out.2.2, H5.out.1, hB⟩

theorem prod_cells3 {W : World} {b : Nat} {n : ByteArray} {u v : Value} (h : W.heap[b]? = some (.cells #[.string n, u, v] 25 (0, 0))) : W.cell? ⟨b, 0, none⟩ = some (.string n) ∧ W.cell? ⟨b, 1, none⟩ = some u ∧ W.cell? ⟨b, 2, none⟩ = some v := prod_cells h

def bareP (p : ProdV) : ProdV := ⟨p.name, ⟨none, 0, 0⟩, bareL p.cs, ⟨none, 0, 0⟩, p.xs⟩

set_option maxRecDepth 100000 in
set_option maxHeartbeats 3200000 in
theorem copyprod_T (w : World) (lo hi : Nat) (p : ProdV) (h : ProdOk lo hi w p) (hhi : hi ≤ w.heap.size) (hl : Light p) :
    Calls Try.prog 15 #[.agg #[.string p.name, .slice p.conds.a p.conds.n p.conds.c, .slice p.acts.a p.acts.n p.acts.c]] w fun e w' => ∃ q : ProdV, e = .returned (.agg #[.string q.name, .slice q.conds.a q.conds.n q.conds.c, .slice q.acts.a q.acts.n q.acts.c]) ∧ ProdOk w.heap.size w'.heap.size w' q ∧ bareP q = bareP p ∧ Below w.heap.size w w' := by
  obtain ⟨l1, l2, l3, l4⟩ := hl
  have hcc : ∀ W, Below w.heap.size w W → Calls Try.prog 46 #[.slice p.conds.a p.conds.n p.conds.c] W fun e w' => ∃ (s' : SlH) (cs' : List CondV), e = .returned (.slice s'.a s'.n s'.c) ∧ CondsOk W.heap.size w'.heap.size w' s' cs' ∧ bareL cs' = bareL p.cs ∧ Below W.heap.size W w' := fun W hW =>
    copyconds_T _ p.cs (Nat.le_refl _) W lo hi p.conds (h.1.keep (KeepIn.of_below hW hhi)) (Nat.le_trans hhi hW.size) (by omega) l4
  have hca : ∀ W, Below w.heap.size w W → Calls Try.prog 47 #[.slice p.acts.a p.acts.n p.acts.c] W fun e w' => ∃ g c, e = .returned (.slice g p.xs.length c) ∧ RowIn W.heap.size w'.heap.size 19 actCells w' ⟨g, p.xs.length, c⟩ p.xs ∧ Below W.heap.size W w' := fun W hW =>
    copyacts_T W lo hi p.acts p.xs (h.2.keep (KeepIn.of_below hW hhi)) (by omega)
  have Hcc := Lib.hid hcc
  have Hca := Lib.hid hca
  have hB0 : Below w.heap.size w ((w.alloc (.cells #[.string p.name, .slice p.conds.a p.conds.n p.conds.c, .slice p.acts.a p.acts.n p.acts.c] 25)).alloc (.cells #[.string ⟨#[]⟩, .slice none 0 0, .slice none 0 0] 25)) := ((Below.refl _ w).alloc (Nat.le_refl _) _).alloc (by simp) _
  have hb0 : ((w.alloc (.cells #[.string p.name, .slice p.conds.a p.conds.n p.conds.c, .slice p.acts.a p.acts.n p.acts.c] 25)).alloc (.cells #[.string ⟨#[]⟩, .slice none 0 0, .slice none 0 0] 25)).heap[w.heap.size]? = some (.cells #[.string p.name, .slice p.conds.a p.conds.n p.conds.c, .slice p.acts.a p.acts.n p.acts.c] 25 (0, 0)) := (Below.heap_alloc _ _ _ (by simp)).trans (heap_alloc_new w _)
  have hz0 : ((w.alloc (.cells #[.string p.name, .slice p.conds.a p.conds.n p.conds.c, .slice p.acts.a p.acts.n p.acts.c] 25)).alloc (.cells #[.string ⟨#[]⟩, .slice none 0 0, .slice none 0 0] 25)).heap[w.heap.size + 1]? = some (.cells #[.string ⟨#[]⟩, .slice none 0 0, .slice none 0 0] 25 (0, 0)) := by
    have := heap_alloc_new (w.alloc (.cells #[.string p.name, .slice p.conds.a p.conds.n p.conds.c, .slice p.acts.a p.acts.n p.acts.c] 25)) (.cells #[.string ⟨#[]⟩, .slice none 0 0, .slice none 0 0] 25)
    simpa using this
  clear hcc hca h l1 l2 l3 l4
  have hne : ¬ (w.heap.size + 1 = w.heap.size) := by omega
  go_enter Try.func15, Try.ntmps15
  go_wp2_with fail
  generalize ((w.alloc (.cells #[.string p.name, .slice p.conds.a p.conds.n p.conds.c, .slice p.acts.a p.acts.n p.acts.c] 25)).alloc (.cells #[.string ⟨#[]⟩, .slice none 0 0, .slice none 0 0] 25)) = W0 at hB0 hb0 hz0 ⊢
  have hBd : Below w.heap.size w W0.drew := hB0.drew
  have hbd : W0.drew.heap[w.heap.size]? = some (.cells #[.string p.name, .slice p.conds.a p.conds.n p.conds.c, .slice p.acts.a p.acts.n p.acts.c] 25 (0, 0)) := hb0
  have hzd : W0.drew.heap[w.heap.size + 1]? = some (.cells #[.string ⟨#[]⟩, .slice none 0 0, .slice none 0 0] 25 (0, 0)) := hz0
  have hlo1 : w.heap.size + 2 ≤ W0.drew.heap.size := lt_of_block hzd
  have hS0 := prod_cells3 hbd
  go_region_held3 (fun W => W.cell? ⟨w.heap.size, 0, none⟩ = some (.string p.name) ∧ W.cell? ⟨w.heap.size, 1, none⟩ = some (.slice p.conds.a p.conds.n p.conds.c) ∧ W.cell? ⟨w.heap.size, 2, none⟩ = some (.slice p.acts.a p.acts.n p.acts.c))
    (first | go_keep | assumption)
    (first
      | ((with_reducible refine (Hcc.out W0.drew hBd).mono ?_); rintro e w1 ⟨s1, cs1, rfl, ok1, be1, hB1⟩; have hb1 := (hB1.block _ (lt_of_block hbd)).trans hbd; have hz1 := (hB1.block _ (lt_of_block hzd)).trans hzd; have hC1 := hBd.trans (hB1.mono hBd.size); have hS1 := prod_cells3 hb1)
      | ((with_reducible refine (Hca.out w1 hC1).mono ?_); rintro e w2 ⟨g2, c2, rfl, ok2, hB2⟩; have hb2 := (hB2.block _ (lt_of_block hb1)).trans hb1; have hz2 := (hB2.block _ (lt_of_block hz1)).trans hz1; have hC2 := hC1.trans (hB2.mono hC1.size); have hS2 := prod_cells3 hb2; obtain ⟨z0, z1, z2, y0, y1, y2⟩ := row3_cells hz2)
      | fail "no arm")
  go_wp2_with fail
  have hz3 := set3 hz2 (.string p.name) (.slice s1.a s1.n s1.c) (.slice g2 p.xs.length c2)
  have Hz3 := Lib.hid hz3
  have hz3 := Hz3.out
  have hbt := (((But.refl (w.heap.size + 1) w2).setCell 0 (.string p.name)).setCell 1 (.slice s1.a s1.n s1.c)).setCell 2 (.slice g2 p.xs.length c2)
  have hfin := V.below_but hC2 hbt (Nat.le_succ _) hC2.size
  obtain ⟨t0, t1, t2, -⟩ := row3_cells hz3
  have s1z := hB1.size
  have s2z := hB2.size
  have hsz : (((w2.setCell ⟨w.heap.size + 1, 0, none⟩ (.string p.name)).setCell ⟨w.heap.size + 1, 1, none⟩ (.slice s1.a s1.n s1.c)).setCell ⟨w.heap.size + 1, 2, none⟩ (.slice g2 p.xs.length c2)).heap.size = w2.heap.size := by simp [World.setCell]
  have kb : ∀ lo hi, w.heap.size + 2 ≤ lo → hi ≤ w2.heap.size → KeepIn lo hi w2 (((w2.setCell ⟨w.heap.size + 1, 0, none⟩ (.string p.name)).setCell ⟨w.heap.size + 1, 1, none⟩ (.slice s1.a s1.n s1.c)).setCell ⟨w.heap.size + 1, 2, none⟩ (.slice g2 p.xs.length c2)) := fun lo hi h1 h2 b' c' T' f' g1 g2 hh => (hbt.block b' (by omega) (by omega)).trans hh
  refine bodyPost_ret (v := .agg #[.string p.name, .slice s1.a s1.n s1.c, .slice g2 p.xs.length c2]) (by simp [results, Try.results15, go_sem, t0, t1, t2]) rfl ?_
  refine ⟨⟨p.name, s1, cs1, ⟨g2, p.xs.length, c2⟩, p.xs⟩, rfl, ?_, ?_, hfin⟩
  · rw [hsz]
    refine ⟨?_, ?_⟩
    · have h1 := (ok1.keep (KeepIn.of_below hB2 (Nat.le_refl _))).keep (kb _ _ (by omega) (by omega))
      exact ⟨h1.1.widen (by omega) (by omega), condOkL_widen (by omega) (by omega) _ _ (Nat.le_refl _) h1.2⟩
    · exact (RowIn.keep ok2 (kb _ _ (by omega) (by omega))).widen (by omega) (by omega)
  · simp only [bareP]
    rw [be1]

end Go.Proofs.Ytmnpcpgdhaplaaa
