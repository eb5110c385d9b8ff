/- What the statements' own met answers. Conditions: what it is given lies in memory; at most 10000 names, 40000 tests. -/
import Derived.Test.YtmnpcpgdhaplaaaMg29
import Derived.Test.YtmnpcpgdhaplaaaKeepCopy
import Derived.Test.YtmnpcpgdhaplaaaMg16
namespace Go.Proofs.Ytmnpcpgdhaplaaa
open Go Go.RowKit

theorem meetH_eq (K : List ByteArray) (h : CondH) : meetH K h = if knowsB K h.id then meetTs K (h.attrs ++ h.values) else if h.goal then meetTs (K ++ [h.id]) (h.attrs ++ h.values) else (K, false) := by
  have hk : knowsB (K ++ [h.id]) h.id = true := knowsB_iff.2 (by simp)
  unfold meetH learn
  rw [meetTs_append, meetTs_append]
  cases hg : h.goal <;> cases h1 : knowsB K h.id <;> simp [h1, hk]

/-- A row of tests that lies elsewhere. -/
def QL (s : SlH) (ts : List TestV) (lo hi : Nat) (W : World) (_ : Unit) : Prop := RowIn lo hi 6 testCells W s ts
theorem qL_keep (s : SlH) (ts : List TestV) : ∀ lo hi W W' x, QL s ts lo hi W x → KeepIn lo hi W W' → QL s ts lo hi W' x := fun _ _ _ _ _ h k => RowIn.keep h k

/-- What met answers. -/
def MetOut (B : Nat) (w' : World) (r : List ByteArray × Bool) (e : Ending) : Prop := (r.2 = true ∧ ∃ g cap, e = .returned (.tuple #[.slice g r.1.length cap, .bool true]) ∧ RowIn B w'.heap.size 1 strCells w' ⟨g, r.1.length, cap⟩ r.1) ∨ (r.2 = false ∧ e = .returned (.tuple #[.slice none 0 0, .bool false]))
theorem MetOut.no {B : Nat} {w' : World} {r : List ByteArray × Bool} {e : Ending} (h : r.2 = false) (he : e = .returned (.tuple #[.slice none 0 0, .bool false])) : MetOut B w' r e := .inr ⟨h, he⟩
theorem MetOut.yes {B : Nat} {w' : World} {r : List ByteArray × Bool} {e : Ending} {g : Option Addr} {cap : Nat} {K' : List ByteArray} (h : r = (K', true)) (he : e = .returned (.tuple #[.slice g K'.length cap, .bool true])) (hr : RowIn B w'.heap.size 1 strCells w' ⟨g, K'.length, cap⟩ K') : MetOut B w' r e := by
  subst h
  exact .inl ⟨rfl, g, cap, he, hr⟩

theorem step_append_nil {α : Type} {cells : α → List Value} {T t : TypeId} {k bytes : Nat} {z : Value} (hT : RowTy cells T t k bytes z) {w : World} {ops : Array Oper} {o : Oper} {a : Act} {K : Act → World → Prop} {Q : Exit → Act → World → Prop} {E : Prop} (hgd : o.guard = none) (s x : Operand)
    (ho : o.op = .call { callee := .builtin .append, args := #[s, x], argTypes := #[t, t] })
    (B : Nat) (hs : a.eval s = .slice none 0 0) (lo hi : Nat) (p : Option Addr) (m c : Nat) (ys : List α) (hx : a.eval x = .slice p m c) (hsrc : RowIn lo hi k cells w ⟨p, m, c⟩ ys)
    (hlen : ys.length ≤ 100000) (hbase : B ≤ w.heap.size)
    (h : ∀ g cap w', Mk cells T k B w' (.slice g ys.length cap) ys → w.grownBy w' none → K (a.put o.dst (.slice g ys.length cap)) w') :
    if Region.wanted o (yielded ops a.tmps) = true then Oper.wp Try.prog o a w K Q else E := by
  refine step_append_mk hT hgd s x ho B (.slice none 0 0) [] hs Mk.nil lo hi p m c ys hx hsrc (by simpa using hlen) hbase ?_
  intro g cap w' h1 h2 h3
  rw [List.nil_append] at h1
  simp only [List.length_nil, Nat.zero_add] at h1 h3 ⊢
  exact h g cap w' h1 h2

set_option pp.deepTerms true
set_option pp.maxSteps 1000000
set_option maxRecDepth 100000 in
set_option maxHeartbeats 6400000 in
theorem refmet_T (w : World) (lo hi lk hk : Nat) (c : CondV) (s : SlH) (K : List ByteArray) (h : CondOk lo hi w c) (hhi : hi ≤ w.heap.size) (hK : RowIn lk hk 1 strCells w s K) (hhk : hk ≤ w.heap.size) (hl : K.length ≤ 10000) (hl1 : c.h.attrs.length ≤ 20000) (hl2 : c.h.values.length ≤ 20000) :
    Calls Try.prog 78 #[.agg #[.int .i64 c.h.kind, .bool c.h.goal, .string c.h.id, .slice c.h.attr.a c.h.attr.n c.h.attr.c, .slice c.h.value.a c.h.value.n c.h.value.c, .bool c.h.acc, .slice c.h.conds.a c.h.conds.n c.h.conds.c], .slice s.a s.n s.c] w fun e w' => MetOut w.heap.size w' (meetH K c.h) e ∧ Below w.heap.size w w' := by
  obtain ⟨oka, okv, -⟩ := condOk_iff.1 h
  have Hat : Hid (∀ W, Below w.heap.size w W → TestsOk lo hi W ⟨c.h.attr.a, c.h.attr.n, c.h.attr.c⟩ c.h.attrs) := Lib.hid fun W hW => oka.keep (KeepIn.of_below hW hhi)
  have Hvt : Hid (∀ W, Below w.heap.size w W → TestsOk lo hi W ⟨c.h.value.a, c.h.value.n, c.h.value.c⟩ c.h.values) := Lib.hid fun W hW => okv.keep (KeepIn.of_below hW hhi)
  have hB0 : Below w.heap.size w (w.alloc (.cells #[.int .i64 c.h.kind, .bool c.h.goal, .string c.h.id, .slice c.h.attr.a c.h.attr.n c.h.attr.c, .slice c.h.value.a c.h.value.n c.h.value.c, .bool c.h.acc, .slice c.h.conds.a c.h.conds.n c.h.conds.c] 64)) := below2 _ _ _
  have hb0 := heap_alloc_new w (.cells #[.int .i64 c.h.kind, .bool c.h.goal, .string c.h.id, .slice c.h.attr.a c.h.attr.n c.h.attr.c, .slice c.h.value.a c.h.value.n c.h.value.c, .bool c.h.acc, .slice c.h.conds.a c.h.conds.n c.h.conds.c] 64)
  have hK0 := hK.keep (KeepIn.of_below hB0 hhk)
  obtain ⟨sa, sn, sc⟩ := s
  obtain rfl : sn = K.length := hK.1
  have HK0 := Lib.hid hK0
  clear h oka okv hK hK0
  go_enter Try.func78, Try.ntmps78
  go_wp2_with (at_builtin; refine append_mk strTy rfl _ _ rfl (w.heap.size + 1) (.slice none 0 0) [] rfl Mk.nil lk hk _ _ _ K rfl HK0.out (by simp; omega) (by simp) ?_; intro g cap W1 hM1 hnil hg1 hv1; rw [List.nil_append] at hM1; simp only [List.length_nil, Nat.zero_add] at hM1 hv1 ⊢; have hB1 : Below w.heap.size w W1 := hB0.grown hg1 hB0.size (fun k e => by cases e); have hb1 : W1.heap[w.heap.size]? = _ := (hg1.block _ (by simp) (fun e => by cases e)).trans hb0; obtain ⟨⟨-, m1, m2, -, -, -, -⟩, -⟩ := row7_all hb1)
  refine (refhas_T W1 _ _ ⟨g, K.length, cap⟩ K c.h.id (Mk.row (s := ⟨g, K.length, cap⟩) strTy.len hM1) (by omega)).mono ?_
  rintro e w1' ⟨rfl, hw⟩
  obtain rfl := hw
  clear hg1 hv1 hnil
  cases hkn : knowsB K c.h.id
  case true =>
    have Hkn := Lib.hid hkn
    have HX : meetH K c.h = meetTs K (c.h.attrs ++ c.h.values) := by rw [meetH_eq, hkn]; rfl
    have hHX := Lib.hid HX
    clear hkn HX
    have hta : RowIn lo hi 6 testCells w1'.drew ⟨c.h.attr.a, c.h.attr.n, c.h.attr.c⟩ c.h.attrs := RowIn.keep (Hat.out w1' hB1).1 (fun _ _ _ _ _ _ h => h)
    have hlo1 : w.heap.size < w1'.heap.size := lt_of_block hb1
    obtain ⟨⟨-, -, -, m3, m4, -, -⟩, -⟩ := row7_all hb1
    have Hk1 := Lib.hid hM1
    have hsz1 : w1'.drew.heap.size = w1'.heap.size := rfl
    go_wp2_with fail
    go_region_held3 (fun W => W.cell? ⟨w.heap.size, 3, none⟩ = some (.slice c.h.attr.a c.h.attr.n c.h.attr.c) ∧ W.cell? ⟨w.heap.size, 4, none⟩ = some (.slice c.h.value.a c.h.value.n c.h.value.c))
      (first | go_keep | assumption)
      (first
        | (refine step_append_nil testTy rfl _ _ rfl w1'.heap.size rfl lo hi _ _ _ c.h.attrs rfl hta (by omega) (Nat.le_refl _) ?_; intro g1 c1 w2 hM2 hg2; have hD2 : Below w1'.heap.size w1' w2 := ((Below.refl w1'.heap.size w1').drew).grown hg2 (Nat.le_refl _) (fun k e => by cases e); have hb2 := (hD2.block _ hlo1).trans hb1; have hS2 : w2.cell? ⟨w.heap.size, 3, none⟩ = some (.slice c.h.attr.a c.h.attr.n c.h.attr.c) ∧ w2.cell? ⟨w.heap.size, 4, none⟩ = some (.slice c.h.value.a c.h.value.n c.h.value.c) := ⟨(row7_all hb2).1.2.2.2.1, (row7_all hb2).1.2.2.2.2.1⟩)
        | (refine step_append_mk testTy rfl _ _ rfl w1'.heap.size (.slice g1 c.h.attrs.length c1) c.h.attrs rfl hM2 lo hi _ _ _ c.h.values rfl (Hvt.out w2 (hB1.trans (hD2.mono hB1.size))).1 (by omega) hD2.size ?_; intro g2 c2 w3 hM3 hg3 hv3; have hD3 : Below w1'.heap.size w1' w3 := hD2.grown hg3 hD2.size (fun k e => (ownsRow_block hM2 e).1); have hb3 := (hD3.block _ hlo1).trans hb1; have hS3 : w3.cell? ⟨w.heap.size, 3, none⟩ = some (.slice c.h.attr.a c.h.attr.n c.h.attr.c) ∧ w3.cell? ⟨w.heap.size, 4, none⟩ = some (.slice c.h.value.a c.h.value.n c.h.value.c) := ⟨(row7_all hb3).1.2.2.2.1, (row7_all hb3).1.2.2.2.2.1⟩)
        | fail "no arm")
    obtain ⟨ts, hts⟩ : ∃ ts, ts = c.h.attrs ++ c.h.values := ⟨_, rfl⟩
    have hlen : c.h.attrs.length + c.h.values.length = ts.length := by rw [hts, List.length_append]
    rw [hlen] at hM3 ⊢
    rw [← hts] at hM3
    have hrow3 := Mk.row (s := ⟨g2, ts.length, c2⟩) testTy.len hM3
    have hMk3 := Hk1.out.below hD3
    have hKid3 : Kids (QL ⟨g2, ts.length, c2⟩ ts) w.heap.size w3 (.slice g K.length cap) [()] := fun x _ => ⟨w1'.heap.size, w3.heap.size, by omega, Nat.le_refl _, hrow3, fun b hb => .inl (ownsRow_block Hk1.out hb).2⟩
    have hB3 := hB1.trans (hD3.mono hB1.size)
    have hsw1' := hD3.size
    have Hts := Lib.hid hts
    have hts20 : ts.length ≤ 40000 := by omega
    have H3 := Lib.hid (And.intro hMk3 hKid3)
    clear hrow3 hMk3 hKid3 hM3 hg3 hv3 hM2 hg2 hS2 hS3 hb2 hb3 hD2 m3 m4 hta hlen hts
    go_wp2_with fail
    go_loopg [6, 8] ts.length (fun k ov iv wr => ∃ (j : Nat) (g : Option Addr) (cap : Nat) (Kj : List ByteArray), ov = .slice g Kj.length cap ∧ iv = .int .i64 j ∧ j ≤ ts.length ∧ Kj.length ≤ 10001 + j ∧ Hid (k = ts.length - j ∧ meetTs K (ts.take j) = (Kj, true) ∧ Mk strCells 9 1 (w.heap.size + 1) wr (.slice g Kj.length cap) Kj ∧ Kids (QL ⟨g2, ts.length, c2⟩ ts) w.heap.size wr (.slice g Kj.length cap) [()]) ∧ Below w.heap.size w wr ∧ w3.heap.size ≤ wr.heap.size)
    case atStart => exact ⟨0, g, cap, K, rfl, rfl, by omega, by simp; omega, Lib.hid ⟨rfl, rfl, H3.out.1, H3.out.2⟩, hB3, Nat.le_refl _⟩
    case round =>
      obtain ⟨j, g, cap, Kj, rfl, rfl, hj, hKl, Hm, hBr, hBrs⟩ := hrel
      by_cases hlt : j < ts.length
      · obtain ⟨t, hx⟩ : ∃ t, ts[j]? = some t := ⟨ts[j], by simp [hlt]⟩
        obtain ⟨l', h', -, -, hrow, -⟩ := Hm.out.2.2.2 () (by simp)
        obtain ⟨b1, o1, -, -, hs1, hc1⟩ := hrow.at hx
        replace hs1 : g2 = some ⟨b1, o1, none⟩ := hs1
        subst hs1
        have c0 : wr.cell? ⟨b1, o1 + j * 6, none⟩ = _ := hc1 0 _ rfl
        have c1 := hc1 1 _ rfl
        have hst : ∀ r, meetTs Kj [t] = r → meetTs K (ts.take (j + 1)) = r := fun r hr => by rw [List.take_add_one, hx, Option.toList_some, meetTs_append, Hm.out.2.1, if_pos rfl]; exact hr
        have Hst := Lib.hid hst
        have Hx := Lib.hid hx
        have hhas := refhas_T wr _ _ ⟨g, Kj.length, cap⟩ Kj t.var (Mk.row (s := ⟨g, Kj.length, cap⟩) strTy.len Hm.out.2.2.1) (by omega)
        clear hc1 hx hst hrow
        cases he : t.var.toList.isEmpty
        case true =>
          have he2 : t.var.toList = [] := by simpa using he
          have Hn : Hid (meetTs K (ts.take (j + 1)) = (Kj, true)) := Lib.hid (Hst.out _ (by simp [meetTs, allowsB, he]))
          clear he
          go_wp2_with fail
          go_roundg (ts.length - (j + 1))
          case measure => rw [Hm.out.1]; omega
          case rel => exact ⟨j + 1, g, cap, Kj, rfl, by go_num, by omega, by omega, Lib.hid ⟨rfl, Hn.out, Hm.out.2.2.1, Hm.out.2.2.2⟩, hBr, hBrs⟩
        have He := Lib.hid he
        have he2 : ¬ t.var.toList = [] := by intro h; rw [h] at he; cases he
        go_wp2_with fail
        refine hhas.mono ?_
        rintro e w4 ⟨rfl, rfl⟩
        cases hk : knowsB Kj t.var
        case true =>
          have Hn : Hid (meetTs K (ts.take (j + 1)) = (Kj, true)) := Lib.hid (Hst.out _ (by simp [meetTs, allowsB, learn, hk]))
          clear hk
          go_wp2_with fail
          go_roundg (ts.length - (j + 1))
          case measure => rw [Hm.out.1]; omega
          case rel => exact ⟨j + 1, g, cap, Kj, rfl, by go_num, by omega, by omega, Lib.hid ⟨rfl, Hn.out, Hm.out.2.2.1, Hm.out.2.2.2⟩, hBr, hBrs⟩
        by_cases hr : t.rel = 1
        case neg =>
          have f1 : (t.rel == 1) = false := by simp [hr]
          have f2 : (t.rel = 1) = False := eq_false hr
          have Hn : Hid ((meetTs K (ts.take (j + 1))).2 = false) := Lib.hid (by rw [Hst.out _ rfl]; simp [meetTs, allowsB, He.out, hk, f1])
          clear hr hk
          go_wp2_with fail
          go_ret2
          refine ⟨MetOut.no ?_ rfl, hBr⟩
          rw [hHX.out, ← Hts.out, ← List.take_append_drop (j + 1) ts, meetTs_append, Hn.out]
          simp [Hn.out]
        have f1 : (t.rel == 1) = true := by simp [hr]
        have Hn : Hid (meetTs K (ts.take (j + 1)) = (Kj ++ [t.var], true)) := Lib.hid (Hst.out _ (by rw [meetTs_one, show stepK Kj t = Kj ++ [t.var] by simp [stepK, learn, hk, f1, He.out]]; simp [allowsB, knowsB_iff.2 (show t.var ∈ Kj ++ [t.var] by simp)]))
        have hsrc : RowIn 0 (w4.alloc (.cells #[.string t.var] 9)).heap.size 1 strCells (w4.alloc (.cells #[.string t.var] 9)) ⟨some ⟨w4.heap.size, 0, none⟩, 1, 1⟩ [t.var] := rowIn_box (heap_alloc_new w4 (.cells #[.string t.var] 9)) (Nat.zero_le _)
        have Hsrc := Lib.hid hsrc
        have hsz4 : w.heap.size + 1 ≤ w4.heap.size := Nat.le_trans (Nat.le_trans hlo1 hsw1') hBrs
        clear hr hk hsrc
        go_wp2_with (at_builtin; refine append_mk strTy rfl _ _ rfl (w.heap.size + 1) (.slice g Kj.length cap) Kj rfl (Hm.out.2.2.1.below (below2 _ _ _)) 0 _ _ _ _ [t.var] rfl Hsrc.out (by simp; omega) (Nat.le_trans hsz4 (by simp)) ?_; intro g' cap' w5 hM5 hnil5 hg5 hv5)
        have hMa := Hm.out.2.2.1.below (below2 w4 #[.string t.var] 9)
        have hKa := Kids.below (qL_keep _ _) Hm.out.2.2.2 (below2 w4 #[.string t.var] 9)
        have hK5 := Kids.grow (qL_keep _ _) hKa hg5 hv5
        have hB5 := (hBr.trans ((below2 w4 #[.string t.var] 9).mono hBr.size)).grown hg5 (Nat.le_trans hBr.size (by simp)) (fun k e => Nat.le_of_succ_le (ownsRow_block hMa e).1)
        have H5 := Lib.hid (And.intro hM5 hK5)
        have hsz5 : w4.heap.size ≤ w5.heap.size := Nat.le_trans (by simp) hg5.size
        clear hMa hKa hK5 hM5 hg5 hv5
        simp only [List.length_cons, List.length_nil, Nat.zero_add] at H5 ⊢
        go_wp2_with fail
        go_roundg (ts.length - (j + 1))
        case measure => rw [Hm.out.1]; omega
        case rel => exact ⟨j + 1, g', cap', Kj ++ [t.var], by simp, by go_num, by omega, by simp; omega, Lib.hid ⟨rfl, Hn.out, by simpa using H5.out.1, by simpa using H5.out.2⟩, hB5, Nat.le_trans hBrs hsz5⟩
      · obtain rfl : j = ts.length := by omega
        have Hn : Hid (meetTs K ts = (Kj, true)) := Lib.hid (by have := Hm.out.2.1; rwa [List.take_length] at this)
        go_wp2_with fail
        go_ret2
        refine ⟨MetOut.yes (g := g) (cap := cap) (K' := Kj) ?_ rfl (Mk.row (s := ⟨g, Kj.length, cap⟩) strTy.len Hm.out.2.2.1 |>.widen (Nat.le_succ _) (Nat.le_refl _)), hBr⟩
        rw [hHX.out, ← Hts.out, Hn.out]
  case false =>
  have Hkn := Lib.hid hkn
  cases hgo : c.h.goal
  case false =>
    have HX : meetH K c.h = (K, false) := by rw [meetH_eq, hkn, hgo]; rfl
    have hHX := Lib.hid HX
    rw [hgo] at m1
    clear hkn HX
    go_wp2_with fail
    go_ret2
    exact ⟨MetOut.no (by rw [hHX.out]) rfl, hB1⟩
  case true =>
    have HX : meetH K c.h = meetTs (K ++ [c.h.id]) (c.h.attrs ++ c.h.values) := by rw [meetH_eq, hkn, hgo]; rfl
    have hHX := Lib.hid HX
    rw [hgo] at m1
    have Hgo := Lib.hid hgo
    have hsrc : RowIn 0 (w1'.alloc (.cells #[.string c.h.id] 9)).heap.size 1 strCells (w1'.alloc (.cells #[.string c.h.id] 9)) ⟨some ⟨w1'.heap.size, 0, none⟩, 1, 1⟩ [c.h.id] := rowIn_box (heap_alloc_new w1' (.cells #[.string c.h.id] 9)) (Nat.zero_le _)
    have Hsrc := Lib.hid hsrc
    have HMa := Lib.hid (hM1.below (below2 w1' #[.string c.h.id] 9))
    clear hkn HX hsrc hgo
    go_wp2_with (at_builtin; refine append_mk strTy rfl _ _ rfl (w.heap.size + 1) (.slice g K.length cap) K rfl HMa.out 0 _ _ _ _ [c.h.id] rfl Hsrc.out (by simp; omega) (by simp; have := lt_of_block hb1; omega) ?_; intro g' cap' W1 hM5 hnil5 hg5 hv5)
    have hBa := hB1.trans ((below2 w1' #[.string c.h.id] 9).mono hB1.size)
    have hB1' := hBa.grown hg5 (Nat.le_trans hB1.size (by simp)) (fun k e => Nat.le_of_succ_le (ownsRow_block HMa.out e).1)
    have hb1' : W1.heap[w.heap.size]? = some (.cells #[.int .i64 c.h.kind, .bool c.h.goal, .string c.h.id, .slice c.h.attr.a c.h.attr.n c.h.attr.c, .slice c.h.value.a c.h.value.n c.h.value.c, .bool c.h.acc, .slice c.h.conds.a c.h.conds.n c.h.conds.c] 64 (0, 0)) := (hg5.block _ (by simp; exact Nat.lt_succ_of_lt (lt_of_block hb1)) (fun e => by have := (ownsRow_block HMa.out e.symm).1; omega)).trans (((below2 w1' #[.string c.h.id] 9).block _ (lt_of_block hb1)).trans hb1)
    obtain ⟨K1, hK1⟩ : ∃ K1, K1 = K ++ [c.h.id] := ⟨_, rfl⟩
    have hK1l : K1.length ≤ 10001 := by rw [hK1]; simp; omega
    have hKn : K.length + [c.h.id].length = K1.length := by rw [hK1, List.length_append]
    have hKn' : K.length + 1 = K1.length := hKn
    have hM5' : Mk strCells 9 1 (w.heap.size + 1) W1 (.slice g' K1.length cap') K1 := by rw [← hKn, hK1]; exact hM5
    have hHX' : Hid (meetH K c.h = meetTs K1 (c.h.attrs ++ c.h.values)) := Lib.hid (by rw [hK1]; exact hHX.out)
    rw [hKn']
    clear hKn hKn' hM5 hg5 hv5 hnil5 hM1 hb1 hB1 hBa hHX hK1 m1 m2
    have hta : RowIn lo hi 6 testCells W1.drew ⟨c.h.attr.a, c.h.attr.n, c.h.attr.c⟩ c.h.attrs := RowIn.keep (Hat.out W1 hB1').1 (fun _ _ _ _ _ _ h => h)
    have hlo1 : w.heap.size < W1.heap.size := lt_of_block hb1'
    obtain ⟨⟨-, -, -, m3, m4, -, -⟩, -⟩ := row7_all hb1'
    have Hk1 := Lib.hid hM5'
    have hsz1 : W1.drew.heap.size = W1.heap.size := rfl
    go_wp2_with fail
    go_region_held3 (fun W => W.cell? ⟨w.heap.size, 3, none⟩ = some (.slice c.h.attr.a c.h.attr.n c.h.attr.c) ∧ W.cell? ⟨w.heap.size, 4, none⟩ = some (.slice c.h.value.a c.h.value.n c.h.value.c))
      (first | go_keep | assumption)
      (first
        | (refine step_append_nil testTy rfl _ _ rfl W1.heap.size rfl lo hi _ _ _ c.h.attrs rfl hta (by omega) (Nat.le_refl _) ?_; intro g1 c1 w2 hM2 hg2; have hD2 : Below W1.heap.size W1 w2 := ((Below.refl W1.heap.size W1).drew).grown hg2 (Nat.le_refl _) (fun k e => by cases e); have hb2 := (hD2.block _ hlo1).trans hb1'; have hS2 : w2.cell? ⟨w.heap.size, 3, none⟩ = some (.slice c.h.attr.a c.h.attr.n c.h.attr.c) ∧ w2.cell? ⟨w.heap.size, 4, none⟩ = some (.slice c.h.value.a c.h.value.n c.h.value.c) := ⟨(row7_all hb2).1.2.2.2.1, (row7_all hb2).1.2.2.2.2.1⟩)
        | (refine step_append_mk testTy rfl _ _ rfl W1.heap.size (.slice g1 c.h.attrs.length c1) c.h.attrs rfl hM2 lo hi _ _ _ c.h.values rfl (Hvt.out w2 (hB1'.trans (hD2.mono hB1'.size))).1 (by omega) hD2.size ?_; intro g2 c2 w3 hM3 hg3 hv3; have hD3 : Below W1.heap.size W1 w3 := hD2.grown hg3 hD2.size (fun k e => (ownsRow_block hM2 e).1); have hb3 := (hD3.block _ hlo1).trans hb1'; have hS3 : w3.cell? ⟨w.heap.size, 3, none⟩ = some (.slice c.h.attr.a c.h.attr.n c.h.attr.c) ∧ w3.cell? ⟨w.heap.size, 4, none⟩ = some (.slice c.h.value.a c.h.value.n c.h.value.c) := ⟨(row7_all hb3).1.2.2.2.1, (row7_all hb3).1.2.2.2.2.1⟩)
        | fail "no arm")
    obtain ⟨ts, hts⟩ : ∃ ts, ts = c.h.attrs ++ c.h.values := ⟨_, rfl⟩
    have hlen : c.h.attrs.length + c.h.values.length = ts.length := by rw [hts, List.length_append]
    rw [hlen] at hM3 ⊢
    rw [← hts] at hM3
    have hrow3 := Mk.row (s := ⟨g2, ts.length, c2⟩) testTy.len hM3
    have hMk3 := Hk1.out.below hD3
    have hKid3 : Kids (QL ⟨g2, ts.length, c2⟩ ts) w.heap.size w3 (.slice g' K1.length cap') [()] := fun x _ => ⟨W1.heap.size, w3.heap.size, by omega, Nat.le_refl _, hrow3, fun b hb => .inl (ownsRow_block Hk1.out hb).2⟩
    have hB3 := hB1'.trans (hD3.mono hB1'.size)
    have hsW1 := hD3.size
    have Hts := Lib.hid hts
    have hts20 : ts.length ≤ 40000 := by omega
    have H3 := Lib.hid (And.intro hMk3 hKid3)
    clear hrow3 hMk3 hKid3 hM3 hg3 hv3 hM2 hg2 hS2 hS3 hb2 hb3 hD2 m3 m4 hta hlen hts
    go_wp2_with fail
    go_loopg [6, 8] ts.length (fun k ov iv wr => ∃ (j : Nat) (g : Option Addr) (cap : Nat) (Kj : List ByteArray), ov = .slice g Kj.length cap ∧ iv = .int .i64 j ∧ j ≤ ts.length ∧ Kj.length ≤ 10001 + j ∧ Hid (k = ts.length - j ∧ meetTs K1 (ts.take j) = (Kj, true) ∧ Mk strCells 9 1 (w.heap.size + 1) wr (.slice g Kj.length cap) Kj ∧ Kids (QL ⟨g2, ts.length, c2⟩ ts) w.heap.size wr (.slice g Kj.length cap) [()]) ∧ Below w.heap.size w wr ∧ w3.heap.size ≤ wr.heap.size)
    case atStart => exact ⟨0, g', cap', K1, rfl, rfl, by omega, by simp; omega, Lib.hid ⟨rfl, rfl, H3.out.1, H3.out.2⟩, hB3, Nat.le_refl _⟩
    case round =>
      obtain ⟨j, g, cap, Kj, rfl, rfl, hj, hKl, Hm, hBr, hBrs⟩ := hrel
      by_cases hlt : j < ts.length
      · obtain ⟨t, hx⟩ : ∃ t, ts[j]? = some t := ⟨ts[j], by simp [hlt]⟩
        obtain ⟨l', h', -, -, hrow, -⟩ := Hm.out.2.2.2 () (by simp)
        obtain ⟨b1, o1, -, -, hs1, hc1⟩ := hrow.at hx
        replace hs1 : g2 = some ⟨b1, o1, none⟩ := hs1
        subst hs1
        have c0 : wr.cell? ⟨b1, o1 + j * 6, none⟩ = _ := hc1 0 _ rfl
        have c1 := hc1 1 _ rfl
        have hst : ∀ r, meetTs Kj [t] = r → meetTs K1 (ts.take (j + 1)) = r := fun r hr => by rw [List.take_add_one, hx, Option.toList_some, meetTs_append, Hm.out.2.1, if_pos rfl]; exact hr
        have Hst := Lib.hid hst
        have Hx := Lib.hid hx
        have hhas := refhas_T wr _ _ ⟨g, Kj.length, cap⟩ Kj t.var (Mk.row (s := ⟨g, Kj.length, cap⟩) strTy.len Hm.out.2.2.1) (by omega)
        clear hc1 hx hst hrow
        cases he : t.var.toList.isEmpty
        case true =>
          have he2 : t.var.toList = [] := by simpa using he
          have Hn : Hid (meetTs K1 (ts.take (j + 1)) = (Kj, true)) := Lib.hid (Hst.out _ (by simp [meetTs, allowsB, he]))
          clear he
          go_wp2_with fail
          go_roundg (ts.length - (j + 1))
          case measure => rw [Hm.out.1]; omega
          case rel => exact ⟨j + 1, g, cap, Kj, rfl, by go_num, by omega, by omega, Lib.hid ⟨rfl, Hn.out, Hm.out.2.2.1, Hm.out.2.2.2⟩, hBr, hBrs⟩
        have He := Lib.hid he
        have he2 : ¬ t.var.toList = [] := by intro h; rw [h] at he; cases he
        go_wp2_with fail
        refine hhas.mono ?_
        rintro e w4 ⟨rfl, rfl⟩
        cases hk : knowsB Kj t.var
        case true =>
          have Hn : Hid (meetTs K1 (ts.take (j + 1)) = (Kj, true)) := Lib.hid (Hst.out _ (by simp [meetTs, allowsB, learn, hk]))
          clear hk
          go_wp2_with fail
          go_roundg (ts.length - (j + 1))
          case measure => rw [Hm.out.1]; omega
          case rel => exact ⟨j + 1, g, cap, Kj, rfl, by go_num, by omega, by omega, Lib.hid ⟨rfl, Hn.out, Hm.out.2.2.1, Hm.out.2.2.2⟩, hBr, hBrs⟩
        by_cases hr : t.rel = 1
        case neg =>
          have f1 : (t.rel == 1) = false := by simp [hr]
          have f2 : (t.rel = 1) = False := eq_false hr
          have Hn : Hid ((meetTs K1 (ts.take (j + 1))).2 = false) := Lib.hid (by rw [Hst.out _ rfl]; simp [meetTs, allowsB, He.out, hk, f1])
          clear hr hk
          go_wp2_with fail
          go_ret2
          refine ⟨MetOut.no ?_ rfl, hBr⟩
          rw [hHX'.out, ← Hts.out, ← List.take_append_drop (j + 1) ts, meetTs_append, Hn.out]
          simp [Hn.out]
        have f1 : (t.rel == 1) = true := by simp [hr]
        have Hn : Hid (meetTs K1 (ts.take (j + 1)) = (Kj ++ [t.var], true)) := Lib.hid (Hst.out _ (by rw [meetTs_one, show stepK Kj t = Kj ++ [t.var] by simp [stepK, learn, hk, f1, He.out]]; simp [allowsB, knowsB_iff.2 (show t.var ∈ Kj ++ [t.var] by simp)]))
        have hsrc : RowIn 0 (w4.alloc (.cells #[.string t.var] 9)).heap.size 1 strCells (w4.alloc (.cells #[.string t.var] 9)) ⟨some ⟨w4.heap.size, 0, none⟩, 1, 1⟩ [t.var] := rowIn_box (heap_alloc_new w4 (.cells #[.string t.var] 9)) (Nat.zero_le _)
        have Hsrc := Lib.hid hsrc
        have hsz4 : w.heap.size + 1 ≤ w4.heap.size := Nat.le_trans (Nat.le_trans hlo1 hsW1) hBrs
        clear hr hk hsrc
        go_wp2_with (at_builtin; refine append_mk strTy rfl _ _ rfl (w.heap.size + 1) (.slice g Kj.length cap) Kj rfl (Hm.out.2.2.1.below (below2 _ _ _)) 0 _ _ _ _ [t.var] rfl Hsrc.out (by simp; omega) (Nat.le_trans hsz4 (by simp)) ?_; intro g' cap' w5 hM5 hnil5 hg5 hv5)
        have hMa := Hm.out.2.2.1.below (below2 w4 #[.string t.var] 9)
        have hKa := Kids.below (qL_keep _ _) Hm.out.2.2.2 (below2 w4 #[.string t.var] 9)
        have hK5 := Kids.grow (qL_keep _ _) hKa hg5 hv5
        have hB5 := (hBr.trans ((below2 w4 #[.string t.var] 9).mono hBr.size)).grown hg5 (Nat.le_trans hBr.size (by simp)) (fun k e => Nat.le_of_succ_le (ownsRow_block hMa e).1)
        have H5 := Lib.hid (And.intro hM5 hK5)
        have hsz5 : w4.heap.size ≤ w5.heap.size := Nat.le_trans (by simp) hg5.size
        clear hMa hKa hK5 hM5 hg5 hv5
        simp only [List.length_cons, List.length_nil, Nat.zero_add] at H5 ⊢
        go_wp2_with fail
        go_roundg (ts.length - (j + 1))
        case measure => rw [Hm.out.1]; omega
        case rel => exact ⟨j + 1, g', cap', Kj ++ [t.var], by simp, by go_num, by omega, by simp; omega, Lib.hid ⟨rfl, Hn.out, by simpa using H5.out.1, by simpa using H5.out.2⟩, hB5, Nat.le_trans hBrs hsz5⟩
      · obtain rfl : j = ts.length := by omega
        have Hn : Hid (meetTs K1 ts = (Kj, true)) := Lib.hid (by have := Hm.out.2.1; rwa [List.take_length] at this)
        go_wp2_with fail
        go_ret2
        refine ⟨MetOut.yes (g := g) (cap := cap) (K' := Kj) ?_ rfl (Mk.row (s := ⟨g, Kj.length, cap⟩) strTy.len Hm.out.2.2.1 |>.widen (Nat.le_succ _) (Nat.le_refl _)), hBr⟩
        rw [hHX'.out, ← Hts.out, Hn.out]

end Go.Proofs.Ytmnpcpgdhaplaaa
