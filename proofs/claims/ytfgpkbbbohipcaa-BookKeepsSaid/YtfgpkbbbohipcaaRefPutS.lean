/- What the statements' Put of a list of symbols answers. Conditions: the list lies in memory, in order; at most 100000 symbols. -/
import Derived.Test.YtfgpkbbbohipcaaMg4
import Derived.Test.YtfgpkbbbohipcaaMg5
import Derived.Maps.AppendAt
import Derived.Deep.AppendLies
import Derived.Laws.AppendOwnNone
namespace Go.Proofs.Ytfgpkbbbohipcaa.S
open Go Go.RowKit

theorem pos_of_split {α : Type} {cmp : α → α → Int} (hc : Lin cmp) {xs : List α} {x : α} {j : Nat} (hs : Sorted cmp xs) (h1 : ∀ y ∈ xs.take j, 0 < cmp x y) (hj : j ≤ xs.length) (h2 : ∀ y, xs[j]? = some y → cmp x y ≤ 0) : pos cmp xs x = j := by
  have e : pos cmp xs x = pos cmp (xs.take j) x + pos cmp (xs.drop j) x := by
    unfold pos
    conv => lhs; rw [← List.take_append_drop j xs, List.filter_append, List.length_append]
  have e1 : pos cmp (xs.take j) x = j := by
    unfold pos
    rw [List.filter_eq_self.2 (fun y hy => by simpa using h1 y hy), List.length_take, Nat.min_eq_left hj]
  have e2 : pos cmp (xs.drop j) x = 0 := by
    unfold pos
    rw [List.length_eq_zero_iff, List.filter_eq_nil_iff]
    intro y hy
    have hsd : Sorted cmp (xs.drop j) := List.Pairwise.sublist (List.drop_sublist _ _) hs
    cases hd : xs.drop j with
    | nil => rw [hd] at hy; simp at hy
    | cons z zs =>
      have hz : xs[j]? = some z := by
        have := congrArg (fun l => l[0]?) hd
        simpa [List.getElem?_drop] using this
      have hz0 := h2 z hz
      rw [hd] at hy hsd
      have hzs := (List.pairwise_cons.1 hsd).1
      rcases List.mem_cons.1 hy with rfl | hy
      · simp; omega
      · have h3 := hc.le_lt hz0 (hzs y hy)
        simp; omega
  omega

/-- A slice is not longer than its room. -/
def Fits (v : Value) : Prop := ∀ a n cap, v = .slice a n cap → n ≤ cap ∧ (a = none → cap = 0)

abbrev flat (ys : List SymV) : List Value := ys.flatMap fun x => [.int .i64 x.k, .string x.t, .int .i64 x.n]

theorem flat_one : ∀ (ys : List SymV), ∀ u ∈ flat ys, u.oneCell' = true := by
  intro ys u hu
  obtain ⟨x, -, h⟩ := List.mem_flatMap.1 hu
  simp at h
  rcases h with rfl | rfl | rfl <;> rfl

theorem Elems.news {w : World} {b off : Nat} {ys : List SymV} (h : Elems w b off ys) : ∀ p u, (flat ys)[p]? = some u → w.cell? ((⟨b, off, none⟩ : Addr).add p) = some u := by
  intro p u hp
  have hl := (List.getElem?_eq_some_iff.1 hp).1
  have hfl : (flat ys).length = ys.length * 3 := flat3_length ys
  obtain ⟨q, hq⟩ : ∃ q, p = q * 3 ∨ p = q * 3 + 1 ∨ p = q * 3 + 2 := ⟨p / 3, by omega⟩
  have hql : q < ys.length := by omega
  obtain ⟨y, hy⟩ : ∃ y, ys[q]? = some y := ⟨ys[q], by simp [hql]⟩
  obtain ⟨f1, f2, f3⟩ := flat3 ys _ y hy
  obtain ⟨e1, e2, e3⟩ := h _ y hy
  rw [Go.WideShapes.add_plain]
  rcases hq with rfl | rfl | rfl
  · exact e1.trans (f1.symm.trans hp)
  · exact e2.trans (f2.symm.trans hp)
  · exact e3.trans (f3.symm.trans hp)

theorem Made.fits {B : Nat} {W : World} {v : Value} {xs : List SymV} (h : Made B W v xs) : Fits v := by
  rcases h.2 with ⟨rfl, h0⟩ | ⟨g, cap, cur, rfl, hb, hg, hn, hm, hs, ht⟩
  · rintro a n c e; cases e; exact ⟨Nat.le_refl _, fun _ => rfl⟩
  · rintro a n c e; cases e; exact ⟨hn, fun h => by cases h⟩

/-- Where symbols that are appended lie. -/
def From (w : World) (p : Option Addr) (c : Nat) (ys : List SymV) : Prop :=
  (p = none ∧ c = 0 ∧ ys = []) ∨ ∃ ad, p = some ad ∧ ∀ j u, (flat ys)[j]? = some u → w.cell? (ad.add j) = some u

theorem append_syms {w : World} {ops : Array Oper} {rest : List Oper} {o : Oper} {a : Act} {Q : Exit → Act → World → Prop} (hgd : o.guard = none) (s x : Operand)
    (ho : o.op = .call { callee := .builtin .append, args := #[s, x], argTypes := #[29, 29] })
    (B : Nat) (v : Value) (zs : List SymV) (hs : a.eval s = v) (hown : Made B w v zs) (p : Option Addr) (m c : Nat) (ys : List SymV) (hm : ys.length = m) (hx : a.eval x = .slice p m c) (hsrc : From w p c ys)
    (hlen : zs.length + m ≤ 1000000) (hbase : B ≤ w.heap.size)
    (h : ∀ v' w', Made B w' v' (zs ++ ys) → w.grownBy w' v.ownBlock → wpList Try.prog ops Q rest (a.put o.dst v') w') : wpList Try.prog ops Q (o :: rest) a w := by
  obtain ⟨i0, hi, hz0, hz1, hz2⟩ := info_parts infoT
  subst hm
  rcases hsrc with ⟨rfl, rfl, rfl⟩ | ⟨ad, rfl, hn⟩
  · refine wpList_append_own_none hgd s x _ ho B 26 i0 3 Try.underlying29 hi v zs.length (flat zs) hs hown hx ?_
    exact h v w (by simpa using hown) ⟨rfl, rfl, rfl, Nat.le_refl _, fun _ _ _ => rfl⟩
  · refine wpList_append_own w hgd s x _ ho B 26 i0 (.agg #[.int .i64 0, .string ⟨#[]⟩, .int .i64 0]) 3 32 Try.underlying29 hi hz0 hz1 hz2 rfl (by decide) v zs.length (flat zs) hs hown ad ys.length c (flat ys) hx (flat3_length ys) hn (flat_one ys) (by unfold maxLen; omega) (by omega) hbase ?_
    intro v' w' h1 h2 _
    exact h v' w' (by unfold Made; simpa using h1) h2

theorem made_below {B : Nat} {w w' : World} {v : Value} {zs : List SymV} (h : Made B w v zs) (hg : w.grownBy w' v.ownBlock) (hB : B ≤ w.heap.size) : Below B w w' :=
  (Below.refl B w).grown hg hB (fun k e => (World.ownsRow.lt h k e).1)

theorem nil_below {B : Nat} {w w' : World} (hg : w.grownBy w' (Value.slice none 0 0).ownBlock) (hB : B ≤ w.heap.size) : Below B w w' :=
  (Below.refl B w).grown hg hB (fun k e => by cases e)

theorem put_ins {xs : List SymV} {x : SymV} {j : Nat} (hp : pos symCmp xs x = j) (hh : has symCmp xs x = false) : put symCmp xs x = xs.take j ++ [x] ++ xs.drop j := by
  rw [put, hh, if_neg (by simp), ins, hp]; simp

theorem has_no {xs : List SymV} {x : SymV} {j : Nat} (hso : Sorted symCmp xs) (hp : pos symCmp xs x = j) (hn : xs[j]? ≠ some x) : has symCmp xs x = false := by
  cases hh : has symCmp xs x
  · rfl
  · obtain ⟨y, hy, h0⟩ := has_at symCmp_lin xs x hso hh
    obtain rfl := (symCmp_exact _ _).1 h0
    rw [hp] at hy; exact absurd hy hn

set_option maxRecDepth 100000 in
set_option maxHeartbeats 1600000 in
theorem refput_T (w : World) (v : Value) (xs : List SymV) (x : SymV) (hv : SliceOf w v xs) (hf : Fits v) (hso : Sorted symCmp xs) (hs : xs.length ≤ 100000) :
    Calls Try.prog 50 #[v, .agg #[.int .i64 x.k, .string x.t, .int .i64 x.n]] w fun e w' => ∃ v', e = .returned v' ∧ Fits v' ∧ ((v' = v ∧ put symCmp xs x = xs) ∨ SliceGe w.heap.size w' v' (put symCmp xs x)) ∧ Below w.heap.size w w' := by
  have hB0 : Below w.heap.size w (w.alloc (.cells #[.int .i64 x.k, .string x.t, .int .i64 x.n] 26)) := (Below.refl _ w).alloc (Nat.le_refl _) _
  have hx0 := mem_new w x
  have hsz : w.heap.size < (w.alloc (.cells #[.int .i64 x.k, .string x.t, .int .i64 x.n] 26)).heap.size := by simp
  have hse := sym_equal'
  have hsg := sym_guard
  obtain ⟨a, cap, rfl, hc⟩ := hv
  have hcap : xs.length ≤ cap := (hf _ _ _ rfl).1
  have Hf := Lib.hid hf
  have Hso := Lib.hid hso
  clear hf hso
  go_enter Try.func50, Try.ntmps50
  go_wp2_with fail
  generalize (w.alloc (.cells #[.int .i64 x.k, .string x.t, .int .i64 x.n] 26)) = W0 at hB0 hx0 hsz ⊢
  go_loopg [5] xs.length (fun m i wr => ∃ j : Nat, i = .int .i64 j ∧ j ≤ xs.length ∧ Hid (m = xs.length - j ∧ ∀ y ∈ xs.take j, 0 < symCmp x y) ∧ Below W0.heap.size W0 wr)
  case atStart => exact ⟨0, rfl, by omega, Lib.hid ⟨rfl, by simp⟩, Below.refl _ _⟩
  case round =>
    obtain ⟨j, rfl, hj, Hm, hB⟩ := hrel
    by_cases hlt : j < xs.length
    · rcases hc with rfl | ⟨b, off, rfl, hel⟩
      · simp at hlt
      · obtain ⟨y, hy⟩ : ∃ y, xs[j]? = some y := ⟨xs[j], by simp [hlt]⟩
        have hbl := World.block_lt_of_cell? w _ (hel j y hy).1
        have hyc := (hel.below (hB0.trans (hB.mono hB0.size)) hbl) j y hy
        have hxc := mem_below hB hsz hx0
        have hbe := before_T wr.drew y x
        have Hy := Lib.hid hy
        have Hyc := Lib.hid hyc
        have Hxc := Lib.hid hxc
        have Hel := Lib.hid hel
        clear hy hel
        go_wp2_with fail
        go_region_held3 (fun W => (W.cell? ⟨b, off + j * 3, none⟩ = some (.int .i64 y.k) ∧ W.cell? ⟨b, off + j * 3 + 1, none⟩ = some (.string y.t) ∧ W.cell? ⟨b, off + j * 3 + 2, none⟩ = some (.int .i64 y.n)) ∧ (W.cell? ⟨w.heap.size, 0, none⟩ = some (.int .i64 x.k) ∧ W.cell? ⟨w.heap.size, 1, none⟩ = some (.string x.t) ∧ W.cell? ⟨w.heap.size, 2, none⟩ = some (.int .i64 x.n)))
          (first | go_keep | assumption)
          (first
            | ((with_reducible refine hbe.mono ?_); rintro e w1 ⟨rfl, hB1⟩; have hC := ((Below.refl _ wr).drew.trans hB1); have hh : (w1.cell? ⟨b, off + j * 3, none⟩ = some (.int .i64 y.k) ∧ w1.cell? ⟨b, off + j * 3 + 1, none⟩ = some (.string y.t) ∧ w1.cell? ⟨b, off + j * 3 + 2, none⟩ = some (.int .i64 y.n)) ∧ (w1.cell? ⟨w.heap.size, 0, none⟩ = some (.int .i64 x.k) ∧ w1.cell? ⟨w.heap.size, 1, none⟩ = some (.string x.t) ∧ w1.cell? ⟨w.heap.size, 2, none⟩ = some (.int .i64 x.n)) := ⟨memo_below hC (World.block_lt_of_cell? wr _ Hyc.out.1) Hyc.out, mem_below hC (World.block_lt_of_cell? wr _ Hxc.out.1) Hxc.out⟩)
            | fail "no arm")
        have hB2 := hB.trans (hC.mono hB.size)
        by_cases hlt2 : symCmp y x < 0
        · have Hlt := Lib.hid hlt2
          go_wp2_with fail
          go_roundg (xs.length - (j + 1))
          case measure => rw [Hm.out.1]; omega
          case rel =>
            refine ⟨j + 1, by go_num, by omega, Lib.hid ⟨rfl, fun z hz => ?_⟩, hB2⟩
            rw [List.take_add_one, Hy.out] at hz
            rcases List.mem_append.1 hz with hz | hz
            · exact Hm.out.2 z hz
            · obtain rfl : z = y := by simpa using hz
              exact (symCmp_lin.swap z x).1 Hlt.out
        · have Hlt : Hid (¬ symCmp y x < 0) := Lib.hid hlt2
          have hge : 0 ≤ symCmp y x := by omega
          have hpos : pos symCmp xs x = j := pos_of_split symCmp_lin Hso.out Hm.out.2 hj (fun z hz => by
            rw [Hy.out] at hz; cases hz
            have := symCmp_lin.swap y x
            exact Int.not_lt.1 fun h => Hlt.out (this.2 h))
          have Hpos := Lib.hid hpos
          clear hlt2 hpos
          by_cases hyx : y = x
          · have hs1 : same ⟨y.k, y.t, y.n⟩ ⟨x.k, x.t, x.n⟩ = true := same_iff.2 (by rw [hyx])
            have Hyx := Lib.hid hyx
            clear hyx
            go_wp2_with fail
            go_quiet (fail)
            go_wp2_with fail
            go_ret
            exact ⟨_, rfl, Hf.out, .inl ⟨rfl, by rw [put, (has_iff symCmp_exact).2 (List.mem_of_getElem? (Hyx.out ▸ Hy.out)), if_pos rfl]⟩, hB0.trans ((hB2.trans (below_drewN _ _ _)).mono hB0.size)⟩
          · have hs1 : same ⟨y.k, y.t, y.n⟩ ⟨x.k, x.t, x.n⟩ = false := by
              have : ¬ same y x = true := fun h => hyx (same_iff.1 h)
              simpa using this
            have Hyx := Lib.hid hyx
            clear hyx
            go_wp2_with fail
            go_quiet (fail)
            have hCW : Below W0.heap.size W0 (w1.drewN nq) := hB2.trans (below_drewN _ _ _)
            have hWs := hCW.size
            have hEl := fun W (h : Below W0.heap.size W0 W) => Hel.out.below (hB0.trans (h.mono hB0.size)) hbl
            have hne : ¬ cap = j := by omega
            have hne2 : ¬ j = cap := by omega
            have hjc : j ≤ cap := by omega
            go_wp2_with (first
              | (at_builtin; refine append_syms rfl _ _ rfl W0.heap.size (.slice none 0 0) [] rfl (World.ownsRow_nil _ _ _ _) _ _ _ (xs.take j) (by rw [List.length_take]; omega) rfl (Or.inr ⟨_, rfl, ((hEl _ hCW).take j).news⟩) (by simp; omega) hWs ?_; intro v1 w5 hM1 hg1; have hC5 := hCW.trans (nil_below hg1 hWs); have hx5 := mem_below hC5 hsz hx0)
              | (at_builtin; refine append_syms rfl _ _ rfl W0.heap.size v1 (xs.take j) rfl (World.ownsRow.alloc hM1 _) _ _ _ [x] rfl rfl (Or.inr ⟨_, rfl, World.news_of_block (cs := #[.int .i64 x.k, .string x.t, .int .i64 x.n]) (t := 26) (fr := (0, 0)) (heap_alloc_new w5 _)⟩) (by simp; omega) (Nat.le_trans hC5.size (by simp)) ?_; intro v2 w6 hM2 hg2; have hC6 := hC5.trans (((Below.refl _ w5).alloc hC5.size _).trans (made_below (World.ownsRow.alloc hM1 _) hg2 (Nat.le_trans hC5.size (by simp)))))
              | (at_builtin; refine append_syms rfl _ _ rfl W0.heap.size v2 (xs.take j ++ [x]) rfl hM2 _ _ _ (xs.drop j) (by simp) rfl (Or.inr ⟨_, rfl, ((hEl _ hC6).drop j).news⟩) (by simp; omega) hC6.size ?_; intro v3 w7 hM3 hg3; have hC7 := hC6.trans (made_below hM2 hg3 hC6.size)))
            go_ret
            have hBf := hB0.trans (hC7.mono hB0.size)
            exact ⟨v3, rfl, hM3.fits, .inr (by rw [put_ins Hpos.out (has_no Hso.out Hpos.out (by rw [Hy.out]; exact fun h => Hyx.out (Option.some.inj h)))]; exact (Made.ge hM3).mono (by omega)), hBf⟩
    · obtain rfl : j = xs.length := by omega
      have hpos : pos symCmp xs x = xs.length := pos_of_split symCmp_lin Hso.out Hm.out.2 (Nat.le_refl _) (fun z hz => by simp at hz)
      have hput : put symCmp xs x = xs ++ [x] := by
        rw [put_ins hpos (has_no Hso.out hpos (by simp))]; simp
      have hsrc : ∀ W, Below W0.heap.size W0 W → From W a cap xs := by
        intro W h
        rcases hc with rfl | ⟨b, off, rfl, hel⟩
        · cases a with
          | none => exact Or.inl ⟨rfl, (Hf.out _ _ _ rfl).2 rfl, rfl⟩
          | some ad => exact Or.inr ⟨ad, rfl, by simp⟩
        · cases xs with
          | nil => exact Or.inr ⟨_, rfl, by simp⟩
          | cons z zs => exact Or.inr ⟨_, rfl, (hel.below (hB0.trans (h.mono hB0.size)) (World.block_lt_of_cell? w _ (hel 0 z rfl).1)).news⟩
      have Hput := Lib.hid hput
      have Hpos := Lib.hid hpos
      clear hpos hput
      rcases a with _ | ad
      · obtain rfl : xs = [] := by
          rcases hc with h | ⟨b, off, h, -⟩
          · exact h
          · cases h
        obtain rfl : cap = 0 := (Hf.out _ _ _ rfl).2 rfl
        simp only [List.length_nil]
        go_wp2_with fail
        go_quiet (fail)
        have hCW1 : Below W0.heap.size W0 (wr.drewN nq) := hB.trans (below_drewN _ _ _)
        generalize wr.drewN nq = W1 at hCW1 ⊢
        go_wp2_with fail
        go_quiet (fail)
        have hCW : Below W0.heap.size W0 (W1.drewN nq) := hCW1.trans (below_drewN _ _ _)
        have hWs := hCW.size
        go_wp2_with (first
          | (at_builtin; refine append_syms rfl _ _ rfl W0.heap.size (.slice none 0 0) [] rfl (World.ownsRow_nil _ _ _ _) _ _ _ [] rfl rfl (hsrc _ hCW) (by simp <;> omega) hWs ?_; intro v1 w5 hM1 hg1; have hC5 := hCW.trans (nil_below hg1 hWs); have hx5 := mem_below hC5 hsz hx0)
          | (at_builtin; refine append_syms rfl _ _ rfl W0.heap.size v1 [] rfl (World.ownsRow.alloc hM1 _) _ _ _ [x] rfl rfl (Or.inr ⟨_, rfl, World.news_of_block (cs := #[.int .i64 x.k, .string x.t, .int .i64 x.n]) (t := 26) (fr := (0, 0)) (heap_alloc_new w5 _)⟩) (by simp <;> omega) (Nat.le_trans hC5.size (by simp)) ?_; intro v2 w6 hM2 hg2; have hC6 := hC5.trans (((Below.refl _ w5).alloc hC5.size _).trans (made_below (World.ownsRow.alloc hM1 _) hg2 (Nat.le_trans hC5.size (by simp)))))
          | (at_builtin; refine append_syms rfl _ _ rfl W0.heap.size v2 ([] ++ [x]) rfl hM2 _ _ _ [] rfl rfl (hsrc _ hC6) (by simp <;> omega) hC6.size ?_; intro v3 w7 hM3 hg3; have hC7 := hC6.trans (made_below hM2 hg3 hC6.size)))
        go_ret
        have hBf := hB0.trans (hC7.mono hB0.size)
        exact ⟨v3, rfl, hM3.fits, .inr (by rw [Hput.out]; simpa using (Made.ge hM3).mono (by omega)), hBf⟩
      · by_cases hce : cap = xs.length
        · subst hce
          go_wp2_with fail
          go_quiet (fail)
          have hCW1 : Below W0.heap.size W0 (wr.drewN nq) := hB.trans (below_drewN _ _ _)
          generalize wr.drewN nq = W1 at hCW1 ⊢
          go_wp2_with fail
          go_quiet (fail)
          have hCW : Below W0.heap.size W0 (W1.drewN nq) := hCW1.trans (below_drewN _ _ _)
          have hWs := hCW.size
          go_wp2_with (first
            | (at_builtin; refine append_syms rfl _ _ rfl W0.heap.size (.slice none 0 0) [] rfl (World.ownsRow_nil _ _ _ _) _ _ _ xs rfl rfl (hsrc _ hCW) (by simp <;> omega) hWs ?_; intro v1 w5 hM1 hg1; have hC5 := hCW.trans (nil_below hg1 hWs); have hx5 := mem_below hC5 hsz hx0)
            | (at_builtin; refine append_syms rfl _ _ rfl W0.heap.size v1 xs rfl (World.ownsRow.alloc hM1 _) _ _ _ [x] rfl rfl (Or.inr ⟨_, rfl, World.news_of_block (cs := #[.int .i64 x.k, .string x.t, .int .i64 x.n]) (t := 26) (fr := (0, 0)) (heap_alloc_new w5 _)⟩) (by simp <;> omega) (Nat.le_trans hC5.size (by simp)) ?_; intro v2 w6 hM2 hg2; have hC6 := hC5.trans (((Below.refl _ w5).alloc hC5.size _).trans (made_below (World.ownsRow.alloc hM1 _) hg2 (Nat.le_trans hC5.size (by simp)))))
            | (at_builtin; refine append_syms rfl _ _ rfl W0.heap.size v2 (xs ++ [x]) rfl hM2 _ _ _ [] rfl rfl (Or.inr ⟨_, rfl, by simp⟩) (by simp <;> omega) hC6.size ?_; intro v3 w7 hM3 hg3; have hC7 := hC6.trans (made_below hM2 hg3 hC6.size)))
          go_ret
          have hBf := hB0.trans (hC7.mono hB0.size)
          exact ⟨v3, rfl, hM3.fits, .inr (by rw [Hput.out]; simpa using (Made.ge hM3).mono (by omega)), hBf⟩
        · have hce2 : ¬ xs.length = cap := fun h => hce h.symm
          go_wp2_with fail
          go_quiet (fail)
          have hCW1 : Below W0.heap.size W0 (wr.drewN nq) := hB.trans (below_drewN _ _ _)
          generalize wr.drewN nq = W1 at hCW1 ⊢
          go_wp2_with fail
          go_quiet (fail)
          have hCW : Below W0.heap.size W0 (W1.drewN nq) := hCW1.trans (below_drewN _ _ _)
          have hWs := hCW.size
          go_wp2_with (first
            | (at_builtin; refine append_syms rfl _ _ rfl W0.heap.size (.slice none 0 0) [] rfl (World.ownsRow_nil _ _ _ _) _ _ _ xs rfl rfl (hsrc _ hCW) (by simp <;> omega) hWs ?_; intro v1 w5 hM1 hg1; have hC5 := hCW.trans (nil_below hg1 hWs); have hx5 := mem_below hC5 hsz hx0)
            | (at_builtin; refine append_syms rfl _ _ rfl W0.heap.size v1 xs rfl (World.ownsRow.alloc hM1 _) _ _ _ [x] rfl rfl (Or.inr ⟨_, rfl, World.news_of_block (cs := #[.int .i64 x.k, .string x.t, .int .i64 x.n]) (t := 26) (fr := (0, 0)) (heap_alloc_new w5 _)⟩) (by simp <;> omega) (Nat.le_trans hC5.size (by simp)) ?_; intro v2 w6 hM2 hg2; have hC6 := hC5.trans (((Below.refl _ w5).alloc hC5.size _).trans (made_below (World.ownsRow.alloc hM1 _) hg2 (Nat.le_trans hC5.size (by simp)))))
            | (at_builtin; refine append_syms rfl _ _ rfl W0.heap.size v2 (xs ++ [x]) rfl hM2 _ _ _ [] rfl rfl (Or.inr ⟨_, rfl, by simp⟩) (by simp <;> omega) hC6.size ?_; intro v3 w7 hM3 hg3; have hC7 := hC6.trans (made_below hM2 hg3 hC6.size)))
          go_ret
          have hBf := hB0.trans (hC7.mono hB0.size)
          exact ⟨v3, rfl, hM3.fits, .inr (by rw [Hput.out]; simpa using (Made.ge hM3).mono (by omega)), hBf⟩

end Go.Proofs.Ytfgpkbbbohipcaa.S
