/- What the statements' plain map holds once a key is gone. Conditions: at most 10000 entries, in order. -/
import Derived.Test.YtbpibbcehfkeeaaPlainPutS
import Derived.DataElems
namespace Go.Proofs.Ytbpibbcehfkeeaa.S
open Go Go.RowKit

/-- A slice expression, not laid open. -/
noncomputable def sliceS (t : TypeId) (x : Value) (lo hi mx : Option Value) : Sem Value := Instr.sliceAt t x lo hi mx

theorem slice_fold (t : TypeId) (x : Value) (lo hi mx : Option Value) : Instr.sliceAt t x lo hi mx = sliceS t x lo hi mx := rfl

theorem run_takeI (a : Option Addr) (n cap k : Nat) (hk : k ≤ n) (hn : n ≤ cap) (h5 : n ≤ 100000) (W : World) : (sliceS 30 (.slice a n cap) none (some (.int .i64 k)) none).run Try.prog W = .ok (.slice a k cap) W := by
  have h1 : 0 ≤ (k : Int) := by omega
  have h2 : (k : Int) ≤ cap := by omega
  unfold sliceS
  cases a <;> go_simp

theorem run_fromI (a : Option Addr) (n cap k : Nat) (hk : k ≤ n) (hn : n ≤ cap) (h5 : n ≤ 100000) (W : World) : (sliceS 30 (.slice a n cap) (some (.int .i64 k)) none none).run Try.prog W = .ok (.slice (if cap = k then a else a.map (·.add k)) (n - k) (cap - k)) W := by
  have h1 : 0 ≤ (k : Int) := by omega
  have h2 : (k : Int) ≤ n := by omega
  unfold sliceS
  cases a <;> go_simp

theorem run_takeS (a : Option Addr) (n cap k : Nat) (hk : k ≤ n) (hn : n ≤ cap) (h5 : n ≤ 100000) (W : World) : (sliceS 29 (.slice a n cap) none (some (.int .i64 k)) none).run Try.prog W = .ok (.slice a k cap) W := by
  have h1 : 0 ≤ (k : Int) := by omega
  have h2 : (k : Int) ≤ cap := by omega
  unfold sliceS
  cases a <;> go_simp

theorem run_fromS (a : Option Addr) (n cap k : Nat) (hk : k ≤ n) (hn : n ≤ cap) (h5 : n ≤ 100000) (W : World) : (sliceS 29 (.slice a n cap) (some (.int .i64 k)) none none).run Try.prog W = .ok (.slice (if cap = k then a else a.map (·.add (k * 3))) (n - k) (cap - k)) W := by
  have h1 : 0 ≤ (k : Int) := by omega
  have h2 : (k : Int) ≤ n := by omega
  unfold sliceS
  cases a <;> go_simp

/-- An append, not laid open. -/
noncomputable def appS (ts : Array TypeId) (ty : TypeId) (args : Array Value) : Sem Value := Builtin.append_ ts ty args

theorem append_fold (ts : Array TypeId) (ty : TypeId) (args : Array Value) : Builtin.append_ ts ty args = appS ts ty args := rfl

attribute [local go_sem ↓] slice_fold append_fold

theorem src1_take {w : World} {p : Option Addr} {c c' : Nat} {ys : List Int} (h : I.Src1 ei w p c ys) (j : Nat) : I.Src1 ei w p c' (ys.take j) := by
  rcases h with ⟨rfl, rfl⟩ | ⟨ad, rfl, h⟩
  · exact .inl ⟨rfl, by simp⟩
  · refine .inr ⟨ad, rfl, fun i y hy => h i y ?_⟩
    rw [List.getElem?_take] at hy
    split at hy
    · exact hy
    · cases hy

theorem src1_drop {w : World} {p : Option Addr} {c c' n : Nat} {ys : List Int} (h : I.Src1 ei w p c ys) (k : Nat) (hn : ys.length ≤ n) : I.Src1 ei w (if n = k then p else p.map (·.add k)) c' (ys.drop k) := by
  by_cases e : n = k
  · rw [if_pos e, List.drop_of_length_le (by omega)]
    cases p with
    | none => exact .inl ⟨rfl, rfl⟩
    | some ad => exact .inr ⟨ad, rfl, by simp⟩
  · rw [if_neg e]
    rcases h with ⟨rfl, rfl⟩ | ⟨ad, rfl, h⟩
    · exact .inl ⟨rfl, by simp⟩
    · refine .inr ⟨ad.add k, rfl, fun i y hy => ?_⟩
      rw [List.getElem?_drop] at hy
      have := h _ y hy
      rwa [Addr.add_add]

/-- A way out that is one frame. -/
def OnlyF (a0 : Act) (w0 : World) : Exit → Act → World → Prop
  | .normal, a, w => a = a0 ∧ w = w0
  | _, _, _ => False

theorem OnlyF.imp {Q : Exit → Act → World → Prop} {a0 : Act} {w0 : World} (h : Q .normal a0 w0) : ∀ e a w, OnlyF a0 w0 e a w → Q e a w := by
  intro e a w hq
  cases e <;> first | exact hq.elim | (obtain ⟨rfl, rfl⟩ := hq; exact h)

theorem keys_erase (L : List EntV) (j : Nat) : keysL (L.eraseIdx j) = (keysL L).eraseIdx j := by
  simp [keysL, List.eraseIdx_eq_take_drop_succ, List.map_take, List.map_drop]

theorem vals_erase (L : List EntV) (j : Nat) : valsL (L.eraseIdx j) = (valsL L).eraseIdx j := by
  simp [valsL, List.eraseIdx_eq_take_drop_succ, List.map_take, List.map_drop]

/-- The two appends of the keys. -/
theorem keys_cut {w : World} {b off n ck j d : Nat} {ks : List SymV} (hel : Elems w b off ks) (hn : ks.length = n) (hj : j < n) (hck : n ≤ ck) (hd : n - (j + 1) = d) (h5 : n ≤ 10000) (dk : Nat) :
    ∃ v1 w5 v2 w6, (appS #[29, 29] 29 #[.slice none 0 0, .slice (some ⟨b, off, none⟩) j ck]).run Try.prog w = .ok v1 w5 ∧
      (appS #[29, 29] 29 #[v1, .slice (if ck = j + 1 then some ⟨b, off, none⟩ else (some (⟨b, off, none⟩ : Addr)).map (·.add ((j + 1) * 3))) d dk]).run Try.prog w5 = .ok v2 w6 ∧
      Made w.heap.size w6 v2 (ks.eraseIdx j) ∧ Below w.heap.size w w5 ∧ Below w.heap.size w w6 := by
  obtain ⟨iS, hiS, hyS0, hyS1, hyS2⟩ := info_parts infoT
  obtain ⟨v1, w5, hr1, ho5, hg5, -⟩ := run_append_own (P := Try.prog) w w.heap.size 29 29 26 iS _ 3 32 Try.underlying29 hiS hyS0 hyS1 hyS2 rfl (by decide) (.slice none 0 0) 0 [] (World.ownsRow_nil _ _ _ _) ⟨b, off, none⟩ j ck (flat (ks.take j)) (by rw [flat3_length]; simp; omega) ((hel.take j).news) (flat_one _) (by unfold maxLen; omega) (by omega) (Nat.le_refl _)
  have hB5 := nil_below hg5 (Nat.le_refl _)
  have hbl : b < w.heap.size := by
    obtain ⟨x, hx⟩ : ∃ x, ks[j]? = some x := ⟨ks[j], by simp⟩
    exact World.block_lt_of_cell? w _ (hel j x hx).1
  have hel5 := hel.below hB5 hbl
  have src : ∃ o', (if ck = j + 1 then some ⟨b, off, none⟩ else (some (⟨b, off, none⟩ : Addr)).map (·.add ((j + 1) * 3))) = some ⟨b, o', none⟩ ∧ ∀ i u, (flat (ks.drop (j + 1)))[i]? = some u → w5.cell? ((⟨b, o', none⟩ : Addr).add i) = some u := by
    by_cases e : ck = j + 1
    · rw [if_pos e]
      exact ⟨off, rfl, by rw [List.drop_of_length_le (by omega)]; simp⟩
    · rw [if_neg e]
      exact ⟨off + (j + 1) * 3, by simp [Addr.add], (hel5.drop (j + 1)).news⟩
  obtain ⟨o', hA, hnw⟩ := src
  obtain ⟨v2, w6, hr2, ho6, hg6, -⟩ := run_append_own (P := Try.prog) w5 w.heap.size 29 29 26 iS _ 3 32 Try.underlying29 hiS hyS0 hyS1 hyS2 rfl (by decide) v1 _ _ ho5 ⟨b, o', none⟩ d dk (flat (ks.drop (j + 1))) (by rw [flat3_length]; simp; omega) hnw (flat_one _) (by unfold maxLen; omega) (by omega) hB5.size
  refine ⟨v1, w5, v2, w6, hr1, by rw [hA]; exact hr2, ?_, hB5, hB5.trans ((Below.refl _ w5).grown hg6 hB5.size (fun k e => (World.ownsRow.lt ho5 k e).1))⟩
  unfold Made
  rw [List.eraseIdx_eq_take_drop_succ, List.flatMap_append, show (ks.take j ++ ks.drop (j + 1)).length = 0 + j + d by simp; omega]
  simpa using ho6

/-- The two appends of the values. -/
theorem vals_cut {w : World} {B cv j d : Nat} {av : Option Addr} {n : Nat} {vs : List Int} (hv : I.Rw ei 3 B w (.slice av n cv) vs) (hn : vs.length = n) (hj : j < n) (hcv : n ≤ cv) (hd : n - (j + 1) = d) (h5 : n ≤ 10000) (dv : Nat) :
    ∃ v1 w5 v2 w6, (appS #[30, 30] 30 #[.slice none 0 0, .slice av j cv]).run Try.prog w = .ok v1 w5 ∧
      (appS #[30, 30] 30 #[v1, .slice (if cv = j + 1 then av else av.map (·.add (j + 1))) d dv]).run Try.prog w5 = .ok v2 w6 ∧
      I.Rw ei 3 w.heap.size w6 v2 (vs.eraseIdx j) ∧ Below w.heap.size w w5 ∧ Below w.heap.size w w6 := by
  obtain ⟨i0, hi, hz0, hz1, hz2⟩ := I.info_parts' infoV
  have srcs : ∀ W, Below w.heap.size w W → I.Src1 ei W av cv vs := by
    intro W hB
    obtain ⟨a', c', e, hs, -⟩ := (hv.below hB).src
    simp only [Value.slice.injEq] at e
    obtain ⟨rfl, -, rfl⟩ := e
    exact hs
  obtain ⟨v1, w5, hr1, ho5, hF5, -⟩ := I.run_append_rw (P := Try.prog) (enc := ei) (T := 3) (B := w.heap.size) (fun _ => rfl) w 30 30 i0 _ 8 Try.underlying30 hi hz0 hz1 hz2 rfl (.slice none 0 0) [] (I.Rw.nil _) av j cv (vs.take j) (by simp; omega) (src1_take (srcs w (Below.refl _ _)) j) (by simp; omega) (by simp; omega) (Nat.le_refl _)
  have hB5 : Below w.heap.size w w5 := hF5.below (fun g l e => by cases e) (Nat.le_refl _)
  obtain ⟨v2, w6, hr2, ho6, hF6, -⟩ := I.run_append_rw (P := Try.prog) (enc := ei) (T := 3) (B := w.heap.size) (fun _ => rfl) w5 30 30 i0 _ 8 Try.underlying30 hi hz0 hz1 hz2 rfl v1 _ ho5 (if cv = j + 1 then av else av.map (·.add (j + 1))) d dv (vs.drop (j + 1)) (by simp; omega) (src1_drop (srcs w5 hB5) (j + 1) (by omega)) (by simp; omega) (by simp; omega) hB5.size
  refine ⟨v1, w5, v2, w6, hr1, hr2, ?_, hB5, hB5.trans (hF6.below (fun g l e => (ho5.end_ge g l e).1) hB5.size)⟩
  rw [List.eraseIdx_eq_take_drop_succ]
  simpa using ho6

set_option pp.deepTerms true
set_option pp.maxSteps 1000000
set_option maxRecDepth 100000 in
set_option maxHeartbeats 2000000 in
theorem plaindrop_T (w : World) (p : Nat) (L : List EntV) (x : SymV) (hp : PL w p L) (hso : Sorted entCmp L) (hs : L.length ≤ 10000) :
    Calls Try.prog 17 #[.pointer (some ⟨p, 0, none⟩), .agg #[.int .i64 x.k, .string x.t, .int .i64 x.n]] w fun e w' => (∃ u, e = .returned u) ∧ PL w' p (E.drop entCmp L ⟨x, 0⟩) ∧ Ch p w w' := by
  have hpw : p < w.heap.size := by obtain ⟨vk, vv, K, h1, h2, -⟩ := hp; omega
  have hB0 : Below w.heap.size w (w.alloc (.cells #[.int .i64 x.k, .string x.t, .int .i64 x.n] 26)) := (Below.refl _ w).alloc (Nat.le_refl _) _
  have hp0 := hp.below hB0
  clear hp
  have Hp := Lib.hid hp0
  obtain ⟨vk, vv, K, hpK, hK, hpl, hk, hf, hv⟩ := hp0
  have Hso := Lib.hid hso
  clear hso
  obtain ⟨i0, hi, hz0, hz1, hz2⟩ := I.info_parts' infoV
  have hfind := plainfind_T (w.alloc (.cells #[.int .i64 x.k, .string x.t, .int .i64 x.n] 26)) p vk vv (keysL L) x hpl hk.slice (sorted_keys Hso.out) (by simp; omega)
  rw [show has symCmp (keysL L) x = has entCmp L ⟨x, 0⟩ from has_keys L ⟨x, 0⟩, show pos symCmp (keysL L) x = pos entCmp L ⟨x, 0⟩ from pos_keys L ⟨x, 0⟩] at hfind
  unfold E.drop
  cases hh : has entCmp L ⟨x, 0⟩
  · rw [hh, if_neg (by simp)] at hfind
    rw [if_neg (by simp)]
    go_enter Try.func17, Try.ntmps17
    go_wp2_with fail
    generalize (w.alloc (.cells #[.int .i64 x.k, .string x.t, .int .i64 x.n] 26)) = W0 at *
    refine hfind.mono ?_
    rintro e w1 ⟨rfl, hB1⟩
    go_wp2_with fail
    (try simp only [Exit.inBlock, Exit.then])
    first | refine bodyPost_ret (results_none rfl _ _ _) rfl ?_ | refine bodyPost_end (results_none rfl _ _ _) rfl ?_
    exact ⟨⟨_, rfl⟩, Hp.out.below hB1, Ch.of_below (hB0.trans (hB1.mono hB0.size)) (by omega)⟩
  · rw [hh, if_pos rfl] at hfind
    rw [if_pos rfl]
    obtain ⟨y, hy, h0⟩ := has_at entCmp_lin L ⟨x, 0⟩ Hso.out hh
    generalize pos entCmp L ⟨x, 0⟩ = j at hy hfind ⊢
    have hjL := (List.getElem?_eq_some_iff.1 hy).1
    have f1 : ((j : Int) < 0) = False := eq_false (by omega)
    obtain ⟨ak, ck, rfl, hkc⟩ := hk.slice
    obtain ⟨av, cv, rfl, hvs, -, hvc⟩ := hv.src
    have hkf := (hf _ _ _ rfl).1
    simp only [List.length_map] at hkf hvc hpl hfind
    have s1 := run_takeS ak L.length ck j (by omega) hkf (by omega)
    have s2 := run_fromS ak L.length ck (j + 1) (by omega) hkf (by omega)
    have s3 := run_takeI av L.length cv j (by omega) hvc (by omega)
    have s4 := run_fromI av L.length cv (j + 1) (by omega) hvc (by omega)
    have e1 : ((j + 1 : Nat) : Int) = (j : Int) + 1 := by omega
    rw [e1] at s2 s4
    obtain ⟨b, off, rfl, hel⟩ : ∃ b off, ak = some ⟨b, off, none⟩ ∧ Elems _ b off (keysL L) := by
      rcases hkc with h | h
      · have h3 : L = [] := List.map_eq_nil_iff.1 h
        rw [h3] at hjL
        simp at hjL
      · exact h
    obtain ⟨d, hd⟩ : ∃ d, L.length - (j + 1) = d := ⟨_, rfl⟩
    obtain ⟨dk, hdk⟩ : ∃ dk, ck - (j + 1) = dk := ⟨_, rfl⟩
    obtain ⟨dv, hdv⟩ : ∃ dv, cv - (j + 1) = dv := ⟨_, rfl⟩
    rw [hd, hdk] at s2
    rw [hd, hdv] at s4
    go_enter Try.func17, Try.ntmps17
    go_wp2_with fail
    generalize (w.alloc (.cells #[.int .i64 x.k, .string x.t, .int .i64 x.n] 26)) = W0 at *
    refine hfind.mono ?_
    rintro e w1 ⟨rfl, hB1⟩
    have hpl1 : PlainAt w1 p (.slice (some ⟨b, off, none⟩) L.length ck) (.slice av L.length cv) := (hB1.block _ (lt_of_block hpl)).trans hpl
    obtain ⟨c0, c1, fr0, fr1⟩ := plain_cells hpl1
    have Hh := Lib.hid hh
    have Hy := Lib.hid hy
    clear hfind hh hy h0
    have hbl : b < W0.heap.size := by
      have hyk : (keysL L)[j]? = some y.key := by simp [keysL, Hy.out]
      exact World.block_lt_of_cell? _ _ (hel j y.key hyk).1
    have hB1d : Below W0.heap.size W0 w1.drew := hB1.drew
    obtain ⟨v1, w5, v2, w6, r1, r2, hM6, hB5, hB6⟩ := keys_cut (ck := ck) (hel.below hB1d hbl) (by simp) hjL hkf hd (by omega) dk
    obtain ⟨A, hA⟩ : ∃ A, (if ck = j + 1 then some ⟨b, off, none⟩ else (some (⟨b, off, none⟩ : Addr)).map (·.add ((j + 1) * 3))) = A := ⟨_, rfl⟩
    rw [hA] at s2 r2
    have hpl1d : PlainAt w1.drew p (.slice (some ⟨b, off, none⟩) L.length ck) (.slice av L.length cv) := hpl1
    have hpl5 : PlainAt w5 p (.slice (some ⟨b, off, none⟩) L.length ck) (.slice av L.length cv) := (hB5.block _ (lt_of_block hpl1d)).trans hpl1d
    have hpl6 : PlainAt w6 p (.slice (some ⟨b, off, none⟩) L.length ck) (.slice av L.length cv) := (hB6.block _ (lt_of_block hpl1d)).trans hpl1d
    obtain ⟨d0, d1, gr0, gr1⟩ := plain_cells hpl1d
    obtain ⟨c50, c51, fr50, fr51⟩ := plain_cells hpl5
    obtain ⟨c60, c61, fr60, fr61⟩ := plain_cells hpl6
    have HA := Lib.hid hA
    have Hd := Lib.hid hd
    have Hdk := Lib.hid hdk
    have Hdv := Lib.hid hdv
    clear hA hd hdk hdv
    have hwr : IntKind.i64.wrap ((j : Int) + 1) = (j : Int) + 1 := IntWalk.i64_in _ (by omega)
    obtain ⟨a6, cap6, rfl, -, -⟩ := row_cap hM6
    obtain ⟨n6, hn6⟩ : ∃ n, ((keysL L).eraseIdx j).length = n := ⟨_, rfl⟩
    rw [hn6] at r2 hM6
    have HM6 := Lib.hid hM6
    have Hn6 := Lib.hid hn6
    clear hn6 hM6
    go_wp2_with fail
    refine Code.wp_mono (Q := OnlyF { tmps := #[.pointer (some ⟨p, 0, none⟩), .agg #[.int .i64 x.k, .string x.t, .int .i64 x.n], undef, .pointer (some ⟨w.heap.size, 0, none⟩), .int .i64 (j : Int), .pointer (some ⟨p, 0, none⟩), .agg #[.int .i64 x.k, .string x.t, .int .i64 x.n], .int .i64 (j : Int), .int .i64 (j : Int), .bool false, .pointer (some ⟨p, 0, none⟩), .pointer (some ⟨p, 0, none⟩), .pointer (some ⟨p, 0, none⟩), .pointer (some ⟨p, 0, none⟩), .slice (some ⟨b, off, none⟩) L.length ck, .int .i64 (j : Int), .slice (some ⟨b, off, none⟩) j ck, v1] ++ #[.pointer (some ⟨p, 0, none⟩), .pointer (some ⟨p, 0, none⟩), .pointer (some ⟨p, 0, none⟩), .slice (some ⟨b, off, none⟩) L.length ck, .int .i64 (j : Int), .int .i64 ((j : Int) + 1), .slice A d dk, .slice a6 n6 cap6, .pointer (some ⟨p, 0, none⟩), .pointer (some ⟨p, 0, none⟩), undef, undef, undef, undef, undef, undef, undef, undef, undef, undef, undef, undef, undef, undef, undef, undef, undef, undef], defers := [] } (w6.setCell ⟨p, 0, none⟩ (.slice a6 n6 cap6))) (OnlyF.imp ?_) ?_
    rotate_left
    · go_region_with (fail "no arm")
      all_goals (refine ⟨?_, rfl⟩; simp only [List.append_toArray, List.cons_append, List.nil_append])
    simp only [List.append_toArray, List.cons_append, List.nil_append]
    have hB06 : Below W0.heap.size W0 w6 := hB1d.trans (hB6.mono hB1d.size)
    have hw16 : w1.heap.size ≤ w6.heap.size := hB6.size
    have hpw1 : p < w1.heap.size := lt_of_block hpl1
    have hoth0 : ∀ b, b ≠ p → (w6.setCell ⟨p, 0, none⟩ (.slice a6 n6 cap6)).heap[b]? = w6.heap[b]? := fun b hb => Below.heap_setCell _ _ _ _ hb
    have hs70 : (w6.setCell ⟨p, 0, none⟩ (.slice a6 n6 cap6)).heap.size = w6.heap.size := by simp [World.setCell]
    have hpl70 : PlainAt (w6.setCell ⟨p, 0, none⟩ (.slice a6 n6 cap6)) p (.slice a6 n6 cap6) (.slice av L.length cv) := by
      have := I.setCell_heap hpl6 (.slice a6 n6 cap6) (i := 0)
      simpa [PlainAt] using this
    have hC70 : Ch p w6 (w6.setCell ⟨p, 0, none⟩ (.slice a6 n6 cap6)) := Ch.setCell hpl6 (.inl rfl) (Nat.le_refl _) _
    generalize w6.setCell ⟨p, 0, none⟩ (.slice a6 n6 cap6) = W7 at hoth0 hs70 hpl70 hC70 ⊢
    have hv7 : I.Rw ei 3 K W7.drew (.slice av L.length cv) (valsL L) := by
      have h := (hv.below hB06).keep (W' := W7.drew) fun g l e => hoth0 g (by have := ((hv.below hB06).end_ge g l e).1; omega)
      rwa [List.length_map] at h
    have hk7 : KeysAt p W7.heap.size W7 (.slice a6 n6 cap6) (keysL (L.eraseIdx j)) := by
      rw [keys_erase, hs70]
      have hM := HM6.out
      rw [← Hn6.out] at hM ⊢
      exact (sliceGe_keys (Made.ge hM) (p := p) (by show p < w1.heap.size; omega)).keep fun b h1 _ _ => hoth0 b (by omega)
    have hf7 : Fits (.slice a6 n6 cap6) := by
      have hM := HM6.out
      rw [← Hn6.out] at hM ⊢
      exact Made.fits hM
    obtain ⟨v8, w8, v9, w9, q1, q2, hR9, hB8, hB9⟩ := vals_cut hv7 (by simp) hjL hvc Hd.out (by omega) dv
    obtain ⟨A', hA'⟩ : ∃ A', (if cv = j + 1 then av else av.map (·.add (j + 1))) = A' := ⟨_, rfl⟩
    rw [hA'] at s4 q2
    obtain ⟨a9, c9, rfl, -, -, -⟩ := hR9.src
    obtain ⟨n9, hn9⟩ : ∃ n, ((valsL L).eraseIdx j).length = n := ⟨_, rfl⟩
    rw [hn9] at q2 hR9
    have hpl7d : PlainAt W7.drew p (.slice a6 n6 cap6) (.slice av L.length cv) := hpl70
    have hpl8 : PlainAt w8 p (.slice a6 n6 cap6) (.slice av L.length cv) := (hB8.block _ (lt_of_block hpl7d)).trans hpl7d
    have hpl9 : PlainAt w9 p (.slice a6 n6 cap6) (.slice av L.length cv) := (hB9.block _ (lt_of_block hpl7d)).trans hpl7d
    obtain ⟨e70, e71, er70, er71⟩ := plain_cells hpl7d
    obtain ⟨e80, e81, er80, er81⟩ := plain_cells hpl8
    obtain ⟨e90, e91, er90, er91⟩ := plain_cells hpl9
    have hs9 : W7.heap.size ≤ w9.heap.size := hB9.size
    have g9 : PlainAt (w9.setCell ⟨p, 1, none⟩ (.slice a9 n9 c9)) p (.slice a6 n6 cap6) (.slice a9 n9 c9) := by
      have := I.setCell_heap hpl9 (.slice a9 n9 c9) (i := 1)
      simpa [PlainAt] using this
    have hoth9 : ∀ b, b ≠ p → (w9.setCell ⟨p, 1, none⟩ (.slice a9 n9 c9)).heap[b]? = w9.heap[b]? := fun b hb => Below.heap_setCell _ _ _ _ hb
    have hPLf : PL (w9.setCell ⟨p, 1, none⟩ (.slice a9 n9 c9)) p (L.eraseIdx j) := by
      refine ⟨_, _, W7.heap.size, by omega, by simpa [World.setCell] using hs9, g9, hk7.keep fun b h1 h2 h3 => (hoth9 b (by omega)).trans (hB9.block b h3), hf7, ?_⟩
      rw [vals_erase]
      rw [← hn9] at hR9
      have h := hR9.keep (W' := w9.setCell ⟨p, 1, none⟩ (.slice a9 n9 c9)) fun g l e => hoth9 g (by have h := (hR9.end_ge g l e).1; have : W7.drew.heap.size = W7.heap.size := rfl; omega)
      rwa [hn9] at h
    have hChf : Ch p w (w9.setCell ⟨p, 1, none⟩ (.slice a9 n9 c9)) := by
      have h1 : Ch p w w6 := Ch.of_below (hB0.trans (hB06.mono hB0.size)) (by omega)
      have h2 : Ch p W7 w9 := Ch.of_below ((Below.refl _ _).drew.trans hB9) (by omega)
      exact h1.trans (hC70.trans (h2.trans (Ch.setCell hpl9 (.inl rfl) (Nat.le_refl _) _)))
    have HPf := Lib.hid hPLf
    have HCf := Lib.hid hChf
    clear hn9 hR9 hA' d0 d1 gr0 gr1 c50 c51 fr50 fr51 c60 c61 fr60 fr61 r1 r2 hB9 hv7 hPLf hChf g9
    go_wp2_with fail
    go_region_with (fail "no arm")
    all_goals (go_wp2_with fail)
    all_goals (try simp only [Exit.inBlock, Exit.then])
    all_goals (first | refine bodyPost_ret (results_none rfl _ _ _) rfl ?_ | refine bodyPost_end (results_none rfl _ _ _) rfl ?_)
    all_goals exact ⟨⟨_, rfl⟩, HPf.out, HCf.out⟩

end Go.Proofs.Ytbpibbcehfkeeaa.S
