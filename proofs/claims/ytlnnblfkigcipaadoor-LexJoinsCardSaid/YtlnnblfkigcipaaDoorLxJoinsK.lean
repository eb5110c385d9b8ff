/- LexJoins returns true, whatever it is given. Conditions: the tables lie as the program lays them. -/
import Derived.Test.YtlnnblfkigcipaaDoorLxSameK
import Derived.Test.YtlnnblfkigcipaaDoorLxJoPl
import Derived.Laws.Concat
import Derived.Laws.StructEq
import Derived.Deep.RegionHeldLaw
namespace Go.Proofs.YtlnnblfkigcipaaDoor
open Go Go.RowKit Go.Shelf

theorem tok_under : Tryd.prog.underlying 30 = some (.struct (Tryd.prog.fieldsOf 30)) := by kernel_rfl
theorem tok_held : Tryd.prog.stoodInHeld 30 = false := by kernel_rfl

theorem tok_equal (x : SymV) (w : World) : (Op.equalIn 10000 30 (.agg #[.int .i64 x.k, .string x.t, .int .i64 x.n]) (.agg #[.int .i64 x.k, .string x.t, .int .i64 x.n])).run Tryd.prog w = .ok true w := by
  rw [run_equalIn_struct _ 9999 _ _ _ tok_under tok_held]
  simp only [Program.fieldsOf, Tryd.underlying30]
  simp [go_sem, Op.eqFields]

theorem tok_eql (x : SymV) (w : World) : (binOp .eql 30 (.agg #[.int .i64 x.k, .string x.t, .int .i64 x.n]) (.agg #[.int .i64 x.k, .string x.t, .int .i64 x.n])).run Tryd.prog w = .ok (.bool true) w := by
  rw [run_eql_struct, tok_equal x w]; rfl
theorem tok_neq (x : SymV) (w : World) : (binOp .neq 30 (.agg #[.int .i64 x.k, .string x.t, .int .i64 x.n]) (.agg #[.int .i64 x.k, .string x.t, .int .i64 x.n])).run Tryd.prog w = .ok (.bool false) w := by
  rw [run_neq_struct, tok_equal x w]; rfl

theorem TokC.dn {W : World} {g j : Nat} {x : SymV} (h : TokC W g j x) (d : Nat) : (W.drewN d).cell? ⟨g, j * 3, none⟩ = some (.int .i64 x.k) ∧ (W.drewN d).cell? ⟨g, j * 3 + 1, none⟩ = some (.string x.t) ∧ (W.drewN d).cell? ⟨g, j * 3 + 2, none⟩ = some (.int .i64 x.n) := h

theorem toks_n (N : Nat) : ∀ (f : Nat) (l : List UInt8), ∀ x ∈ toks N f l, ∃ p : Nat, x.n = (p : Int) ∧ p ≤ N := by
  intro f
  induction f with
  | zero => intro l x h; simp [toks] at h
  | succ f ih =>
    intro l x h
    unfold toks at h
    split at h
    · simp only [List.mem_singleton] at h
      subst h
      exact ⟨N, rfl, Nat.le_refl _⟩
    · rcases List.mem_cons.1 h with rfl | h
      · refine ⟨N - (skipM false l).length, ?_, Nat.sub_le _ _⟩
        unfold tokL
        repeat' split
        all_goals rfl
      · split at h
        · cases h
        · exact ih _ x h

theorem toks_ne2' (N f : Nat) (l : List UInt8) : toks N (f + 1) l ≠ [] := by
  unfold toks
  split <;> simp

set_option maxRecDepth 100000 in
set_option maxHeartbeats 3200000 in
theorem lexjoins_walk (w : World) (a b : ByteArray) (hE : EnvX w) : Calls Tryd.prog 7 #[.string a, .string b] w fun e w' => e = .returned (.bool true) ∧ Below w.heap.size w w' := by
  by_cases hs : a.size ≤ 1000 ∧ b.size ≤ 1000
  · obtain ⟨ha, hb⟩ := hs
    have f1 : ((1000 : Int) < (a.size : Int)) = False := eq_false (by omega)
    have f2 : ((1000 : Int) < (b.size : Int)) = False := eq_false (by omega)
    have hz1 : ∀ w, (Op.stringOp .add a ⟨#[10]⟩).run Tryd.prog w = .ok (.string (a ++ ⟨#[10]⟩)) w := fun w => run_string_add_sum w _ _ (by show a.size + 1 ≤ _; omega)
    have hz2 : ∀ w, (Op.stringOp .add (a ++ ⟨#[10]⟩) b).run Tryd.prog w = .ok (.string (a ++ ⟨#[10]⟩ ++ b)) w := fun w => run_string_add_sum w _ _ (by rw [ByteArray.size_append]; show a.size + 1 + b.size ≤ _; omega)
    have m1 : (a ++ ⟨#[10]⟩ : ByteArray).size ≤ 100000 := by rw [ByteArray.size_append]; show a.size + 1 ≤ _; omega
    have m2 : (a ++ ⟨#[10]⟩ ++ b : ByteArray).size ≤ 100000 := by rw [ByteArray.size_append, ByteArray.size_append]; show a.size + 1 + b.size ≤ _; omega
    have k1 := fun w hE => all_T w (a ++ ⟨#[10]⟩) m1 hE (EnvX.seven hE)
    have k2 := fun w hE => all_T w b (by omega) hE (EnvX.seven hE)
    have k3 := fun w hE => all_T w (a ++ ⟨#[10]⟩ ++ b) m2 hE (EnvX.seven hE)
    have hj := joins a.data.toList b.data.toList
    have e1 : (a ++ ⟨#[10]⟩ : ByteArray).data.toList = a.data.toList ++ [10] := by rw [cat_list]
    have e2 : (a ++ ⟨#[10]⟩ ++ b : ByteArray).data.toList = a.data.toList ++ [10] ++ b.data.toList := by rw [cat_list, cat_list]
    have l1 := toksA_len (a ++ ⟨#[10]⟩ : ByteArray).data.toList
    have l2 := toksA_len b.data.toList
    have l3 := toksA_len (a ++ ⟨#[10]⟩ ++ b : ByteArray).data.toList
    rw [← size_list] at l1 l2 l3
    have n1 : toksA (a ++ ⟨#[10]⟩ : ByteArray).data.toList ≠ [] := toks_ne2' _ _ _
    have hyn : ∀ x ∈ toksA b.data.toList, ∃ p : Nat, x.n = (p : Int) ∧ p ≤ b.size := by rw [size_list]; exact toks_n _ _ _
    have n2 : toksA b.data.toList ≠ [] := toks_ne2' _ _ _
    have n3 : toksA (a ++ ⟨#[10]⟩ ++ b : ByteArray).data.toList ≠ [] := toks_ne2' _ _ _
    rw [← e2, ← e1] at hj
    rw [← size_list] at hj
    generalize toksA (a ++ ⟨#[10]⟩ : ByteArray).data.toList = X at hj k1 l1 n1
    generalize toksA b.data.toList = Y at hj k2 l2 n2 hyn
    generalize toksA (a ++ ⟨#[10]⟩ ++ b : ByteArray).data.toList = Z at hj k3 l3 n3
    obtain ⟨x1, hx1⟩ : ∃ x1, x1 = X.length := ⟨_, rfl⟩
    obtain ⟨y1, hy1⟩ : ∃ y1, y1 = Y.length := ⟨_, rfl⟩
    obtain ⟨z1, hz1'⟩ : ∃ z1, z1 = Z.length := ⟨_, rfl⟩
    obtain ⟨n, hn⟩ : ∃ n, x1 = n + 1 := ⟨x1 - 1, by have := List.length_pos_iff.2 n1; omega⟩
    have y0 : 0 < y1 := by rw [hy1]; exact List.length_pos_iff.2 n2
    have f3 : (x1 : Int) - 1 = (n : Int) := by omega
    have f4 : ((x1 : Int) == 0) = false := by simp; omega
    have f5 : ((y1 : Int) == 0) = false := by simp; omega
    have hx5 : x1 ≤ 100001 := by omega
    have hy5 : y1 ≤ 100001 := by omega
    have hz5 : z1 ≤ 100001 := by omega
    have f6 : ((x1 : Int) = 0) = False := eq_false (by omega)
    have f7 : ((y1 : Int) = 0) = False := eq_false (by omega)
    have g1 : n < x1 := by omega
    have Hj := Lib.hid hj
    have Hyn := Lib.hid hyn
    have Hx1 := Lib.hid hx1
    have Hy1 := Lib.hid hy1
    have Hz1 := Lib.hid hz1'
    have Hn := Lib.hid hn
    clear hyn hj e1 e2 l1 l2 l3 m1 m2 hx1 hy1 hz1' hn
    go_enter Tryd.func7, Tryd.ntmps7
    go_wp2_with fail
    refine (k1 _ hE).mono ?_
    rintro e w1 ⟨v1, rfl, hM1, hB1⟩
    have hE1 := hE.below hB1
    obtain ⟨gx, cx, rfl, hcx, -, -, hX⟩ := MadeT.cells hM1 n1
    rw [← Hx1.out] at hcx ⊢
    go_wp2_with fail
    refine (k2 _ hE1).mono ?_
    rintro e w2 ⟨v2, rfl, hM2, hB2⟩
    have hC2 := hB1.trans (hB2.mono hB1.size)
    have hE2 := hE.below hC2
    obtain ⟨gy, cy, rfl, hcy, -, -, hY⟩ := MadeT.cells hM2 n2
    rw [← Hy1.out] at hcy ⊢
    go_wp2_with fail
    refine (k3 _ hE2).mono ?_
    rintro e w3 ⟨v3, rfl, hM3, hB3⟩
    have hC3 := hC2.trans (hB3.mono hC2.size)
    have hE3 := hE.below hC3
    obtain ⟨gz, cz, rfl, hcz, -, -, hZ⟩ := MadeT.cells hM3 n3
    rw [← Hz1.out] at hcz ⊢
    have hB13 : Below w1.heap.size w1 w3 := hB2.trans (hB3.mono hB2.size)
    have HX := Lib.hid (fun j x hx => (hX j x hx).below hB13)
    have HY := Lib.hid (fun j x hx => (hY j x hx).below hB3)
    have HZ := Lib.hid hZ
    clear hM1 hM2 hM3 hX hY hZ k1 k2 k3 n1 n2 n3 hE1 hE2
    rcases Hj.out with ⟨xs, h1, h2⟩ | ⟨xs, bad, h1, h2, h3⟩
    · have hxl : xs.length = n := by
        have := congrArg List.length h1
        rw [List.length_append, ← Hx1.out, Hn.out] at this
        simp at this
        omega
      have hzl : z1 = n + y1 := by
        have := congrArg List.length h2
        rw [List.length_append, List.length_map, ← Hz1.out, ← Hy1.out, hxl] at this
        exact this
      have hxn : X[n]? = some ⟨5, ⟨#[]⟩, ((a.size + 1 : Nat) : Int)⟩ := by rw [h1, ← hxl, List.getElem?_append_right (Nat.le_refl _)]; simp
      have hlo : ∀ i : Nat, i < n → ∃ x, X[i]? = some x ∧ Z[i]? = some x := by
        intro i hi
        obtain ⟨x, hx⟩ : ∃ x, xs[i]? = some x := ⟨xs[i]'(by omega), by rw [List.getElem?_eq_getElem]⟩
        exact ⟨x, by rw [h1, List.getElem?_append_left (by omega)]; exact hx, by rw [h2, List.getElem?_append_left (by omega)]; exact hx⟩
      have hhi : ∀ j : Nat, j < y1 → ∃ y : SymV, Y[j]? = some y ∧ Z[n + j]? = some (shiftT (a.size + 1) y) := by
        intro j hj
        obtain ⟨y, hy⟩ : ∃ y, Y[j]? = some y := ⟨Y[j]'(by rw [← Hy1.out]; exact hj), by rw [List.getElem?_eq_getElem]⟩
        refine ⟨y, hy, ?_⟩
        rw [h2, List.getElem?_append_right (by omega), hxl, Nat.add_sub_cancel_left, List.getElem?_map, hy]
        rfl
      obtain ⟨q0, q1, q2⟩ := HX.out n _ hxn
      have Hlo := Lib.hid hlo
      have Hhi := Lib.hid hhi
      have hzl' : (n : Int) + (y1 : Int) = (z1 : Int) := by omega
      obtain ⟨D, hD⟩ : ∃ D, D = a.size + 1 := ⟨_, rfl⟩
      have fD : (a.size : Int) + 1 = (D : Int) := by omega
      have hD5 : D ≤ 1001 := by omega
      have HD := Lib.hid hD
      have Hzl := Lib.hid hzl
      clear h1 h2 hxl hlo hhi hxn hzl hD
      go_wp2_with fail
      go_loopg [9, 10] (z1 - 0) (fun k iv tv wr => ∃ i : Nat, iv = .int .i64 i ∧ i ≤ z1 ∧ Hid (k = z1 - i) ∧ Below w3.heap.size w3 wr)
      case atStart => exact ⟨0, rfl, by omega, Lib.hid rfl, Below.refl _ _⟩
      case round =>
        obtain ⟨i, rfl, hi, Hk, hB⟩ := hrel
        by_cases hlt : i < z1
        · by_cases hin : i < n
          · obtain ⟨x, hx, hz⟩ := Hlo.out i hin
            have hcx' := (HX.out i x hx).below hB
            have hcz' := (HZ.out i x hz).below hB
            have a0 : ∀ d, (wr.drewN d).cell? ⟨gx, i * 3, none⟩ = some (.int .i64 x.k) := fun d => (hcx'.dn d).1
            have a1 : ∀ d, (wr.drewN d).cell? ⟨gx, i * 3 + 1, none⟩ = some (.string x.t) := fun d => (hcx'.dn d).2.1
            have a2 : ∀ d, (wr.drewN d).cell? ⟨gx, i * 3 + 2, none⟩ = some (.int .i64 x.n) := fun d => (hcx'.dn d).2.2
            have b0 : ∀ d, (wr.drewN d).cell? ⟨gz, i * 3, none⟩ = some (.int .i64 x.k) := fun d => (hcz'.dn d).1
            have b1 : ∀ d, (wr.drewN d).cell? ⟨gz, i * 3 + 1, none⟩ = some (.string x.t) := fun d => (hcz'.dn d).2.1
            have b2 : ∀ d, (wr.drewN d).cell? ⟨gz, i * 3 + 2, none⟩ = some (.int .i64 x.n) := fun d => (hcz'.dn d).2.2
            obtain ⟨a0', a1', a2'⟩ := hcx'
            obtain ⟨b0', b1', b2'⟩ := hcz'
            have hix : i < x1 := by omega
            have hq := tok_neq x
            clear hx hz
            go_wp2_with fail
            go_big_quiet (fail)
            go_wp2_with fail
            go_roundg (z1 - (i + 1))
            case measure => rw [Hk.out]; omega
            case rel => exact ⟨i + 1, by go_num, by omega, Lib.hid rfl, below_dn hB⟩
          · obtain ⟨j, hj⟩ : ∃ j, i = n + j := ⟨i - n, by omega⟩
            have hjy : j < y1 := by have := Hzl.out; omega
            obtain ⟨y, hy, hz⟩ := Hhi.out j hjy
            have hcy' := (HY.out j y hy).below hB
            have hcz' := (HZ.out (n + j) _ hz).below hB
            rw [← hj] at hcz'
            have f8 : (i : Int) - (n : Int) = (j : Int) := by omega
            have Hij := Lib.hid hj
            obtain ⟨c0, c1, c2⟩ := hcy'
            obtain ⟨t, ht⟩ : ∃ t, t = shiftT (a.size + 1) y := ⟨_, rfl⟩
            rw [← ht] at hcz'
            have htn : y.n + (D : Int) = t.n := by rw [ht, HD.out]; rfl
            have htk : y.k = t.k := by rw [ht]; rfl
            obtain ⟨pp, hpp, hpl⟩ := Hyn.out y (List.mem_of_getElem? hy)
            have hb1 : 0 ≤ t.n := by omega
            have hb2 : t.n ≤ 200000 := by omega
            have htt : y.t = t.t := by rw [ht]; rfl
            rw [htk] at c0
            rw [htt] at c1
            clear hy hz ht hj htk htt hpp hpl
            have hbt := heap_alloc_new wr (.cells #[.int .i64 t.k, .string t.t, .int .i64 t.n] 30)
            have hBt : Below wr.heap.size wr (wr.alloc (.cells #[.int .i64 t.k, .string t.t, .int .i64 t.n] 30)) := (Below.refl _ wr).alloc (Nat.le_refl _) _
            go_wp2_with fail
            generalize (wr.alloc (.cells #[.int .i64 t.k, .string t.t, .int .i64 t.n] 30)) = W5 at hbt hBt ⊢
            have hB5 := hB.trans (hBt.mono hB.size)
            have hcz5 := hcz'.below hBt
            have hm5 := mem_tok hbt
            have a0 : ∀ d, (W5.drewN d).cell? ⟨wr.heap.size, 0, none⟩ = some (.int .i64 t.k) := fun _ => hm5.1
            have a1 : ∀ d, (W5.drewN d).cell? ⟨wr.heap.size, 1, none⟩ = some (.string t.t) := fun _ => hm5.2.1
            have a2 : ∀ d, (W5.drewN d).cell? ⟨wr.heap.size, 2, none⟩ = some (.int .i64 t.n) := fun _ => hm5.2.2
            have b0 : ∀ d, (W5.drewN d).cell? ⟨gz, i * 3, none⟩ = some (.int .i64 t.k) := fun d => (hcz5.dn d).1
            have b1 : ∀ d, (W5.drewN d).cell? ⟨gz, i * 3 + 1, none⟩ = some (.string t.t) := fun d => (hcz5.dn d).2.1
            have b2 : ∀ d, (W5.drewN d).cell? ⟨gz, i * 3 + 2, none⟩ = some (.int .i64 t.n) := fun d => (hcz5.dn d).2.2
            obtain ⟨b0', b1', b2'⟩ := hcz5
            obtain ⟨a0', a1', a2'⟩ := hm5
            have hq := tok_neq t
            clear hcz' c0 c1 c2
            go_big_quiet (fail)
            go_wp2_with fail
            go_roundg (z1 - (i + 1))
            case measure => rw [Hk.out]; omega
            case rel => exact ⟨i + 1, by go_num, by omega, Lib.hid rfl, below_dn hB5⟩
        · obtain rfl : i = z1 := by omega
          have hC4 := hC3.trans (hB.mono hC3.size)
          go_wp2_with fail
          refine (wakes_T _ (hE.below hC4)).mono ?_
          rintro e w5 ⟨rfl, hB5⟩
          go_wp2_with fail
          go_ret
          exact ⟨rfl, hC4.trans (hB5.mono hC4.size)⟩
    · have hzx : Z = X := h3.trans h1.symm
      have hxl : xs.length = n := by
        have := congrArg List.length h1
        rw [List.length_append, ← Hx1.out, Hn.out] at this
        simp at this
        omega
      have hzl : z1 = x1 := by rw [Hz1.out, Hx1.out, hzx]
      have hxn : X[n]? = some bad := by rw [h1, ← hxl, List.getElem?_append_right (Nat.le_refl _)]; simp
      obtain ⟨a0, a1, a2⟩ := HX.out n _ hxn
      obtain ⟨b0, b1, b2⟩ := HZ.out n bad (by rw [hzx]; exact hxn)
      have b6 : (bad.k == 6) = true := by simp [h2]
      have Hc : Hid (∀ W, Below w3.heap.size w3 W → ((W.cell? ⟨gx, n * 3, none⟩ = some (.int .i64 bad.k) ∧ W.cell? ⟨gx, n * 3 + 1, none⟩ = some (.string bad.t) ∧ W.cell? ⟨gx, n * 3 + 2, none⟩ = some (.int .i64 bad.n)) ∧ W.cell? ⟨gz, n * 3, none⟩ = some (.int .i64 bad.k) ∧ W.cell? ⟨gz, n * 3 + 1, none⟩ = some (.string bad.t) ∧ W.cell? ⟨gz, n * 3 + 2, none⟩ = some (.int .i64 bad.n))) :=
        Lib.hid (fun W hB => ⟨TokC.below (j := n) (x := bad) ⟨a0, a1, a2⟩ hB, TokC.below (j := n) (x := bad) ⟨b0, b1, b2⟩ hB⟩)
      have hq := tok_eql bad
      have hd : Below w3.heap.size w3 w3.drew := (Below.refl _ w3).drew
      have k5 := wakes_T w3.drew (hE3.below hd)
      subst hzl
      clear h1 h2 h3 hzx hxl hxn
      go_wp2_with fail
      go_region_held_law (fun W => (W.cell? ⟨gx, n * 3, none⟩ = some (.int .i64 bad.k) ∧ W.cell? ⟨gx, n * 3 + 1, none⟩ = some (.string bad.t) ∧ W.cell? ⟨gx, n * 3 + 2, none⟩ = some (.int .i64 bad.n)) ∧ W.cell? ⟨gz, n * 3, none⟩ = some (.int .i64 bad.k) ∧ W.cell? ⟨gz, n * 3 + 1, none⟩ = some (.string bad.t) ∧ W.cell? ⟨gz, n * 3 + 2, none⟩ = some (.int .i64 bad.n))
        (first | go_keep | assumption)
        (first
          | (go_at_call 9; (with_reducible refine k5.mono ?_); rintro e w5 ⟨rfl, hB5⟩; have hC5 : Below w3.heap.size w3 w5 := hd.trans hB5; have hF5 := Hc.out w5 hC5)
          | fail "no arm")
      go_wp2_with fail
      go_ret
      exact ⟨rfl, hC3.trans (hC5.mono hC3.size)⟩
  · have hcs : 1000 < a.size ∨ (a.size ≤ 1000 ∧ 1000 < b.size) := by omega
    clear hs
    rcases hcs with h | ⟨h1, h2⟩
    · have f1 : ((1000 : Int) < (a.size : Int)) = True := eq_true (by omega)
      go_enter Tryd.func7, Tryd.ntmps7
      go_wp2_with fail
      refine (wakes_T _ hE).mono ?_
      rintro e w1 ⟨rfl, hB1⟩
      go_wp2_with fail
      go_ret
      exact ⟨rfl, hB1⟩
    · have f1 : ((1000 : Int) < (a.size : Int)) = False := eq_false (by omega)
      have f2 : ((1000 : Int) < (b.size : Int)) = True := eq_true (by omega)
      go_enter Tryd.func7, Tryd.ntmps7
      go_wp2_with fail
      refine (wakes_T _ hE).mono ?_
      rintro e w1 ⟨rfl, hB1⟩
      go_wp2_with fail
      go_ret
      exact ⟨rfl, hB1⟩

end Go.Proofs.YtlnnblfkigcipaaDoor
