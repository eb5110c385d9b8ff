/- What the program's signSize and measure answer. Conditions: the text is not too long; the table of signs lies as the program lays it. -/
import Derived.Test.YtlnnblfkigcipaaDoorLxFn
import Derived.Laws.Rows
namespace Go.Proofs.YtlnnblfkigcipaaDoor
open Go Go.RowKit

def signsV : Array Value := #[.string ⟨#[45, 45, 62]⟩, .string ⟨#[60, 61, 62]⟩, .string ⟨#[60, 60]⟩, .string ⟨#[62, 62]⟩, .string ⟨#[60, 62]⟩, .string ⟨#[60, 61]⟩, .string ⟨#[62, 61]⟩, .string ⟨#[40]⟩, .string ⟨#[41]⟩, .string ⟨#[123]⟩, .string ⟨#[125]⟩, .string ⟨#[94]⟩, .string ⟨#[43]⟩, .string ⟨#[45]⟩, .string ⟨#[33]⟩, .string ⟨#[126]⟩, .string ⟨#[60]⟩, .string ⟨#[62]⟩, .string ⟨#[61]⟩, .string ⟨#[42]⟩]

/-- The table of signs lies where the program lays it. -/
def SignsAt (w : World) : Prop := ∀ (j : Nat) v, signsV.toList[j]? = some v → w.cell? ⟨0, j, none⟩ = some v

theorem SignsAt.below {w w' : World} (h : SignsAt w) (hB : Below w.heap.size w w') : SignsAt w' := fun j v hv =>
  (hB.cell (p := ⟨0, j, none⟩) (World.block_lt_of_cell? w _ (h j v hv))).trans (h j v hv)

theorem load_signs {w : World} (h : SignsAt w) : (loadVar 68 ⟨0, 0, none⟩).run Tryd.prog w = .ok (.agg signsV) w := by
  have hl : (loadCells ⟨0, 0, none⟩ signsV.toList.length).run Tryd.prog w = .ok signsV.toList.toArray w :=
    run_loadCells_list (P := Tryd.prog) w ⟨0, 0, none⟩ signsV.toList (fun j v hv => by
      have hadd : (⟨0, 0, none⟩ : Addr).add j = ⟨0, j, none⟩ := by unfold Addr.add; split <;> simp_all
      rw [hadd]
      exact h j v hv)
  have hi : (Tryd.prog.info? 68).map (·.size) = some signsV.size := by kernel_rfl
  cases hq : Tryd.prog.info? 68 with
  | none => simp [hq] at hi
  | some i =>
    have hs : i.size = signsV.size := by simpa [hq] using hi
    have hagg : (isAgg 68).run Tryd.prog w = .ok true w := by
      unfold isAgg
      rw [Sem.run_bind, run_underlying Tryd.underlying68 w]
      rfl
    simp only [Array.length_toList, Array.toArray_toList] at hl
    simp [loadVar, Sem.run_bind, hagg, sizeOf, typeInfo, hq, hs, hl]

theorem wp_load_var {o : Oper} {a : Act} {w : World} {K : Act → World → Prop} {Q : Exit → Act → World → Prop} (ty : TypeId) (x : Operand) (ho : o.op = .load ty x)
    (g : Nat) (hx : a.eval x = .pointer (some ⟨g, 0, none⟩)) {v : Value} (hl : (loadVar ty ⟨g, 0, none⟩).run Tryd.prog w = .ok v w) (h : K (a.put o.dst v) w) : o.wp Tryd.prog a w K Q := by
  unfold Oper.wp execOp
  simp only [ho, hx, Instr.loadAt, Instr.sureAddr, Sem.run_bind, Sem.run_pure, Result.andThen_ok, hl]
  exact h

theorem wpList_load_var {ops : Array Oper} {rest : List Oper} {o : Oper} {a : Act} {w : World} {Q : Exit → Act → World → Prop} (hgd : o.guard = none) (ty : TypeId) (x : Operand) (ho : o.op = .load ty x)
    (g : Nat) (hx : a.eval x = .pointer (some ⟨g, 0, none⟩)) {v : Value} (hl : (loadVar ty ⟨g, 0, none⟩).run Tryd.prog w = .ok v w)
    (h : wpList Tryd.prog ops Q rest (a.put o.dst v) w) : wpList Tryd.prog ops Q (o :: rest) a w :=
  wpList_plain hgd fun _ hK => wp_load_var ty x ho g hx hl (hK _ _ h)

theorem sign_idx (j : Nat) (h : j < 20) : ∃ s : ByteArray, signsL.drop j = s.data.toList :: signsL.drop (j + 1) ∧ ∀ w, (Instr.index 68 (.agg signsV) (.int .i64 (j : Int))).run Tryd.prog w = .ok (.string s) w := by
  have hc : j = 0 ∨ j = 1 ∨ j = 2 ∨ j = 3 ∨ j = 4 ∨ j = 5 ∨ j = 6 ∨ j = 7 ∨ j = 8 ∨ j = 9 ∨ j = 10 ∨ j = 11 ∨ j = 12 ∨ j = 13 ∨ j = 14 ∨ j = 15 ∨ j = 16 ∨ j = 17 ∨ j = 18 ∨ j = 19 := by omega
  clear h
  rcases hc with rfl | rfl | rfl | rfl | rfl | rfl | rfl | rfl | rfl | rfl | rfl | rfl | rfl | rfl | rfl | rfl | rfl | rfl | rfl | rfl
  · exact ⟨⟨#[45, 45, 62]⟩, rfl, fun w => by kernel_rfl⟩
  · exact ⟨⟨#[60, 61, 62]⟩, rfl, fun w => by kernel_rfl⟩
  · exact ⟨⟨#[60, 60]⟩, rfl, fun w => by kernel_rfl⟩
  · exact ⟨⟨#[62, 62]⟩, rfl, fun w => by kernel_rfl⟩
  · exact ⟨⟨#[60, 62]⟩, rfl, fun w => by kernel_rfl⟩
  · exact ⟨⟨#[60, 61]⟩, rfl, fun w => by kernel_rfl⟩
  · exact ⟨⟨#[62, 61]⟩, rfl, fun w => by kernel_rfl⟩
  · exact ⟨⟨#[40]⟩, rfl, fun w => by kernel_rfl⟩
  · exact ⟨⟨#[41]⟩, rfl, fun w => by kernel_rfl⟩
  · exact ⟨⟨#[123]⟩, rfl, fun w => by kernel_rfl⟩
  · exact ⟨⟨#[125]⟩, rfl, fun w => by kernel_rfl⟩
  · exact ⟨⟨#[94]⟩, rfl, fun w => by kernel_rfl⟩
  · exact ⟨⟨#[43]⟩, rfl, fun w => by kernel_rfl⟩
  · exact ⟨⟨#[45]⟩, rfl, fun w => by kernel_rfl⟩
  · exact ⟨⟨#[33]⟩, rfl, fun w => by kernel_rfl⟩
  · exact ⟨⟨#[126]⟩, rfl, fun w => by kernel_rfl⟩
  · exact ⟨⟨#[60]⟩, rfl, fun w => by kernel_rfl⟩
  · exact ⟨⟨#[62]⟩, rfl, fun w => by kernel_rfl⟩
  · exact ⟨⟨#[61]⟩, rfl, fun w => by kernel_rfl⟩
  · exact ⟨⟨#[42]⟩, rfl, fun w => by kernel_rfl⟩

theorem sign_step (i : Nat) (s : List UInt8) (hs : signsL.drop i = s :: signsL.drop (i + 1)) (l : List UInt8) : signIn (signsL.drop i) l = if Lib.hasPrefix l s then s.length else signIn (signsL.drop (i + 1)) l := by
  rw [hs]; rfl

set_option maxRecDepth 100000 in
set_option maxHeartbeats 400000 in
theorem sign_size (w : World) (t : ByteArray) (hm : t.size ≤ 100000) (hE : SignsAt w) :
    Calls Tryd.prog 39 #[.string t] w fun e w' => e = .returned (.int .i64 (signIn signsL t.data.toList : Nat)) ∧ w' = w := by
  have k := fun s w => Tryd.strings_HasPrefix t s w
  have hL := load_signs hE
  have h0 : Hid (signIn signsL t.data.toList = signIn (signsL.drop 0) t.data.toList) := Lib.hid rfl
  have hst := Lib.hid sign_step
  have hix := Lib.hid sign_idx
  generalize signIn signsL t.data.toList = m at h0 ⊢
  generalize signsV = V at hL hix
  clear hE
  go_enter Tryd.func39, Tryd.ntmps39
  go_wp2_with (refine wpList_load_var rfl 68 _ rfl 0 rfl hL ?_)
  go_loopg [4, 6] (20 - 0) (fun k sv i wr => ∃ j : Nat, i = .int .i64 j ∧ j ≤ 20 ∧ Hid (k = 20 - j) ∧ Hid (m = signIn (signsL.drop j) t.data.toList) ∧ wr = w)
  case atStart => exact ⟨0, rfl, by omega, Lib.hid rfl, h0, rfl⟩
  case round =>
    obtain ⟨j, rfl, hj, Hk, Hm, rfl⟩ := hrel
    by_cases hlt : j < 20
    · obtain ⟨s, hd, hI⟩ := hix.out j hlt
      have hI := hI wr
      have h1 := hst.out j _ hd t.data.toList
      rw [← Hm.out] at h1
      have k1 := k s wr
      clear h0 k hst hix hL
      have hsz : Hid (s.size = s.data.toList.length) := Lib.hid (size_list s)
      generalize Lib.hasPrefix t.data.toList s.data.toList = b at k1 h1
      have H1 := Lib.hid h1
      clear h1 hd
      cases b
      · go_wp2_with fail
        refine k1.mono ?_
        rintro e w' ⟨rfl, rfl⟩
        go_wp2_with fail
        go_roundg (20 - (j + 1))
        case measure => rw [Hk.out]; omega
        case rel => exact ⟨j + 1, by go_num, by omega, Lib.hid rfl, Lib.hid (H1.out.trans (if_neg (by simp))), rfl⟩
      · have h2 := H1.out.trans (if_pos rfl)
        rw [← hsz.out] at h2
        have H2 := Lib.hid h2
        clear h2
        go_wp2_with fail
        refine k1.mono ?_
        rintro e w' ⟨rfl, rfl⟩
        go_wp2_with fail
        go_ret
        exact ⟨by rw [H2.out]; rfl, rfl⟩
    · obtain rfl : j = 20 := by omega
      have h1 : m = 0 := Hm.out
      subst h1
      clear hL
      go_wp2_with fail
      go_ret
      exact ⟨rfl, rfl⟩

set_option maxRecDepth 100000 in
set_option maxHeartbeats 1000000 in
theorem meas_T (w : World) (t : ByteArray) (hm : t.size ≤ 100000) (hE : SignsAt w) :
    Calls Tryd.prog 30 #[.string t] w fun e w' => e = .returned (.tuple #[.int .i64 (measL t.data.toList).1, .int .i64 ((measL t.data.toList).2 : Nat)]) ∧ Below w.heap.size w w' := by
  have k1 := fun w => word_size w t hm
  have k2 := fun w => num_size w t hm
  have k3 := fun w => var_size w t hm
  have k4 := fun w h => sign_size w t hm h
  have he : measL t.data.toList = if wordN t.data.toList ≠ 0 then (1, wordN t.data.toList) else if numN t.data.toList ≠ 0 then (2, numN t.data.toList) else if varN t.data.toList ≠ 0 then (3, varN t.data.toList) else if signIn signsL t.data.toList ≠ 0 then (4, signIn signsL t.data.toList) else (6, 1) := rfl
  generalize wordN t.data.toList = a at *
  generalize numN t.data.toList = b at *
  generalize varN t.data.toList = c at *
  generalize signIn signsL t.data.toList = d at *
  generalize measL t.data.toList = m at *
  by_cases ha : a = 0
  · by_cases hb : b = 0
    · by_cases hc : c = 0
      · by_cases hd : d = 0
        · subst ha hb hc hd
          simp at he
          subst he
          go_enter Tryd.func30, Tryd.ntmps30
          go_wp2_with fail
          refine (k1 _).mono ?_
          rintro e w1 ⟨rfl, hB1⟩
          go_wp2_with fail
          refine (k2 _).mono ?_
          rintro e w2 ⟨rfl, hB2⟩
          have hC2 := hB1.trans (hB2.mono hB1.size)
          go_wp2_with fail
          refine (k3 _).mono ?_
          rintro e w3 ⟨rfl, hB3⟩
          have hC3 := hC2.trans (hB3.mono hC2.size)
          go_wp2_with fail
          refine (k4 _ (hE.below hC3)).mono ?_
          rintro e w4 ⟨rfl, rfl⟩
          go_wp2_with fail
          go_ret2
          exact ⟨rfl, hC3⟩
        · subst ha hb hc
          simp [hd] at he
          subst he
          have f1 : (0 < (d : Int)) = True := eq_true (by omega)
          have f2 : (0 < d) = True := eq_true (by omega)
          clear hd
          go_enter Tryd.func30, Tryd.ntmps30
          go_wp2_with fail
          refine (k1 _).mono ?_
          rintro e w1 ⟨rfl, hB1⟩
          go_wp2_with fail
          refine (k2 _).mono ?_
          rintro e w2 ⟨rfl, hB2⟩
          have hC2 := hB1.trans (hB2.mono hB1.size)
          go_wp2_with fail
          refine (k3 _).mono ?_
          rintro e w3 ⟨rfl, hB3⟩
          have hC3 := hC2.trans (hB3.mono hC2.size)
          go_wp2_with fail
          refine (k4 _ (hE.below hC3)).mono ?_
          rintro e w4 ⟨rfl, rfl⟩
          go_wp2_with fail
          go_ret2
          exact ⟨rfl, hC3⟩
      · subst ha hb
        simp [hc] at he
        subst he
        have f1 : (0 < (c : Int)) = True := eq_true (by omega)
        have f2 : (0 < c) = True := eq_true (by omega)
        clear hc
        go_enter Tryd.func30, Tryd.ntmps30
        go_wp2_with fail
        refine (k1 _).mono ?_
        rintro e w1 ⟨rfl, hB1⟩
        go_wp2_with fail
        refine (k2 _).mono ?_
        rintro e w2 ⟨rfl, hB2⟩
        have hC2 := hB1.trans (hB2.mono hB1.size)
        go_wp2_with fail
        refine (k3 _).mono ?_
        rintro e w3 ⟨rfl, hB3⟩
        have hC3 := hC2.trans (hB3.mono hC2.size)
        go_wp2_with fail
        go_ret2
        exact ⟨rfl, hC3⟩
    · subst ha
      simp [hb] at he
      subst he
      have f1 : (0 < (b : Int)) = True := eq_true (by omega)
      have f2 : (0 < b) = True := eq_true (by omega)
      clear hb
      go_enter Tryd.func30, Tryd.ntmps30
      go_wp2_with fail
      refine (k1 _).mono ?_
      rintro e w1 ⟨rfl, hB1⟩
      go_wp2_with fail
      refine (k2 _).mono ?_
      rintro e w2 ⟨rfl, hB2⟩
      have hC2 := hB1.trans (hB2.mono hB1.size)
      go_wp2_with fail
      go_ret2
      exact ⟨rfl, hC2⟩
  · simp [ha] at he
    subst he
    have f1 : (0 < (a : Int)) = True := eq_true (by omega)
    have f2 : (0 < a) = True := eq_true (by omega)
    clear ha
    go_enter Tryd.func30, Tryd.ntmps30
    go_wp2_with fail
    refine (k1 _).mono ?_
    rintro e w1 ⟨rfl, hB1⟩
    go_wp2_with fail
    go_ret2
    exact ⟨rfl, hB1⟩

end Go.Proofs.YtlnnblfkigcipaaDoor
