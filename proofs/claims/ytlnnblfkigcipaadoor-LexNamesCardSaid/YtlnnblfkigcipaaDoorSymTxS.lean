/- What Text, guess and Parse answer. Conditions: strconv's table of powers and its two errors lie as the program lays them. -/
import Derived.Test.YtlnnblfkigcipaaDoorSymValS
import Derived.Test.YtlnnblfkigcipaaDoorShelf
import Derived.Lib.AtoiAllCases
import Derived.Lib.AppendIntMem
import Derived.Lib.SmallJoins
import Derived.Lib.ItoaLen
import Derived.Test.YtlnnblfkigcipaaDoorGetSS
import Derived.Laws.Concat
namespace Go.Proofs.YtlnnblfkigcipaaDoor
open Go Go.RowKit

/-- What the program's variables hold. -/
def Env (w : World) : Prop :=
  Lib.TabIs Tryd.prog w "internal/strconv.uint64pow10" .u64 Lib.pow10Tab ∧ (∃ te pe, w.cell? ⟨4, 0, none⟩ = some (.iface te pe)) ∧ (∃ te pe, w.cell? ⟨5, 0, none⟩ = some (.iface te pe))

theorem gTab : ∃ g, Tryd.prog.globalNamed "internal/strconv.uint64pow10" = some g := ⟨6, by kernel_rfl⟩

theorem Env.below {w w' : World} (h : Env w) (hB : Below w.heap.size w w') : Env w' := by
  obtain ⟨h1, ⟨t2, p2, h2⟩, ⟨t3, p3, h3⟩⟩ := h
  obtain ⟨g, hg⟩ := gTab
  exact ⟨Go.Joins.tab_stays hg h1 hB (Nat.le_refl _), ⟨t2, p2, (hB.cell (p := ⟨4, 0, none⟩) (World.block_lt_of_cell? w _ h2)).trans h2⟩, ⟨t3, p3, (hB.cell (p := ⟨5, 0, none⟩) (World.block_lt_of_cell? w _ h3)).trans h3⟩⟩

/-- What Atoi answers beside its error. -/
def atoiV (s : ByteArray) : Int := match Lib.atoiAll s.data.toList with | .ok v => v | .range => Lib.atoiSat s.data.toList | _ => 0

theorem atoiV_bounds (s : ByteArray) : -9223372036854775808 ≤ atoiV s ∧ atoiV s ≤ 9223372036854775807 := by
  unfold atoiV
  rcases h : Lib.atoiAll s.data.toList with v | _ | _
  · exact Lib.atoiAll_bounds h
  · simp
  · exact Lib.atoiSat_bounds _

theorem atoi_T (w : World) (s : ByteArray) (hE : Env w) (hs : s.size ≤ 281474976710656) :
    Calls Tryd.prog 60 #[.string s] w fun e w' => ∃ ev, e = .returned (.tuple #[.int .i64 (atoiV s), ev]) ∧ Below w.heap.size w w' := by
  obtain ⟨-, ⟨t2, p2, h2⟩, ⟨t3, p3, h3⟩⟩ := hE
  unfold atoiV
  rcases h : Lib.atoiAll s.data.toList with v | _ | _
  · refine (Tryd.strconv_Atoi_ok s (by omega) v h w).mono ?_
    rintro e w' ⟨rfl, hw⟩
    refine ⟨_, rfl, ?_⟩
    rcases hw with rfl | ⟨t, rfl⟩
    · exact Below.refl _ _
    · exact Go.Joins.below_bytesWorld _ _ _ _ (Nat.le_refl _)
  · refine (Any.strconv_Atoi_syntax Tryd.laysC172 s hs h _ w h2 (.inr ⟨_, _, rfl⟩)).mono ?_
    rintro e w' ⟨N, rfl, -, -, hB⟩
    exact ⟨_, rfl, hB⟩
  · refine (Tryd.strconv_Atoi_range s hs h _ w h3 (.inr ⟨_, _, rfl⟩)).mono ?_
    rintro e w' ⟨N, rfl, -, -, hB⟩
    exact ⟨_, rfl, hB⟩

/-- A number's text. -/
def itoaB (n : Int) : ByteArray := ⟨(Lib.itoa n).toArray⟩

theorem itoaB_size (n : Int) (h0 : -9223372036854775808 ≤ n) (h1 : n ≤ 9223372036854775807) : (itoaB n).size ≤ 21 := by
  have := Lib.itoa_length_le n h0 h1
  simpa [itoaB, ByteArray.size] using this

theorem itoa_T (w : World) (n : Int) (hE : Env w) (h0 : -9223372036854775808 ≤ n) (h1 : n ≤ 9223372036854775807) :
    Calls Tryd.prog 61 #[.int .i64 n] w fun e w' => e = .returned (.string (itoaB n)) ∧ Below w.heap.size w w' := by
  refine (Tryd.strconv_Itoa n h0 h1 w hE.1).mono ?_
  rintro e w' ⟨rfl, k, os, rfl⟩
  exact ⟨rfl, Lib.below_grow _ _ (Nat.le_refl _) _ _⟩

/-- A symbol's text. -/
def textB (x : SymV) : ByteArray := if validB x then (if x.k = 3 then x.t else x.t ++ itoaB x.n) else ⟨#[]⟩

theorem valid_n {x : SymV} (h : validB x = true) (h3 : ¬ x.k = 3) : -2147483647 ≤ x.n ∧ x.n ≤ 2147483647 := by
  unfold validB at h
  split at h
  · simp at h; omega
  · split at h
    · simp at h; omega
    · simp [h3] at h

theorem valid_t {x : SymV} (h : validB x = true) : x.t.size ≤ 32 := by
  unfold validB at h
  split at h
  · simp only [Bool.and_eq_true, decide_eq_true_eq] at h; omega
  · split at h
    · simp only [Bool.and_eq_true, decide_eq_true_eq] at h; omega
    · split at h
      · simp only [wordB, Bool.and_eq_true, decide_eq_true_eq] at h; omega
      · cases h

set_option maxHeartbeats 800000 in
theorem text_T (w : World) (x : SymV) (hm : x.t.size ≤ maxLen - 100) (hE : Env w) : Calls Tryd.prog 51 #[.agg #[.int .i64 x.k, .string x.t, .int .i64 x.n]] w fun e w' => e = .returned (.string (textB x)) ∧ Below w.heap.size w w' := by
  have hB0 := box1_S w x
  have hb0 := heap_alloc_new w (.cells #[.int .i64 x.k, .string x.t, .int .i64 x.n] 62)
  cases hv : validB x
  · go_enter Tryd.func51, Tryd.ntmps51
    go_wp2_with fail
    generalize (w.alloc (.cells #[.int .i64 x.k, .string x.t, .int .i64 x.n] 62)) = W0 at hB0 hb0 ⊢
    refine (valid_T W0 x (by omega)).mono ?_
    rw [hv]
    rintro e w1 ⟨rfl, hB1⟩
    go_wp2_with fail
    go_ret
    exact ⟨by simp [textB, hv], hB0.trans (hB1.mono hB0.size)⟩
  · have Hv := Lib.hid hv
    by_cases h3 : x.k = 3
    · have b3 : (x.k == 3) = true := by simp [h3]
      have H3 := Lib.hid h3
      clear h3 hv
      go_enter Tryd.func51, Tryd.ntmps51
      go_wp2_with fail
      generalize (w.alloc (.cells #[.int .i64 x.k, .string x.t, .int .i64 x.n] 62)) = W0 at hB0 hb0 ⊢
      refine (valid_T W0 x (by omega)).mono ?_
      rw [Hv.out]
      rintro e w1 ⟨rfl, hB1⟩
      have hb1 := (hB1.block _ (lt_of_block hb0)).trans hb0
      have c0 : w1.cell? ⟨w.heap.size, 0, none⟩ = some (.int .i64 x.k) := by simp [World.cell?, hb1]
      have c1 : w1.cell? ⟨w.heap.size, 1, none⟩ = some (.string x.t) := by simp [World.cell?, hb1]
      clear hb0 hb1
      go_wp2_with fail
      go_ret
      exact ⟨by simp [textB, Hv.out, H3.out], hB0.trans (hB1.mono hB0.size)⟩
    · have b3 : (x.k == 3) = false := by simp [h3]
      obtain ⟨n1, n2⟩ := valid_n hv h3
      have hz1 := itoaB_size x.n (by omega) (by omega)
      have hz2 := valid_t hv
      have hz3 : ((9223372036854775807 : Int) < (x.t.size : Int) + ((itoaB x.n).size : Int)) = False := eq_false (by omega)
      have hz4 : (x.t.size + (itoaB x.n).size > 9223372036854775807) = False := eq_false (by omega)
      have hz5 : ∀ w, (Op.stringOp .add x.t (itoaB x.n)).run Tryd.prog w = .ok (.string (x.t ++ itoaB x.n)) w := fun w => run_string_add_sum w _ _ (by omega)
      have H3 := Lib.hid h3
      clear h3 hv
      go_enter Tryd.func51, Tryd.ntmps51
      go_wp2_with fail
      generalize (w.alloc (.cells #[.int .i64 x.k, .string x.t, .int .i64 x.n] 62)) = W0 at hB0 hb0 ⊢
      refine (valid_T W0 x (by omega)).mono ?_
      rw [Hv.out]
      rintro e w1 ⟨rfl, hB1⟩
      have hC1 := hB0.trans (hB1.mono hB0.size)
      have hE1 := hE.below hC1
      have hb1 := (hB1.block _ (lt_of_block hb0)).trans hb0
      have hmem : ∀ W, Below w1.heap.size w1 W → W.cell? ⟨w.heap.size, 0, none⟩ = some (.int .i64 x.k) ∧ W.cell? ⟨w.heap.size, 1, none⟩ = some (.string x.t) ∧ W.cell? ⟨w.heap.size, 2, none⟩ = some (.int .i64 x.n) := by
        intro W hB
        have := (hB.block _ (lt_of_block hb1)).trans hb1
        simp [World.cell?, this]
      have Hmem := Lib.hid hmem
      obtain ⟨c0, c1, c2⟩ := hmem _ (Below.refl _ _)
      clear hb0 hb1 hmem
      go_wp2_with fail
      go_region_held3 (fun W => W.cell? ⟨w.heap.size, 1, none⟩ = some (.string x.t) ∧ W.cell? ⟨w.heap.size, 2, none⟩ = some (.int .i64 x.n))
        (first | go_keep | assumption)
        (first
          | ((with_reducible refine (itoa_T w1.drew x.n (hE1.below (Below.refl _ _).drew) (by omega) (by omega)).mono ?_); rintro e w2 ⟨rfl, hB2⟩; have hC2 := (Below.refl _ w1).drew.trans hB2; have hm2 := Hmem.out w2 hC2; obtain ⟨-, d1, d2⟩ := hm2)
          | fail "no arm")
      go_wp2_with fail
      go_ret
      exact ⟨by simp [textB, Hv.out, H3.out], hC1.trans (hC2.mono hC1.size)⟩

/-- The only symbol that may have a text. -/
def guessV (t : ByteArray) : SymV :=
  if t.size = 0 then ⟨0, ⟨#[]⟩, 0⟩
  else if capI (hd t) then ⟨1, t.extract 0 1, atoiV (t.extract 1 t.size)⟩
  else if smallI (hd t) then ⟨3, t, 0⟩
  else ⟨2, ⟨#[]⟩, atoiV t⟩

set_option maxHeartbeats 800000 in
theorem guess_T (w : World) (t : ByteArray) (hm : t.size ≤ 100000) (hE : Env w) : Calls Tryd.prog 49 #[.string t] w fun e w' => e = .returned (.agg #[.int .i64 (guessV t).k, .string (guessV t).t, .int .i64 (guessV t).n]) ∧ Below w.heap.size w w' := by
  have hB0 : Below w.heap.size w (w.alloc (.cells #[.int .i64 0, .string ⟨#[]⟩, .int .i64 0] 62)) := (Below.refl _ w).alloc (Nat.le_refl _) _
  have hb0 := heap_alloc_new w (.cells #[.int .i64 0, .string ⟨#[]⟩, .int .i64 0] 62)
  by_cases h0 : t.size = 0
  · have e0 : t.toList = [] := by rw [ByteArray.toList_eq]; exact List.length_eq_zero_iff.1 (by simpa using h0)
    have e1 : t.toList.isEmpty = true := by rw [e0]; rfl
    have G : guessV t = ⟨0, ⟨#[]⟩, 0⟩ := by simp [guessV, h0]
    rw [G]
    clear h0 G
    go_enter Tryd.func49, Tryd.ntmps49
    go_wp2_with fail
    exact bodyPost_ret (v := .agg #[.int .i64 0, .string ⟨#[]⟩, .int .i64 0]) (by simp [results, Tryd.results49, go_sem]) rfl ⟨rfl, hB0⟩
  · have hpos : 0 < t.size := by omega
    have hposi : (0 : Int) < (t.size : Int) := by omega
    have e1 : t.toList.isEmpty = false := by
      rw [ByteArray.toList_eq]
      cases hl : t.data.toList with
      | nil => exfalso; apply h0; have := congrArg List.length hl; simpa using this
      | cons _ _ => rfl
    have e2 : ¬ t.toList = [] := by intro h; rw [h] at e1; cases e1
    have hs := hd_pos hpos
    cases hc : capI (hd t)
    · cases hsm : smallI (hd t)
      · have G : guessV t = ⟨2, ⟨#[]⟩, atoiV t⟩ := by simp [guessV, h0, hc, hsm]
        rw [G]
        rw [hs] at hc hsm
        clear G h0 hs
        go_enter Tryd.func49, Tryd.ntmps49
        go_wp2_with fail
        generalize (w.alloc (.cells #[.int .i64 0, .string ⟨#[]⟩, .int .i64 0] 62)) = W0 at hB0 hb0 ⊢
        refine (cap_T _ _).mono ?_
        rintro e w' ⟨rfl, rfl⟩
        go_wp2_with fail
        refine (small_T _ _).mono ?_
        rintro e w' ⟨rfl, rfl⟩
        go_wp2_with fail
        refine (atoi_T W0 t (hE.below hB0) (by omega)).mono ?_
        rintro e w1 ⟨ev, rfl, hB1⟩
        have hb1 := (hB1.block _ (lt_of_block hb0)).trans hb0
        have hz1 := S.zero_cells hb1
        have hC1 := hB0.trans (hB1.mono hB0.size)
        have Hb1 := Lib.hid hb1
        clear hb0 hb1
        go_wp2_with fail
        have hm := S.mem_sto w1 w.heap.size (⟨2, ⟨#[]⟩, atoiV t⟩) Hb1.out
        have hB3 := S.below_but hC1 (S.but_sto w1 w.heap.size (⟨2, ⟨#[]⟩, atoiV t⟩)) (Nat.le_refl _) hC1.size
        dsimp only at hm hB3
        generalize (((w1.setCell ⟨w.heap.size, 0, none⟩ _).setCell ⟨w.heap.size, 1, none⟩ _).setCell ⟨w.heap.size, 2, none⟩ _) = W at hm hB3 ⊢
        exact bodyPost_ret (v := .agg #[.int .i64 2, .string ⟨#[]⟩, .int .i64 (atoiV t)]) (by simp [results, Tryd.results49, go_sem, hm]) rfl ⟨rfl, hB3⟩
      · have G : guessV t = ⟨3, t, 0⟩ := by simp [guessV, h0, hc, hsm]
        rw [G]
        rw [hs] at hc hsm
        have Hb1 := Lib.hid hb0
        have hz1 := S.zero_cells hb0
        have hC1 := hB0
        clear G h0 hs
        go_enter Tryd.func49, Tryd.ntmps49
        go_wp2_with fail
        generalize (w.alloc (.cells #[.int .i64 0, .string ⟨#[]⟩, .int .i64 0] 62)) = w1 at hB0 hb0 Hb1 hz1 hC1 ⊢
        clear hb0
        refine (cap_T _ _).mono ?_
        rintro e w' ⟨rfl, rfl⟩
        go_wp2_with fail
        refine (small_T _ _).mono ?_
        rintro e w' ⟨rfl, rfl⟩
        go_wp2_with fail
        have hm := S.mem_sto w1 w.heap.size (⟨3, t, 0⟩) Hb1.out
        have hB3 := S.below_but hC1 (S.but_sto w1 w.heap.size (⟨3, t, 0⟩)) (Nat.le_refl _) hC1.size
        dsimp only at hm hB3
        generalize (((w1.setCell ⟨w.heap.size, 0, none⟩ _).setCell ⟨w.heap.size, 1, none⟩ _).setCell ⟨w.heap.size, 2, none⟩ _) = W at hm hB3 ⊢
        exact bodyPost_ret (v := .agg #[.int .i64 3, .string t, .int .i64 0]) (by simp [results, Tryd.results49, go_sem, hm]) rfl ⟨rfl, hB3⟩
    · have G : guessV t = ⟨1, t.extract 0 1, atoiV (t.extract 1 t.size)⟩ := by simp [guessV, h0, hc]
      rw [G]
      rw [hs] at hc
      clear G h0 hs
      go_enter Tryd.func49, Tryd.ntmps49
      go_wp2_with fail
      generalize (w.alloc (.cells #[.int .i64 0, .string ⟨#[]⟩, .int .i64 0] 62)) = W0 at hB0 hb0 ⊢
      refine (cap_T _ _).mono ?_
      rintro e w' ⟨rfl, rfl⟩
      go_wp2_with fail
      refine (atoi_T W0 (t.extract 1 t.size) (hE.below hB0) (by rw [ByteArray.size_extract]; omega)).mono ?_
      rintro e w1 ⟨ev, rfl, hB1⟩
      have hb1 := (hB1.block _ (lt_of_block hb0)).trans hb0
      have hz1 := S.zero_cells hb1
      have hC1 := hB0.trans (hB1.mono hB0.size)
      have Hb1 := Lib.hid hb1
      clear hb0 hb1
      go_wp2_with fail
      have hm := S.mem_sto w1 w.heap.size (⟨1, t.extract 0 1, atoiV (t.extract 1 t.size)⟩) Hb1.out
      have hB3 := S.below_but hC1 (S.but_sto w1 w.heap.size (⟨1, t.extract 0 1, atoiV (t.extract 1 t.size)⟩)) (Nat.le_refl _) hC1.size
      dsimp only at hm hB3
      generalize (((w1.setCell ⟨w.heap.size, 0, none⟩ _).setCell ⟨w.heap.size, 1, none⟩ _).setCell ⟨w.heap.size, 2, none⟩ _) = W at hm hB3 ⊢
      exact bodyPost_ret (v := .agg #[.int .i64 1, .string (t.extract 0 1), .int .i64 (atoiV (t.extract 1 t.size))]) (by simp [results, Tryd.results49, go_sem, hm]) rfl ⟨rfl, hB3⟩

end Go.Proofs.YtlnnblfkigcipaaDoor
