/- What the statements' same answers of two rows of the same tokens. Conditions: the rows lie in memory. -/
import Derived.Test.YtlnnblfkigcipaaDoorRfAllR
import Derived.Test.YtlnnblfkigcipaaDoorLxEnvK
namespace Go.Proofs.YtlnnblfkigcipaaDoor
open Go Go.RowKit Go.Shelf

/-- v is a slice of the tokens xs. -/
def SlTok (W : World) (v : Value) (xs : List SymV) : Prop := ∃ p c, v = .slice p xs.length c ∧ ∀ j x, xs[j]? = some x → ∃ g, p = some ⟨g, 0, none⟩ ∧ TokC W g j x

theorem MadeT.sl {T : TypeId} {B : Nat} {W : World} {v : Value} {xs : List SymV} (h : MadeT T B W v xs) : SlTok W v xs := by
  cases xs with
  | nil =>
    rcases h.2 with ⟨rfl, -⟩ | ⟨g, cap, cur, rfl, -⟩
    · exact ⟨none, 0, rfl, fun j x hx => by simp at hx⟩
    · exact ⟨_, cap, rfl, fun j x hx => by simp at hx⟩
  | cons y ys =>
    obtain ⟨g, cap, rfl, -, -, -, hc⟩ := h.cells (by simp)
    exact ⟨_, cap, rfl, fun j x hx => ⟨g, rfl, hc j x hx⟩⟩

theorem SlTok.below {W W' : World} {v : Value} {xs : List SymV} (h : SlTok W v xs) (hB : Below W.heap.size W W') : SlTok W' v xs := by
  obtain ⟨p, c, rfl, hc⟩ := h
  refine ⟨p, c, rfl, fun j x hx => ?_⟩
  obtain ⟨g, hp, h2⟩ := hc j x hx
  exact ⟨g, hp, h2.below hB⟩

theorem TokC.drewN {W : World} {g j : Nat} {x : SymV} (h : TokC W g j x) (d : Nat) : TokC (W.drewN d) g j x := h

theorem below_dn {B : Nat} {w W : World} {d : Nat} (h : Below B w W) : Below B w (W.drewN d) := ⟨h.os, h.tape, h.output, h.size, h.block⟩

set_option maxRecDepth 100000 in
set_option maxHeartbeats 3200000 in
theorem same_T (w : World) (a b : Value) (xs : List SymV) (hl : xs.length ≤ 200000) (ha : SlTok w a xs) (hb : SlTok w b xs) :
    Calls Tryd.prog 11 #[a, b] w fun e w' => e = .returned (.bool true) ∧ Below w.heap.size w w' := by
  obtain ⟨p1, c1, rfl, h1⟩ := ha
  obtain ⟨p2, c2, rfl, h2⟩ := hb
  have H1 := Lib.hid h1
  have H2 := Lib.hid h2
  obtain ⟨N, hN⟩ : ∃ N, N = xs.length := ⟨_, rfl⟩
  rw [← hN] at hl ⊢
  have HN := Lib.hid hN
  clear h1 h2 hN
  go_enter Tryd.func11, Tryd.ntmps11
  go_wp2_with fail
  go_loopg [5] (N - 0) (fun k jv wr => ∃ j d : Nat, jv = .int .i64 j ∧ j ≤ N ∧ Hid (k = N - j) ∧ Hid (wr = w.drewN d))
  case atStart => exact ⟨0, 0, rfl, by omega, Lib.hid rfl, Lib.hid rfl⟩
  case round =>
    obtain ⟨j, d, rfl, hj, Hk, Hw⟩ := hrel
    by_cases hlt : j < N
    · obtain ⟨x, hx⟩ : ∃ x, xs[j]? = some x := ⟨xs[j]'(by rw [← HN.out]; exact hlt), by rw [List.getElem?_eq_getElem]⟩
      obtain ⟨g1, rfl, a0, a1, a2⟩ := H1.out j x hx
      obtain ⟨g2, rfl, b0, b1, b2⟩ := H2.out j x hx
      have a0n : ∀ n, (wr.drewN n).cell? ⟨g1, j * 3, none⟩ = some (.int .i64 x.k) := by intro n; rw [Hw.out]; exact a0
      have a1n : ∀ n, (wr.drewN n).cell? ⟨g1, j * 3 + 1, none⟩ = some (.string x.t) := by intro n; rw [Hw.out]; exact a1
      have a2n : ∀ n, (wr.drewN n).cell? ⟨g1, j * 3 + 2, none⟩ = some (.int .i64 x.n) := by intro n; rw [Hw.out]; exact a2
      have b0n : ∀ n, (wr.drewN n).cell? ⟨g2, j * 3, none⟩ = some (.int .i64 x.k) := by intro n; rw [Hw.out]; exact b0
      have b1n : ∀ n, (wr.drewN n).cell? ⟨g2, j * 3 + 1, none⟩ = some (.string x.t) := by intro n; rw [Hw.out]; exact b1
      have b2n : ∀ n, (wr.drewN n).cell? ⟨g2, j * 3 + 2, none⟩ = some (.int .i64 x.n) := by intro n; rw [Hw.out]; exact b2
      have a0 : wr.cell? ⟨g1, j * 3, none⟩ = some (.int .i64 x.k) := a0n 0
      have a1 : wr.cell? ⟨g1, j * 3 + 1, none⟩ = some (.string x.t) := a1n 0
      have a2 : wr.cell? ⟨g1, j * 3 + 2, none⟩ = some (.int .i64 x.n) := a2n 0
      have b0 : wr.cell? ⟨g2, j * 3, none⟩ = some (.int .i64 x.k) := b0n 0
      have b1 : wr.cell? ⟨g2, j * 3 + 1, none⟩ = some (.string x.t) := b1n 0
      have b2 : wr.cell? ⟨g2, j * 3 + 2, none⟩ = some (.int .i64 x.n) := b2n 0
      clear hx
      go_wp2_with fail
      go_big_quiet (fail)
      go_wp2_with fail
      go_roundg (N - (j + 1))
      case measure => rw [Hk.out]; omega
      case rel => exact ⟨j + 1, _, by go_num, by omega, Lib.hid rfl, Lib.hid (by rw [Hw.out]; exact drewN_drewN _ _ _)⟩
    · obtain rfl : j = N := by omega
      go_wp2_with fail
      go_ret
      exact ⟨rfl, by rw [Hw.out]; exact below_dn (Below.refl _ _)⟩

set_option maxRecDepth 100000 in
set_option maxHeartbeats 3200000 in
theorem lextokens_walk (w : World) (s : ByteArray) (hE : EnvX w) : Calls Tryd.prog 3 #[.string s] w fun e w' => e = .returned (.bool true) ∧ Below w.heap.size w w' := by
  by_cases hs : s.size ≤ 3000
  · have f1 : ((3000 : Int) < (s.size : Int)) = False := eq_false (by omega)
    have hm : s.size ≤ 100000 := by omega
    have hlen := toksA_len s.data.toList
    rw [← size_list] at hlen
    have k1 := fun w => refall_T w s hm
    have k2 := fun w hE hn => all_T w s hm hE hn
    have hts := fun n₀ Bt w h1 h2 h3 => tokens_stops 2 n₀ Bt s w hm h1 h2 h3
    generalize toksA s.data.toList = L at hlen k1 k2 hts
    have hl2 : L.length ≤ 200000 := by omega
    have hl8 : L.length ≤ 800000 := by omega
    clear hs hlen
    go_enter Tryd.func3, Tryd.ntmps3
    go_wp2_with fail
    refine (k1 _).mono ?_
    rintro e w1 ⟨v1, rfl, hM1, hB1⟩
    have hE1 := hE.below hB1
    go_wp2_with fail
    refine (k2 _ hE1 hE1.seven).mono ?_
    rintro e w2 ⟨v2, rfl, hM2, hB2⟩
    have hC2 := hB1.trans (hB2.mono hB1.size)
    have hE2 := hE.below hC2
    have hr := hM1.sl.below hB2
    go_wp2_with fail
    refine (same_T _ _ _ L hl2 (MadeT.sl hM2) hr).mono ?_
    rintro e w3 ⟨rfl, hB3⟩
    have hC3 := hC2.trans (hB3.mono hC2.size)
    have hE3 := hE.below hC3
    have hr3 := hr.below hB3
    go_wp2_with fail
    refine (tokens_T _ s).mono ?_
    rintro e w4 ⟨rfl, rfl⟩
    have hBt : Below w3.heap.size w3 (w3.alloc (.cells #[.string s] 9)) := (Below.refl _ w3).alloc (Nat.le_refl _) _
    have hbt := heap_alloc_new w3 (.cells #[.string s] 9)
    have hC4 := hC3.trans (hBt.mono hC3.size)
    have hE4 := hE.below hC4
    have hr4 := hr3.below hBt
    have hseq := hts (w3.alloc (.cells #[.string s] 9)).heap.size w3.heap.size _ hbt hE4 hE4.seven
    go_wp2_with fail
    generalize (w3.alloc (.cells #[.string s] 9)) = w4 at hC4 hE4 hr4 hseq ⊢
    refine (list_T 21 _ _ L w4 (enters_of Tryd.func21 (by kernel_rfl) rfl) hseq hl8 (Nat.le_refl _)).mono ?_
    rintro e w5 ⟨v5, rfl, hM5, hB5⟩
    have hC5 := hC4.trans (hB5.mono hC4.size)
    have hr5 := hr4.below hB5
    go_wp2_with fail
    refine (same_T _ _ _ L hl2 (MadeT.sl hM5) hr5).mono ?_
    rintro e w6 ⟨rfl, hB6⟩
    have hC6 := hC5.trans (hB6.mono hC5.size)
    go_wp2_with fail
    refine (wakes_T _ (hE.below hC6)).mono ?_
    rintro e w7 ⟨rfl, hB7⟩
    go_wp2_with fail
    go_ret
    exact ⟨rfl, hC6.trans (hB7.mono hC6.size)⟩
  · have f1 : ((3000 : Int) < (s.size : Int)) = True := eq_true (by omega)
    clear hs
    go_enter Tryd.func3, Tryd.ntmps3
    go_wp2_with fail
    refine (wakes_T _ hE).mono ?_
    rintro e w1 ⟨rfl, hB1⟩
    go_wp2_with fail
    go_ret
    exact ⟨rfl, hB1⟩

end Go.Proofs.YtlnnblfkigcipaaDoor
