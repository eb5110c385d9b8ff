/- What newScope, learn, knows, allows, inner of a scope do. Conditions: the scope lies in memory; at most 10000 variables. -/
import Derived.Test.YtmnpcpgdhaplaaaMg9
import Derived.Test.YtmnpcpgdhaplaaaMg10
namespace Go.Proofs.Ytmnpcpgdhaplaaa
open Go Go.RowKit

/-- The set in block s holds the variables K. -/
def Sc (w : World) (s : Nat) (K : List ByteArray) : Prop := V.SetAt w s (setOf K) ∧ (setOf K).length = K.length

theorem Sc.below {w w' : World} {s : Nat} {K : List ByteArray} (h : Sc w s K) (hB : Below w.heap.size w w') : Sc w' s K := ⟨h.1.below hB, h.2⟩
theorem Sc.lt {w : World} {s : Nat} {K : List ByteArray} (h : Sc w s K) : s < w.heap.size := h.1.lt

theorem newScope_T (w : World) : Calls Try.prog 75 #[] w fun e w' => ∃ s, e = .returned (.agg #[.pointer (some ⟨s, 0, none⟩)]) ∧ w.heap.size ≤ s ∧ Sc w' s [] ∧ Below w.heap.size w w' := by
  have hB0 : Below w.heap.size w (w.alloc (.cells #[.pointer none] 85)) := (Below.refl _ w).alloc (Nat.le_refl _) _
  have hb0 := heap_alloc_new w (.cells #[.pointer none] 85)
  go_enter Try.func75, Try.ntmps75
  go_wp2_with fail
  generalize (w.alloc (.cells #[.pointer none] 85)) = W0 at hB0 hb0 ⊢
  refine (V.new_T W0 _ [] ⟨none, 0, rfl, .inl rfl⟩ (by simp)).mono ?_
  rintro e w1 ⟨s, rfl, hs, hS, hB1⟩
  have hb1 := (hB1.block _ (lt_of_block hb0)).trans hb0
  have q0 := cell_of_one hb1
  have q1 := free_of_one hb1
  have hC := hB0.trans (hB1.mono hB0.size)
  have hbs : (w1.setCell ⟨w.heap.size, 0, none⟩ (.pointer (some ⟨s, 0, none⟩))).heap[w.heap.size]? = some (.cells #[.pointer (some ⟨s, 0, none⟩)] 85 (0, 0)) := by
    have := V.set_block (o := 0) hb1 (.pointer (some ⟨s, 0, none⟩))
    simpa using this
  have hb : But w.heap.size w1 (w1.setCell ⟨w.heap.size, 0, none⟩ (.pointer (some ⟨s, 0, none⟩))) := (But.refl _ _).setCell 0 _
  have hne : w.heap.size ≠ s := by have := lt_of_block hb0; omega
  have hS2 := hS.but hb hne hb1 (by decide)
  have hC2 := V.below_but hC hb (Nat.le_refl _) hC.size
  have Hc := Lib.hid (cell_of_one hbs)
  have HS := Lib.hid hS2
  have HC := Lib.hid hC2
  clear hbs hb hS2 hC2
  go_wp2_with fail
  have hc := Hc.out
  exact bodyPost_ret (v := .agg #[.pointer (some ⟨s, 0, none⟩)]) (by simp [results, Try.results75, go_sem, hc]) rfl ⟨s, rfl, Nat.le_trans hB0.size hs, ⟨by simpa [setOf] using HS.out, by simp [setOf]⟩, HC.out⟩

theorem boxSc (w : World) (s : Nat) : Below w.heap.size w (w.alloc (.cells #[.pointer (some ⟨s, 0, none⟩)] 85)) := (Below.refl _ w).alloc (Nat.le_refl _) _

set_option maxHeartbeats 800000 in
theorem learn_T (w : World) (s : Nat) (K : List ByteArray) (n : ByteArray) (h : Sc w s K) (hK : K.length ≤ 10000) :
    Calls Try.prog 119 #[.agg #[.pointer (some ⟨s, 0, none⟩)], .string n] w fun e w' => (∃ v, e = .returned v) ∧ Sc w' s (learn K n) ∧ But s w w' := by
  have hB0 := boxSc w s
  have hb0 := heap_alloc_new w (.cells #[.pointer (some ⟨s, 0, none⟩)] 85)
  have h0 := h.below hB0
  have hlt := h.lt
  go_enter Try.func119, Try.ntmps119
  go_wp2_with fail
  generalize (w.alloc (.cells #[.pointer (some ⟨s, 0, none⟩)] 85)) = W0 at hB0 hb0 h0 ⊢
  have q0 := cell_of_one hb0
  have hlen := V.len_T W0.drew s _ (h0.1.below (Below.refl _ _).drew)
  rw [h.2] at hlen
  have hput := V.put_T W0.drew s (setOf K) ⟨n, (K.length : Int)⟩ (h0.1.below (Below.refl _ _).drew) (by rw [h.2]; omega)
  rw [put_learn] at hput
  have hq : ∀ W, But s W0.drew W → W.cell? ⟨w.heap.size, 0, none⟩ = some (.pointer (some ⟨s, 0, none⟩)) := fun W hb => by
    have e := (hb.block w.heap.size (lt_of_block hb0) (by omega)).trans hb0
    exact cell_of_one e
  dsimp only at hput
  go_region_held3 (fun W => W.cell? ⟨w.heap.size, 0, none⟩ = some (.pointer (some ⟨s, 0, none⟩)))
    (first | go_keep | assumption)
    (first
      | ((with_reducible refine hlen.mono ?_); rintro e w1 ⟨rfl, rfl⟩; have hh0 := hq _ (But.refl _ _))
      | ((with_reducible refine hput.mono ?_); rintro e w2 ⟨rfl, hS2, hb2⟩; have hh2 := hq w2 hb2)
      | fail "no arm")
  go_wp2_with fail
  go_end0
  exact ⟨⟨_, rfl⟩, ⟨hS2, learn_len h.2 n⟩, (But.of_below hB0).trans ((But.of_below (Below.refl _ _).drew).trans hb2)⟩

set_option maxHeartbeats 800000 in
theorem knows_T (w : World) (s : Nat) (K : List ByteArray) (n : ByteArray) (h : Sc w s K) (hK : K.length ≤ 10000) :
    Calls Try.prog 111 #[.agg #[.pointer (some ⟨s, 0, none⟩)], .string n] w fun e w' => e = .returned (.bool (knowsB K n)) ∧ Below w.heap.size w w' := by
  have hB0 := boxSc w s
  have h0 := h.below hB0
  have hs : (setOf K).length ≤ 800000 := by rw [h.2]; omega
  cases hh : has varCmp (setOf K) ⟨n, 0⟩
  · have hg := V.get_no_T _ s (setOf K) ⟨n, 0⟩ h0.1 hs hh
    have Hk : Hid (knowsB K n = false) := Lib.hid (by rw [← has_setOf K ⟨n, 0⟩]; exact hh)
    clear hh
    dsimp only at hg
    go_enter Try.func111, Try.ntmps111
    go_wp2_with fail
    refine hg.mono ?_
    rintro e w1 ⟨rfl, hB1⟩
    have hC := hB0.trans (hB1.mono hB0.size)
    go_wp2_with fail
    go_ret
    exact ⟨by rw [Hk.out]; rfl, hC.alloc hC.size _⟩
  · have hg := V.get_T _ s (setOf K) ⟨n, 0⟩ h0.1 hs hh
    have Hk : Hid (knowsB K n = true) := Lib.hid (by rw [← has_setOf K ⟨n, 0⟩]; exact hh)
    clear hh
    dsimp only at hg
    go_enter Try.func111, Try.ntmps111
    go_wp2_with fail
    refine hg.mono ?_
    rintro e w1 ⟨⟨y, rfl, -⟩, hB1⟩
    have hC := hB0.trans (hB1.mono hB0.size)
    go_wp2_with fail
    go_ret
    exact ⟨by rw [Hk.out]; rfl, hC.alloc hC.size _⟩

set_option maxHeartbeats 800000 in
theorem allows_T (w : World) (s : Nat) (K : List ByteArray) (n : ByteArray) (h : Sc w s K) (hK : K.length ≤ 10000) :
    Calls Try.prog 98 #[.agg #[.pointer (some ⟨s, 0, none⟩)], .string n] w fun e w' => e = .returned (.bool (allowsB K n)) ∧ Below w.heap.size w w' := by
  have hB0 := boxSc w s
  have hkn := knows_T _ s K n (h.below hB0) hK
  cases he : n.toList.isEmpty
  · have He := Lib.hid he
    have he2 : ¬ n.toList = [] := by intro h; rw [h] at he; cases he
    go_enter Try.func98, Try.ntmps98
    go_wp2_with fail
    refine hkn.mono ?_
    rintro e w1 ⟨rfl, hB1⟩
    go_wp2_with fail
    go_ret
    exact ⟨by rw [allowsB, He.out]; rfl, hB0.trans (hB1.mono hB0.size)⟩
  · have He := Lib.hid he
    have he2 : n.toList = [] := by simpa using he
    go_enter Try.func98, Try.ntmps98
    go_wp2_with fail
    go_ret
    exact ⟨by rw [allowsB, He.out]; rfl, hB0⟩

theorem inner_T' (w : World) (s : Nat) (K : List ByteArray) (h : Sc w s K) :
    Calls Try.prog 109 #[.agg #[.pointer (some ⟨s, 0, none⟩)]] w fun e w' => ∃ s', e = .returned (.agg #[.pointer (some ⟨s', 0, none⟩)]) ∧ w.heap.size ≤ s' ∧ Sc w' s' K ∧ Below w.heap.size w w' := by
  have hB0 : Below w.heap.size w ((w.alloc (.cells #[.pointer (some ⟨s, 0, none⟩)] 85)).alloc (.cells #[.pointer none] 85)) := ((Below.refl _ w).alloc (Nat.le_refl _) _).alloc (by simp) _
  have hb0 := heap_alloc_new (w.alloc (.cells #[.pointer (some ⟨s, 0, none⟩)] 85)) (.cells #[.pointer none] 85)
  rw [World.size_alloc] at hb0
  have h0 := h.below hB0
  have hsz : w.heap.size + 1 < ((w.alloc (.cells #[.pointer (some ⟨s, 0, none⟩)] 85)).alloc (.cells #[.pointer none] 85)).heap.size := by simp
  go_enter Try.func109, Try.ntmps109
  go_wp2_with fail
  generalize ((w.alloc (.cells #[.pointer (some ⟨s, 0, none⟩)] 85)).alloc (.cells #[.pointer none] 85)) = W0 at hB0 hb0 h0 hsz ⊢
  refine (V.clone_T W0 s _ h0.1).mono ?_
  rintro e w1 ⟨rfl, hS, hB1⟩
  have hb1 := (hB1.block _ (lt_of_block hb0)).trans hb0
  have q0 := cell_of_one hb1
  have q1 := free_of_one hb1
  have hC := hB0.trans (hB1.mono hB0.size)
  have hbs : (w1.setCell ⟨w.heap.size + 1, 0, none⟩ (.pointer (some ⟨W0.heap.size, 0, none⟩))).heap[w.heap.size + 1]? = some (.cells #[.pointer (some ⟨W0.heap.size, 0, none⟩)] 85 (0, 0)) := by
    have := V.set_block (o := 0) hb1 (.pointer (some ⟨W0.heap.size, 0, none⟩))
    simpa using this
  have hb : But (w.heap.size + 1) w1 (w1.setCell ⟨w.heap.size + 1, 0, none⟩ (.pointer (some ⟨W0.heap.size, 0, none⟩))) := (But.refl _ _).setCell 0 _
  have hS2 := hS.but hb (by omega) hb1 (by decide)
  have hC2 := V.below_but hC hb (Nat.le_succ _) hC.size
  have Hc := Lib.hid (cell_of_one hbs)
  have HS := Lib.hid hS2
  have HC := Lib.hid hC2
  clear hbs hb hS2 hC2
  go_wp2_with fail
  have hc := Hc.out
  exact bodyPost_ret (v := .agg #[.pointer (some ⟨W0.heap.size, 0, none⟩)]) (by simp [results, Try.results109, go_sem, hc]) rfl ⟨W0.heap.size, rfl, hB0.size, ⟨HS.out, h.2⟩, HC.out⟩

end Go.Proofs.Ytmnpcpgdhaplaaa
