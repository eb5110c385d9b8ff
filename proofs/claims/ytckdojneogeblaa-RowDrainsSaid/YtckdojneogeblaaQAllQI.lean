/- What At, Clone, All of a queue answer; All as a sequence. Conditions: the queue lies in memory. -/
import Derived.Test.YtckdojneogeblaaQPopQI
import Derived.Test.YtckdojneogeblaaRangeM
import Derived.OwnWalkIn
import Derived.TacticsInMore
import Derived.Sort.LoopGhostIn
import Derived.RangeFuncLeaves
namespace Go.Proofs.Ytckdojneogeblaa.QI
open Go Go.RowKit

attribute [local go_sem] Oper.semAt_some

set_option maxHeartbeats 800000 in
theorem at_yes (B : Nat) (w : World) (s room : Nat) (v : Value) (pp : Nat) (xs : List Int) (h : QAt B w s room v pp xs) (i : Nat) (x : Int) (hx : xs[i]? = some x) :
    Calls Try.prog 14 #[.pointer (some ⟨s, 0, none⟩), .int .i64 i] w fun e w' => e = .returned (.tuple #[.int .i64 x, .bool true]) ∧ Below w.heap.size w w' := by
  obtain ⟨g, off, cap, rfl, hc⟩ := h.2.1.cellAt i x hx
  have hi := (List.getElem?_eq_some_iff.1 hx).1
  have h0 : w.cell? ⟨s, 0, none⟩ = some (.slice (some ⟨g, off, none⟩) xs.length cap) := by simp [World.cell?, h.1]
  have h4 := h.2.2.2.1
  have h5 := h.2.2.2.2
  have c1 : ((i : Int) < 0) = False := eq_false (by omega)
  have c2 : ((xs.length : Int) ≤ (i : Int)) = False := eq_false (by omega)
  clear h hx
  go_enter Try.func14, Try.ntmps14
  go_wp2_with fail
  go_ret2
  exact ⟨rfl, Below.refl _ _⟩

set_option maxHeartbeats 800000 in
theorem at_no (B : Nat) (w : World) (s room : Nat) (v : Value) (pp : Nat) (xs : List Int) (h : QAt B w s room v pp xs) (z : Int) (hz : z < 0 ∨ (xs.length : Int) ≤ z) :
    Calls Try.prog 14 #[.pointer (some ⟨s, 0, none⟩), .int .i64 z] w fun e w' => e = .returned (.tuple #[.int .i64 (0 : Int), .bool false]) ∧ Below w.heap.size w w' := by
  obtain ⟨a, cap, rfl, -, -⟩ := h.2.1.src
  have h0 : w.cell? ⟨s, 0, none⟩ = some (.slice a xs.length cap) := by simp [World.cell?, h.1]
  clear h
  by_cases hn : z < 0
  · have c1 : (z < 0) = True := eq_true hn
    clear hz
    go_enter Try.func14, Try.ntmps14
    go_wp2_with fail
    go_ret2
    exact ⟨rfl, (Below.refl _ w).alloc (Nat.le_refl _) _⟩
  · have c1 : (z < 0) = False := eq_false hn
    have c2 : ((xs.length : Int) ≤ z) = True := eq_true (by omega)
    clear hz hn
    go_enter Try.func14, Try.ntmps14
    go_wp2_with fail
    go_ret2
    exact ⟨rfl, (Below.refl _ w).alloc (Nat.le_refl _) _⟩

theorem cells_of_drew {w : World} {s room pp : Nat} {v : Value} (h : w.heap[s]? = some (.cells #[v, .int .i64 room, .int .i64 pp] 60 (0, 0))) : w.drew.cell? ⟨s, 0, none⟩ = some v ∧ w.drew.cell? ⟨s, 1, none⟩ = some (.int .i64 room) ∧ w.drew.cell? ⟨s, 2, none⟩ = some (.int .i64 pp) :=
  ⟨cell_of_heap (w := w) h (i := 0) rfl, cell_of_heap (w := w) h (i := 1) rfl, cell_of_heap (w := w) h (i := 2) rfl⟩

theorem clip_T (w : World) (p : Option (Nat × Nat)) (n cap : Nat) (hc : n ≤ cap) (hn : n ≤ 100000) :
    Calls Try.prog 33 #[.slice (p.map fun q => ⟨q.1, q.2, none⟩) n cap] w fun e w' => e = .returned (.slice (p.map fun q => ⟨q.1, q.2, none⟩) n n) ∧ w' = w := by
  have h1 : 0 ≤ (n : Int) := by omega
  rcases p with _ | ⟨g, off⟩
  · simp only [Option.map_none]
    go_enter Try.func33, Try.ntmps33
    go_wp2_with fail
    go_ret
    exact ⟨rfl, rfl⟩
  · simp only [Option.map_some]
    go_enter Try.func33, Try.ntmps33
    go_wp2_with fail
    go_ret
    exact ⟨rfl, rfl⟩

theorem clone_T (B : Nat) (w : World) (s room : Nat) (v : Value) (pp : Nat) (xs : List Int) (h : QAt B w s room v pp xs) :
    Calls Try.prog 29 #[.pointer (some ⟨s, 0, none⟩)] w fun e w' => ∃ s' v', e = .returned (.pointer (some ⟨s', 0, none⟩)) ∧ w.heap.size ≤ s' ∧ QAt B w' s' room v' pp xs ∧ endOf v' = endOf v ∧ Below w.heap.size w w' := by
  obtain ⟨a, cap, rfl, hsrc, hno, hle⟩ := h.2.1.src
  have h0 : w.cell? ⟨s, 0, none⟩ = some (.slice a xs.length cap) := by simp [World.cell?, h.1]
  have h1 : w.cell? ⟨s, 1, none⟩ = some (.int .i64 room) := by simp [World.cell?, h.1]
  have h2 : w.cell? ⟨s, 2, none⟩ = some (.int .i64 pp) := by simp [World.cell?, h.1]
  have H := Lib.hid h
  clear h
  go_enter Try.func29, Try.ntmps29
  go_wp2_with fail
  obtain ⟨p, rfl⟩ : ∃ p : Option (Nat × Nat), a = p.map fun q => ⟨q.1, q.2, none⟩ := by
    rcases H.out.2.1 with ⟨h, -⟩ | ⟨g, off, cap', cur, h, -⟩
    · simp only [Value.slice.injEq] at h; obtain ⟨rfl, -, -⟩ := h; exact ⟨none, rfl⟩
    · simp only [Value.slice.injEq] at h; obtain ⟨rfl, -, -⟩ := h; exact ⟨some (g, off), rfl⟩
  have hclip := clip_T w.drew p xs.length cap hle (by have := H.out.2.2; omega)
  have hq := cells_of_drew H.out.1
  go_region_held3 (fun W => W.cell? ⟨s, 0, none⟩ = some (.slice (p.map fun q => ⟨q.1, q.2, none⟩) xs.length cap) ∧ W.cell? ⟨s, 1, none⟩ = some (.int .i64 room) ∧ W.cell? ⟨s, 2, none⟩ = some (.int .i64 pp))
    (first | go_keep | assumption)
    (first
      | ((with_reducible refine hclip.mono ?_); rintro e w1 ⟨rfl, rfl⟩; have hh : w.drew.cell? ⟨s, 0, none⟩ = some (.slice (p.map fun q => ⟨q.1, q.2, none⟩) xs.length cap) ∧ w.drew.cell? ⟨s, 1, none⟩ = some (.int .i64 room) ∧ w.drew.cell? ⟨s, 2, none⟩ = some (.int .i64 pp) := hq)
      | fail "no arm")
  have hB : Below w.heap.size w (w.alloc (.cells #[.slice (p.map fun q => ⟨q.1, q.2, none⟩) xs.length xs.length, .int .i64 room, .int .i64 pp] 60)).drew := ((Below.refl _ w).alloc (Nat.le_refl _) _).drew
  have hn : (w.alloc (.cells #[.slice (p.map fun q => ⟨q.1, q.2, none⟩) xs.length xs.length, .int .i64 room, .int .i64 pp] 60)).drew.heap[w.heap.size]? = some (.cells #[.slice (p.map fun q => ⟨q.1, q.2, none⟩) xs.length xs.length, .int .i64 room, .int .i64 pp] 60 (0, 0)) := heap_alloc_new w _
  generalize (w.alloc (.cells #[.slice (p.map fun q => ⟨q.1, q.2, none⟩) xs.length xs.length, .int .i64 room, .int .i64 pp] 60)).drew = W at hB hn ⊢
  go_wp2_with fail
  go_ret
  refine ⟨w.heap.size, _, rfl, Nat.le_refl _, ⟨hn, Rw.below (W := w) ?_ hB, H.out.2.2⟩, ?_, hB⟩
  · rcases H.out.2.1 with ⟨h, h'⟩ | ⟨g, off, cap', cur, h, k1, k2, k3, k4, k5⟩
    · simp only [Value.slice.injEq] at h
      rw [h.1, h']
      exact .inl ⟨rfl, rfl⟩
    · simp only [Value.slice.injEq] at h
      rw [h.1]
      exact .inr ⟨g, off, xs.length, cur, rfl, k1, k2, Nat.le_refl _, by omega, k5⟩
  · cases p <;> rfl

theorem all_T (w : World) (p : Option Addr) :
    Calls Try.prog 18 #[.pointer p] w fun e w' => e = .returned (.func (.func 30) #[] #[.pointer (some ⟨w.heap.size, 0, none⟩)]) ∧ w' = w.alloc (.cells #[.pointer p] 23) := by
  have hmf : ∀ (fn : Fn) (first cap : Array Value) (w : World), (Instr.makeFunc fn first cap).run Try.prog w = .ok (.func fn first cap) w := fun _ _ _ _ => rfl
  go_enter Try.func18, Try.ntmps18
  go_wp2_with fail
  go_ret
  exact ⟨rfl, rfl⟩

/-- The cells ahead of r stay. -/
def KpE (r : Option (Nat × Nat)) (W W' : World) : Prop := ∀ g l, r = some (g, l) → ∀ i u, i < l → W.cell? ⟨g, i, none⟩ = some u → W'.cell? ⟨g, i, none⟩ = some u

theorem KpE.refl (r : Option (Nat × Nat)) (W : World) : KpE r W W := fun _ _ _ _ _ _ h => h
theorem KpE.trans {r : Option (Nat × Nat)} {A B C : World} (h : KpE r A B) (k : KpE r B C) : KpE r A C := fun g l e i u hi hc => k g l e i u hi (h g l e i u hi hc)
theorem KpE.of_below {r : Option (Nat × Nat)} {B : Nat} {W W' : World} (h : Below B W W') (hr : ∀ g l, r = some (g, l) → g < B) : KpE r W W' := fun g l e _ _ _ hc => (World.cell?_of_block (h.block g (hr g l e))).trans hc
theorem KpE.putObj {r : Option (Nat × Nat)} (W : World) (l : Nat) (o o' : Obj) (h : W.heap[l]? = some o) (hc : o.isCells = false) : KpE r W (W.putObj l o') := by
  intro g _ _ i u _ hb
  refine (World.cell?_of_block (World.putObj_heap_other ?_)).trans hb
  rintro rfl
  unfold World.cell? at hb
  simp only [h] at hb
  cases o <;> first | (cases hc; done) | (cases hb; done)

set_option maxRecDepth 100000 in
set_option maxHeartbeats 1000000 in
theorem all_stops (n : Nat) (Bn : Nat) (w : World) (s : Nat) (a : Option Addr) (cap : Nat) (xs : List Int) (hB : w.heap[Bn]? = some (.cells #[.pointer (some ⟨s, 0, none⟩)] 23 (0, 0))) (h : w.cell? ⟨s, 0, none⟩ = some (.slice a xs.length cap)) (h5 : xs.length ≤ 65536) (r : Option (Nat × Nat)) (hr : xs ≠ [] → r = endOf (.slice a xs.length cap))
    (hx : ∀ j x, xs[j]? = some x → ∃ g off, a = some ⟨g, off, none⟩ ∧ w.cell? ⟨g, off + j, none⟩ = some (.int .i64 x)) :
    SeqM Fence.wide n Try.prog 30 #[.pointer (some ⟨Bn, 0, none⟩)] (fun x : Int => #[.int .i64 x]) (KpE r) (fun _ _ => True) (fun _ _ W W' => W' = W) (fun _ W W' => W' = W) (fun ys => ys = xs) (fun pre => pre <+: xs) w := by
  intro l J Jm Jx W hW _ hMv _ hY h0
  have hb0 : W.cell? ⟨Bn, 0, none⟩ = some (.pointer (some ⟨s, 0, none⟩)) := cell_of_heap ((hW.block Bn (lt_of_block hB)).trans hB) (i := 0) rfl
  have hs0 : W.cell? ⟨s, 0, none⟩ = some (.slice a xs.length cap) := (hW.cell (p := ⟨s, 0, none⟩) (World.block_lt_of_cell? w _ h)).trans h
  have hel : ∀ W', KpE r W W' → ∀ j x, xs[j]? = some x → ∃ g off, a = some ⟨g, off, none⟩ ∧ W'.cell? ⟨g, off + j, none⟩ = some (.int .i64 x) := by
    intro W' hk j x hx'
    obtain ⟨g, off, rfl, hc⟩ := hx j x hx'
    exact ⟨g, off, rfl, hk g _ (hr (by rintro rfl; simp at hx')) _ _ (by have := (List.getElem?_eq_some_iff.1 hx').1; show off + j < off + xs.length; omega) ((hW.cell (p := ⟨g, off + j, none⟩) (World.block_lt_of_cell? w _ hc)).trans hc)⟩
  have Hel := Lib.hid hel
  clear hel h hB hx
  refine callsIn_wide.2 ((callsIn_wide (n := 3)).1 ?_)
  refine callsIn_of_wp Try.func30 rfl trivial ?_ rfl
  simp only [Try.ntmps30, List.size_toArray, List.length_cons, List.length_nil, Nat.reduceAdd, Nat.reduceSub, Array.replicate_succ, Array.replicate_zero, List.push_toArray, List.append_toArray, List.nil_append, List.cons_append]
  gi_wp2_with fail
  gi_loopg [10] xs.length (fun m i wr => ∃ j : Nat, i = .int .i64 j ∧ j ≤ xs.length ∧ Hid (m = xs.length - j) ∧ Hid (J (xs.take j) wr) ∧ KpE r W wr)
  case atStart => exact ⟨0, rfl, by omega, Lib.hid rfl, Lib.hid (by simpa using h0), KpE.refl _ _⟩
  case round =>
    obtain ⟨j, rfl, hj, Hm, HJ, hK⟩ := hrel
    by_cases hlt : j < xs.length
    · obtain ⟨x, hx⟩ : ∃ x, xs[j]? = some x := ⟨xs[j], by simp [hlt]⟩
      obtain ⟨g, off, rfl, hxc⟩ := Hel.out wr hK j x hx
      have htk : xs.take (j + 1) = xs.take j ++ [x] := by rw [List.take_add_one, hx]; rfl
      have Htk := Lib.hid htk
      have hR0 := hY (xs.take j) x wr (hMv _ _ _ _ HJ.out rfl ⟨Nat.le_refl _, fun _ _ _ h _ => h⟩) (by rw [← htk]; exact List.take_prefix _ _)
      obtain ⟨fn, tmps, assign, body, hyd, hR⟩ := YieldAt.anyDepth rfl 2 hR0
      clear hx htk hR0
      gi_wp2_with fail
      refine hR.mono ?_
      rintro e W2 ⟨-, (⟨rfl, hJ2, hK2⟩ | ⟨rfl, hx2⟩)⟩
      · gi_wp2_with fail
        gi_roundg (xs.length - (j + 1))
        case measure => rw [Hm.out]; omega
        case rel => exact ⟨j + 1, by go_num, by omega, Lib.hid rfl, Lib.hid (by rw [Htk.out]; exact hJ2), hK.trans hK2⟩
      · gi_wp2_with fail
        refine bodyPost_ret (results_none rfl _ _ _) rfl ?_
        exact ⟨⟨_, rfl⟩, .inr ⟨xs.take (j + 1), List.take_prefix _ _, by rw [Htk.out]; exact hx2⟩⟩
    · obtain rfl : j = xs.length := by omega
      rw [List.take_length] at HJ
      gi_wp2_with fail
      go_end0
      exact ⟨⟨_, rfl⟩, .inl ⟨_, rfl, HJ.out⟩⟩

end Go.Proofs.Ytckdojneogeblaa.QI
