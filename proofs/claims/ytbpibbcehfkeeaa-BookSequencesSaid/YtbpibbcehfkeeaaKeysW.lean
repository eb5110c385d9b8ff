/- What Keys of a map hands a loop. Conditions: the map lies in memory; at most 800000 keys. -/
import Derived.Test.YtbpibbcehfkeeaaPairsLaw
namespace Go.Proofs.Ytbpibbcehfkeeaa.E
open Go Go.RowKit Go.Shelf Go.Lib

attribute [local go_sem] Oper.semAt_some

/-- What a loop's body leaves as it lies, wherever it is asked. -/
def KpA (W W' : World) : Prop := ∀ n₀, KpY n₀ W W'

theorem KpA.trans {A B C : World} (h : KpA A B) (k : KpA B C) : KpA A C := fun n => (h n).trans (k n)

theorem keys_T (w : World) (m : Nat) :
    Calls Try.prog 27 #[.pointer (some ⟨m, 0, none⟩)] w fun e w' => e = .returned (.func (.func 54) #[] #[.pointer (some ⟨w.heap.size, 0, none⟩)]) ∧ w' = w.alloc (.cells #[.pointer (some ⟨m, 0, none⟩)] 23) := by
  have hmf : ∀ (fn : Fn) (first cap : Array Value) (w : World), (Instr.makeFunc fn first cap).run Try.prog w = .ok (.func fn first cap) w := fun _ _ _ _ => rfl
  go_enter Try.func27, Try.ntmps27
  go_wp2_with fail
  go_ret
  exact ⟨rfl, rfl⟩

set_option pp.deepTerms true
set_option pp.maxSteps 1000000
set_option maxRecDepth 100000 in
set_option maxHeartbeats 2000000 in
theorem keys_stops (n Bm m s : Nat) (L : List EntV) (w : World) (hB : w.heap[Bm]? = some (.cells #[.pointer (some ⟨m, 0, none⟩)] 23 (0, 0))) (hM : MapAt w m s L) (hs : L.length ≤ 800000) :
    SeqW Fence.wide n Try.prog 54 #[.pointer (some ⟨Bm, 0, none⟩)] (fun x : SymV => #[.agg #[.int .i64 x.k, .string x.t, .int .i64 x.n]]) KpA (fun xs => xs = L.map EntV.key) (fun pre => pre <+: L.map EntV.key) w := by
  intro l J Jx W hW hJ hJx hY h0
  have c1 := cell_of_one ((hW.block Bm (lt_of_block hB)).trans hB)
  have hBy : Below W.heap.size W (W.alloc (.cells #[.func (.yield l) #[] #[]] 102)) := (Below.refl _ W).alloc (Nat.le_refl _) _
  have c1y := (hBy.cell (p := ⟨Bm, 0, none⟩) (World.block_lt_of_cell? W _ c1)).trans c1
  have hyb := heap_alloc_new W (.cells #[.func (.yield l) #[] #[]] 102)
  have hMW := hM.below hW
  refine callsIn_wide.2 ((callsIn_wide (n := 3)).1 ?_)
  refine callsIn_of_wp_marks Try.func54 rfl trivial ?_ rfl
  simp only [Try.ntmps54, List.size_toArray, List.length_cons, List.length_nil, Nat.reduceAdd, Nat.reduceSub, Array.replicate_succ, Array.replicate_zero, List.push_toArray, List.append_toArray, List.nil_append, List.cons_append]
  have hsy : (W.alloc (.cells #[.func (.yield l) #[] #[]] 102)).heap.size = W.heap.size + 1 := by simp
  have h0y := hJ.alloc (.cells #[.func (.yield l) #[] #[]] 102) h0
  have hMy := hMW.below hBy
  gi_wp2_with fail
  generalize (W.alloc (.cells #[.func (.yield l) #[] #[]] 102)) = Wy at hBy c1y hyb hsy h0y hMy ⊢
  refine ⟨trivial, ?_⟩
  have hsz := Lib.hid hsy
  clear hsy
  refine (callsIn_wide.2 (mapall_T Wy m s L hMy)).mono ?_
  rintro e w3 ⟨rfl, hp1, hp2, hB3⟩
  have hM3 := hMy.below hB3
  have hyb3 := (hB3.block _ (lt_of_block hyb)).trans hyb
  have h03 := own_le hJ (Nat.le_refl _) [] Wy w3 none h0y ⟨hB3.os, hB3.tape, hB3.output, hB3.size, fun k hk _ => hB3.block k hk⟩ (fun r e => by cases e)
  have hs3 := hB3.size
  have hsz3 : W.heap.size < w3.heap.size := by have := hsz.out; omega
  gi_wp2_with fail
  refine wpIn_rangeW rfl (by omega) (gf := 81) (lb := #[.pointer (some ⟨Wy.heap.size + 1, 0, none⟩)]) rfl trivial (enters_of Try.func81 (by kernel_rfl) rfl)
    (pairs_stops 2 w3.heap.size _ _ s L w3 hp1 hp2 hM3.2 (by omega) (Nat.le_refl _)) (fun h k => h.trans k) (fun W l o o' h hc => KpY.putObj W l o o' h hc) (Below.refl _ _) (fun _ => rfl)
    (fun pre V => J (pre.map EntV.key) V ∧ V.heap[W.heap.size]? = some (.cells #[.func (.yield l) #[] #[]] 102 (0, 0)))
    (fun c pre V => c = .ret ∧ Jx (pre.map EntV.key) V)
    (OwnFrom.and (fun s A B row h hg hr => own_le hJ (by omega) _ A B row h hg hr) (fun _ A B row h hg hr => (hg.block _ (lt_of_block h) (fun e => by obtain ⟨-, o, ho, hc⟩ := hr _ e.symm; rw [h] at ho; cases ho; cases hc)).trans h))
    (fun c s A B row h hg hr => ⟨h.1, own_le hJx (by omega) _ A B row h.2 hg hr⟩)
    ⟨h03, hyb3⟩
    (fun x a' V => ∃ Bx, V.heap[Bx]? = some (.cells #[.int .i64 x.key.k, .string x.key.t, .int .i64 x.key.n] 26 (0, 0)) ∧ a' = { tmps := #[.func (.yield l) #[] #[], .pointer (some ⟨Bm, 0, none⟩), .pointer (some ⟨W.heap.size, 0, none⟩), .pointer (some ⟨Bx, 0, none⟩), .pointer (some ⟨m, 0, none⟩), .func (.func 81) #[] #[.pointer (some ⟨Wy.heap.size + 1, 0, none⟩)], .agg #[.int .i64 x.key.k, .string x.key.t, .int .i64 x.key.n], .int .i64 x.v, undef, undef, undef, undef], defers := [] })
    (fun x a' s A B row hs hg hr => by
      obtain ⟨Bx, h2, h3⟩ := hs
      refine ⟨Bx, (hg.block Bx (lt_of_block h2) (fun e => ?_)).trans h2, h3⟩
      obtain ⟨-, o, ho, hc⟩ := hr Bx e.symm
      rw [h2] at ho; cases ho; cases hc)
    ?assign ?body ?done ?stop
  case assign =>
    rintro l2 pre x V K ⟨hj, hy⟩ hK
    gi_wp2
    exact hK _ _ ((KeepsOthers.alloc _ _).from _) (kpy_below ((Below.refl _ V).alloc (Nat.le_refl _) _)) ⟨hJ.alloc _ hj, (Below.heap_alloc _ _ _ (by have := lt_of_block hy; omega)).trans hy⟩ ⟨V.heap.size, heap_alloc_new V _, rfl⟩
  case body =>
    rintro l2 pre x a' V hl ⟨r0, hr0⟩ ⟨hj, hy⟩ ⟨Bx, bX, rfl⟩ hlt
    have hm : V.cell? ⟨Bx, 0, none⟩ = some (.int .i64 x.key.k) ∧ V.cell? ⟨Bx, 1, none⟩ = some (.string x.key.t) ∧ V.cell? ⟨Bx, 2, none⟩ = some (.int .i64 x.key.n) := by simp [World.cell?, bX]
    have hyc := cell_of_one hy
    have hlt2 : pre.map EntV.key ++ [x.key] <+: L.map EntV.key := by have := hlt.map EntV.key; simpa using this
    obtain ⟨fn, tmps, assign, body, hyd, hR⟩ := YieldAt.anyDepth rfl 0 (hY (pre.map EntV.key) x.key V hj hlt2)
    clear hlt hlt2
    gi_wp2_with fail
    refine RoundIn.mono (F := Fence.wide.inRound l2) hR ?_
    rintro e W2 ⟨hk, (⟨rfl, hJ2, hK2⟩ | ⟨rfl, hx2⟩)⟩
    · gi_wp2_with fail
      exact ⟨keeps_le hk (by omega), hK2 _, by simpa using hJ2, (hK2 0).2 _ _ _ (.inr rfl) hy⟩
    · gi_wp2_with fail
      exact ⟨keeps_le hk (by omega), rfl, by simpa using hx2⟩
  case done =>
    rintro D xs V hD rfl ⟨hj, hy⟩ hK
    gi_wp2_with fail
    refine ⟨by simp, .inl ⟨_, _, rfl, run_takeDeferred hK, ?_⟩⟩
    refine ⟨_, results_none rfl _ _ _, ⟨_, rfl⟩, .inl ⟨_, rfl, hJ.putObj _ hj (by omega) hK rfl⟩⟩
  case stop =>
    rintro D c pre V hD hpre ⟨rfl, hj⟩ hK
    gi_wp2_with fail
    refine ⟨by simp, .inl ⟨_, _, rfl, run_takeDeferred hK, ?_⟩⟩
    refine ⟨_, results_none rfl _ _ _, ⟨_, rfl⟩, .inr ⟨pre.map EntV.key, hpre.map EntV.key, hJx.putObj _ hj (by omega) hK rfl⟩⟩

end Go.Proofs.Ytbpibbcehfkeeaa.E
