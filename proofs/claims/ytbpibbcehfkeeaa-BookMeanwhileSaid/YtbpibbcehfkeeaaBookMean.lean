/- BookMeanwhile returns true, whatever it is given. Conditions: none but that the list lies in memory. -/
import Derived.Test.YtbpibbcehfkeeaaBookKit
import Derived.Sort.LoopGhostIn
namespace Go.Proofs.Ytbpibbcehfkeeaa
open Go Go.RowKit Go.Shelf Go.Lib

attribute [local go_sem] Oper.semAt_some

namespace MW

theorem grown_but {s : Nat} {W W' : World} (h : But s W W') : W.grownBy W' (some s) := ⟨h.os, h.tape, h.output, h.size, fun k hk hne => h.block k hk (fun e => hne (by rw [e]))⟩

theorem row_but {s B : Nat} {W W' : World} {T : TypeId} {k n : Nat} {v : Value} {xs : List Value} (h : But s W W') (hs : s < B) (hr : W.ownsRow B T k v n xs) : W'.ownsRow B T k v n xs := by
  refine hr.kept (grown_but h) ?_
  cases e : v.ownBlock with
  | none => exact .inl rfl
  | some j => exact .inr (fun e' => by have := (World.ownsRow.lt hr j e).1; cases e'; omega)

theorem kpy_but {n₀ m s : Nat} {W W' : World} {L : List EntV} (h : But s W W') (hM : E.MapAt W m s L) : E.KpY n₀ W W' := by
  obtain ⟨t, p, h1, -⟩ := hM.2
  refine ⟨E.Kp.of_but h h1 (by decide), fun b c T hT hb => (h.block b (lt_of_block hb) ?_).trans hb⟩
  rintro rfl
  rw [h1] at hb
  cases hb
  rcases hT with h | h <;> revert h <;> decide

theorem mapat_kp {m s : Nat} {W W' : World} {L : List EntV} (h : E.MapAt W m s L) (hm : W'.heap[m]? = W.heap[m]?) (hs : W'.heap[s]? = W.heap[s]?) (hk : E.Kp W.heap.size W W') : E.MapAt W' m s L := by
  obtain ⟨t, p, h1, h2, h3⟩ := h.2
  exact ⟨hm.trans h.1, t, p, hs.trans h1, hk.lt (Nat.le_refl _) h2, h3⟩

theorem mapat_grown {m s : Nat} {W W' : World} {row : Option Nat} {L : List EntV} (h : E.MapAt W m s L) (hg : W.grownBy W' row) (hr : ∀ r, row = some r → ∃ o : Obj, W.heap[r]? = some o ∧ o.isCells = false) : E.MapAt W' m s L :=
  ⟨(grownBy_keeps_cells hg hr h.1 rfl).trans h.1, E.setat_grown h.2 hg hr⟩

theorem below3 {s n₀ : Nat} {a w w' : World} (h : But s a w) (hb : Below n₀ w w') (ha : a.heap.size ≤ n₀) : But s a w' :=
  ⟨hb.os.trans h.os, hb.tape.trans h.tape, hb.output.trans h.output, Nat.le_trans h.size hb.size, fun k hk hs => (hb.block k (by omega)).trans (h.block k hk hs)⟩

theorem keepsFrom_but {B s : Nat} {W W' : World} (h : But s W W') (hs : s < B) : KeepsFrom B W W' := ⟨h.size, fun k _ hB hk _ => (h.block k (lt_of_block hk) (by omega)).trans hk⟩

/-- A way out that is one frame. -/
def AtF (fr : Act) (T : World → Prop) (e : Exit) (a : Act) (w : World) : Prop := e = .normal ∧ a = fr ∧ T w

theorem wpIn_at {F : Fence} {n : Nat} {P : Program} {c : Code} {Q : Exit → Act → World → Prop} {a : Act} {w : World} (fr : Act) (T : World → Prop) (h : c.wpIn F n P (AtF fr T) a w) (k : ∀ w', T w' → Q .normal fr w') : c.wpIn F n P Q a w :=
  wpIn_mono h fun e a' w' h' => by obtain ⟨rfl, rfl, h3⟩ := h'; exact k w' h3

/-- The same, where the way out is read off. -/
def AtM (fr : Act) (T : World → Prop) : Exit → Act → World → Prop
  | .normal, a, w => a = fr ∧ T w
  | _, _, _ => False

theorem wpIn_atm {F : Fence} {n : Nat} {P : Program} {c : Code} {Q : Exit → Act → World → Prop} {a : Act} {w : World} (fr : Act) (T : World → Prop) (h : c.wpIn F n P (AtM fr T) a w) (k : ∀ w', T w' → Q .normal fr w') : c.wpIn F n P Q a w :=
  wpIn_mono h fun e a' w' h' => by
    cases e <;> first | exact h'.elim | (obtain ⟨rfl, h3⟩ := h'; exact k w' h3)

end MW
open MW

set_option pp.deepTerms true
set_option pp.maxSteps 1000000
set_option maxRecDepth 100000 in
set_option maxHeartbeats 3200000 in
theorem bmean_walk (w : World) (v : Value) (xs : List SymV) (hv : S.SliceOf w v xs) (hx : xs.length ≤ 60) :
    Calls Try.prog 5 #[v] w fun e w' => e = .returned (.bool true) ∧ Below w.heap.size w w' := by
  have hw1 : ∀ W, Below w.heap.size w W → S.SliceOf W v xs := fun W h => hv.below h
  obtain ⟨i0, hi, hz0, hz1, hz2⟩ := info_parts E.infoS
  obtain ⟨i1, hj, hy0, hy1, hy2⟩ := info_parts E.infoI
  obtain ⟨a1, cap1, rfl, hc1⟩ := hv
  have f1 : ((60 : Int) < (xs.length : Int)) = False := eq_false (by omega)
  refine (callsIn_wide (n := 4)).1 ?_
  refine callsIn_of_wp_marks Try.func5 rfl trivial ?_ rfl
  simp only [Try.ntmps5, List.size_toArray, List.length_cons, List.length_nil, Nat.reduceAdd, Nat.reduceSub, Array.replicate_succ, Array.replicate_zero, List.push_toArray, List.append_toArray, List.nil_append, List.cons_append]
  have hB0 : Below w.heap.size w ((w.alloc (.cells #[.slice a1 xs.length cap1] 29)).alloc (.cells #[.bool false] 4)) := ((Below.refl _ w).alloc (Nat.le_refl _) _).alloc (by simp) _
  have hlb : ((w.alloc (.cells #[.slice a1 xs.length cap1] 29)).alloc (.cells #[.bool false] 4)).heap[w.heap.size]? = some (.cells #[.slice a1 xs.length cap1] 29 (0, 0)) := (Below.heap_alloc _ _ _ (by simp)).trans (heap_alloc_new w _)
  have hrb := heap_alloc_new (w.alloc (.cells #[.slice a1 xs.length cap1] 29)) (.cells #[.bool false] 4)
  simp only [World.size_alloc] at hrb
  have hsz0 : ((w.alloc (.cells #[.slice a1 xs.length cap1] 29)).alloc (.cells #[.bool false] 4)).heap.size = w.heap.size + 2 := by simp
  gi_wp2_with fail
  generalize ((w.alloc (.cells #[.slice a1 xs.length cap1] 29)).alloc (.cells #[.bool false] 4)) = W0 at hB0 hlb hrb hsz0 ⊢
  refine ⟨trivial, ?_⟩
  refine (callsIn_wide.2 (S.filled_T W0 _ xs (hw1 _ hB0) hx)).mono ?_
  rintro e w1 ⟨m, s, p, rfl, hm, hs, hmp, hsp, hM, hP, hB1⟩
  obtain ⟨hso, hll⟩ := S.fillE_ok xs
  generalize S.fillE xs = L at hM hP hso hll
  have hpl := hP
  obtain ⟨_, _, K0, hpK, hKw, -, -, -, -⟩ := hpl
  have hC1 := hB0.trans (hB1.mono hB0.size)
  have hlb1 := (hB1.block _ (lt_of_block hlb)).trans hlb
  have hrb1 := (hB1.block _ (lt_of_block hrb)).trans hrb
  have hs10 := hB1.size
  gi_wp2_with fail
  have hBa : Below w1.heap.size w1 (w1.alloc (.cells #[.pointer (some ⟨m, 0, none⟩)] 23)) := (Below.refl _ w1).alloc (Nat.le_refl _) _
  have hmb := heap_alloc_new w1 (.cells #[.pointer (some ⟨m, 0, none⟩)] 23)
  have hM1 := hM.below hBa
  have hP1 := hP.below hBa
  have hCa := hC1.trans (hBa.mono hC1.size)
  have hlba := (hBa.block _ (lt_of_block hlb1)).trans hlb1
  have hrba := (hBa.block _ (lt_of_block hrb1)).trans hrb1
  have hsza : (w1.alloc (.cells #[.pointer (some ⟨m, 0, none⟩)] 23)).heap.size = w1.heap.size + 1 := by simp
  generalize (w1.alloc (.cells #[.pointer (some ⟨m, 0, none⟩)] 23)) = W1 at hBa hmb hM1 hP1 hCa hlba hrba hsza ⊢
  refine ⟨trivial, ?_⟩
  refine (callsIn_wide.2 (E.mapall_T W1 m s L hM1)).mono ?_
  rintro e w2 ⟨rfl, hp1, hp2, hB2⟩
  have hM2 := hM1.below hB2
  have hP2 := hP1.below hB2
  have hC2 := hCa.trans (hB2.mono hCa.size)
  have hlb2 := (hB2.block _ (lt_of_block hlba)).trans hlba
  have hrb2 := (hB2.block _ (lt_of_block hrba)).trans hrba
  have hmb2 := (hB2.block _ (lt_of_block hmb)).trans hmb
  have hs2 := hB2.size
  rw [hsza] at hp1 hp2
  have hnq := E.eq_nilP 81 #[.pointer (some ⟨w1.heap.size + 1 + 1, 0, none⟩)]
  gi_wp2_with fail
  have hkb := (Boxed.new w2 29 (.slice none 0 0)).alloc (.cells #[.slice none 0 0] 30)
  have hvb := Boxed.new (w2.alloc (.cells #[.slice none 0 0] 29)) 30 (.slice none 0 0)
  have hBg : Below w2.heap.size w2 ((w2.alloc (.cells #[.slice none 0 0] 29)).alloc (.cells #[.slice none 0 0] 30)) := ((Below.refl _ w2).alloc (Nat.le_refl _) _).alloc (by simp) _
  have hsz4 : ((w2.alloc (.cells #[.slice none 0 0] 29)).alloc (.cells #[.slice none 0 0] 30)).heap.size = w2.heap.size + 2 := by simp
  simp only [World.size_alloc] at hvb
  generalize ((w2.alloc (.cells #[.slice none 0 0] 29)).alloc (.cells #[.slice none 0 0] 30)) = W4 at hkb hvb hBg hsz4 ⊢
  have hp14 := (hBg.block _ (lt_of_block hp1)).trans hp1
  have hp24 := (hBg.block _ (lt_of_block hp2)).trans hp2
  have hM4 := hM2.below hBg
  have hs1 : s < w1.heap.size := by omega
  have hkr := World.ownsRow_nil W4 w2.heap.size 26 3
  have hvr := World.ownsRow_nil W4 w2.heap.size 3 1
  refine wpIn_rangeW rfl (by omega) (gf := 81) (lb := #[.pointer (some ⟨w1.heap.size + 1 + 1, 0, none⟩)]) rfl trivial (enters_of Try.func81 (by kernel_rfl) rfl)
    (E.pairs_stops 3 W4.heap.size _ _ s L W4 hp14 hp24 hM4.2 (by omega) (Nat.le_refl _)) (fun h k => h.trans k) (fun W l o o' h hc => E.KpY.putObj W l o o' h hc) (Below.refl _ _) (fun _ => rfl)
    (fun pre V => (∃ M, M.length ≤ 60 + 61 * pre.length ∧ E.MapAt V m s M) ∧ (∃ v, Boxed V w2.heap.size 29 v ∧ V.ownsRow w2.heap.size 26 3 v pre.length (pre.flatMap fun x => [.int .i64 x.key.k, .string x.key.t, .int .i64 x.key.n]) ∧ True) ∧
      (∃ v, Boxed V (w2.heap.size + 1) 30 v ∧ V.ownsRow w2.heap.size 3 1 v pre.length (pre.flatMap fun x => [.int .i64 x.v]) ∧ True) ∧ But s w2 V)
    (fun _ _ _ => False)
    (OwnFrom.and (fun _ A B row h hg hr => by obtain ⟨M, hl, hm⟩ := h; exact ⟨M, hl, mapat_grown hm hg (fun r e => (hr r e).2)⟩)
      (OwnFrom.and (Own.from (holdsRow_own w2.heap.size w2.heap.size 29 26 3 (fun pre : List EntV => pre.length) (fun pre => pre.flatMap fun x => [.int .i64 x.key.k, .string x.key.t, .int .i64 x.key.n]) (fun _ _ => True)) _)
      (OwnFrom.and (Own.from (holdsRow_own w2.heap.size (w2.heap.size + 1) 30 3 1 (fun pre : List EntV => pre.length) (fun pre => pre.flatMap fun x => [.int .i64 x.v]) (fun _ _ => True)) _)
        (fun _ A B row h hg hr => E.but_grown h hg (fun r e => (hr r e).1) (by omega)))))
    (fun _ _ _ _ _ hs _ _ => hs)
    ⟨⟨L, by simp; omega, hM4⟩, ⟨_, hkb, hkr, trivial⟩, ⟨_, hvb, hvr, trivial⟩, But.of_below hBg⟩
    (fun x a' V => ∃ Bx, W4.heap.size ≤ Bx ∧ V.heap[Bx]? = some (.cells #[.int .i64 x.key.k, .string x.key.t, .int .i64 x.key.n] 26 (0, 0)) ∧ a' = { tmps := #[.slice a1 xs.length cap1, .pointer (some ⟨w.heap.size, 0, none⟩), .pointer (some ⟨w.heap.size + 1, 0, none⟩), .pointer (some ⟨w1.heap.size, 0, none⟩), .pointer (some ⟨p, 0, none⟩), .func (.func 81) #[] #[.pointer (some ⟨w1.heap.size + 1 + 1, 0, none⟩)], .pointer (some ⟨w2.heap.size, 0, none⟩), .pointer (some ⟨w2.heap.size + 1, 0, none⟩), .pointer (some ⟨Bx, 0, none⟩), .int .i64 x.v, undef, .slice a1 xs.length cap1, .int .i64 (xs.length : Int), .bool false, undef, .tuple #[.pointer (some ⟨m, 0, none⟩), .pointer (some ⟨p, 0, none⟩)], .slice a1 xs.length cap1, .tuple #[.pointer (some ⟨m, 0, none⟩), .pointer (some ⟨p, 0, none⟩)], .pointer (some ⟨m, 0, none⟩), .pointer (some ⟨p, 0, none⟩), .pointer (some ⟨m, 0, none⟩), .bool false, .pointer (some ⟨m, 0, none⟩), .func (.func 81) #[] #[.pointer (some ⟨w1.heap.size + 1 + 1, 0, none⟩)], .func (.func 81) #[] #[.pointer (some ⟨w1.heap.size + 1 + 1, 0, none⟩)], .bool false, .func (.func 81) #[] #[.pointer (some ⟨w1.heap.size + 1 + 1, 0, none⟩)], .agg #[.int .i64 x.key.k, .string x.key.t, .int .i64 x.key.n], .int .i64 x.v, undef, undef, undef, undef, undef, undef, undef, undef, undef, undef, undef, undef, undef, undef, undef, undef, undef, undef, undef, undef, undef, undef, undef, undef, undef, undef, undef, undef, undef, undef, undef, undef, undef, undef, undef, undef, undef, undef, undef, undef, undef, undef, undef, undef, undef, undef, undef, undef], defers := [] })
    (fun x a' s A B row hs hg hr => by
      obtain ⟨Bx, h1, h2, h3⟩ := hs
      refine ⟨Bx, h1, (hg.block Bx (lt_of_block h2) (fun e => ?_)).trans h2, h3⟩
      obtain ⟨-, o, ho, hc⟩ := hr Bx e.symm
      rw [h2] at ho; cases ho; cases hc)
    ?assign ?body ?done ?stop
  case assign =>
    rintro l2 pre x V K ⟨⟨M, hMl, hMV⟩, ⟨vk, hk1, hk2, -⟩, ⟨vv, hv1, hv2, -⟩, hb⟩ hK
    have hbs := hb.size
    have hkl := hk1.lt
    have hvl := hv1.lt
    have hba : Below V.heap.size V (V.alloc (.cells #[.int .i64 x.key.k, .string x.key.t, .int .i64 x.key.n] 26)) := (Below.refl _ V).alloc (Nat.le_refl _) _
    gi_wp2
    exact hK _ _ ((KeepsOthers.alloc _ _).from _) (E.kpy_below hba) ⟨⟨M, hMl, hMV.below hba⟩, ⟨vk, hk1.alloc _, hk2.alloc _, trivial⟩, ⟨vv, hv1.alloc _, hv2.alloc _, trivial⟩, hb.trans (But.of_below hba)⟩ ⟨V.heap.size, by omega, heap_alloc_new V _, rfl⟩
  case body =>
    rintro l2 pre x a' V hl2 ⟨r0, hr0⟩ ⟨⟨M, hMl, hMV⟩, ⟨vk, hk1, hk2, -⟩, ⟨vv, hv1, hv2, -⟩, hb⟩ ⟨Bx, hBx, bX, rfl⟩ hpre
    have hlen : pre.length < L.length := by
      have := hpre.length_le
      simp at this; omega
    have hbs := hb.size
    have hkl := hk1.lt
    have hvl := hv1.lt
    have hBxV := lt_of_block bX
    obtain ⟨b, off, rfl, hel⟩ : ∃ b off, a1 = some ⟨b, off, none⟩ ∧ S.Elems w b off xs := by
      rcases hc1 with h | h
      · rw [h] at hll; simp at hll; rw [hll] at hlen; simp at hlen
      · exact h
    have hCV : Below w.heap.size w V := But.below hC2 hb (by omega) hC2.size
    have hbl : b < w.heap.size := by
      have : 0 < xs.length := by omega
      exact World.block_lt_of_cell? w _ (hel 0 xs[0] (by simp [this])).1
    obtain ⟨a3, c3, rfl, hcap3, hln3⟩ := E.row_cap3 hk2
    obtain ⟨a4, c4, rfl, hcap4, hln4⟩ := E.row_cap3 hv2
    have Hel := Lib.hid hel
    have Hpre := Lib.hid hpre
    have hmbV : V.cell? ⟨w1.heap.size, 0, none⟩ = some (.pointer (some ⟨m, 0, none⟩)) := cell_of_one ((hb.block _ (lt_of_block hmb2) (by omega)).trans hmb2)
    have hlbV : V.cell? ⟨w.heap.size, 0, none⟩ = some (.slice (some ⟨b, off, none⟩) xs.length cap1) := cell_of_one ((hb.block _ (lt_of_block hlb2) (by omega)).trans hlb2)
    have hm : V.cell? ⟨Bx, 0, none⟩ = some (.int .i64 x.key.k) ∧ V.cell? ⟨Bx, 1, none⟩ = some (.string x.key.t) ∧ V.cell? ⟨Bx, 2, none⟩ = some (.int .i64 x.key.n) := by simp [World.cell?, bX]
    have hfacts : ∀ W5, But s V W5 → W5.cell? ⟨w1.heap.size, 0, none⟩ = some (.pointer (some ⟨m, 0, none⟩)) ∧ W5.cell? ⟨w.heap.size, 0, none⟩ = some (.slice (some ⟨b, off, none⟩) xs.length cap1) ∧
        (W5.cell? ⟨Bx, 0, none⟩ = some (.int .i64 x.key.k) ∧ W5.cell? ⟨Bx, 1, none⟩ = some (.string x.key.t) ∧ W5.cell? ⟨Bx, 2, none⟩ = some (.int .i64 x.key.n)) ∧
        Boxed W5 w2.heap.size 29 (.slice a3 pre.length c3) ∧ W5.ownsRow w2.heap.size 26 3 (.slice a3 pre.length c3) pre.length (pre.flatMap fun x => [.int .i64 x.key.k, .string x.key.t, .int .i64 x.key.n]) ∧
        Boxed W5 (w2.heap.size + 1) 30 (.slice a4 pre.length c4) ∧ W5.ownsRow w2.heap.size 3 1 (.slice a4 pre.length c4) pre.length (pre.flatMap fun x => [.int .i64 x.v]) ∧ Below w.heap.size w W5 := by
      intro W5 h5
      have e1 := h5.block Bx hBxV (by omega)
      refine ⟨?_, ?_, ⟨(World.cell?_of_block e1).trans hm.1, (World.cell?_of_block e1).trans hm.2.1, (World.cell?_of_block e1).trans hm.2.2⟩, (h5.block _ hkl (by omega)).trans hk1, row_but h5 (by omega) hk2, (h5.block _ hvl (by omega)).trans hv1, row_but h5 (by omega) hv2, But.below hCV h5 (by omega) hCV.size⟩
      · exact (World.cell?_of_block (h5.block w1.heap.size (World.block_lt_of_cell? V _ hmbV) (by omega))).trans hmbV
      · exact (World.cell?_of_block (h5.block w.heap.size (World.block_lt_of_cell? V _ hlbV) (by omega))).trans hlbV
    have Hfacts := Lib.hid hfacts
    have HMV := Lib.hid hMV
    clear hpre hel hc1 hfacts hMV hso hm
    gi_wp2_with fail
    gi_loopg [10] xs.length (fun k i wr => ∃ (j : Nat) (M' : List EntV), i = .int .i64 j ∧ j ≤ xs.length ∧ M'.length ≤ M.length + j ∧ Hid (k = xs.length - j) ∧ Hid (E.MapAt wr m s M') ∧ But s V wr)
    case atStart => exact ⟨0, M, rfl, by omega, by omega, Lib.hid rfl, HMV, But.refl _ _⟩
    case round =>
      obtain ⟨j, M', rfl, hj', hMl', Hk, HM', hb5⟩ := hrel
      by_cases hlt : j < xs.length
      · obtain ⟨q1, q2, -, -, -, -, -, hB5⟩ := Hfacts.out _ hb5
        obtain ⟨z, hz⟩ : ∃ z, xs[j]? = some z := ⟨xs[j], by simp [hlt]⟩
        obtain ⟨z0, z1, z2⟩ := (Hel.out.below hB5 hbl) j z hz
        clear hz
        have hpd := callsIn_wide (n := 1).2 (E.mapput_T wr.drew m s M' ⟨z, -1⟩ (HM'.out.below (Below.refl _ wr).drew) (by omega))
        dsimp only at hpd
        have hlen5 : (put entCmp (E.drop entCmp M' ⟨z, -1⟩) ⟨z, -1⟩).length ≤ M'.length + 1 := S.length_putE M' ⟨z, -1⟩
        generalize put entCmp (E.drop entCmp M' ⟨z, -1⟩) ⟨z, -1⟩ = M5 at hpd hlen5
        gi_wp2_with fail
        apply wpIn_at _ (fun w' => E.MapAt w' m s M5 ∧ But s wr w')
        · gi_region_with (refine ⟨trivial, ?_⟩; refine (CallsIn.inRound l2 hpd).mono ?_; rintro e w5 ⟨rfl, hS5, hb6⟩)
          all_goals exact ⟨rfl, rfl, hS5, (But.of_below (Below.refl _ wr).drew).trans hb6⟩
        rintro w5 ⟨hS5, hb6⟩
        have HS5 := Lib.hid hS5
        clear hS5 hpd z0 z1 z2
        gi_wp2_with fail
        gi_roundg (xs.length - (j + 1))
        case measure => rw [Hk.out]; omega
        case rel => exact ⟨j + 1, M5, by go_num, by omega, by omega, Lib.hid rfl, HS5, hb5.trans hb6⟩
      · obtain rfl : j = xs.length := by omega
        obtain ⟨q1, q2, q3, qk, -, -, -, hB5⟩ := Hfacts.out _ hb5
        gi_wp2_with fail
        refine ⟨trivial, ?_⟩
        refine (CallsIn.inRound l2 (callsIn_wide.2 (mapdrop_T wr m s M' x.key HM'.out (by omega)))).mono ?_
        rintro e w6 ⟨rfl, hS6, hb6⟩
        have hlen6 := E.length_drop entCmp M' ⟨x.key, 0⟩
        generalize E.drop entCmp M' ⟨x.key, 0⟩ = M6 at hS6 hlen6
        have hb56 := hb5.trans hb6
        clear q1 q2 q3 qk
        obtain ⟨q1, -, q3, qk, -, -, -, -⟩ := Hfacts.out _ hb56
        have qkc := qk.cell
        have HS6 := Lib.hid hS6
        clear hS6
        gi_wp2_with fail
        refine ⟨trivial, ?_⟩
        refine (CallsIn.inRound l2 (callsIn_wide.2 (E.mapput_T w6 m s M6 ⟨⟨7, ⟨#[]⟩, (pre.length : Int)⟩, 5⟩ HS6.out (by omega)))).mono ?_
        rintro e w7 ⟨rfl, hS7, hb7⟩
        have hlen7 : (put entCmp (E.drop entCmp M6 ⟨⟨7, ⟨#[]⟩, (pre.length : Int)⟩, 5⟩) ⟨⟨7, ⟨#[]⟩, (pre.length : Int)⟩, 5⟩).length ≤ M6.length + 1 := S.length_putE M6 ⟨⟨7, ⟨#[]⟩, (pre.length : Int)⟩, 5⟩
        generalize put entCmp (E.drop entCmp M6 ⟨⟨7, ⟨#[]⟩, (pre.length : Int)⟩, 5⟩) ⟨⟨7, ⟨#[]⟩, (pre.length : Int)⟩, 5⟩ = M7 at hS7 hlen7
        have hb57 := hb56.trans hb7
        clear q1 q3 qk qkc
        obtain ⟨-, -, q3, qk, qkr, qv, qvr, -⟩ := Hfacts.out _ hb57
        have qkc := qk.cell
        have qvc := qv.cell
        have qvf := qv.frozen
        have hs7 := hb57.size
        have HS7 := Lib.hid hS7
        have hn1 : ¬ 100 < pre.length + 1 := by omega
        have hn2 : ¬ (100 : Int) < (pre.length : Int) + 1 := by omega
        clear hS7
        gi_wp2_with (first
          | (gi_at_builtin; refine wpListIn_append_own _ rfl _ _ 29 rfl w2.heap.size 26 i0 (.agg #[.int .i64 0, .string ⟨#[]⟩, .int .i64 0]) 3 32 Try.underlying29 hi hz0 hz1 hz2 rfl (by decide) _ _ _ rfl (qkr.alloc _) ⟨w7.heap.size, 0, none⟩ 1 1 [.int .i64 x.key.k, .string x.key.t, .int .i64 x.key.n] rfl rfl (World.news_of_block (cs := #[.int .i64 x.key.k, .string x.key.t, .int .i64 x.key.n]) (t := 26) (fr := (0, 0)) (heap_alloc_new w7 _)) (by simp [Value.oneCell']) (by unfold maxLen; omega) (by omega) (by simp; omega) ?_; intro v' w8 hown' hgrow _; obtain ⟨g', cap', rfl⟩ := ownsRow_succ hown'; obtain ⟨hk5, hk6, hkr6, hkk6, hkb6, hv6, hvr6⟩ := E.two_lists qk qkr qv qvr (by omega) (by decide) (by decide) (by decide) (by decide) (by omega) (Nat.le_refl _) hown' hgrow; have hkc5 := hk5.cell; have hkf5 := hk5.frozen; have hkc6 := hk6.cell; have hvc6 := hv6.cell; have hsz5 := hkb6.size; (have hsz6 : w7.heap.size ≤ w8.heap.size := by simpa [World.setCell] using hsz5); (have hse : (w8.setCell ⟨w2.heap.size, 0, none⟩ (.slice (some ⟨g', 0, none⟩) (pre.length + 1) cap')).heap.size = w8.heap.size := by simp [World.setCell]); have hkp6 := E.kpy_step (n₀ := w7.heap.size) qkr hgrow (by decide) (by decide) (by decide) hk5 (by decide) (by decide) (by decide) (.slice (some ⟨g', 0, none⟩) (pre.length + 1) cap'); have hkq6 := E.kpy_step (n₀ := W4.heap.size) qkr hgrow (by decide) (by decide) (by decide) hk5 (by decide) (by decide) (by decide) (.slice (some ⟨g', 0, none⟩) (pre.length + 1) cap'))
          | (gi_at_builtin; refine wpListIn_append_own _ rfl _ _ 30 rfl w2.heap.size 3 i1 (.int .i64 0) 1 8 Try.underlying30 hj hy0 hy1 hy2 rfl (by decide) _ _ _ rfl (hvr6.alloc _) ⟨_, 0, none⟩ 1 1 [.int .i64 x.v] rfl rfl (by have q := cell_one_new (w8.setCell ⟨w2.heap.size, 0, none⟩ (.slice (some ⟨g', 0, none⟩) (pre.length + 1) cap')) (.int .i64 x.v) 3; rw [hse] at q; exact q) (by simp [Value.oneCell']) (by unfold maxLen; omega) (by omega) (by simp; omega) ?_; intro v'' w9 hown7 hgrow7 _; obtain ⟨g7, cap7, rfl⟩ := ownsRow_succ hown7; obtain ⟨hv8, hv9, hvr9, hvk9, hvb9, hk9, hkr9⟩ := E.two_lists hv6 hvr6 hk6 hkr6 (by omega) (by decide) (by decide) (by decide) (by decide) (by omega) (by omega) hown7 hgrow7; have hvc8 := hv8.cell; have hvf8 := hv8.frozen; have hkc9 := hk9.cell; have hkp9 := E.kpy_step (n₀ := w7.heap.size) hvr6 hgrow7 (by decide) (by decide) (by decide) hv8 (by decide) (by decide) (by decide) (.slice (some ⟨g7, 0, none⟩) (pre.length + 1) cap7); have hkq9 := E.kpy_step (n₀ := W4.heap.size) hvr6 hgrow7 (by decide) (by decide) (by decide) hv8 (by decide) (by decide) (by decide) (.slice (some ⟨g7, 0, none⟩) (pre.length + 1) cap7))
          | fail)
        have hbf := hkb6.trans hvb9
        have hSf := mapat_kp HS7.out (hbf.block m (by omega)) (hbf.block s (by omega)) (hkp6.1.trans hkp9.1)
        refine ⟨(keepsFrom_but hb57 (by omega)).trans ((hkk6.from _).trans (hvk9.from _)), (kpy_but hb57 HMV.out).trans (hkq6.trans hkq9), ⟨M7, by simp; omega, hSf⟩, ⟨_, hk9, by simpa using hkr9, trivial⟩, ⟨_, hv9, by simpa using hvr9, trivial⟩, ?_⟩
        exact below3 (hb.trans hb57) hbf (Nat.le_refl _)
  case done =>
    rintro D zs V hD rfl ⟨-, ⟨vk, hk1, hk2, -⟩, ⟨vv, hv1, hv2, -⟩, hb⟩ hK
    have hkc := hk1.cell
    have hvc := hv1.cell
    have hbs := hb.size
    have hDV : D < V.heap.size := (Array.getElem?_eq_some_iff.1 hK).1
    have hrV : V.heap[w.heap.size + 1]? = some (.cells #[.bool false] 4 (0, 0)) := (hb.block _ (lt_of_block hrb2) (by omega)).trans hrb2
    have hCV : Below w.heap.size w V := But.below hC2 hb (by omega) hC2.size
    obtain ⟨qk, qv, K, -, -, hpl, hka, -, hva⟩ := hP2.but hb hsp
    obtain ⟨c0, c1, -, -⟩ := S.plain_cells hpl
    have hk8 := row_keys hk2
    have hv8 := row_vals hv2
    have hka8 := Lib.hid hka.slice
    have hva8 := Lib.hid (rw_ints hva)
    have Hk8 := Lib.hid hk8
    have Hv8 := Lib.hid hv8
    have Hpl := Lib.hid hpl
    have hvb := Lib.hid hv1
    clear hk8 hv8 hka hva hpl hso hM4 hM2 hM1 hM hP hP1 hP2 hc1 hw1 hk2 hv2
    have hBd : Below V.heap.size V V.drew := (Below.refl _ V).drew
    have hcell : ∀ W, Below V.heap.size V W → (W.cell? ⟨p, 0, none⟩ = some qk ∧ W.cell? ⟨p, 1, none⟩ = some qv) ∧ W.cell? ⟨w2.heap.size + 1, 0, none⟩ = some vv ∧ W.cell? ⟨w2.heap.size, 0, none⟩ = some vk := by
      intro W h
      have hplW : S.PlainAt W p qk qv := (h.block _ (lt_of_block Hpl.out)).trans Hpl.out
      obtain ⟨d0, d1, -, -⟩ := S.plain_cells hplW
      exact ⟨⟨d0, d1⟩, cell_of_one ((h.block _ (lt_of_block hvb.out)).trans hvb.out), cell_of_one ((h.block _ (lt_of_block hk1)).trans hk1)⟩
    have hsy := callsIn_wide (n := 3).2 (S.syms_T V.drew vk qk (S.keysL zs) (S.keysL zs) (Hk8.out.below hBd) (hka8.out.below hBd) (by simp; omega) (by simp; omega))
    have hin : ∀ W, Below V.heap.size V W → CallsIn Fence.wide 3 Try.prog 23 #[vv, qv] W (fun e w' => e = .returned (.bool true) ∧ Below W.heap.size W w') := fun W h => callsIn_wide.2 (ints2_T W vv qv (S.valsL zs) (Hv8.out.below h) (hva8.out.below h) (by simp; omega))
    have hwk : ∀ W, CallsIn Fence.wide 3 Try.prog 11 #[] W (fun e w' => e = .returned (.bool true) ∧ Below W.heap.size W w') := fun W => callsIn_wide.2 (wakes_T W)
    have hend : ∀ W, Below V.heap.size V W → W.heap[w.heap.size + 1]? = some (.cells #[.bool false] 4 (0, 0)) ∧ W.heap[D]? = some (.deferred (some [])) ∧ Below w.heap.size w W := fun W h => ⟨(h.block _ (lt_of_block hrV)).trans hrV, (h.block D hDV).trans hK, hCV.trans (h.mono hCV.size)⟩
    have Hend := Lib.hid hend
    clear hend c0 c1
    gi_wp2_with fail
    apply wpIn_atm _ (fun w' => ∃ W, Below V.heap.size V W ∧ w' = W.setCell ⟨w.heap.size + 1, 0, none⟩ (.bool true))
    · gi_region_with (first
        | (refine ⟨trivial, ?_⟩; (with_reducible refine hsy.mono ?_); rintro e w9 ⟨⟨bb, rfl, hbt⟩, hB9⟩; obtain rfl : bb = true := (by first | exact hbt.2 (by trivial) | exact hbt); have hb9 := hBd.trans hB9; have hd9 := hcell w9 hb9)
        | (refine ⟨trivial, ?_⟩; (with_reducible refine (hin _ hb9).mono ?_); rintro e w10 ⟨rfl, hB10⟩; have hb10 := hb9.trans (hB10.mono hb9.size))
        | (refine ⟨trivial, ?_⟩; (with_reducible refine (hwk _).mono ?_); rintro e w11 ⟨rfl, hB11⟩; have hb11 := hb10.trans (hB11.mono hb10.size); have hr11 := (Hend.out w11 hb11).1; have hcc := cell_of_one hr11; have hff := free_of_one hr11))
      all_goals exact ⟨rfl, _, hb11, rfl⟩
    rintro w' ⟨w12, hb12, rfl⟩
    obtain ⟨hrc12, hD12, hC12⟩ := Hend.out w12 hb12
    have hcc := cell_of_one hrc12
    have hff := free_of_one hrc12
    gi_wp2
    have hK' := (KeepsOthers.setCell w12 ⟨w.heap.size + 1, 0, none⟩ (.bool true)).same D _ hD12 rfl
    refine ⟨by simp, .inl ⟨_, _, rfl, run_takeDeferred hK', ?_⟩⟩
    have hc5 := cell_kept (World.cell?_setCell_same' w12 ⟨w.heap.size + 1, 0, none⟩ (.bool true) (by rw [hcc]; rfl)) (grownBy_putObj' _ D (.deferred none)) (fun r e => by cases e; exact ⟨_, hK', rfl⟩)
    refine ⟨.bool true, ?_, ?_, ?_⟩
    · simp [results, Try.results5, go_sem, hc5]
    · rfl
    · have hB5 := But.below hC12 ((But.refl (w.heap.size + 1) w12).setCell 0 (.bool true)) (by omega) hC12.size
      exact hB5.trans (belowK_b (w := w) (by omega) _ D _ _ (by omega) hK' rfl rfl)
  case stop =>
    rintro D c pre W _ _ h _
    exact h.elim

theorem bmean_big (w : World) (v : Value) (xs : List SymV) (hv : S.SliceOf w v xs) (hx : 60 < xs.length) :
    Calls Try.prog 5 #[v] w fun e w' => e = .returned (.bool true) ∧ Below w.heap.size w w' := by
  obtain ⟨a1, cap1, rfl, -⟩ := hv
  have f1 : ((60 : Int) < (xs.length : Int)) = True := eq_true (by omega)
  refine (callsIn_wide (n := 4)).1 ?_
  refine callsIn_of_wp_marks Try.func5 rfl trivial ?_ rfl
  simp only [Try.ntmps5, List.size_toArray, List.length_cons, List.length_nil, Nat.reduceAdd, Nat.reduceSub, Array.replicate_succ, Array.replicate_zero, List.push_toArray, List.append_toArray, List.nil_append, List.cons_append]
  have hB0 : Below w.heap.size w ((w.alloc (.cells #[.slice a1 xs.length cap1] 29)).alloc (.cells #[.bool false] 4)) := ((Below.refl _ w).alloc (Nat.le_refl _) _).alloc (by simp) _
  have hrb := heap_alloc_new (w.alloc (.cells #[.slice a1 xs.length cap1] 29)) (.cells #[.bool false] 4)
  simp only [World.size_alloc] at hrb
  have fin : ∀ w1, Below ((w.alloc (.cells #[.slice a1 xs.length cap1] 29)).alloc (.cells #[.bool false] 4)).heap.size ((w.alloc (.cells #[.slice a1 xs.length cap1] 29)).alloc (.cells #[.bool false] 4)) w1 → w1.heap[w.heap.size + 1]? = some (.cells #[.bool false] 4 (0, 0)) ∧ Below w.heap.size w w1 := fun w1 h => ⟨(h.block _ (lt_of_block hrb)).trans hrb, hB0.trans (h.mono hB0.size)⟩
  gi_wp2_with fail
  refine ⟨trivial, ?_⟩
  refine (callsIn_wide.2 (wakes_T _)).mono ?_
  rintro e w1 ⟨rfl, hb⟩
  obtain ⟨h1, h2⟩ := fin w1 hb
  have hcc := cell_of_one h1
  have hff := free_of_one h1
  gi_wp2_with fail
  have hc5 := World.cell?_setCell_same' w1 ⟨w.heap.size + 1, 0, none⟩ (.bool true) (by rw [hcc]; rfl)
  refine ⟨.bool true, ?_, rfl, ?_⟩
  · simp [results, Try.results5, go_sem, hc5]
  · exact But.below h2 ((But.refl (w.heap.size + 1) w1).setCell 0 (.bool true)) (by omega) h2.size

theorem bmean_any (w : World) (v : Value) (xs : List SymV) (hv : S.SliceOf w v xs) :
    Calls Try.prog 5 #[v] w fun e w' => e = .returned (.bool true) ∧ Below w.heap.size w w' := by
  by_cases h : xs.length ≤ 60
  · exact bmean_walk w v xs hv h
  · exact bmean_big w v xs hv (by omega)

end Go.Proofs.Ytbpibbcehfkeeaa
