/- What Put of a table of symbols does. Conditions: the table, the list lie in memory; at most 1000 symbols in the list. -/
import Derived.Test.YtimeamehmefgnaaGreatDoorFreshS
import Derived.Test.YtimeamehmefgnaaGreatDoorMeetSS
import Derived.Sort.LoopGhostIn
import Derived.Test.YtimeamehmefgnaaGreatDoorAllGGS
namespace Go.Proofs.YtimeamehmefgnaaGreatDoor
open Go Go.RowKit Go.Shelf

attribute [local go_sem] Oper.semAt_some

/-- What is known once a list is put. -/
abbrev putsV (L l : List SymV) : List SymV := l.foldl (put symCmp) L
/-- What is new of a list. -/
def moreV (L l : List SymV) : List SymV := (putsV [] l).filter (fun x => has symCmp L x == false)

theorem sorted_more (L l : List SymV) : Sorted symCmp (moreV L l) := List.Pairwise.filter _ (sorted_puts symCmp_lin List.Pairwise.nil)

theorem mem_more {L l : List SymV} {x : SymV} : x ∈ moreV L l ↔ x ∈ l ∧ x ∉ L := by
  unfold moreV
  rw [List.mem_filter, mem_puts S.symCmp_exact]
  have : (has symCmp L x == false) = true ↔ x ∉ L := by
    rw [beq_iff_eq, ← Bool.not_eq_true, has_iff S.symCmp_exact]
  rw [this]
  simp

theorem puts_more {L l : List SymV} (hL : Sorted symCmp L) : (moreV L l).foldl (put symCmp) L = putsV L l := by
  refine S.sorted_ext symCmp_lin S.symCmp_exact (sorted_puts symCmp_lin hL) (sorted_puts symCmp_lin hL) fun a => ?_
  rw [mem_puts S.symCmp_exact, mem_puts S.symCmp_exact, mem_more]
  by_cases ha : a ∈ L <;> simp [ha]

theorem length_puts_new : ∀ (M L : List SymV), Sorted symCmp M → (∀ x ∈ M, x ∉ L) → (M.foldl (put symCmp) L).length = L.length + M.length
  | [], L, _, _ => rfl
  | x :: M, L, hM, hn => by
    obtain ⟨h1, h2⟩ := List.pairwise_cons.1 hM
    have hx : has symCmp L x = false := by
      rw [← Bool.not_eq_true, has_iff S.symCmp_exact]
      exact hn x (by simp)
    have hp : (put symCmp L x).length = L.length + 1 := by rw [put, hx, if_neg (by simp), length_ins]
    rw [List.foldl_cons, length_puts_new M _ h2 (fun y hy hm => ?_), hp, List.length_cons]
    · omega
    · rcases (mem_put S.symCmp_exact).1 hm with rfl | hm
      · have := h1 y hy; rw [symCmp_lin.refl] at this; omega
      · exact hn y (by simp [hy]) hm

theorem length_more {L l : List SymV} (hL : Sorted symCmp L) : L.length + (moreV L l).length = (putsV L l).length := by
  rw [← puts_more hL, length_puts_new _ _ (sorted_more L l) (fun x hx => (mem_more.1 hx).2)]

theorem TableAt.sorted {w : World} {t s m ms : Nat} {L : List SymV} {room : Int} (h : TableAt w t s m ms L room) : Sorted symCmp L := by
  obtain ⟨t1, p1, -, -, -, h4⟩ := h.2.1
  exact h4

theorem boxT (w : World) (t : Nat) : Below w.heap.size w (w.alloc (.cells #[.pointer (some ⟨t, 0, none⟩)] 23)) := (Below.refl _ w).alloc (Nat.le_refl _) _

set_option maxHeartbeats 1600000 in
/-- One of the list is no right symbol. -/
theorem tabput_bad (w : World) (t : Nat) (v : Value) (xs : List SymV) (j : Nat) (x : SymV) (hv : S.SliceOf w v xs) (hs : xs.length ≤ 1000) (hx : xs[j]? = some x) (hbad : validB x = false) (hok : ∀ i y, i < j → xs[i]? = some y → validB y = true) :
    Calls Tryz.prog 9 #[.pointer (some ⟨t, 0, none⟩), v] w fun e w' => e = .returned (.int .i64 9) ∧ Below w.heap.size w w' := by
  have hB0 := boxT w t
  have hj : j < xs.length := (List.getElem?_eq_some_iff.1 hx).1
  obtain ⟨a, cap, rfl, hc⟩ := hv
  obtain ⟨b, off, rfl, hel⟩ : ∃ b off, a = some ⟨b, off, none⟩ ∧ S.Elems w b off xs := by
    rcases hc with h | h
    · rw [h] at hj; simp at hj
    · exact h
  have hbl : b < w.heap.size := World.block_lt_of_cell? w _ (hel j x hx).1
  have Hel := Lib.hid hel
  have Hx := Lib.hid hx
  have Hok := Lib.hid hok
  clear hc hel hx hok
  go_enter Tryz.func9, Tryz.ntmps9
  go_wp2_with fail
  generalize (w.alloc (.cells #[.pointer (some ⟨t, 0, none⟩)] 23)) = W0 at hB0 ⊢
  go_loopg [11] (xs.length - 0) (fun k i wr => ∃ q : Nat, i = .int .i64 q ∧ q ≤ j ∧ Hid (k = xs.length - q) ∧ Below w.heap.size w wr)
  case atStart => exact ⟨0, rfl, by omega, Lib.hid rfl, hB0⟩
  case round =>
    obtain ⟨q, rfl, hq, Hk, hB⟩ := hrel
    have hlt : q < xs.length := by omega
    obtain ⟨y, hy⟩ : ∃ y, xs[q]? = some y := ⟨xs[q], by simp [hlt]⟩
    obtain ⟨e0, e1, e2⟩ := (Hel.out.below hB hbl) q y hy
    have hBy := box1_S wr y
    have hCy := hB.trans (hBy.mono hB.size)
    have hval := valid_any (wr.alloc (.cells #[.int .i64 y.k, .string y.t, .int .i64 y.n] 33)) y
    by_cases hqj : q = j
    · subst hqj
      have : y = x := by have := Hx.out; rw [hy] at this; exact Option.some.inj this
      subst this
      rw [hbad] at hval
      clear hy
      go_wp2_with fail
      refine hval.mono ?_
      rintro e w2 ⟨rfl, hB2⟩
      go_wp2_with fail
      go_ret
      exact ⟨rfl, hCy.trans (hB2.mono hCy.size)⟩
    · rw [Hok.out q y (by omega) hy] at hval
      clear hy
      go_wp2_with fail
      refine hval.mono ?_
      rintro e w2 ⟨rfl, hB2⟩
      go_wp2_with fail
      go_roundg (xs.length - (q + 1))
      case measure => rw [Hk.out]; omega
      case rel => exact ⟨q + 1, by go_num, by omega, Lib.hid rfl, hCy.trans (hB2.mono hCy.size)⟩

set_option maxHeartbeats 3200000 in
/-- More than there is room for. -/
theorem tabput_full (w : World) (t s m ms : Nat) (L : List SymV) (room : Int) (v : Value) (xs : List SymV) (h : TableAt w t s m ms L room) (hL : L.length ≤ 200000) (hv : S.SliceOf w v xs) (hs : xs.length ≤ 1000) (hok : ∀ y ∈ xs, validB y = true) (hfull : room < ((putsV L xs).length : Int)) :
    Calls Tryz.prog 9 #[.pointer (some ⟨t, 0, none⟩), v] w fun e w' => e = .returned (.int .i64 20) ∧ Below w.heap.size w w' := by
  have hB0 := boxT w t
  have hbox := heap_alloc_new w (.cells #[.pointer (some ⟨t, 0, none⟩)] 23)
  have h0 := h.below hB0
  have hv' := Lib.hid (fun W (hB : Below w.heap.size w W) => hv.below hB)
  have hln := length_more (l := xs) h.sorted
  have hpl : (putsV [] xs).length ≤ ([] : List SymV).length + xs.length := S.putl_length xs []
  simp only [List.length_nil, Nat.zero_add] at hpl
  have hpl2 : (putsV [] xs).length ≤ 300000 := by have := S.putl_length xs []; simp only [List.length_nil, Nat.zero_add] at this; omega
  have hL2 : L.length ≤ 300000 := by omega
  have hml : (moreV L xs).length ≤ 1000 := by
    have := List.length_filter_le (fun x => has symCmp L x == false) (putsV [] xs)
    unfold moreV
    omega
  rw [← hln] at hfull
  have Hnew := Lib.hid (fun W (hB : Below w.heap.size w W) => S.new_T W v xs (hv.below hB) (by omega))
  obtain ⟨a, cap, rfl, hc⟩ := hv
  have Hc := Lib.hid hc
  have Hok := Lib.hid hok
  clear hc hok hln
  go_enter Tryz.func9, Tryz.ntmps9
  go_wp2_with fail
  generalize (w.alloc (.cells #[.pointer (some ⟨t, 0, none⟩)] 23)) = W0 at hB0 hbox h0 ⊢
  go_loopg [11] (xs.length - 0) (fun k i wr => ∃ q : Nat, i = .int .i64 q ∧ q ≤ xs.length ∧ Hid (k = xs.length - q) ∧ Below W0.heap.size W0 wr)
  case atStart => exact ⟨0, rfl, by omega, Lib.hid rfl, Below.refl _ _⟩
  case round =>
    obtain ⟨q, rfl, hq, Hk, hBr⟩ := hrel
    have hB := hB0.trans (hBr.mono hB0.size)
    by_cases hlt : q < xs.length
    · obtain ⟨b, off, rfl, hel⟩ : ∃ b off, a = some ⟨b, off, none⟩ ∧ S.Elems w b off xs := by
        rcases Hc.out with h | h
        · rw [h] at hlt; simp at hlt
        · exact h
      obtain ⟨y, hy⟩ : ∃ y, xs[q]? = some y := ⟨xs[q], by simp [hlt]⟩
      have hbl : b < w.heap.size := World.block_lt_of_cell? w _ (hel q y hy).1
      obtain ⟨e0, e1, e2⟩ := (hel.below hB hbl) q y hy
      have hBy := box1_S wr y
      have hCy := hBr.trans (hBy.mono hBr.size)
      have hval := valid_any (wr.alloc (.cells #[.int .i64 y.k, .string y.t, .int .i64 y.n] 33)) y
      rw [Hok.out y (List.mem_of_getElem? hy)] at hval
      clear hy hel
      go_wp2_with fail
      refine hval.mono ?_
      rintro e w2 ⟨rfl, hB2⟩
      go_wp2_with fail
      go_roundg (xs.length - (q + 1))
      case measure => rw [Hk.out]; omega
      case rel => exact ⟨q + 1, by go_num, by omega, Lib.hid rfl, hCy.trans (hB2.mono hCy.size)⟩
    · obtain rfl : q = xs.length := by omega
      have hr := h0.below hBr
      have Hcl := Lib.hid (fun W (hB : Below W0.heap.size W0 W) => (⟨cell_of_one ((hB.block _ (lt_of_block hbox)).trans hbox), by have := (h0.below hB).1; simp [World.cell?, this], by have := (h0.below hB).1; simp [World.cell?, this]⟩ : W.cell? ⟨w.heap.size, 0, none⟩ = some (.pointer (some ⟨t, 0, none⟩)) ∧ W.cell? ⟨t, 0, none⟩ = some (.pointer (some ⟨s, 0, none⟩)) ∧ W.cell? ⟨t, 2, none⟩ = some (.int .i64 room)))
      obtain ⟨d0, d1, d2⟩ := Hcl.out wr hBr
      have hnew := Hnew.out wr.drew (hB.trans ((Below.refl _ wr).drew.mono hB.size))
      have Hlt := Lib.hid hlt
      clear hlt
      go_wp2_with fail
      go_region_held3 (fun W => W.cell? ⟨w.heap.size, 0, none⟩ = some (.pointer (some ⟨t, 0, none⟩)) ∧ W.cell? ⟨t, 0, none⟩ = some (.pointer (some ⟨s, 0, none⟩)) ∧ W.cell? ⟨t, 2, none⟩ = some (.int .i64 room))
        (first | go_keep | assumption)
        (first
          | ((with_reducible refine hnew.mono ?_); rintro e w1 ⟨r, rfl, hr1, hR, hB1⟩; have hC1 : Below wr.heap.size wr w1 := (Below.refl _ wr).drew.trans hB1; have hD1 := hBr.trans (hC1.mono hBr.size); have hcl1 := Hcl.out w1 hD1; have hless := S.less_T w1 r s (putsV [] xs) L hR (h0.below hD1).2.1 hpl2 hL2)
          | ((with_reducible refine hless.mono ?_); rintro e w2 ⟨c, rfl, hc2, hC, hB2⟩; have hD2 := hD1.trans (hB2.mono hD1.size); have hcl2 := Hcl.out w2 hD2)
          | fail "no arm")
      obtain ⟨f0, f1, f2⟩ := hcl2
      clear d0 d1 d2 hcl1 hless hnew
      have hsum : IntKind.i64.wrap ((L.length : Int) + ((moreV L xs).length : Int)) = (L.length : Int) + ((moreV L xs).length : Int) := IntWalk.i64_in _ (by omega)
      have hgt : (room < (L.length : Int) + ((moreV L xs).length : Int)) = True := eq_true (by omega)
      have k1 := tablen_T w2.drew t s m ms L room ((h0.below hD2).below (Below.refl _ _).drew)
      have k2 := S.len_T w2.drew c (moreV L xs) (hC.below (Below.refl _ _).drew)
      clear hfull
      go_wp2_with fail
      go_region_held3 (fun W => W.cell? ⟨w.heap.size, 0, none⟩ = some (.pointer (some ⟨t, 0, none⟩)) ∧ W.cell? ⟨t, 0, none⟩ = some (.pointer (some ⟨s, 0, none⟩)) ∧ W.cell? ⟨t, 2, none⟩ = some (.int .i64 room))
        (first | go_keep | assumption)
        (first
          | ((with_reducible refine k1.mono ?_); rintro e w3 ⟨rfl, rfl⟩; have hcl3 : w2.drew.cell? ⟨w.heap.size, 0, none⟩ = some (.pointer (some ⟨t, 0, none⟩)) ∧ w2.drew.cell? ⟨t, 0, none⟩ = some (.pointer (some ⟨s, 0, none⟩)) ∧ w2.drew.cell? ⟨t, 2, none⟩ = some (.int .i64 room) := ⟨f0, f1, f2⟩)
          | ((with_reducible refine k2.mono ?_); rintro e w3 ⟨rfl, rfl⟩; have hcl3 : w2.drew.cell? ⟨w.heap.size, 0, none⟩ = some (.pointer (some ⟨t, 0, none⟩)) ∧ w2.drew.cell? ⟨t, 0, none⟩ = some (.pointer (some ⟨s, 0, none⟩)) ∧ w2.drew.cell? ⟨t, 2, none⟩ = some (.int .i64 room) := ⟨f0, f1, f2⟩)
          | fail "no arm")
      go_wp2_with fail
      go_ret
      exact ⟨rfl, (hB0.trans (hD2.mono hB0.size)).drew⟩

theorem TableAt.grown {W W' : World} {row : Option Nat} {t s m ms : Nat} {L : List SymV} {room : Int} (h : TableAt W t s m ms L room) (hg : W.grownBy W' row) (hr : ∀ r, row = some r → ∃ o : Obj, W.heap[r]? = some o ∧ o.isCells = false) : TableAt W' t s m ms L room := by
  obtain ⟨h1, h2, ⟨G, ⟨h3, t4, p4, h4, h5, h6⟩, h7⟩, h8⟩ := h
  exact ⟨(grownBy_keeps_cells hg hr h1 rfl).trans h1, h2.grown hg hr, ⟨G, ⟨(grownBy_keeps_cells hg hr h3 rfl).trans h3, t4, p4, (grownBy_keeps_cells hg hr h4 rfl).trans h4, IsT.keep (fun b c hb => (grownBy_keeps_cells hg hr hb rfl).trans hb) t4 p4 h5, h6⟩, h7⟩, h8⟩

theorem but2_grown {B s m : Nat} {w W W' : World} {row : Option Nat} (h : But2 s m w W) (hg : W.grownBy W' row) (hr : ∀ r, row = some r → B ≤ r) (hB : w.heap.size ≤ B) : But2 s m w W' :=
  ⟨hg.os.trans h.os, hg.tape.trans h.tape, hg.output.trans h.output, Nat.le_trans h.size hg.size, fun k hk h1 h2 => (hg.block k (Nat.lt_of_lt_of_le hk h.size) (fun e => by have := hr k e.symm; omega)).trans (h.block k hk h1 h2)⟩

theorem keepsFrom_but2 {B s m : Nat} {W W' : World} (h : But2 s m W W') (hs : s < B) (hm : m < B) : KeepsFrom B W W' := ⟨h.size, fun k _ hB hk _ => (h.block k (lt_of_block hk) (by omega) (by omega)).trans hk⟩

theorem kp_but2 {n₀ t s m ms : Nat} {L : List SymV} {room : Int} {W W' : World} (hT : TableAt W t s m ms L room) (h : But2 s ms W W') : S.G.Kp n₀ W W' := by
  intro b c _ hb
  obtain ⟨n1, n2⟩ := hT.ne hb (by decide) (by decide)
  exact (h.block b (lt_of_block hb) n1 n2).trans hb

/-- One way out: a frame, a world. -/
def AtX (fr : Nat → Nat → Act) (T : Nat → World → Prop) : Exit → Act → World → Prop
  | .normal, a, w => ∃ r c, a = fr r c ∧ T c w
  | _, _, _ => False

theorem wpIn_atx {F : Fence} {n : Nat} {P : Program} {c : Code} {Q : Exit → Act → World → Prop} {a : Act} {w : World} (fr : Nat → Nat → Act) (T : Nat → World → Prop) (h : c.wpIn F n P (AtX fr T) a w) (k : ∀ r c w', T c w' → Q .normal (fr r c) w') : c.wpIn F n P Q a w :=
  wpIn_mono h fun e a' w' h' => by cases e <;> first | exact (h' : False).elim | (obtain ⟨r, c, rfl, h3⟩ := h'; exact k r c w' h3)

set_option maxRecDepth 100000 in
set_option maxHeartbeats 3200000 in
/-- All are put. -/
theorem tabput_ok (w : World) (t s m ms : Nat) (L : List SymV) (room : Int) (v : Value) (xs : List SymV) (h : TableAt w t s m ms L room) (hL : L.length ≤ 200000) (hv : S.SliceOf w v xs) (hs : xs.length ≤ 1000) (hok : ∀ y ∈ xs, validB y = true) (hfit : ((putsV L xs).length : Int) ≤ room) :
    Calls Tryz.prog 9 #[.pointer (some ⟨t, 0, none⟩), v] w fun e w' => e = .returned (.int .i64 0) ∧ TableAt w' t s m ms (putsV L xs) room ∧ But2 s ms w w' := by
  have hB0 := boxT w t
  have hbox := heap_alloc_new w (.cells #[.pointer (some ⟨t, 0, none⟩)] 23)
  have h0 := h.below hB0
  have hv' := Lib.hid (fun W (hB : Below w.heap.size w W) => hv.below hB)
  have hln := length_more (l := xs) h.sorted
  have hpl : (putsV [] xs).length ≤ ([] : List SymV).length + xs.length := S.putl_length xs []
  simp only [List.length_nil, Nat.zero_add] at hpl
  have hpl2 : (putsV [] xs).length ≤ 300000 := by have := S.putl_length xs []; simp only [List.length_nil, Nat.zero_add] at this; omega
  have hL2 : L.length ≤ 300000 := by omega
  have hml : (moreV L xs).length ≤ 1000 := by
    have := List.length_filter_le (fun x => has symCmp L x == false) (putsV [] xs)
    unfold moreV
    omega
  rw [← hln] at hfit
  have Hnew := Lib.hid (fun W (hB : Below w.heap.size w W) => S.new_T W v xs (hv.below hB) (by omega))
  obtain ⟨a, cap, rfl, hc⟩ := hv
  have Hc := Lib.hid hc
  have Hok := Lib.hid hok
  clear hc hok hln
  refine (callsIn_wide (n := 3)).1 ?_
  refine callsIn_of_wp_marks Tryz.func9 rfl trivial ?_ rfl
  simp only [Tryz.ntmps9, List.size_toArray, List.length_cons, List.length_nil, Nat.reduceAdd, Nat.reduceSub, Array.replicate_succ, Array.replicate_zero, List.push_toArray, List.append_toArray, List.nil_append, List.cons_append]
  gi_wp2_with fail
  generalize (w.alloc (.cells #[.pointer (some ⟨t, 0, none⟩)] 23)) = W0 at hB0 hbox h0 ⊢
  gi_loopg [11] (xs.length - 0) (fun k i wr => ∃ q : Nat, i = .int .i64 q ∧ q ≤ xs.length ∧ Hid (k = xs.length - q) ∧ Below W0.heap.size W0 wr)
  case atStart => exact ⟨0, rfl, by omega, Lib.hid rfl, Below.refl _ _⟩
  case round =>
    obtain ⟨q, rfl, hq, Hk, hBr⟩ := hrel
    have hB := hB0.trans (hBr.mono hB0.size)
    by_cases hlt : q < xs.length
    · obtain ⟨b, off, rfl, hel⟩ : ∃ b off, a = some ⟨b, off, none⟩ ∧ S.Elems w b off xs := by
        rcases Hc.out with h | h
        · rw [h] at hlt; simp at hlt
        · exact h
      obtain ⟨y, hy⟩ : ∃ y, xs[q]? = some y := ⟨xs[q], by simp [hlt]⟩
      have hbl : b < w.heap.size := World.block_lt_of_cell? w _ (hel q y hy).1
      obtain ⟨e0, e1, e2⟩ := (hel.below hB hbl) q y hy
      have hBy := box1_S wr y
      have hCy := hBr.trans (hBy.mono hBr.size)
      have hval := valid_any (wr.alloc (.cells #[.int .i64 y.k, .string y.t, .int .i64 y.n] 33)) y
      rw [Hok.out y (List.mem_of_getElem? hy)] at hval
      clear hy hel
      gi_wp2_with fail
      refine ⟨trivial, ?_⟩
      refine (callsIn_wide.2 hval).mono ?_
      rintro e w2 ⟨rfl, hB2⟩
      gi_wp2_with fail
      gi_roundg (xs.length - (q + 1))
      case measure => rw [Hk.out]; omega
      case rel => exact ⟨q + 1, by go_num, by omega, Lib.hid rfl, hCy.trans (hB2.mono hCy.size)⟩
    · obtain rfl : q = xs.length := by omega
      have hr := h0.below hBr
      have Hcl := Lib.hid (fun W (hB : Below W0.heap.size W0 W) => (⟨cell_of_one ((hB.block _ (lt_of_block hbox)).trans hbox), by have := (h0.below hB).1; simp [World.cell?, this], by have := (h0.below hB).1; simp [World.cell?, this]⟩ : W.cell? ⟨w.heap.size, 0, none⟩ = some (.pointer (some ⟨t, 0, none⟩)) ∧ W.cell? ⟨t, 0, none⟩ = some (.pointer (some ⟨s, 0, none⟩)) ∧ W.cell? ⟨t, 2, none⟩ = some (.int .i64 room)))
      obtain ⟨d0, d1, d2⟩ := Hcl.out wr hBr
      have hnew := Hnew.out wr.drew (hB.trans ((Below.refl _ wr).drew.mono hB.size))
      have Hlt := Lib.hid hlt
      clear hlt
      gi_wp2_with fail
      refine wpIn_atx (fun r c => { tmps := #[.pointer (some ⟨t, 0, none⟩), .slice a xs.length cap, .pointer (some ⟨w.heap.size, 0, none⟩), undef, u4, undef, u6, .pointer (some ⟨c, 0, none⟩), undef, .slice a xs.length cap, .int .i64 xs.length, .int .i64 xs.length, .bool false, u13, u14, u15, u16, u17, u18, .slice a xs.length cap, .pointer (some ⟨r, 0, none⟩), .pointer (some ⟨t, 0, none⟩), .pointer (some ⟨t, 0, none⟩), .pointer (some ⟨t, 0, none⟩), .pointer (some ⟨s, 0, none⟩), .pointer (some ⟨c, 0, none⟩), undef, undef, undef, undef, undef, undef, undef, undef, undef, undef, undef, undef, undef, undef, undef, undef], defers := [] }) (fun c w' => S.SetAt w' c (moreV L xs) ∧ W0.heap.size ≤ c ∧ Below W0.heap.size W0 w') ?_ ?_
      · gi_region_with (refine ⟨trivial, ?_⟩; first
          | (refine (callsIn_wide.2 hnew).mono ?_; rintro e w1 ⟨r, rfl, hr1, hR, hB1⟩; have hC1 : Below wr.heap.size wr w1 := (Below.refl _ wr).drew.trans hB1; have hD1 := hBr.trans (hC1.mono hBr.size); have hcl1 := Hcl.out w1 hD1; obtain ⟨f0, f1, f2⟩ := hcl1; have hless := S.less_T w1 r s (putsV [] xs) L hR (h0.below hD1).2.1 hpl2 hL2)
          | (refine (callsIn_wide.2 hless).mono ?_; rintro e w2 ⟨c, rfl, hc2, hC, hB2⟩; have hD2 := hD1.trans (hB2.mono hD1.size)))
        all_goals exact ⟨r, c, rfl, hC, Nat.le_trans hD1.size hc2, hD2⟩
      rintro r c w2 ⟨hC, hc0, hD2⟩
      obtain ⟨f0, f1, f2⟩ := Hcl.out w2 hD2
      have hsum : IntKind.i64.wrap ((L.length : Int) + ((moreV L xs).length : Int)) = (L.length : Int) + ((moreV L xs).length : Int) := IntWalk.i64_in _ (by omega)
      have hgt : (room < (L.length : Int) + ((moreV L xs).length : Int)) = False := eq_false (by omega)
      have k1 := tablen_T w2.drew t s m ms L room ((h0.below hD2).below (Below.refl _ _).drew)
      have k2 := S.len_T w2.drew c (moreV L xs) (hC.below (Below.refl _ _).drew)
      clear hfit d0 d1 d2
      gi_wp2_with fail
      refine wpIn_atx (fun _ _ => { tmps := #[.pointer (some ⟨t, 0, none⟩), .slice a xs.length cap, .pointer (some ⟨w.heap.size, 0, none⟩), undef, u4, undef, u6, .pointer (some ⟨c, 0, none⟩), undef, .slice a xs.length cap, .int .i64 xs.length, .int .i64 xs.length, .bool false, u13, u14, u15, u16, u17, u18, .slice a xs.length cap, .pointer (some ⟨r, 0, none⟩), .pointer (some ⟨t, 0, none⟩), .pointer (some ⟨t, 0, none⟩), .pointer (some ⟨t, 0, none⟩), .pointer (some ⟨s, 0, none⟩), .pointer (some ⟨c, 0, none⟩), .pointer (some ⟨t, 0, none⟩), .int .i64 L.length, .pointer (some ⟨c, 0, none⟩), .int .i64 (moreV L xs).length, .int .i64 ((L.length : Int) + ((moreV L xs).length : Int)), .pointer (some ⟨t, 0, none⟩), .pointer (some ⟨t, 0, none⟩), .pointer (some ⟨t, 2, none⟩), .int .i64 room, .bool false, undef, undef, undef, undef, undef, undef], defers := [] }) (fun _ w' => w' = w2.drew) ?_ ?_
      · gi_region_with (refine ⟨trivial, ?_⟩; (first | refine (callsIn_wide.2 k1).mono ?_ | refine (callsIn_wide.2 k2).mono ?_); rintro e w' ⟨rfl, rfl⟩)
        all_goals exact ⟨0, 0, rfl, rfl⟩
      rintro _ _ _ rfl
      gi_wp2_with fail
      refine ⟨trivial, ?_⟩
      refine (callsIn_wide.2 (S.G.all_T _ (some ⟨c, 0, none⟩))).mono ?_
      rintro e w3 ⟨rfl, rfl⟩
      gi_wp2_with fail
      have hBs : Below w2.heap.size w2 (w2.alloc (.cells #[.pointer (some ⟨c, 0, none⟩)] 55)).drew := ((Below.refl _ w2).alloc (Nat.le_refl _) _).drew
      have hbs : (w2.alloc (.cells #[.pointer (some ⟨c, 0, none⟩)] 55)).drew.heap[w2.heap.size]? = some (.cells #[.pointer (some ⟨c, 0, none⟩)] 55 (0, 0)) := heap_alloc_new w2 (.cells #[.pointer (some ⟨c, 0, none⟩)] 55)
      have hszs : (w2.alloc (.cells #[.pointer (some ⟨c, 0, none⟩)] 55)).drew.heap.size = w2.heap.size + 1 := by show (w2.alloc _).heap.size = _; simp
      have hCs := hC.below hBs
      have hDs := hD2.trans (hBs.mono hD2.size)
      have hTs := h0.below hDs
      have hBw := hB0.trans (hDs.mono hB0.size)
      have hbox2 := (hDs.block _ (lt_of_block hbox)).trans hbox
      have hsl := hTs.2.1.lt
      have hmsl : ms < w2.heap.size := by
        have := (h0.below hD2).2.2.1
        obtain ⟨G, hM, -⟩ := this
        exact hM.2.lt
      have hsl2 : s < w2.heap.size := (h0.below hD2).2.1.lt
      have hbt := hTs.ne hbox2 (by decide) (by decide)
      generalize (w2.alloc (.cells #[.pointer (some ⟨c, 0, none⟩)] 55)).drew = W2 at hBs hbs hszs hCs hDs hTs hBw hbox2 hsl ⊢
      refine wpIn_rangeW rfl (by omega) (gf := 46) (lb := #[.pointer (some ⟨w2.heap.size, 0, none⟩)]) rfl trivial (enters_of Tryz.func46 (by kernel_rfl) rfl)
        (S.G.all_stops 2 W2.heap.size _ c (moreV L xs) W2 hbs hCs (by omega) (Nat.le_refl _)) (fun h k => h.trans k) (fun W l o o' h hc => S.G.Kp.putObj W l o o' h hc) (Below.refl _ _) (fun _ => rfl)
        (fun pre W => TableAt W t s m ms (pre.foldl (put symCmp) L) room ∧ But2 s ms W2 W)
        (fun _ _ _ => False)
        (fun _ A B row hs' hg hr => ⟨hs'.1.grown hg (fun r e => (hr r e).2), but2_grown hs'.2 hg (fun r e => (hr r e).1) (Nat.le_refl _)⟩)
        (fun _ _ _ _ _ hs' _ _ => hs')
        ⟨hTs, But2.refl _ _ _⟩
        (fun x a' W => ∃ Bx, w2.heap.size < Bx ∧ W.heap[Bx]? = some (.cells #[.int .i64 x.k, .string x.t, .int .i64 x.n] 33 (0, 0)) ∧ a' = { tmps := #[.pointer (some ⟨t, 0, none⟩), .slice a xs.length cap, .pointer (some ⟨w.heap.size, 0, none⟩), undef, u4, undef, u6, .pointer (some ⟨c, 0, none⟩), .pointer (some ⟨Bx, 0, none⟩), .slice a xs.length cap, .int .i64 xs.length, .int .i64 xs.length, .bool false, u13, u14, u15, u16, u17, u18, .slice a xs.length cap, .pointer (some ⟨r, 0, none⟩), .pointer (some ⟨t, 0, none⟩), .pointer (some ⟨t, 0, none⟩), .pointer (some ⟨t, 0, none⟩), .pointer (some ⟨s, 0, none⟩), .pointer (some ⟨c, 0, none⟩), .pointer (some ⟨t, 0, none⟩), .int .i64 L.length, .pointer (some ⟨c, 0, none⟩), .int .i64 (moreV L xs).length, .int .i64 ((L.length : Int) + ((moreV L xs).length : Int)), .pointer (some ⟨t, 0, none⟩), .pointer (some ⟨t, 0, none⟩), .pointer (some ⟨t, 2, none⟩), .int .i64 room, .bool false, .pointer (some ⟨c, 0, none⟩), .func (.func 46) #[] #[.pointer (some ⟨w2.heap.size, 0, none⟩)], .agg #[.int .i64 x.k, .string x.t, .int .i64 x.n], undef, undef, undef], defers := [] })
        (fun x a' s' A B row hs' hg hr => by
          obtain ⟨Bx, h1, h2, h3⟩ := hs'
          refine ⟨Bx, h1, (hg.block Bx (lt_of_block h2) (fun e => ?_)).trans h2, h3⟩
          obtain ⟨-, o, ho, hc⟩ := hr Bx e.symm
          rw [h2] at ho; cases ho; cases hc)
        ?assign ?body ?done ?stop
      case assign =>
        rintro l pre x W K ⟨hp, hb⟩ hK
        have hba : Below W.heap.size W (W.alloc (.cells #[.int .i64 x.k, .string x.t, .int .i64 x.n] 33)) := (Below.refl _ W).alloc (Nat.le_refl _) _
        gi_wp2
        exact hK _ _ ((KeepsOthers.alloc _ _).from _) (S.G.Kp.of_below (hba.mono hb.size)) ⟨hp.below hba, hb.trans (But2.of_below hba)⟩ ⟨W.heap.size, by have := hb.size; omega, heap_alloc_new W _, rfl⟩
      case body =>
        rintro l pre x a' W hl ⟨q, hq⟩ ⟨hp, hb⟩ ⟨Bx, hBx, bX, rfl⟩ hpre
        have hmx : x ∈ moreV L xs := hpre.subset (by simp)
        have hvx := Hok.out x (mem_more.1 hmx).1
        have hm : W.cell? ⟨Bx, 0, none⟩ = some (.int .i64 x.k) ∧ W.cell? ⟨Bx, 1, none⟩ = some (.string x.t) ∧ W.cell? ⟨Bx, 2, none⟩ = some (.int .i64 x.n) := by simp [World.cell?, bX]
        have hpc' : W.cell? ⟨w.heap.size, 0, none⟩ = some (.pointer (some ⟨t, 0, none⟩)) := cell_of_one ((hb.block _ (lt_of_block hbox2) hbt.1 hbt.2).trans hbox2)
        have hlen : (pre.foldl (put symCmp) L).length ≤ 600000 := by
          have h1 := S.putl_length pre L
          have h2 := hpre.length_le
          simp only [List.length_append, List.length_singleton] at h2
          omega
        have hpl := callsIn_wide (n := 0).2 (add_T W t s m ms _ room x hp hlen hvx)
        have hd : 1 ≤ 3 - 1 - 1 := by omega
        gi_wp2_with fail
        refine ⟨trivial, ?_⟩
        refine (CallsIn.inRound l hpl).mono ?_
        rintro e w3 ⟨rfl, hT3, hb3⟩
        gi_wp2_with fail
        exact ⟨keepsFrom_but2 hb3 (by omega) (by omega), kp_but2 hp hb3, by rw [List.foldl_append]; exact hT3, hb.trans hb3⟩
      case done =>
        rintro D ys W hD rfl ⟨hp, hb⟩ hK
        gi_wp2
        refine ⟨by simp, .inl ⟨_, _, rfl, run_takeDeferred hK, ?_⟩⟩
        refine ⟨_, results_tmp rfl _ _ _, rfl, ?_, ?_⟩
        · rw [puts_more h.sorted] at hp
          exact hp.grown (grownBy_putObj' _ D (.deferred none)) (fun r e => by cases e; exact ⟨_, hK, rfl⟩)
        · exact but2_grown ((But2.of_below hBw).trans hb) (grownBy_putObj' W D (.deferred none)) (fun r e => by cases e; exact hD) hBw.size
      case stop =>
        rintro D c pre W _ _ h _
        exact h.elim

end Go.Proofs.YtimeamehmefgnaaGreatDoor
