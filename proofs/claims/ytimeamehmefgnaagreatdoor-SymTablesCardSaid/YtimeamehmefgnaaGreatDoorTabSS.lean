/- What New, Len, Next, add and Fresh of a table of symbols do. Conditions: the table lies in memory; at most 5000 symbols. -/
import Derived.Test.YtimeamehmefgnaaGreatDoorMgMapC
import Derived.Test.YtimeamehmefgnaaGreatDoorTabPl
import Derived.Test.YtimeamehmefgnaaGreatDoorSymValS
namespace Go.Proofs.YtimeamehmefgnaaGreatDoor
open Go Go.RowKit

/-- The table in block t: its set in block s, its map in block m, whose set is in block ms; it knows L. -/
def TableAt (w : World) (t s m ms : Nat) (L : List SymV) (room : Int) : Prop :=
  w.heap[t]? = some (.cells #[.pointer (some ⟨s, 0, none⟩), .pointer (some ⟨m, 0, none⟩), .int .i64 room] 61 (0, 0)) ∧ S.SetAt w s L ∧
  (∃ G, C.MapAt w m ms G ∧ G.length ≤ L.length ∧ ∀ c, capI c = true → C.valOf G c = maxN L c) ∧ ∀ x ∈ L, validB x = true

theorem TableAt.below {w w' : World} {t s m ms : Nat} {L : List SymV} {room : Int} (h : TableAt w t s m ms L room) (hB : Below w.heap.size w w') : TableAt w' t s m ms L room := by
  obtain ⟨h1, h2, ⟨G, h3, h4⟩, h5⟩ := h
  exact ⟨(hB.block t (lt_of_block h1)).trans h1, h2.below hB, ⟨G, h3.below hB, h4⟩, h5⟩

/-- All that was there is as it was, but for two blocks. -/
structure But2 (s m : Nat) (w w' : World) : Prop where
  os : w'.os = w.os
  tape : w'.tape = w.tape
  output : w'.output = w.output
  size : w.heap.size ≤ w'.heap.size
  block : ∀ k, k < w.heap.size → k ≠ s → k ≠ m → w'.heap[k]? = w.heap[k]?

theorem But2.of_below {s m : Nat} {w w' : World} (h : Below w.heap.size w w') : But2 s m w w' := ⟨h.os, h.tape, h.output, h.size, fun k hk _ _ => h.block k hk⟩
theorem But2.fst {s m : Nat} {w w' : World} (h : But s w w') : But2 s m w w' := ⟨h.os, h.tape, h.output, h.size, fun k hk h1 _ => h.block k hk h1⟩
theorem But2.snd {s m : Nat} {w w' : World} (h : But m w w') : But2 s m w w' := ⟨h.os, h.tape, h.output, h.size, fun k hk _ h2 => h.block k hk h2⟩
theorem But2.refl (s m : Nat) (w : World) : But2 s m w w := ⟨rfl, rfl, rfl, Nat.le_refl _, fun _ _ _ _ => rfl⟩
theorem But2.trans {s m : Nat} {a b c : World} (h : But2 s m a b) (k : But2 s m b c) : But2 s m a c :=
  ⟨k.os.trans h.os, k.tape.trans h.tape, k.output.trans h.output, Nat.le_trans h.size k.size, fun i hi h1 h2 => (k.block i (Nat.lt_of_lt_of_le hi h.size) h1 h2).trans (h.block i hi h1 h2)⟩
theorem But2.below {s m B : Nat} {a w w' : World} (h : Below B a w) (hb : But2 s m w w') (hs : B ≤ s) (hm : B ≤ m) (hB : B ≤ w.heap.size) : Below B a w' :=
  ⟨hb.os.trans h.os, hb.tape.trans h.tape, hb.output.trans h.output, Nat.le_trans h.size hb.size, fun k hk => (hb.block k (by omega) (by omega) (by omega)).trans (h.block k hk)⟩

/-- A block of another type than a set's is none of the two. -/
theorem TableAt.ne {w : World} {t s m ms : Nat} {L : List SymV} {room : Int} (h : TableAt w t s m ms L room) {b : Nat} {c : Array Value} {T : TypeId} {f : Nat × Nat} (hb : w.heap[b]? = some (.cells c T f)) (h1 : T ≠ 75) (h2 : T ≠ 100) : b ≠ s ∧ b ≠ ms := by
  obtain ⟨-, ⟨t1, p1, hs, -⟩, ⟨G, ⟨-, t2, p2, hm, -⟩, -⟩, -⟩ := h
  constructor
  · rintro rfl
    rw [hs] at hb; simp at hb; exact h1 hb.2.1.symm
  · rintro rfl
    rw [hm] at hb; simp at hb; exact h2 hb.2.1.symm

/-- A change of a block of another type leaves a table. -/
theorem TableAt.but {w w' : World} {t s m ms r : Nat} {L : List SymV} {room : Int} (h : TableAt w t s m ms L room) (hb : But r w w') {c : Array Value} {T : TypeId} {f : Nat × Nat} (hr : w.heap[r]? = some (.cells c T f))
    (h1 : T ≠ 75) (h2 : T ≠ 100) (h3 : T ≠ 61) (h4 : T ≠ 81) (h5 : T ≠ 109) (h6 : T ≠ 122) : TableAt w' t s m ms L room := by
  obtain ⟨n1, n2⟩ := h.ne hr h1 h2
  obtain ⟨ht, hS, ⟨G, hM, hG⟩, hval⟩ := h
  have e1 : r ≠ t := by rintro rfl; rw [ht] at hr; simp at hr; exact h3 hr.2.1.symm
  have e2 : r ≠ m := by rintro rfl; rw [hM.1] at hr; simp at hr; exact h4 hr.2.1.symm
  exact ⟨(hb.block t (lt_of_block ht) (Ne.symm e1)).trans ht, hS.but hb n1 hr h5, ⟨G, hM.but hb e2 n2 hr h6, hG⟩, hval⟩

theorem But2.trans_new {s m r : Nat} {a b c : World} (h : But2 s m a b) (k : But r b c) (hr : a.heap.size ≤ r) : But2 s m a c :=
  ⟨k.os.trans h.os, k.tape.trans h.tape, k.output.trans h.output, Nat.le_trans h.size k.size, fun i hi h1 h2 => (k.block i (Nat.lt_of_lt_of_le hi h.size) (by omega)).trans (h.block i hi h1 h2)⟩

theorem TableAt.sets {w : World} {t s m ms : Nat} {L : List SymV} {room : Int} (h : TableAt w t s m ms L room) : ms ≠ s := by
  obtain ⟨-, ⟨t1, p1, hs, -⟩, ⟨G, ⟨-, t2, p2, hm, -⟩, -⟩, -⟩ := h
  rintro rfl
  rw [hs] at hm; simp at hm

theorem newtab_no (w : World) (room : Int) (h : room < 1 ∨ 4096 < room) :
    Calls Tryz.prog 6 #[.int .i64 room] w fun e w' => e = .returned (.tuple #[.pointer none, .int .i64 1]) ∧ w = w' := by
  by_cases h1 : room < 1
  · go_enter Tryz.func6, Tryz.ntmps6
    go_wp2_with fail
    go_ret2
    exact ⟨rfl, rfl⟩
  · have h2 : 4096 < room := by omega
    have h1' : (room < 1) = False := eq_false h1
    clear h h1
    go_enter Tryz.func6, Tryz.ntmps6
    go_wp2_with fail
    go_ret2
    exact ⟨rfl, rfl⟩

theorem newtab_T (w : World) (room : Int) (h1 : 1 ≤ room) (h2 : room ≤ 4096) :
    Calls Tryz.prog 6 #[.int .i64 room] w fun e w' => ∃ t s m ms, e = .returned (.tuple #[.pointer (some ⟨t, 0, none⟩), .int .i64 0]) ∧ w.heap.size ≤ t ∧ w.heap.size ≤ s ∧ w.heap.size ≤ ms ∧ TableAt w' t s m ms [] room ∧ Below w.heap.size w w' := by
  have f1 : (room < 1) = False := eq_false (by omega)
  have f2 : (4096 < room) = False := eq_false (by omega)
  clear h1 h2
  go_enter Tryz.func6, Tryz.ntmps6
  go_wp2_with fail
  refine (S.new_T w _ [] ⟨none, 0, rfl, .inl rfl⟩ (by simp)).mono ?_
  rintro e w1 ⟨s, rfl, hs, hS, hB1⟩
  go_wp2_with fail
  refine (C.mapnew_T w1).mono ?_
  rintro e w2 ⟨m, ms, rfl, hm, hms, hM, hB2⟩
  have hC2 := hB1.trans (hB2.mono hB1.size)
  have hB3 : Below w2.heap.size w2 (w2.alloc (.cells #[.pointer (some ⟨s, 0, none⟩), .pointer (some ⟨m, 0, none⟩), .int .i64 room] 61)) := (Below.refl _ w2).alloc (Nat.le_refl _) _
  go_wp2_with fail
  go_ret2
  exact ⟨w2.heap.size, s, m, ms, rfl, hC2.size, hs, Nat.le_trans hB1.size hms, ⟨heap_alloc_new w2 _, (hS.below hB2).below hB3, ⟨[], hM.below hB3, by simp, fun c _ => rfl⟩, by simp⟩, hC2.trans (hB3.mono hC2.size)⟩

theorem tablen_T (w : World) (t s m ms : Nat) (L : List SymV) (room : Int) (h : TableAt w t s m ms L room) :
    Calls Tryz.prog 17 #[.pointer (some ⟨t, 0, none⟩)] w fun e w' => e = .returned (.int .i64 L.length) ∧ w = w' := by
  obtain ⟨h1, h2, -, -⟩ := h
  have c0 : w.cell? ⟨t, 0, none⟩ = some (.pointer (some ⟨s, 0, none⟩)) := by simp [World.cell?, h1]
  clear h1
  go_enter Tryz.func17, Tryz.ntmps17
  go_wp2_with fail
  refine (S.len_T w s L h2).mono ?_
  rintro e w' ⟨rfl, rfl⟩
  go_wp2_with fail
  go_ret
  exact ⟨rfl, rfl⟩

theorem next_core (w : World) (t m ms : Nat) (v0 v2 : Value) (G : List EntC) (c : Int) (h1 : w.heap[t]? = some (.cells #[v0, .pointer (some ⟨m, 0, none⟩), v2] 61 (0, 0))) (hM : C.MapAt w m ms G) (hs : G.length ≤ 700000)
    (hc : capI c = true) (hn0 : 0 ≤ C.valOf G c) (hn1 : C.valOf G c ≤ 1048576) :
    Calls Tryz.prog 15 #[.pointer (some ⟨t, 0, none⟩), .int .u8 c] w fun e w' => e = .returned (.int .i64 (C.valOf G c + 1)) ∧ Below w.heap.size w w' := by
  have c1 : w.cell? ⟨t, 1, none⟩ = some (.pointer (some ⟨m, 0, none⟩)) := by simp [World.cell?, h1]
  clear h1
  go_enter Tryz.func15, Tryz.ntmps15
  go_wp2_with fail
  refine (cap_T _ _).mono ?_
  rintro e w' ⟨rfl, rfl⟩
  go_wp2_with fail
  refine (C.mapget_T w m ms G c hM hs).mono ?_
  rintro e w1 ⟨rfl, hB1⟩
  go_wp2_with fail
  go_ret
  exact ⟨rfl, hB1⟩

theorem next_T (w : World) (t s m ms : Nat) (L : List SymV) (room c : Int) (h : TableAt w t s m ms L room) (hs : L.length ≤ 700000) :
    Calls Tryz.prog 15 #[.pointer (some ⟨t, 0, none⟩), .int .u8 c] w fun e w' => e = .returned (.int .i64 (nextV L c)) ∧ Below w.heap.size w w' := by
  obtain ⟨h1, -, ⟨G, hM, hG, hv⟩, hval⟩ := h
  have hn0 := maxN_nonneg L c
  have hn1 := maxN_le hval c
  cases hc : capI c
  · have N : nextV L c = 0 := by simp [nextV, hc]
    rw [N]
    clear N hv h1 hval
    go_enter Tryz.func15, Tryz.ntmps15
    go_wp2_with fail
    refine (cap_T _ _).mono ?_
    rintro e w' ⟨rfl, rfl⟩
    go_wp2_with fail
    go_ret
    exact ⟨rfl, Below.refl _ _⟩
  · have N : nextV L c = C.valOf G c + 1 := by simp [nextV, hc, hv c hc]
    rw [N]
    exact next_core w t m ms _ _ G c h1 hM (by omega) hc (by rw [hv c hc]; exact hn0) (by rw [hv c hc]; exact hn1)

theorem isId_one {x : SymV} (hk : x.k = 1) (c : Int) : isId c x = (hd x.t == c) := by simp [isId, hk]
theorem isId_no {x : SymV} (hk : ¬ x.k = 1) (c : Int) : isId c x = false := by simp [isId, hk]

/-- A symbol that is put changes the numbers so. -/
theorem greatest_no {L : List SymV} {G : List EntC} {x : SymV} (h : ∀ c, capI c = true → C.valOf G c = maxN L c) (hx : ¬ x.k = 1 ∨ x.n ≤ maxN L (hd x.t)) : ∀ c, capI c = true → C.valOf G c = maxN (put symCmp L x) c := by
  intro c hc
  rw [maxN_put, h c hc]
  split
  · rename_i hi
    rcases hx with hx | hx
    · rw [isId_no hx] at hi; cases hi
    · have : hd x.t = c := by simp [isId] at hi; exact hi.2
      subst this
      omega
  · rfl

theorem greatest_yes {L : List SymV} {G : List EntC} {x : SymV} (hs : Sorted entCmpC G) (h : ∀ c, capI c = true → C.valOf G c = maxN L c) (hk : x.k = 1) (hx : maxN L (hd x.t) + 1 ≤ x.n) : ∀ c, capI c = true → C.valOf (C.putC G ⟨hd x.t, x.n⟩) c = maxN (put symCmp L x) c := by
  intro c hc
  rw [maxN_put, C.valOf_putC hs, isId_one hk]
  by_cases e : c = hd x.t
  · subst e; simp; omega
  · rw [if_neg e, if_neg (by simp; exact fun e' => e e'.symm)]
    exact h c hc

theorem put_new_length {L : List SymV} {x : SymV} (hk : x.k = 1) (hx : maxN L (hd x.t) + 1 ≤ x.n) : (put symCmp L x).length = L.length + 1 := by
  have hn : has symCmp L x = false := by
    rw [← Bool.not_eq_true, has_iff S.symCmp_exact]
    intro hm
    have := (maxN_is L (hd x.t)).2.1 x hm (by simp [isId, hk])
    omega
  rw [put, hn, if_neg (by simp), length_ins]

theorem length_put_ge (L : List SymV) (x : SymV) : L.length ≤ (put symCmp L x).length := by
  unfold put
  split
  · exact Nat.le_refl _
  · rw [length_ins]; omega

theorem valid_put {L : List SymV} {x : SymV} (h : ∀ y ∈ L, validB y = true) (hx : validB x = true) : ∀ y ∈ put symCmp L x, validB y = true := by
  intro y hy
  rcases (mem_put S.symCmp_exact).1 hy with rfl | hy
  · exact hx
  · exact h y hy

theorem valid_id {x : SymV} (h : validB x = true) (hk : x.k = 1) : x.t.size = 1 ∧ capI (hd x.t) = true ∧ 1 ≤ x.n ∧ x.n ≤ 1048576 := by
  unfold validB at h
  rw [if_pos hk] at h
  simp only [Bool.and_eq_true, decide_eq_true_eq] at h
  exact ⟨h.1.1.1, h.1.1.2, h.1.2, h.2⟩

set_option maxHeartbeats 1600000 in
theorem add_T (w : World) (t s m ms : Nat) (L : List SymV) (room : Int) (x : SymV) (h : TableAt w t s m ms L room) (hs : L.length ≤ 600000) (hx : validB x = true) :
    Calls Tryz.prog 31 #[.pointer (some ⟨t, 0, none⟩), .agg #[.int .i64 x.k, .string x.t, .int .i64 x.n]] w fun e w' => e = .returned (.tuple #[]) ∧ TableAt w' t s m ms (put symCmp L x) room ∧ But2 s ms w w' := by
  have hB0 := box1_S w x
  have hx0 := heap_alloc_new w (.cells #[.int .i64 x.k, .string x.t, .int .i64 x.n] 33)
  obtain ⟨hts, htm⟩ := h.ne h.1 (by decide) (by decide)
  have h0 := h.below hB0
  have hmss := h.sets
  have htl := lt_of_block h.1
  have hsl := h.2.1.lt
  obtain ⟨ht, hS, ⟨G, hM, hG, hv⟩, hval⟩ := h0
  have hml := lt_of_block hM.1
  have hmsl := hM.2.lt
  have hsz0 : (w.alloc (.cells #[.int .i64 x.k, .string x.t, .int .i64 x.n] 33)).heap.size = w.heap.size + 1 := by simp
  obtain ⟨hms1, hms2⟩ := h.ne (by obtain ⟨-, -, ⟨G, hM, -⟩, -⟩ := h; exact hM.1) (by decide) (by decide) (b := m)
  go_enter Tryz.func31, Tryz.ntmps31
  go_wp2_with fail
  generalize (w.alloc (.cells #[.int .i64 x.k, .string x.t, .int .i64 x.n] 33)) = W0 at hB0 hx0 ht hS hM hml hmsl hsz0 ⊢
  have hput := S.put_T W0.drew s L x (hS.below (Below.refl _ _).drew) (by omega)
  have hkeep : ∀ W, But s W0.drew W → W.heap[w.heap.size]? = some (.cells #[.int .i64 x.k, .string x.t, .int .i64 x.n] 33 (0, 0)) ∧ W.heap[t]? = some (.cells #[.pointer (some ⟨s, 0, none⟩), .pointer (some ⟨m, 0, none⟩), .int .i64 room] 61 (0, 0)) := by
    intro W hb
    exact ⟨(hb.block w.heap.size (by show _ < W0.heap.size; omega) (by omega)).trans hx0, (hb.block t (by show _ < W0.heap.size; omega) hts).trans ht⟩
  have hcells : ∀ W : World, (W.heap[w.heap.size]? = some (.cells #[.int .i64 x.k, .string x.t, .int .i64 x.n] 33 (0, 0)) ∧ W.heap[t]? = some (.cells #[.pointer (some ⟨s, 0, none⟩), .pointer (some ⟨m, 0, none⟩), .int .i64 room] 61 (0, 0))) →
      (W.cell? ⟨w.heap.size, 0, none⟩ = some (.int .i64 x.k) ∧ W.cell? ⟨w.heap.size, 1, none⟩ = some (.string x.t) ∧ W.cell? ⟨w.heap.size, 2, none⟩ = some (.int .i64 x.n)) ∧ W.cell? ⟨t, 0, none⟩ = some (.pointer (some ⟨s, 0, none⟩)) ∧ W.cell? ⟨t, 1, none⟩ = some (.pointer (some ⟨m, 0, none⟩)) := by
    intro W hh
    simp [World.cell?, hh.1, hh.2]
  have Hkeep := Lib.hid hkeep
  have Hcells := Lib.hid hcells
  obtain ⟨⟨x0, x1, x2⟩, t0, t1⟩ := hcells W0 ⟨hx0, ht⟩
  clear hkeep hcells
  go_region_held3 (fun W => (W.cell? ⟨w.heap.size, 0, none⟩ = some (.int .i64 x.k) ∧ W.cell? ⟨w.heap.size, 1, none⟩ = some (.string x.t) ∧ W.cell? ⟨w.heap.size, 2, none⟩ = some (.int .i64 x.n)) ∧ W.cell? ⟨t, 0, none⟩ = some (.pointer (some ⟨s, 0, none⟩)) ∧ W.cell? ⟨t, 1, none⟩ = some (.pointer (some ⟨m, 0, none⟩)))
    (first | go_keep | assumption)
    (first
      | ((with_reducible refine hput.mono ?_); rintro e w1 ⟨rfl, hS1, hb1⟩; have hc1 := Hcells.out w1 (Hkeep.out w1 hb1))
      | fail "no arm")
  clear x0 x1 x2 t0 t1 hput
  have K1 := Hkeep.out w1 hb1
  obtain ⟨t3, p3, hs3, -⟩ := hS
  have hbs : But s W0 w1 := (But.of_below (Below.refl _ W0).drew).trans hb1
  have hM1 : C.MapAt w1 m ms G := hM.but hbs (fun e => hms1 e.symm) (fun e => by
    obtain ⟨-, t4, p4, h4, -⟩ := hM
    rw [← e, hs3] at h4
    simp at h4) hs3 (by decide)
  have hBw : But2 s ms w w1 := (But2.of_below hB0).trans (But2.fst hbs)
  have HM1 := Lib.hid hM1
  have HS1 := Lib.hid hS1
  clear hM hM1 hS1 hs3
  obtain ⟨⟨y0, y1, y2⟩, q0, q1⟩ := hc1
  by_cases hk : x.k = 1
  · obtain ⟨z1, hcp, n1, n2⟩ := valid_id hx hk
    have hpos : 0 < x.t.size := by omega
    have hposi : (0 : Int) < (x.t.size : Int) := by omega
    have k1 : (x.k == 1) = true := by simp [hk]
    have Hk := Lib.hid hk
    have hhd := hd_pos hpos
    have hg0 := maxN_nonneg L (hd x.t)
    have hg1 := maxN_le hval (hd x.t)
    have hvg := hv _ hcp
    have hnx := next_core w1.drew t m ms _ _ G (hd x.t) K1.2 (HM1.out.below (Below.refl _ _).drew) (by omega) hcp (by rw [hvg]; exact hg0) (by rw [hvg]; exact hg1)
    rw [hvg] at hnx
    have Hhd := Lib.hid hhd
    obtain ⟨c, hcc⟩ : ∃ c, hd x.t = c := ⟨_, rfl⟩
    obtain ⟨g, hgg⟩ : ∃ g, maxN L (hd x.t) = g := ⟨_, rfl⟩
    rw [hgg] at hnx hg0 hg1
    rw [hhd] at hnx
    have Hcc := Lib.hid hcc
    have Hgg := Lib.hid hgg
    clear hk hhd hcc hgg hvg
    by_cases hge : g + 1 ≤ x.n
    · go_wp2_with fail
      go_region_held3 (fun W => (W.cell? ⟨w.heap.size, 0, none⟩ = some (.int .i64 x.k) ∧ W.cell? ⟨w.heap.size, 1, none⟩ = some (.string x.t) ∧ W.cell? ⟨w.heap.size, 2, none⟩ = some (.int .i64 x.n)) ∧ W.cell? ⟨t, 0, none⟩ = some (.pointer (some ⟨s, 0, none⟩)) ∧ W.cell? ⟨t, 1, none⟩ = some (.pointer (some ⟨m, 0, none⟩)))
        (first | go_keep | assumption)
        (first
          | ((with_reducible refine hnx.mono ?_); rintro e w2 ⟨rfl, hB2⟩; have hC2 := (Below.refl _ w1).drew.trans hB2; have K2 := And.intro ((hC2.block _ (lt_of_block K1.1)).trans K1.1) ((hC2.block _ (lt_of_block K1.2)).trans K1.2); have hc2 := Hcells.out w2 K2)
          | fail "no arm")
      go_wp2_with fail
      obtain ⟨⟨z0, z1', z2⟩, r0, r1⟩ := hc2
      have hlen := put_new_length Hk.out (by rw [Hgg.out]; exact hge)
      have hbs2 : But2 s ms w w2 := hBw.trans (But2.of_below hC2)
      have hM2 := HM1.out.below hC2
      have hS2 := HS1.out.below hC2
      obtain ⟨-, t5, p5, hms5, -⟩ := id hM2
      have hpt := C.mapput_T w2.drew m ms G ⟨((x.t[0].toNat : Nat) : Int), x.n⟩ (hM2.below (Below.refl _ _).drew) (by omega)
      have hkeep2 : ∀ W, But ms w2.drew W → W.heap[w.heap.size]? = some (.cells #[.int .i64 x.k, .string x.t, .int .i64 x.n] 33 (0, 0)) ∧ W.heap[t]? = some (.cells #[.pointer (some ⟨s, 0, none⟩), .pointer (some ⟨m, 0, none⟩), .int .i64 room] 61 (0, 0)) := by
        intro W hb
        refine ⟨(hb.block w.heap.size (lt_of_block K2.1) ?_).trans K2.1, (hb.block t (lt_of_block K2.2) htm).trans K2.2⟩
        intro e
        have := K2.1
        rw [e, hms5] at this
        simp at this
      have Hkeep2 := Lib.hid hkeep2
      have Hms5 := Lib.hid hms5
      clear hkeep2 hms5 y0 y1 y2 q0 q1
      dsimp only at hpt
      go_region_held3 (fun W => (W.cell? ⟨w.heap.size, 0, none⟩ = some (.int .i64 x.k) ∧ W.cell? ⟨w.heap.size, 1, none⟩ = some (.string x.t) ∧ W.cell? ⟨w.heap.size, 2, none⟩ = some (.int .i64 x.n)) ∧ W.cell? ⟨t, 0, none⟩ = some (.pointer (some ⟨s, 0, none⟩)) ∧ W.cell? ⟨t, 1, none⟩ = some (.pointer (some ⟨m, 0, none⟩)))
        (first | go_keep | assumption)
        (first
          | ((with_reducible refine hpt.mono ?_); rintro e w3 ⟨rfl, hM3, hb3⟩; have K3 := Hkeep2.out w3 hb3; have hc3 := Hcells.out w3 K3)
          | fail "no arm")
      go_wp2_with fail
      have hbm : But ms w2 w3 := (But.of_below (Below.refl _ w2).drew).trans hb3
      have hso := hM2.sorted
      have hgy := greatest_yes hso hv Hk.out (by rw [Hgg.out]; exact hge)
      rw [Hhd.out] at hgy
      go_end0
      refine ⟨rfl, ⟨K3.2, hS2.but hbm hmss Hms5.out (by decide), ⟨_, hM3, ?_, hgy⟩, valid_put hval hx⟩, hbs2.trans (But2.snd hbm)⟩
      have := C.length_putC G ⟨((x.t[0].toNat : Nat) : Int), x.n⟩
      rw [hlen]
      show (C.putC G ⟨((x.t[0].toNat : Nat) : Int), x.n⟩).length ≤ _
      omega
    · go_wp2_with fail
      go_region_held3 (fun W => (W.cell? ⟨w.heap.size, 0, none⟩ = some (.int .i64 x.k) ∧ W.cell? ⟨w.heap.size, 1, none⟩ = some (.string x.t) ∧ W.cell? ⟨w.heap.size, 2, none⟩ = some (.int .i64 x.n)) ∧ W.cell? ⟨t, 0, none⟩ = some (.pointer (some ⟨s, 0, none⟩)) ∧ W.cell? ⟨t, 1, none⟩ = some (.pointer (some ⟨m, 0, none⟩)))
        (first | go_keep | assumption)
        (first
          | ((with_reducible refine hnx.mono ?_); rintro e w2 ⟨rfl, hB2⟩; have hC2 := (Below.refl _ w1).drew.trans hB2; have K2 := And.intro ((hC2.block _ (lt_of_block K1.1)).trans K1.1) ((hC2.block _ (lt_of_block K1.2)).trans K1.2); have hc2 := Hcells.out w2 K2)
          | fail "no arm")
      go_wp2_with fail
      go_end0
      exact ⟨rfl, ⟨K2.2, HS1.out.below hC2, ⟨G, HM1.out.below hC2, Nat.le_trans hG (length_put_ge L x), greatest_no hv (.inr (by rw [Hgg.out]; omega))⟩, valid_put hval hx⟩, hBw.trans (But2.of_below hC2)⟩
  · have k1 : (x.k == 1) = false := by simp [hk]
    have Hk := Lib.hid hk
    clear hk
    go_wp2_with fail
    go_quiet (fail)
    go_wp2_with fail
    have hC2 := below_drewN w1.heap.size w1 nq
    go_end0
    exact ⟨rfl, ⟨K1.2, HS1.out.below hC2, ⟨G, HM1.out.below hC2, Nat.le_trans hG (length_put_ge L x), greatest_no hv (.inl Hk.out)⟩, valid_put hval hx⟩, hBw.trans (But2.of_below hC2)⟩

end Go.Proofs.YtimeamehmefgnaaGreatDoor
