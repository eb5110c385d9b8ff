/- What Get, Len, First, Drop, Put, Clone of a map answer. Conditions: the map lies in memory; at most 700000 keys. -/
import Derived.Test.YtfgpkbbbohipcaaMapEM
import Derived.Test.YtfgpkbbbohipcaaMg4
namespace Go.Proofs.Ytfgpkbbbohipcaa.M
open Go Go.RowKit

theorem maplen_T (w : World) (m s : Nat) (L : List EntM) (h : MapAt w m s L) :
    Calls Try.prog 39 #[.pointer (some ⟨m, 0, none⟩)] w fun e w' => e = .returned (.int .i64 L.length) ∧ w = w' := by
  have hc := cell_of_one h.1
  go_enter Try.func39, Try.ntmps39
  go_wp2_with fail
  refine (len_T w s L h.2).mono ?_
  rintro e w' ⟨rfl, rfl⟩
  go_wp2_with fail
  go_ret
  exact ⟨rfl, rfl⟩

theorem key_one {L : List EntM} {k : ElmV} {y : EntM} (hs : Sorted entCmpM L) (hh : has entCmpM L ⟨k, 0⟩ = true) (hy : L[pos entCmpM L ⟨k, 0⟩]? = some y) : elmCmp k y.key = 0 := by
  obtain ⟨z, hz, h0⟩ := has_at entCmpM_lin L _ hs hh
  rw [hy] at hz
  cases hz
  exact h0

/-- What a Put makes of the entries: a key that is there stays, with the new value. -/
def upd (L : List EntM) (x : EntM) : List EntM := if has entCmpM L x then (match L[pos entCmpM L x]? with
  | some y => L.set (pos entCmpM L x) ⟨y.key, x.v⟩
  | none => L) else ins entCmpM L x

theorem put_drop_set {L : List EntM} {p : Nat} {y : EntM} (v : Int) (hs : Sorted entCmpM L) (hy : L[p]? = some y) : put entCmpM (drop entCmpM L y) ⟨y.key, v⟩ = L.set p ⟨y.key, v⟩ := by
  obtain ⟨hp, hh⟩ := pos_get entCmpM_lin hs hy
  obtain ⟨hi, hg⟩ := List.getElem?_eq_some_iff.1 hy
  have e : L = L.take p ++ y :: L.drop (p + 1) := by
    conv => lhs; rw [← List.take_append_drop p L, List.drop_eq_getElem_cons hi, hg]
  have hl : (L.take p).length = p := by rw [List.length_take]; omega
  rw [drop, hh, if_pos rfl, hp]
  generalize L.take p = l at e hl
  generalize L.drop (p + 1) = r at e
  subst e
  subst hl
  have h1 : ∀ a ∈ l, 0 < entCmpM y a := fun a ha => (entCmpM_lin.swap a y).1 ((List.pairwise_append.1 hs).2.2 a ha y (by simp))
  have h2 : ∀ a ∈ r, entCmpM y a < 0 := (List.pairwise_cons.1 (List.pairwise_append.1 hs).2.1).1
  have e1 : (l ++ y :: r).eraseIdx l.length = l ++ r := by rw [List.eraseIdx_append_of_length_le (Nat.le_refl _)]; simp
  have e2 : pos entCmpM (l ++ r) ⟨y.key, v⟩ = l.length := by
    unfold pos
    rw [List.filter_append, List.filter_eq_self.2 (fun a ha => by have : 0 < entCmpM ⟨y.key, v⟩ a := h1 a ha; simpa using this), List.filter_eq_nil_iff.2 (fun a ha => by have : entCmpM ⟨y.key, v⟩ a < 0 := h2 a ha; simp; omega)]
    simp
  have e3 : has entCmpM (l ++ r) ⟨y.key, v⟩ = false := by
    rw [← Bool.not_eq_true]
    intro h
    obtain ⟨a, ha, h0⟩ := List.any_eq_true.1 h
    have h0' : entCmpM y a = 0 := (show entCmpM ⟨y.key, v⟩ a = 0 by simpa only [beq_iff_eq] using h0)
    rcases List.mem_append.1 ha with ha | ha
    · have := h1 a ha; omega
    · have := h2 a ha; omega
  rw [e1, put, e3, if_neg (by simp), ins, e2]
  simp

theorem drop_key {L : List EntM} {x y : EntM} (h : x.key = y.key) : drop entCmpM L x = drop entCmpM L y := by unfold drop has pos entCmpM; rw [h]
theorem has_key {L : List EntM} {x y : EntM} (h : x.key = y.key) : has entCmpM L x = has entCmpM L y := by unfold has entCmpM; rw [h]
theorem pos_key {L : List EntM} {x y : EntM} (h : x.key = y.key) : pos entCmpM L x = pos entCmpM L y := by unfold pos entCmpM; rw [h]

theorem mapget_yes (w : World) (m s : Nat) (L : List EntM) (k : ElmV) (h : MapAt w m s L) (hs : L.length ≤ 700000) (hh : has entCmpM L ⟨k, 0⟩ = true) :
    Calls Try.prog 38 #[.pointer (some ⟨m, 0, none⟩), .agg #[.int .i64 k.id.k, .string k.id.t, .int .i64 k.id.n, .int .i64 k.attr.k, .string k.attr.t, .int .i64 k.attr.n, .int .i64 k.val.k, .string k.val.t, .int .i64 k.val.n, .bool k.acc, .bool k.goal, .int .i64 k.tag]] w fun e w' => (∃ y, e = .returned (.tuple #[.int .i64 y.v, .bool true]) ∧ L[pos entCmpM L ⟨k, 0⟩]? = some y) ∧ Below w.heap.size w w' := by
  have hB0 : Below w.heap.size w (w.alloc (.cells #[.int .i64 k.id.k, .string k.id.t, .int .i64 k.id.n, .int .i64 k.attr.k, .string k.attr.t, .int .i64 k.attr.n, .int .i64 k.val.k, .string k.val.t, .int .i64 k.val.n, .bool k.acc, .bool k.goal, .int .i64 k.tag] 67)) := (Below.refl _ w).alloc (Nat.le_refl _) _
  have h0 := h.below hB0
  have hkn := heap_alloc_new w (.cells #[.int .i64 k.id.k, .string k.id.t, .int .i64 k.id.n, .int .i64 k.attr.k, .string k.attr.t, .int .i64 k.attr.n, .int .i64 k.val.k, .string k.val.t, .int .i64 k.val.n, .bool k.acc, .bool k.goal, .int .i64 k.tag] 67)
  go_enter Try.func38, Try.ntmps38
  go_wp2_with fail
  generalize (w.alloc (.cells #[.int .i64 k.id.k, .string k.id.t, .int .i64 k.id.n, .int .i64 k.attr.k, .string k.attr.t, .int .i64 k.attr.n, .int .i64 k.val.k, .string k.val.t, .int .i64 k.val.n, .bool k.acc, .bool k.goal, .int .i64 k.tag] 67)) = W0 at hB0 h0 hkn ⊢
  refine (find_yes W0 m s L k h0 (by omega) hh).mono ?_
  rintro e w1 ⟨⟨y, rfl, hy⟩, hB1⟩
  have Hy := Lib.hid hy
  clear hy
  have hBy : Below w1.heap.size w1 (w1.alloc (.cells #[.int .i64 y.key.id.k, .string y.key.id.t, .int .i64 y.key.id.n, .int .i64 y.key.attr.k, .string y.key.attr.t, .int .i64 y.key.attr.n, .int .i64 y.key.val.k, .string y.key.val.t, .int .i64 y.key.val.n, .bool y.key.acc, .bool y.key.goal, .int .i64 y.key.tag, .int .i64 y.v] 110)) := (Below.refl _ w1).alloc (Nat.le_refl _) _
  have hC1 := hB0.trans (hB1.mono hB0.size)
  go_wp2_with fail
  go_ret2
  exact ⟨⟨y, rfl, Hy.out⟩, hC1.trans (hBy.mono hC1.size)⟩

theorem mapget_no (w : World) (m s : Nat) (L : List EntM) (k : ElmV) (h : MapAt w m s L) (hs : L.length ≤ 700000) (hh : has entCmpM L ⟨k, 0⟩ = false) :
    Calls Try.prog 38 #[.pointer (some ⟨m, 0, none⟩), .agg #[.int .i64 k.id.k, .string k.id.t, .int .i64 k.id.n, .int .i64 k.attr.k, .string k.attr.t, .int .i64 k.attr.n, .int .i64 k.val.k, .string k.val.t, .int .i64 k.val.n, .bool k.acc, .bool k.goal, .int .i64 k.tag]] w fun e w' => e = .returned (.tuple #[.int .i64 0, .bool false]) ∧ Below w.heap.size w w' := by
  have hB0 : Below w.heap.size w (w.alloc (.cells #[.int .i64 k.id.k, .string k.id.t, .int .i64 k.id.n, .int .i64 k.attr.k, .string k.attr.t, .int .i64 k.attr.n, .int .i64 k.val.k, .string k.val.t, .int .i64 k.val.n, .bool k.acc, .bool k.goal, .int .i64 k.tag] 67)) := (Below.refl _ w).alloc (Nat.le_refl _) _
  have h0 := h.below hB0
  have hkn := heap_alloc_new w (.cells #[.int .i64 k.id.k, .string k.id.t, .int .i64 k.id.n, .int .i64 k.attr.k, .string k.attr.t, .int .i64 k.attr.n, .int .i64 k.val.k, .string k.val.t, .int .i64 k.val.n, .bool k.acc, .bool k.goal, .int .i64 k.tag] 67)
  go_enter Try.func38, Try.ntmps38
  go_wp2_with fail
  generalize (w.alloc (.cells #[.int .i64 k.id.k, .string k.id.t, .int .i64 k.id.n, .int .i64 k.attr.k, .string k.attr.t, .int .i64 k.attr.n, .int .i64 k.val.k, .string k.val.t, .int .i64 k.val.n, .bool k.acc, .bool k.goal, .int .i64 k.tag] 67)) = W0 at hB0 h0 hkn ⊢
  refine (find_no W0 m s L k h0 (by omega) hh).mono ?_
  rintro e w1 ⟨rfl, hB1⟩
  have hBy : Below w1.heap.size w1 (w1.alloc (.cells #[.int .i64 0, .string ⟨#[]⟩, .int .i64 0, .int .i64 0, .string ⟨#[]⟩, .int .i64 0, .int .i64 0, .string ⟨#[]⟩, .int .i64 0, .bool false, .bool false, .int .i64 0, .int .i64 0] 110)) := (Below.refl _ w1).alloc (Nat.le_refl _) _
  have hC1 := hB0.trans (hB1.mono hB0.size)
  go_wp2_with fail
  go_ret2
  exact ⟨rfl, hC1.trans (hBy.mono hC1.size)⟩

set_option maxHeartbeats 1000000 in
theorem mapput_no (w : World) (m s : Nat) (L : List EntM) (x : EntM) (h : MapAt w m s L) (hs : L.length ≤ 700000) (hh : has entCmpM L x = false) :
    Calls Try.prog 32 #[.pointer (some ⟨m, 0, none⟩), .agg #[.int .i64 x.key.id.k, .string x.key.id.t, .int .i64 x.key.id.n, .int .i64 x.key.attr.k, .string x.key.attr.t, .int .i64 x.key.attr.n, .int .i64 x.key.val.k, .string x.key.val.t, .int .i64 x.key.val.n, .bool x.key.acc, .bool x.key.goal, .int .i64 x.key.tag], .int .i64 x.v] w fun e w' => e = .returned (.bool (!has entCmpM L x)) ∧ MapAt w' m s (upd L x) ∧ But s w w' := by
  have hss := h.2.lt
  have hml := lt_of_block h.1
  have hne := h.ne
  have hB0 : Below w.heap.size w (w.alloc (.cells #[.int .i64 x.key.id.k, .string x.key.id.t, .int .i64 x.key.id.n, .int .i64 x.key.attr.k, .string x.key.attr.t, .int .i64 x.key.attr.n, .int .i64 x.key.val.k, .string x.key.val.t, .int .i64 x.key.val.n, .bool x.key.acc, .bool x.key.goal, .int .i64 x.key.tag] 67)) := (Below.refl _ w).alloc (Nat.le_refl _) _
  have h0 := h.below hB0
  have hkn := heap_alloc_new w (.cells #[.int .i64 x.key.id.k, .string x.key.id.t, .int .i64 x.key.id.n, .int .i64 x.key.attr.k, .string x.key.attr.t, .int .i64 x.key.attr.n, .int .i64 x.key.val.k, .string x.key.val.t, .int .i64 x.key.val.n, .bool x.key.acc, .bool x.key.goal, .int .i64 x.key.tag] 67)
  go_enter Try.func32, Try.ntmps32
  go_wp2_with fail
  generalize (w.alloc (.cells #[.int .i64 x.key.id.k, .string x.key.id.t, .int .i64 x.key.id.n, .int .i64 x.key.attr.k, .string x.key.attr.t, .int .i64 x.key.attr.n, .int .i64 x.key.val.k, .string x.key.val.t, .int .i64 x.key.val.n, .bool x.key.acc, .bool x.key.goal, .int .i64 x.key.tag] 67)) = W0 at hB0 h0 hkn ⊢
  refine (find_no W0 m s L x.key h0 (by omega) ((has_key rfl).trans hh)).mono ?_
  rintro e w1 ⟨rfl, hB1⟩
  have hBy : Below w1.heap.size w1 (w1.alloc (.cells #[.int .i64 0, .string ⟨#[]⟩, .int .i64 0, .int .i64 0, .string ⟨#[]⟩, .int .i64 0, .int .i64 0, .string ⟨#[]⟩, .int .i64 0, .bool false, .bool false, .int .i64 0, .int .i64 0] 110)) := (Below.refl _ w1).alloc (Nat.le_refl _) _
  have hyb := heap_alloc_new w1 (.cells #[.int .i64 0, .string ⟨#[]⟩, .int .i64 0, .int .i64 0, .string ⟨#[]⟩, .int .i64 0, .int .i64 0, .string ⟨#[]⟩, .int .i64 0, .bool false, .bool false, .int .i64 0, .int .i64 0] 110)
  have hC1 := hB0.trans (hB1.mono hB0.size)
  have hC2 := hC1.trans (hBy.mono hC1.size)
  have h1 := h.below hC2
  have hc1 := cell_of_one h1.1
  have hszy : (w1.alloc (.cells #[.int .i64 0, .string ⟨#[]⟩, .int .i64 0, .int .i64 0, .string ⟨#[]⟩, .int .i64 0, .int .i64 0, .string ⟨#[]⟩, .int .i64 0, .bool false, .bool false, .int .i64 0, .int .i64 0] 110)).heap.size = w1.heap.size + 1 := by simp
  have hsz1 := hC1.size
  have hkb := (hBy.block _ (Nat.lt_of_lt_of_le (lt_of_block hkn) hB1.size)).trans ((hB1.block _ (lt_of_block hkn)).trans hkn)
  have hdL : upd L x = put entCmpM L x := by rw [upd, put, hh]; simp
  have HdL := Lib.hid hdL
  clear hdL
  go_wp2_with fail
  generalize (w1.alloc (.cells #[.int .i64 0, .string ⟨#[]⟩, .int .i64 0, .int .i64 0, .string ⟨#[]⟩, .int .i64 0, .int .i64 0, .string ⟨#[]⟩, .int .i64 0, .bool false, .bool false, .int .i64 0, .int .i64 0] 110)) = Wy at hBy hyb hC2 h1 hc1 hszy hkb ⊢
  have hpu := put_T Wy.drew s L x (h1.2.below (Below.refl _ _).drew) (by omega)
  have hkeep : ∀ W, But s Wy.drew W → (W.cell? ⟨w.heap.size, 0, none⟩ = some (.int .i64 x.key.id.k) ∧ W.cell? ⟨w.heap.size, 1, none⟩ = some (.string x.key.id.t) ∧ W.cell? ⟨w.heap.size, 2, none⟩ = some (.int .i64 x.key.id.n) ∧ W.cell? ⟨w.heap.size, 3, none⟩ = some (.int .i64 x.key.attr.k) ∧ W.cell? ⟨w.heap.size, 4, none⟩ = some (.string x.key.attr.t) ∧ W.cell? ⟨w.heap.size, 5, none⟩ = some (.int .i64 x.key.attr.n) ∧ W.cell? ⟨w.heap.size, 6, none⟩ = some (.int .i64 x.key.val.k) ∧ W.cell? ⟨w.heap.size, 7, none⟩ = some (.string x.key.val.t) ∧ W.cell? ⟨w.heap.size, 8, none⟩ = some (.int .i64 x.key.val.n) ∧ W.cell? ⟨w.heap.size, 9, none⟩ = some (.bool x.key.acc) ∧ W.cell? ⟨w.heap.size, 10, none⟩ = some (.bool x.key.goal) ∧ W.cell? ⟨w.heap.size, 11, none⟩ = some (.int .i64 x.key.tag)) ∧ W.cell? ⟨m, 0, none⟩ = some (.pointer (some ⟨s, 0, none⟩)) := by
    intro W hb
    have e1 := (hb.block w.heap.size (by show _ < Wy.heap.size; omega) (by omega)).trans hkb
    have e2 := (hb.block m (by show _ < Wy.heap.size; omega) hne).trans h1.1
    simp [World.cell?, e1, e2]
  obtain ⟨⟨y0, y1, y2, y3, y4, y5, y6, y7, y8, y9, y10, y11⟩, -⟩ := hkeep _ (But.refl _ _)
  go_region_held3 (fun W => (W.cell? ⟨w.heap.size, 0, none⟩ = some (.int .i64 x.key.id.k) ∧ W.cell? ⟨w.heap.size, 1, none⟩ = some (.string x.key.id.t) ∧ W.cell? ⟨w.heap.size, 2, none⟩ = some (.int .i64 x.key.id.n) ∧ W.cell? ⟨w.heap.size, 3, none⟩ = some (.int .i64 x.key.attr.k) ∧ W.cell? ⟨w.heap.size, 4, none⟩ = some (.string x.key.attr.t) ∧ W.cell? ⟨w.heap.size, 5, none⟩ = some (.int .i64 x.key.attr.n) ∧ W.cell? ⟨w.heap.size, 6, none⟩ = some (.int .i64 x.key.val.k) ∧ W.cell? ⟨w.heap.size, 7, none⟩ = some (.string x.key.val.t) ∧ W.cell? ⟨w.heap.size, 8, none⟩ = some (.int .i64 x.key.val.n) ∧ W.cell? ⟨w.heap.size, 9, none⟩ = some (.bool x.key.acc) ∧ W.cell? ⟨w.heap.size, 10, none⟩ = some (.bool x.key.goal) ∧ W.cell? ⟨w.heap.size, 11, none⟩ = some (.int .i64 x.key.tag)) ∧ W.cell? ⟨m, 0, none⟩ = some (.pointer (some ⟨s, 0, none⟩)))
    (first | go_keep | assumption)
    (first
      | ((with_reducible refine hpu.mono ?_); rintro e w3 ⟨rfl, hS3, hb3⟩; have hh3 := hkeep w3 hb3)
      | fail "no arm")
  go_wp2_with fail
  go_ret
  exact ⟨by rw [hh]; rfl, ⟨(hb3.block m (by show _ < Wy.heap.size; omega) hne).trans h1.1, by rw [HdL.out]; exact hS3⟩, (But.of_below hC2.drew).trans hb3⟩

set_option maxHeartbeats 1000000 in
theorem mapput_yes (w : World) (m s : Nat) (L : List EntM) (x : EntM) (h : MapAt w m s L) (hs : L.length ≤ 700000) (hh : has entCmpM L x = true) :
    Calls Try.prog 32 #[.pointer (some ⟨m, 0, none⟩), .agg #[.int .i64 x.key.id.k, .string x.key.id.t, .int .i64 x.key.id.n, .int .i64 x.key.attr.k, .string x.key.attr.t, .int .i64 x.key.attr.n, .int .i64 x.key.val.k, .string x.key.val.t, .int .i64 x.key.val.n, .bool x.key.acc, .bool x.key.goal, .int .i64 x.key.tag], .int .i64 x.v] w fun e w' => e = .returned (.bool (!has entCmpM L x)) ∧ MapAt w' m s (upd L x) ∧ But s w w' := by
  have hss := h.2.lt
  have hml := lt_of_block h.1
  have hne := h.ne
  have hB0 : Below w.heap.size w (w.alloc (.cells #[.int .i64 x.key.id.k, .string x.key.id.t, .int .i64 x.key.id.n, .int .i64 x.key.attr.k, .string x.key.attr.t, .int .i64 x.key.attr.n, .int .i64 x.key.val.k, .string x.key.val.t, .int .i64 x.key.val.n, .bool x.key.acc, .bool x.key.goal, .int .i64 x.key.tag] 67)) := (Below.refl _ w).alloc (Nat.le_refl _) _
  have h0 := h.below hB0
  have hkn := heap_alloc_new w (.cells #[.int .i64 x.key.id.k, .string x.key.id.t, .int .i64 x.key.id.n, .int .i64 x.key.attr.k, .string x.key.attr.t, .int .i64 x.key.attr.n, .int .i64 x.key.val.k, .string x.key.val.t, .int .i64 x.key.val.n, .bool x.key.acc, .bool x.key.goal, .int .i64 x.key.tag] 67)
  go_enter Try.func32, Try.ntmps32
  go_wp2_with fail
  generalize (w.alloc (.cells #[.int .i64 x.key.id.k, .string x.key.id.t, .int .i64 x.key.id.n, .int .i64 x.key.attr.k, .string x.key.attr.t, .int .i64 x.key.attr.n, .int .i64 x.key.val.k, .string x.key.val.t, .int .i64 x.key.val.n, .bool x.key.acc, .bool x.key.goal, .int .i64 x.key.tag] 67)) = W0 at hB0 h0 hkn ⊢
  refine (find_yes W0 m s L x.key h0 (by omega) ((has_key rfl).trans hh)).mono ?_
  rintro e w1 ⟨⟨y, rfl, hy⟩, hB1⟩
  have hy2 : L[pos entCmpM L x]? = some y := by rw [pos_key (x := x) (y := ⟨x.key, 0⟩) rfl]; exact hy
  have Hy2 := Lib.hid hy2
  have Hso : Hid (Sorted entCmpM L) := Lib.hid (by obtain ⟨t, p, -, -, -, h4⟩ := h.2; exact h4)
  clear hy hy2
  have hBy : Below w1.heap.size w1 (w1.alloc (.cells #[.int .i64 y.key.id.k, .string y.key.id.t, .int .i64 y.key.id.n, .int .i64 y.key.attr.k, .string y.key.attr.t, .int .i64 y.key.attr.n, .int .i64 y.key.val.k, .string y.key.val.t, .int .i64 y.key.val.n, .bool y.key.acc, .bool y.key.goal, .int .i64 y.key.tag, .int .i64 y.v] 110)) := (Below.refl _ w1).alloc (Nat.le_refl _) _
  have hyb := heap_alloc_new w1 (.cells #[.int .i64 y.key.id.k, .string y.key.id.t, .int .i64 y.key.id.n, .int .i64 y.key.attr.k, .string y.key.attr.t, .int .i64 y.key.attr.n, .int .i64 y.key.val.k, .string y.key.val.t, .int .i64 y.key.val.n, .bool y.key.acc, .bool y.key.goal, .int .i64 y.key.tag, .int .i64 y.v] 110)
  have hC1 := hB0.trans (hB1.mono hB0.size)
  have hC2 := hC1.trans (hBy.mono hC1.size)
  have h1 := h.below hC2
  have hc1 := cell_of_one h1.1
  have hszy : (w1.alloc (.cells #[.int .i64 y.key.id.k, .string y.key.id.t, .int .i64 y.key.id.n, .int .i64 y.key.attr.k, .string y.key.attr.t, .int .i64 y.key.attr.n, .int .i64 y.key.val.k, .string y.key.val.t, .int .i64 y.key.val.n, .bool y.key.acc, .bool y.key.goal, .int .i64 y.key.tag, .int .i64 y.v] 110)).heap.size = w1.heap.size + 1 := by simp
  have hsz1 := hC1.size
  have hkb := (hBy.block _ (Nat.lt_of_lt_of_le (lt_of_block hkn) hB1.size)).trans ((hB1.block _ (lt_of_block hkn)).trans hkn)
  go_wp2_with fail
  generalize (w1.alloc (.cells #[.int .i64 y.key.id.k, .string y.key.id.t, .int .i64 y.key.id.n, .int .i64 y.key.attr.k, .string y.key.attr.t, .int .i64 y.key.attr.n, .int .i64 y.key.val.k, .string y.key.val.t, .int .i64 y.key.val.n, .bool y.key.acc, .bool y.key.goal, .int .i64 y.key.tag, .int .i64 y.v] 110)) = Wy at hBy hyb hC2 h1 hc1 hszy hkb ⊢
  have hdr := drop_T Wy.drew s L y (h1.2.below (Below.refl _ _).drew) (by omega)
  have hkeep : ∀ W, But s Wy.drew W → (W.cell? ⟨w1.heap.size, 0, none⟩ = some (.int .i64 y.key.id.k) ∧ W.cell? ⟨w1.heap.size, 1, none⟩ = some (.string y.key.id.t) ∧ W.cell? ⟨w1.heap.size, 2, none⟩ = some (.int .i64 y.key.id.n) ∧ W.cell? ⟨w1.heap.size, 3, none⟩ = some (.int .i64 y.key.attr.k) ∧ W.cell? ⟨w1.heap.size, 4, none⟩ = some (.string y.key.attr.t) ∧ W.cell? ⟨w1.heap.size, 5, none⟩ = some (.int .i64 y.key.attr.n) ∧ W.cell? ⟨w1.heap.size, 6, none⟩ = some (.int .i64 y.key.val.k) ∧ W.cell? ⟨w1.heap.size, 7, none⟩ = some (.string y.key.val.t) ∧ W.cell? ⟨w1.heap.size, 8, none⟩ = some (.int .i64 y.key.val.n) ∧ W.cell? ⟨w1.heap.size, 9, none⟩ = some (.bool y.key.acc) ∧ W.cell? ⟨w1.heap.size, 10, none⟩ = some (.bool y.key.goal) ∧ W.cell? ⟨w1.heap.size, 11, none⟩ = some (.int .i64 y.key.tag) ∧ W.cell? ⟨w1.heap.size, 12, none⟩ = some (.int .i64 y.v)) ∧ W.cell? ⟨m, 0, none⟩ = some (.pointer (some ⟨s, 0, none⟩)) := by
    intro W hb
    have e1 := (hb.block w1.heap.size (by show _ < Wy.heap.size; omega) (by omega)).trans hyb
    have e2 := (hb.block m (by show _ < Wy.heap.size; omega) hne).trans h1.1
    simp [World.cell?, e1, e2]
  obtain ⟨⟨y0, y1, y2, y3, y4, y5, y6, y7, y8, y9, y10, y11, y12⟩, -⟩ := hkeep _ (But.refl _ _)
  go_region_held3 (fun W => (W.cell? ⟨w1.heap.size, 0, none⟩ = some (.int .i64 y.key.id.k) ∧ W.cell? ⟨w1.heap.size, 1, none⟩ = some (.string y.key.id.t) ∧ W.cell? ⟨w1.heap.size, 2, none⟩ = some (.int .i64 y.key.id.n) ∧ W.cell? ⟨w1.heap.size, 3, none⟩ = some (.int .i64 y.key.attr.k) ∧ W.cell? ⟨w1.heap.size, 4, none⟩ = some (.string y.key.attr.t) ∧ W.cell? ⟨w1.heap.size, 5, none⟩ = some (.int .i64 y.key.attr.n) ∧ W.cell? ⟨w1.heap.size, 6, none⟩ = some (.int .i64 y.key.val.k) ∧ W.cell? ⟨w1.heap.size, 7, none⟩ = some (.string y.key.val.t) ∧ W.cell? ⟨w1.heap.size, 8, none⟩ = some (.int .i64 y.key.val.n) ∧ W.cell? ⟨w1.heap.size, 9, none⟩ = some (.bool y.key.acc) ∧ W.cell? ⟨w1.heap.size, 10, none⟩ = some (.bool y.key.goal) ∧ W.cell? ⟨w1.heap.size, 11, none⟩ = some (.int .i64 y.key.tag) ∧ W.cell? ⟨w1.heap.size, 12, none⟩ = some (.int .i64 y.v)) ∧ W.cell? ⟨m, 0, none⟩ = some (.pointer (some ⟨s, 0, none⟩)))
    (first | go_keep | assumption)
    (first
      | ((with_reducible refine hdr.mono ?_); rintro e w3 ⟨rfl, hS3, hb3⟩; have hh3 := hkeep w3 hb3)
      | fail "no arm")
  clear y0 y1 y2 y3 y4 y5 y6 y7 y8 y9 y10 y11 y12
  obtain ⟨⟨z0, z1, z2, z3, z4, z5, z6, z7, z8, z9, z10, z11, z12⟩, z13⟩ := hh3
  go_wp2_with fail
  have hpu := put_T w3.drew s _ ⟨y.key, x.v⟩ (hS3.below (Below.refl _ _).drew) (by have := length_drop entCmpM L y; omega)
  have hkeep2 : ∀ W, But s w3.drew W → (W.cell? ⟨w1.heap.size, 0, none⟩ = some (.int .i64 y.key.id.k) ∧ W.cell? ⟨w1.heap.size, 1, none⟩ = some (.string y.key.id.t) ∧ W.cell? ⟨w1.heap.size, 2, none⟩ = some (.int .i64 y.key.id.n) ∧ W.cell? ⟨w1.heap.size, 3, none⟩ = some (.int .i64 y.key.attr.k) ∧ W.cell? ⟨w1.heap.size, 4, none⟩ = some (.string y.key.attr.t) ∧ W.cell? ⟨w1.heap.size, 5, none⟩ = some (.int .i64 y.key.attr.n) ∧ W.cell? ⟨w1.heap.size, 6, none⟩ = some (.int .i64 y.key.val.k) ∧ W.cell? ⟨w1.heap.size, 7, none⟩ = some (.string y.key.val.t) ∧ W.cell? ⟨w1.heap.size, 8, none⟩ = some (.int .i64 y.key.val.n) ∧ W.cell? ⟨w1.heap.size, 9, none⟩ = some (.bool y.key.acc) ∧ W.cell? ⟨w1.heap.size, 10, none⟩ = some (.bool y.key.goal) ∧ W.cell? ⟨w1.heap.size, 11, none⟩ = some (.int .i64 y.key.tag) ∧ W.cell? ⟨w1.heap.size, 12, none⟩ = some (.int .i64 y.v)) ∧ W.cell? ⟨m, 0, none⟩ = some (.pointer (some ⟨s, 0, none⟩)) := fun W hb => hkeep W (hb3.trans ((But.of_below (Below.refl _ w3).drew).trans hb))
  dsimp only at hpu
  go_region_held3 (fun W => (W.cell? ⟨w1.heap.size, 0, none⟩ = some (.int .i64 y.key.id.k) ∧ W.cell? ⟨w1.heap.size, 1, none⟩ = some (.string y.key.id.t) ∧ W.cell? ⟨w1.heap.size, 2, none⟩ = some (.int .i64 y.key.id.n) ∧ W.cell? ⟨w1.heap.size, 3, none⟩ = some (.int .i64 y.key.attr.k) ∧ W.cell? ⟨w1.heap.size, 4, none⟩ = some (.string y.key.attr.t) ∧ W.cell? ⟨w1.heap.size, 5, none⟩ = some (.int .i64 y.key.attr.n) ∧ W.cell? ⟨w1.heap.size, 6, none⟩ = some (.int .i64 y.key.val.k) ∧ W.cell? ⟨w1.heap.size, 7, none⟩ = some (.string y.key.val.t) ∧ W.cell? ⟨w1.heap.size, 8, none⟩ = some (.int .i64 y.key.val.n) ∧ W.cell? ⟨w1.heap.size, 9, none⟩ = some (.bool y.key.acc) ∧ W.cell? ⟨w1.heap.size, 10, none⟩ = some (.bool y.key.goal) ∧ W.cell? ⟨w1.heap.size, 11, none⟩ = some (.int .i64 y.key.tag) ∧ W.cell? ⟨w1.heap.size, 12, none⟩ = some (.int .i64 y.v)) ∧ W.cell? ⟨m, 0, none⟩ = some (.pointer (some ⟨s, 0, none⟩)))
    (first | go_keep | assumption)
    (first
      | ((with_reducible refine hpu.mono ?_); rintro e w4 ⟨rfl, hS4, hb4⟩; have hh4 := hkeep2 w4 hb4)
      | fail "no arm")
  go_wp2_with fail
  go_ret
  have hb34 := hb3.trans ((But.of_below (Below.refl _ w3).drew).trans hb4)
  have hup : upd L x = put entCmpM (drop entCmpM L y) ⟨y.key, x.v⟩ := by
    rw [put_drop_set x.v Hso.out Hy2.out, upd, hh, if_pos rfl, Hy2.out]
  rw [← hup] at hS4
  exact ⟨by rw [hh]; rfl, ⟨(hb34.block m (by show _ < Wy.heap.size; omega) hne).trans h1.1, hS4⟩, (But.of_below hC2.drew).trans hb34⟩

theorem mapput_T (w : World) (m s : Nat) (L : List EntM) (x : EntM) (h : MapAt w m s L) (hs : L.length ≤ 700000) :
    Calls Try.prog 32 #[.pointer (some ⟨m, 0, none⟩), .agg #[.int .i64 x.key.id.k, .string x.key.id.t, .int .i64 x.key.id.n, .int .i64 x.key.attr.k, .string x.key.attr.t, .int .i64 x.key.attr.n, .int .i64 x.key.val.k, .string x.key.val.t, .int .i64 x.key.val.n, .bool x.key.acc, .bool x.key.goal, .int .i64 x.key.tag], .int .i64 x.v] w fun e w' => e = .returned (.bool (!has entCmpM L x)) ∧ MapAt w' m s (upd L x) ∧ But s w w' := by
  cases hh : has entCmpM L x
  · rw [← hh]; exact mapput_no w m s L x h hs hh
  · rw [← hh]; exact mapput_yes w m s L x h hs hh

end Go.Proofs.Ytfgpkbbbohipcaa.M
