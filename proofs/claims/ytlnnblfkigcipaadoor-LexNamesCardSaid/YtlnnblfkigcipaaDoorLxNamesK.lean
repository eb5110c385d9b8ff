/- LexNames returns true, whatever it is given. Conditions: the tables lie as the program lays them. -/
import Derived.Test.YtlnnblfkigcipaaDoorLxSameK
import Derived.Test.YtlnnblfkigcipaaDoorWithinAny
import Derived.Laws.Concat
import Derived.Laws.BytesArg
namespace Go.Proofs.YtlnnblfkigcipaaDoor
open Go Go.RowKit Go.Shelf

def wl (n : Nat) : List UInt8 := (List.range n).map fun i => UInt8.ofNat (97 + i % 26)
def kt (l : List SymV) : List (Int × List UInt8) := l.map fun x => (x.k, x.t.data.toList)

theorem chkW : ((List.range 71).all fun n => n == 0 || kt (toksA (wl n)) == (if n ≤ 32 then [(1, wl n), (5, [])] else [(6, wl n)])) = true := by decide +kernel
theorem chkV : ((List.range 71).all fun n => n == 0 || kt (toksA (60 :: wl n ++ [62])) == (if n ≤ 32 then [(3, wl n), (5, [])] else [(6, 60 :: wl n ++ [62])])) = true := by decide +kernel
theorem chkD : ((List.range 71).all fun n => n == 0 || kt (toksA (45 :: List.replicate n 57)) == (if n ≤ 9 then [(2, 45 :: List.replicate n 57), (5, [])] else [(6, 45 :: List.replicate n 57)])) = true := by decide +kernel

theorem chk_at {p : Nat → Bool} (h : ((List.range 71).all fun n => n == 0 || p n) = true) (n : Nat) (h1 : 1 ≤ n) (h2 : n ≤ 70) : p n = true := by
  have := List.all_eq_true.1 h n (List.mem_range.2 (by omega))
  simp only [Bool.or_eq_true, beq_iff_eq] at this
  rcases this with h | h
  · omega
  · exact h

theorem kt_two {l : List SymV} {a b : Int} {s t : List UInt8} (h : kt l = [(a, s), (b, t)]) : ∃ x y : SymV, l = [x, y] ∧ x.k = a ∧ x.t.data.toList = s ∧ y.k = b := by
  cases l with
  | nil => cases h
  | cons x l =>
    cases l with
    | nil => simp [kt] at h
    | cons y l =>
      simp only [kt, List.map_cons, List.cons.injEq, Prod.mk.injEq, List.map_eq_nil_iff] at h
      obtain ⟨⟨h1, h2⟩, ⟨h3, h4⟩, rfl⟩ := h
      exact ⟨x, y, rfl, h1, h2, h3⟩

theorem kt_one {l : List SymV} {a : Int} {s : List UInt8} (h : kt l = [(a, s)]) : ∃ x : SymV, l = [x] ∧ x.k = a ∧ x.t.data.toList = s := by
  cases l with
  | nil => cases h
  | cons x l =>
    simp only [kt, List.map_cons, List.cons.injEq, Prod.mk.injEq, List.map_eq_nil_iff] at h
    obtain ⟨⟨h1, h2⟩, rfl⟩ := h
    exact ⟨x, rfl, h1, h2⟩

theorem wl_succ (i : Nat) : wl (i + 1) = wl i ++ [UInt8.ofNat (97 + i % 26)] := by simp [wl, List.range_succ]
theorem wl_len (i : Nat) : (wl i).length = i := by simp [wl]

def byteZ (z : Int) : ByteArray := ⟨#[UInt8.ofNat z.toNat]⟩

theorem conv_oneZ (w : World) (z : Int) : (convert 43 9 (.slice (some ⟨w.heap.size, 0, none⟩) 1 1)).run Tryd.prog (w.alloc (.cells #[.int .u8 z] 5)) = .ok (.string (byteZ z)) (w.alloc (.cells #[.int .u8 z] 5)) := by
  have h := run_convert_bytes_arg (P := Tryd.prog) (w.alloc (.cells #[.int .u8 z] 5)) 43 5 Tryd.underlying43 Tryd.underlying5 w.heap.size 0 1 1 [z] rfl (fun i hi => by
    obtain rfl : i = 0 := by omega
    exact cell_of_one (heap_alloc_new w _)) 9 Tryd.underlying9
  exact h

set_option maxRecDepth 100000 in
set_option maxHeartbeats 3200000 in
theorem lexnames_walk (w : World) (v1 v2 : Int) (hE : EnvX w) : Calls Tryd.prog 8 #[.int .i64 v1, .int .i64 v2] w fun e w' => e = .returned (.bool true) ∧ Below w.heap.size w w' := by
  go_enter Tryd.func8, Tryd.ntmps8
  go_wp2_with fail
  refine (within_any w v1 70 (by decide) (by decide)).mono ?_
  rintro e w ⟨⟨k, rfl, hk⟩, rfl⟩
  obtain ⟨n, hn⟩ : ∃ n, n = k + 1 := ⟨_, rfl⟩
  have f1 : 1 + (k : Int) = (n : Int) := by omega
  have n1 : 1 ≤ n := by omega
  have n70 : n ≤ 70 := by omega
  have W1 := Lib.hid (chk_at chkW n n1 n70)
  have W2 := Lib.hid (chk_at chkV n n1 n70)
  have W3 := Lib.hid (chk_at chkD n n1 n70)
  clear hn hk
  go_wp2_with fail
  go_loopg [5, 6] (n - 0) (fun k uv iv wr => ∃ (u : ByteArray) (i : Nat), uv = .string u ∧ iv = .int .i64 i ∧ i ≤ n ∧ Hid (k = n - i) ∧ Hid (u.data.toList = wl i) ∧ Below w.heap.size w wr)
  case atStart => exact ⟨⟨#[]⟩, 0, rfl, rfl, by omega, Lib.hid rfl, Lib.hid rfl, Below.refl _ _⟩
  case round =>
    obtain ⟨u, i, rfl, rfl, hi, Hk, Hu, hB⟩ := hrel
    have hus : u.size ≤ 70 := by rw [size_list, Hu.out, wl_len]; omega
    by_cases hlt : i < n
    · obtain ⟨m, hm⟩ : ∃ m, m = i % 26 := ⟨_, rfl⟩
      have hm26 : m < 26 := by rw [hm]; exact Nat.mod_lt _ (by decide)
      have f2 : (i : Int).tmod 26 = (m : Int) := by rw [hm]; rfl
      obtain ⟨z, hz⟩ : ∃ z, z = 97 + m := ⟨_, rfl⟩
      have f3 : 97 + (m : Int) = (z : Int) := by omega
      have hz122 : z ≤ 122 := by omega
      have Hz : Hid (UInt8.ofNat (97 + i % 26) = UInt8.ofNat z) := Lib.hid (by rw [hz, hm])
      have hc1 := conv_oneZ wr (z : Int)
      have ha1 : ∀ w, (Op.stringOp .add u (byteZ (z : Int))).run Tryd.prog w = .ok (.string (u ++ byteZ (z : Int))) w := fun w => run_string_add_sum w _ _ (by show u.size + 1 ≤ _; omega)
      have hBa : Below wr.heap.size wr (wr.alloc (.cells #[.int .u8 (z : Int)] 5)) := (Below.refl _ wr).alloc (Nat.le_refl _) _
      clear hm hz
      go_wp2_with fail
      go_roundg (n - (i + 1))
      case measure => rw [Hk.out]; omega
      case rel => exact ⟨u ++ byteZ (z : Int), i + 1, rfl, by go_num, by omega, Lib.hid rfl, Lib.hid (by rw [cat_list, Hu.out, wl_succ, Hz.out]; rfl), hB.trans (hBa.mono hB.size)⟩
    · obtain rfl : i = n := by omega
      have hE1 := hE.below hB
      go_wp2_with fail
      refine (within_any wr v2 3 (by decide) (by decide)).mono ?_
      rintro e wr ⟨⟨k, rfl, hk⟩, rfl⟩
      have hkc : k = 0 ∨ k = 1 ∨ k = 2 := by omega
      clear hk
      rcases hkc with rfl | rfl | rfl
      · have hsz : (u : ByteArray).size ≤ 100000 := by omega
        have hls : (u : ByteArray).data.toList = wl i := by exact Hu.out
        have k5 := all_T wr (u) hsz hE1 hE1.seven
        have hw := W1.out
        rw [← hls] at hw
        obtain ⟨L, hL⟩ : ∃ L, toksA (u : ByteArray).data.toList = L := ⟨_, rfl⟩
        rw [hL] at hw k5
        clear hL
        by_cases hlim : i ≤ 32
        · rw [if_pos hlim] at hw
          obtain ⟨x, y, rfl, hxk, hxt, hyk⟩ := kt_two (eq_of_beq hw)
          have hxt : x.t = u := str_ext' hxt
          have f9 : ((32 : Int) < (i : Int)) = False := eq_false (by omega)
          have f10 : (32 < i) = False := eq_false (by omega)
          clear hw hlim hls
          go_wp2_with fail
          refine k5.mono ?_
          rintro e w5 ⟨v5, rfl, hM5, hB5⟩
          have hC5 := hB.trans (hB5.mono hB.size)
          have hE5 := hE.below hC5
          obtain ⟨g, cap, rfl, hcap, -, -, hc⟩ := MadeT.cells hM5 (by simp)
          obtain ⟨c0, c1, -⟩ := hc 0 x rfl
          simp only [List.length_cons, List.length_nil] at hcap
          simp only [Nat.zero_mul, Nat.zero_add] at c0 c1
          rw [hxk] at c0
          rw [hxt] at c1
          clear hM5 hc k5
          simp only [List.length_cons, List.length_nil, Nat.zero_add, Nat.reduceAdd]
          go_wp2_with fail
          refine (wakes_T _ hE5).mono ?_
          rintro e w6 ⟨rfl, hB6⟩
          go_wp2_with fail
          go_ret
          exact ⟨rfl, hC5.trans (hB6.mono hC5.size)⟩
        · rw [if_neg hlim] at hw
          obtain ⟨x, rfl, hxk, hxt⟩ := kt_one (eq_of_beq hw)
          have hxt : x.t = u := str_ext' hxt
          have f9 : ((32 : Int) < (i : Int)) = True := eq_true (by omega)
          have f10 : (32 < i) = True := eq_true (by omega)
          clear hw hlim hls
          go_wp2_with fail
          refine k5.mono ?_
          rintro e w5 ⟨v5, rfl, hM5, hB5⟩
          have hC5 := hB.trans (hB5.mono hB.size)
          have hE5 := hE.below hC5
          obtain ⟨g, cap, rfl, hcap, -, -, hc⟩ := MadeT.cells hM5 (by simp)
          obtain ⟨c0, c1, -⟩ := hc 0 x rfl
          simp only [List.length_cons, List.length_nil] at hcap
          simp only [Nat.zero_mul, Nat.zero_add] at c0 c1
          rw [hxk] at c0
          rw [hxt] at c1
          clear hM5 hc k5
          simp only [List.length_cons, List.length_nil, Nat.zero_add, Nat.reduceAdd]
          go_wp2_with fail
          refine (wakes_T _ hE5).mono ?_
          rintro e w6 ⟨rfl, hB6⟩
          go_wp2_with fail
          go_ret
          exact ⟨rfl, hC5.trans (hB6.mono hC5.size)⟩
      · have ha1 : ∀ w, (Op.stringOp .add ⟨#[60]⟩ u).run Tryd.prog w = .ok (.string (⟨#[60]⟩ ++ u)) w := fun w => run_string_add_sum w _ _ (by show 1 + u.size ≤ _; omega)
        have ha2 : ∀ w, (Op.stringOp .add (⟨#[60]⟩ ++ u) ⟨#[62]⟩).run Tryd.prog w = .ok (.string (⟨#[60]⟩ ++ u ++ ⟨#[62]⟩)) w := fun w => run_string_add_sum w _ _ (by rw [ByteArray.size_append]; show 1 + u.size + 1 ≤ _; omega)
        have hsz : (⟨#[60]⟩ ++ u ++ ⟨#[62]⟩ : ByteArray).size ≤ 100000 := by rw [ByteArray.size_append, ByteArray.size_append]; show 1 + u.size + 1 ≤ _; omega
        have hls : (⟨#[60]⟩ ++ u ++ ⟨#[62]⟩ : ByteArray).data.toList = 60 :: wl i ++ [62] := by rw [cat_list, cat_list, Hu.out]; rfl
        have k5 := all_T wr (⟨#[60]⟩ ++ u ++ ⟨#[62]⟩) hsz hE1 hE1.seven
        have hw := W2.out
        rw [← hls] at hw
        obtain ⟨L, hL⟩ : ∃ L, toksA (⟨#[60]⟩ ++ u ++ ⟨#[62]⟩ : ByteArray).data.toList = L := ⟨_, rfl⟩
        rw [hL] at hw k5
        clear hL
        by_cases hlim : i ≤ 32
        · rw [if_pos hlim] at hw
          obtain ⟨x, y, rfl, hxk, hxt, hyk⟩ := kt_two (eq_of_beq hw)
          have hxt : x.t = u := str_ext' (hxt.trans Hu.out.symm)
          have f9 : ((32 : Int) < (i : Int)) = False := eq_false (by omega)
          have f10 : (32 < i) = False := eq_false (by omega)
          clear hw hlim hls
          go_wp2_with fail
          refine k5.mono ?_
          rintro e w5 ⟨v5, rfl, hM5, hB5⟩
          have hC5 := hB.trans (hB5.mono hB.size)
          have hE5 := hE.below hC5
          obtain ⟨g, cap, rfl, hcap, -, -, hc⟩ := MadeT.cells hM5 (by simp)
          obtain ⟨c0, c1, -⟩ := hc 0 x rfl
          simp only [List.length_cons, List.length_nil] at hcap
          simp only [Nat.zero_mul, Nat.zero_add] at c0 c1
          rw [hxk] at c0
          rw [hxt] at c1
          clear hM5 hc k5
          simp only [List.length_cons, List.length_nil, Nat.zero_add, Nat.reduceAdd]
          go_wp2_with fail
          refine (wakes_T _ hE5).mono ?_
          rintro e w6 ⟨rfl, hB6⟩
          go_wp2_with fail
          go_ret
          exact ⟨rfl, hC5.trans (hB6.mono hC5.size)⟩
        · rw [if_neg hlim] at hw
          obtain ⟨x, rfl, hxk, hxt⟩ := kt_one (eq_of_beq hw)
          have hxt : x.t = ⟨#[60]⟩ ++ u ++ ⟨#[62]⟩ := str_ext' hxt
          have f9 : ((32 : Int) < (i : Int)) = True := eq_true (by omega)
          have f10 : (32 < i) = True := eq_true (by omega)
          clear hw hlim hls
          go_wp2_with fail
          refine k5.mono ?_
          rintro e w5 ⟨v5, rfl, hM5, hB5⟩
          have hC5 := hB.trans (hB5.mono hB.size)
          have hE5 := hE.below hC5
          obtain ⟨g, cap, rfl, hcap, -, -, hc⟩ := MadeT.cells hM5 (by simp)
          obtain ⟨c0, c1, -⟩ := hc 0 x rfl
          simp only [List.length_cons, List.length_nil] at hcap
          simp only [Nat.zero_mul, Nat.zero_add] at c0 c1
          rw [hxk] at c0
          rw [hxt] at c1
          clear hM5 hc k5
          simp only [List.length_cons, List.length_nil, Nat.zero_add, Nat.reduceAdd]
          go_wp2_with fail
          refine (wakes_T _ hE5).mono ?_
          rintro e w6 ⟨rfl, hB6⟩
          go_wp2_with fail
          go_ret
          exact ⟨rfl, hC5.trans (hB6.mono hC5.size)⟩
      · go_wp2_with fail
        go_loopg [9, 10] (i - 0) (fun k dv jv wr2 => ∃ (d : ByteArray) (j : Nat), dv = .string d ∧ jv = .int .i64 j ∧ j ≤ i ∧ Hid (k = i - j) ∧ Hid (d.data.toList = List.replicate j 57) ∧ wr2 = wr)
        case atStart => exact ⟨⟨#[]⟩, 0, rfl, rfl, by omega, Lib.hid rfl, Lib.hid rfl, rfl⟩
        case round =>
          obtain ⟨d, j, rfl, rfl, hj, Hk2, Hd, rfl⟩ := hrel
          have hds : d.size ≤ 70 := by rw [size_list, Hd.out, List.length_replicate]; omega
          by_cases hlt2 : j < i
          · have ha1 : ∀ w, (Op.stringOp .add d ⟨#[57]⟩).run Tryd.prog w = .ok (.string (d ++ ⟨#[57]⟩)) w := fun w => run_string_add_sum w _ _ (by show d.size + 1 ≤ _; omega)
            go_wp2_with fail
            go_roundg (i - (j + 1))
            case measure => rw [Hk2.out]; omega
            case rel => exact ⟨d ++ ⟨#[57]⟩, j + 1, rfl, by go_num, by omega, Lib.hid rfl, Lib.hid (by rw [cat_list, Hd.out, List.replicate_succ']), rfl⟩
          · have hji : j = i := by omega
            have Hd := Lib.hid (show d.data.toList = List.replicate i 57 by rw [← hji]; exact Hd.out)
            have f11 : ((j : Int) < (i : Int)) = False := eq_false (by omega)
            have f12 : (j < i) = False := eq_false (by omega)
            clear hji
            have ha1 : ∀ w, (Op.stringOp .add ⟨#[45]⟩ d).run Tryd.prog w = .ok (.string (⟨#[45]⟩ ++ d)) w := fun w => run_string_add_sum w _ _ (by show 1 + d.size ≤ _; omega)
            have hsz : (⟨#[45]⟩ ++ d : ByteArray).size ≤ 100000 := by rw [ByteArray.size_append]; show 1 + d.size ≤ _; omega
            have hls : (⟨#[45]⟩ ++ d : ByteArray).data.toList = 45 :: List.replicate i 57 := by rw [cat_list, Hd.out]; rfl
            have k5 := all_T _ (⟨#[45]⟩ ++ d) hsz hE1 hE1.seven
            have hw := W3.out
            rw [← hls] at hw
            obtain ⟨L, hL⟩ : ∃ L, toksA (⟨#[45]⟩ ++ d : ByteArray).data.toList = L := ⟨_, rfl⟩
            rw [hL] at hw k5
            clear hL
            by_cases hlim : i ≤ 9
            · rw [if_pos hlim] at hw
              obtain ⟨x, y, rfl, hxk, hxt, hyk⟩ := kt_two (eq_of_beq hw)
              have hxt : x.t = ⟨#[45]⟩ ++ d := str_ext' hxt
              have f9 : ((9 : Int) < (i : Int)) = False := eq_false (by omega)
              have f10 : (9 < i) = False := eq_false (by omega)
              clear hw hlim hls
              go_wp2_with fail
              refine k5.mono ?_
              rintro e w5 ⟨v5, rfl, hM5, hB5⟩
              have hC5 := hB.trans (hB5.mono hB.size)
              have hE5 := hE.below hC5
              obtain ⟨g, cap, rfl, hcap, -, -, hc⟩ := MadeT.cells hM5 (by simp)
              obtain ⟨c0, c1, -⟩ := hc 0 x rfl
              simp only [List.length_cons, List.length_nil] at hcap
              simp only [Nat.zero_mul, Nat.zero_add] at c0 c1
              rw [hxk] at c0
              rw [hxt] at c1
              clear hM5 hc k5
              simp only [List.length_cons, List.length_nil, Nat.zero_add, Nat.reduceAdd]
              go_wp2_with fail
              refine (wakes_T _ hE5).mono ?_
              rintro e w6 ⟨rfl, hB6⟩
              go_wp2_with fail
              go_ret
              exact ⟨rfl, hC5.trans (hB6.mono hC5.size)⟩
            · rw [if_neg hlim] at hw
              obtain ⟨x, rfl, hxk, hxt⟩ := kt_one (eq_of_beq hw)
              have hxt : x.t = ⟨#[45]⟩ ++ d := str_ext' hxt
              have f9 : ((9 : Int) < (i : Int)) = True := eq_true (by omega)
              have f10 : (9 < i) = True := eq_true (by omega)
              clear hw hlim hls
              go_wp2_with fail
              refine k5.mono ?_
              rintro e w5 ⟨v5, rfl, hM5, hB5⟩
              have hC5 := hB.trans (hB5.mono hB.size)
              have hE5 := hE.below hC5
              obtain ⟨g, cap, rfl, hcap, -, -, hc⟩ := MadeT.cells hM5 (by simp)
              obtain ⟨c0, c1, -⟩ := hc 0 x rfl
              simp only [List.length_cons, List.length_nil] at hcap
              simp only [Nat.zero_mul, Nat.zero_add] at c0 c1
              rw [hxk] at c0
              rw [hxt] at c1
              clear hM5 hc k5
              simp only [List.length_cons, List.length_nil, Nat.zero_add, Nat.reduceAdd]
              go_wp2_with fail
              refine (wakes_T _ hE5).mono ?_
              rintro e w6 ⟨rfl, hB6⟩
              go_wp2_with fail
              go_ret
              exact ⟨rfl, hC5.trans (hB6.mono hC5.size)⟩

end Go.Proofs.YtlnnblfkigcipaaDoor
