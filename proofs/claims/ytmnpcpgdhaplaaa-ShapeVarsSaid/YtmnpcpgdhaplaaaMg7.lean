/- What rightConst, rightAtom, rightList, rightTest, rightTests answer. Conditions: the lists lie in memory.
What rightTest, rightTests, singleError, groupError, condError answer. Conditions: the lists lie in memory. -/
import Derived.Test.YtmnpcpgdhaplaaaMg6
import Derived.Deep.LoopGhost
namespace Go.Proofs.Ytmnpcpgdhaplaaa
open Go Go.RowKit

theorem boxS (w : World) (x : SymV) : Below w.heap.size w (w.alloc (.cells #[.int .i64 x.k, .string x.t, .int .i64 x.n] 47)) := (Below.refl _ w).alloc (Nat.le_refl _) _
theorem boxA (w : World) (v : ByteArray) (x : SymV) : Below w.heap.size w (w.alloc (.cells #[.string v, .int .i64 x.k, .string x.t, .int .i64 x.n] 55)) := (Below.refl _ w).alloc (Nat.le_refl _) _
theorem isZ_same (s : SymV) : same ⟨s.k, s.t, s.n⟩ ⟨0, ⟨#[]⟩, 0⟩ = isZ s := rfl

set_option maxHeartbeats 800000 in
theorem const_T (w : World) (x : SymV) : Calls Try.prog 91 #[.agg #[.int .i64 x.k, .string x.t, .int .i64 x.n]] w fun e w' => e = .returned (.bool (constB x)) ∧ Below w.heap.size w w' := by
  have hB := boxS w x
  cases hk : (x.k != 1)
  · have Hk := Lib.hid hk
    go_enter Try.func91, Try.ntmps91
    go_wp2_with fail
    go_ret
    exact ⟨by rw [constB, Hk.out]; rfl, hB⟩
  · have Hk := Lib.hid hk
    go_enter Try.func91, Try.ntmps91
    go_wp2_with fail
    refine (valid_any _ x).mono ?_
    rintro e w1 ⟨rfl, hB1⟩
    go_wp2_with fail
    go_ret
    exact ⟨by rw [constB, Hk.out]; rfl, hB.trans (hB1.mono hB.size)⟩

set_option maxHeartbeats 800000 in
theorem atom_T (w : World) (v : ByteArray) (x : SymV) : Calls Try.prog 68 #[.agg #[.string v, .int .i64 x.k, .string x.t, .int .i64 x.n]] w fun e w' => e = .returned (.bool (atomB v x)) ∧ Below w.heap.size w w' := by
  have hB := boxA w v x
  have hse := sym_equal'
  have hsg := sym_guard
  cases he : v.toList.isEmpty
  · have He := Lib.hid he
    have he2 : ¬ v.toList = [] := by intro h; rw [h] at he; cases he
    cases hw : wordB v
    · have Hw := Lib.hid hw
      go_enter Try.func68, Try.ntmps68
      go_wp2_with fail
      refine (word_any _ v).mono ?_
      rintro e w1 ⟨rfl, rfl⟩
      rw [Hw.out]
      go_wp2_with fail
      go_ret
      exact ⟨by rw [atomB, He.out, Hw.out]; rfl, hB⟩
    · have Hw := Lib.hid hw
      go_enter Try.func68, Try.ntmps68
      go_wp2_with fail
      refine (word_any _ v).mono ?_
      rintro e w1 ⟨rfl, rfl⟩
      rw [Hw.out]
      go_wp2_with fail
      go_ret
      exact ⟨by rw [atomB, He.out, Hw.out]; rfl, hB⟩
  · have He := Lib.hid he
    have he2 : v.toList = [] := by simpa using he
    go_enter Try.func68, Try.ntmps68
    go_wp2_with fail
    refine (const_T _ x).mono ?_
    rintro e w1 ⟨rfl, hB1⟩
    go_wp2_with fail
    go_ret
    exact ⟨by rw [atomB, He.out]; rfl, hB.trans (hB1.mono hB.size)⟩

set_option maxRecDepth 100000 in
set_option maxHeartbeats 1600000 in
theorem listB_T (w : World) (lo hi : Nat) (s : SlH) (l : List SymV) (h : RowIn lo hi 3 symCells w s l) (hhi : hi ≤ w.heap.size) : Calls Try.prog 114 #[.slice s.a s.n s.c] w fun e w' => e = .returned (.bool (listB l)) ∧ Below w.heap.size w w' := by
  obtain ⟨a, m, cp⟩ := s
  obtain rfl : m = l.length := h.1
  by_cases h0 : l.length = 0
  · have b0 : ((l.length : Int) == 0) = true := by simp [h0]
    have H0 := Lib.hid h0
    clear h0
    go_enter Try.func114, Try.ntmps114
    go_wp2_with fail
    go_ret
    exact ⟨by simp [listB, H0.out], Below.refl _ _⟩
  · have b0 : ((l.length : Int) == 0) = false := by simp [h0]
    by_cases h8 : 8 < l.length
    · have b8 : ((8 : Int) < (l.length : Int)) = True := eq_true (by omega)
      have H8 := Lib.hid h8
      clear h8 h0
      go_enter Try.func114, Try.ntmps114
      go_wp2_with fail
      go_ret
      exact ⟨by simp [listB, H8.out], Below.refl _ _⟩
    · have b8 : ((8 : Int) < (l.length : Int)) = False := eq_false (by omega)
      obtain ⟨b, off, hlo, hhi2, rfl, -⟩ : ∃ b off, lo ≤ b ∧ b < hi ∧ a = some ⟨b, off, none⟩ ∧ True := by
        rcases h.2 with rfl | ⟨b, off, h1, h2, h3, -⟩
        · simp at h0
        · exact ⟨b, off, h1, h2, h3, trivial⟩
      have Hh := Lib.hid h
      have H0 := Lib.hid h0
      have h8o : l.length ≤ 8 := by omega
      have H8 : Hid (¬ 8 < l.length) := Lib.hid h8
      clear h h0 h8
      go_enter Try.func114, Try.ntmps114
      go_wp2_with fail
      go_loopg [15] l.length (fun k iv wr => ∃ j : Nat, iv = .int .i64 j ∧ j ≤ l.length ∧ Hid (k = l.length - j ∧ (l.take j).all constB = true) ∧ Below w.heap.size w wr)
      case atStart => exact ⟨0, rfl, by omega, Lib.hid ⟨rfl, rfl⟩, Below.refl _ _⟩
      case round =>
        obtain ⟨j, rfl, hj, Hm, hB⟩ := hrel
        by_cases hlt : j < l.length
        · obtain ⟨x, hx⟩ : ∃ x, l[j]? = some x := ⟨l[j], by simp [hlt]⟩
          obtain ⟨b', off', -, -, hsa, hcell⟩ := (Hh.out.keep (KeepIn.of_below hB hhi)).at hx
          obtain ⟨rfl, rfl⟩ : b = b' ∧ off = off' := by simpa using hsa
          have c0 : wr.cell? ⟨b, off + j * 3, none⟩ = _ := hcell 0 _ rfl
          have c1 := hcell 1 _ rfl
          have c2 := hcell 2 _ rfl
          have hBx : Below wr.heap.size wr (wr.alloc (.cells #[.int .i64 x.k, .string x.t, .int .i64 x.n] 47)) := boxS wr x
          have hcall := const_T (wr.alloc (.cells #[.int .i64 x.k, .string x.t, .int .i64 x.n] 47)) x
          have Hx := Lib.hid hx
          clear hcell hsa hx
          go_wp2_with fail
          refine hcall.mono ?_
          rintro e w1 ⟨rfl, hB1⟩
          have hB2 := hB.trans ((hBx.trans (hB1.mono hBx.size)).mono hB.size)
          cases hc : constB x
          · have Hc := Lib.hid hc
            go_wp2_with fail
            go_ret
            refine ⟨?_, hB2⟩
            have : l.all constB = false := by
              rw [List.all_eq_false]; exact ⟨x, List.mem_of_getElem? Hx.out, by rw [Hc.out]; simp⟩
            simp [listB, this]
          · have Hc := Lib.hid hc
            go_wp2_with fail
            go_roundg (l.length - (j + 1))
            case measure => rw [Hm.out.1]; omega
            case rel =>
              refine ⟨j + 1, by go_num, by omega, Lib.hid ⟨rfl, ?_⟩, hB2⟩
              rw [List.take_add_one, Hx.out, List.all_append, Hm.out.2]
              simp [Hc.out]
        · obtain rfl : j = l.length := by omega
          go_wp2_with fail
          go_ret
          refine ⟨?_, hB⟩
          have h1 := Hm.out.2
          rw [List.take_length] at h1
          have h0 := H0.out
          have h8 := H8.out
          simp only [listB, h1]
          simp [h0, Nat.not_lt.1 h8]

end Go.Proofs.Ytmnpcpgdhaplaaa

namespace Go.Proofs.Ytmnpcpgdhaplaaa
open Go Go.RowKit

theorem boxT (w : World) (r : Int) (v : ByteArray) (x : SymV) (s : SlH) : Below w.heap.size w (w.alloc (.cells #[.int .i64 r, .string v, .int .i64 x.k, .string x.t, .int .i64 x.n, .slice s.a s.n s.c] 67)) := (Below.refl _ w).alloc (Nat.le_refl _) _
theorem plainRel_iff (r : Int) : plainRel r = true ↔ r = 1 ∨ r = 2 ∨ r = 3 ∨ r = 4 ∨ r = 5 ∨ r = 6 ∨ r = 7 := by simp [plainRel]

set_option maxRecDepth 100000 in
set_option maxHeartbeats 3200000 in
theorem test_T (w : World) (lo hi : Nat) (r : Int) (v : ByteArray) (x : SymV) (s : SlH) (l : List SymV) (h : RowIn lo hi 3 symCells w s l) (hhi : hi ≤ w.heap.size) :
    Calls Try.prog 103 #[.agg #[.int .i64 r, .string v, .int .i64 x.k, .string x.t, .int .i64 x.n, .slice s.a s.n s.c]] w fun e w' => e = .returned (.bool (testB ⟨r, v, x, s, l⟩)) ∧ Below w.heap.size w w' := by
  have hB := boxT w r v x s
  have hse := sym_equal'
  have hsg := sym_guard
  have hlist := listB_T (w.alloc (.cells #[.int .i64 r, .string v, .int .i64 x.k, .string x.t, .int .i64 x.n, .slice s.a s.n s.c] 67)) lo hi s l (h.keep (KeepIn.of_below hB hhi)) (Nat.le_trans hhi hB.size)
  obtain ⟨a, m, cp⟩ := s
  obtain rfl : m = l.length := h.1
  clear h
  by_cases hp : r = 1 ∨ r = 2 ∨ r = 3 ∨ r = 4 ∨ r = 5 ∨ r = 6 ∨ r = 7
  · have hpr := (plainRel_iff r).2 hp
    have Hp := Lib.hid hpr
    clear hpr hlist
    by_cases h0 : l.length = 0
    · have b0 : ((l.length : Int) == 0) = true := by simp [h0]
      have H0 := Lib.hid h0
      clear h0
      rcases hp with rfl | rfl | rfl | rfl | rfl | rfl | rfl
      all_goals
        go_enter Try.func103, Try.ntmps103
        go_wp2_with fail
        refine (atom_T _ v x).mono ?_
        rintro e w1 ⟨rfl, hB1⟩
        go_wp2_with fail
        go_ret
        exact ⟨by simp [testB, Hp.out, H0.out], hB.trans (hB1.mono hB.size)⟩
    · have b0 : ((l.length : Int) == 0) = false := by simp [h0]
      have H0 := Lib.hid h0
      clear h0
      rcases hp with rfl | rfl | rfl | rfl | rfl | rfl | rfl
      all_goals
        go_enter Try.func103, Try.ntmps103
        go_wp2_with fail
        go_ret
        exact ⟨by simp [testB, Hp.out, H0.out], hB⟩
  · have hpr : plainRel r = false := by rw [← Bool.not_eq_true, plainRel_iff]; exact hp
    have Hp := Lib.hid hpr
    have p1 : (r == 1) = false := by simp; omega
    have p2 : (r == 2) = false := by simp; omega
    have p3 : (r == 3) = false := by simp; omega
    have p4 : (r == 4) = false := by simp; omega
    have p5 : (r == 5) = false := by simp; omega
    have p6 : (r == 6) = false := by simp; omega
    have p7 : (r == 7) = false := by simp; omega
    clear hpr hp
    by_cases h8 : r = 8
    · subst h8
      clear p1 p2 p3 p4 p5 p6 p7
      cases he : v.toList.isEmpty
      · have He := Lib.hid he
        have he2 : ¬ v.toList = [] := by intro h; rw [h] at he; cases he
        go_enter Try.func103, Try.ntmps103
        go_wp2_with fail
        go_ret
        exact ⟨by simp only [testB, Hp.out, He.out]; rfl, hB⟩
      · have He := Lib.hid he
        have he2 : v.toList = [] := by simpa using he
        cases hz : isZ x
        · have hs1 : same ⟨x.k, x.t, x.n⟩ ⟨0, ⟨#[]⟩, 0⟩ = false := hz
          have Hz := Lib.hid hz
          go_enter Try.func103, Try.ntmps103
          go_wp2_with fail
          go_ret
          exact ⟨by simp only [testB, Hp.out, He.out, Hz.out]; rfl, hB⟩
        · have hs1 : same ⟨x.k, x.t, x.n⟩ ⟨0, ⟨#[]⟩, 0⟩ = true := hz
          have Hz := Lib.hid hz
          go_enter Try.func103, Try.ntmps103
          go_wp2_with fail
          refine hlist.mono ?_
          rintro e w1 ⟨rfl, hB1⟩
          go_wp2_with fail
          go_ret
          exact ⟨by simp only [testB, Hp.out, He.out, Hz.out]; rfl, hB.trans (hB1.mono hB.size)⟩
    · have p8 : (r == 8) = false := by simp; omega
      have P8 := Lib.hid p8
      clear h8
      go_enter Try.func103, Try.ntmps103
      go_wp2_with fail
      go_ret
      exact ⟨by simp only [testB, Hp.out, P8.out]; rfl, hB⟩

set_option maxRecDepth 100000 in
set_option maxHeartbeats 1600000 in
theorem tests_T (w : World) (lo hi : Nat) (s : SlH) (l : List TestV) (h : TestsOk lo hi w s l) (hhi : hi ≤ w.heap.size) (hl : l.length ≤ 1000) : Calls Try.prog 90 #[.slice s.a s.n s.c] w fun e w' => e = .returned (.bool (testsB l)) ∧ Below w.heap.size w w' := by
  obtain ⟨a, m, cp⟩ := s
  obtain rfl : m = l.length := h.1.1
  rcases h.1.2 with rfl | ⟨b, off, hlo, hhi2, ha, -⟩
  · go_enter Try.func90, Try.ntmps90
    go_wp2_with fail
    go_loopg [7] 0 (fun k iv wr => iv = .int .i64 0 ∧ Below w.heap.size w wr)
    case atStart => exact ⟨rfl, Below.refl _ _⟩
    case round =>
      obtain ⟨rfl, hB⟩ := hrel
      go_wp2_with fail
      go_ret
      exact ⟨rfl, hB⟩
  replace ha : a = some ⟨b, off, none⟩ := ha
  subst ha
  have Hh := Lib.hid h
  clear h
  go_enter Try.func90, Try.ntmps90
  go_wp2_with fail
  go_loopg [7] l.length (fun k iv wr => ∃ j : Nat, iv = .int .i64 j ∧ j ≤ l.length ∧ Hid (k = l.length - j ∧ (l.take j).all testB = true) ∧ Below w.heap.size w wr)
  case atStart => exact ⟨0, rfl, by omega, Lib.hid ⟨rfl, rfl⟩, Below.refl _ _⟩
  case round =>
    obtain ⟨j, rfl, hj, Hm, hB⟩ := hrel
    by_cases hlt : j < l.length
    · obtain ⟨t, hx⟩ : ∃ t, l[j]? = some t := ⟨l[j], by simp [hlt]⟩
      have hh := Hh.out.keep (KeepIn.of_below hB hhi)
      obtain ⟨b', off', -, -, hsa, hcell⟩ := hh.1.at hx
      obtain ⟨rfl, rfl⟩ : b = b' ∧ off = off' := by simpa using hsa
      have c0 : wr.cell? ⟨b, off + j * 6, none⟩ = _ := hcell 0 _ rfl
      have c1 := hcell 1 _ rfl
      have c2 := hcell 2 _ rfl
      have c3 := hcell 3 _ rfl
      have c4 := hcell 4 _ rfl
      have c5 := hcell 5 _ rfl
      have hBx : Below wr.heap.size wr (wr.alloc (.cells #[.int .i64 t.rel, .string t.var, .int .i64 t.sym.k, .string t.sym.t, .int .i64 t.sym.n, .slice t.lst.a t.lst.n t.lst.c] 67)) := boxT wr t.rel t.var t.sym t.lst
      have hBx2 := hB.trans (hBx.mono hB.size)
      have hcall := test_T (wr.alloc (.cells #[.int .i64 t.rel, .string t.var, .int .i64 t.sym.k, .string t.sym.t, .int .i64 t.sym.n, .slice t.lst.a t.lst.n t.lst.c] 67)) lo hi t.rel t.var t.sym t.lst t.syms ((hh.2 t (List.mem_of_getElem? hx)).keep (KeepIn.of_below hBx (Nat.le_trans hhi hB.size))) (Nat.le_trans hhi hBx2.size)
      have Hx := Lib.hid hx
      clear hcell hsa hx hh
      go_wp2_with fail
      refine hcall.mono ?_
      rintro e w1 ⟨rfl, hB1⟩
      have hB2 := hBx2.trans (hB1.mono hBx2.size)
      cases hc : testB ⟨t.rel, t.var, t.sym, t.lst, t.syms⟩
      · have Hc : Hid (testB t = false) := Lib.hid hc
        go_wp2_with fail
        go_ret
        refine ⟨?_, hB2⟩
        have : testsB l = false := by
          unfold testsB; rw [List.all_eq_false]; exact ⟨t, List.mem_of_getElem? Hx.out, by rw [Hc.out]; simp⟩
        rw [this]; rfl
      · have Hc : Hid (testB t = true) := Lib.hid hc
        go_wp2_with fail
        go_roundg (l.length - (j + 1))
        case measure => rw [Hm.out.1]; omega
        case rel =>
          refine ⟨j + 1, by go_num, by omega, Lib.hid ⟨rfl, ?_⟩, hB2⟩
          rw [List.take_add_one, Hx.out, List.all_append, Hm.out.2]
          simp [Hc.out]
    · obtain rfl : j = l.length := by omega
      go_wp2_with fail
      go_ret
      refine ⟨?_, hB⟩
      have h1 := Hm.out.2
      rw [List.take_length] at h1
      rw [testsB, h1]; rfl

end Go.Proofs.Ytmnpcpgdhaplaaa
