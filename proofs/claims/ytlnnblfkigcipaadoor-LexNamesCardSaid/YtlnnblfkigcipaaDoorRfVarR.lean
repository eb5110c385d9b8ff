/- What the statements' own one answers, at a variable. Conditions: the text is not too long. -/
import Derived.Test.YtlnnblfkigcipaaDoorRfNumR
import Derived.Test.YtlnnblfkigcipaaDoorLxSg
namespace Go.Proofs.YtlnnblfkigcipaaDoor
open Go Go.RowKit

set_option maxRecDepth 100000 in
set_option maxHeartbeats 6400000 in
theorem one_var (w : World) (t : ByteArray) (i : Nat) (hm : t.size ≤ 100000) (hi : i < t.size) (hw : wordN (t.data.toList.drop i) = 0) (hn0 : numN (t.data.toList.drop i) = 0) (hv0 : varN (t.data.toList.drop i) ≠ 0) :
    Calls Tryd.prog 20 #[.string t, .int .i64 i] w fun e w' => e = OneA (t.data.toList.drop i) i ∧ Below w.heap.size w w' := by
  have hB0 : Below w.heap.size w (w.alloc (.cells #[.int .i64 0, .string ⟨#[]⟩, .int .i64 0] 46)) := (Below.refl _ w).alloc (Nat.le_refl _) _
  have hb0 := heap_alloc_new w (.cells #[.int .i64 0, .string ⟨#[]⟩, .int .i64 0] 46)
  have hd := drop_at t i hi
  have hql : (t.data.toList.drop i).length = t.size - i := by rw [List.length_drop, ← size_list]
  obtain ⟨r, hr, hm0, hvn, hh⟩ := var_head hv0
  have hvl := var_le (t.data.toList.drop i)
  have hmc : measL (t.data.toList.drop i) = (3, wordN r + 2) := by unfold measL; rw [if_neg (by simpa using hw), if_neg (by simpa using hn0), if_pos hv0, hvn]
  have ec : t[i] = 60 ∧ t.data.toList.drop (i + 1) = r := by
    have h := hd.symm.trans hr
    exact ⟨(List.cons.inj h).1, (List.cons.inj h).2⟩
  obtain ⟨ec, er⟩ := ec
  obtain ⟨m, hmm⟩ : ∃ m, m = wordN r := ⟨_, rfl⟩
  rw [hvn, ← hmm, hql] at hvl
  rw [← hmm] at hm0 hh hmc
  obtain ⟨l1, hl1⟩ : ∃ l1, l1 = i + 1 := ⟨_, rfl⟩
  obtain ⟨k, hk⟩ : ∃ k, k = l1 + m := ⟨_, rfl⟩
  obtain ⟨e, he⟩ : ∃ e, e = k + 1 := ⟨_, rfl⟩
  have hlt1 : l1 < t.size := by omega
  have hltk : k < t.size := by omega
  have hsm2 : smallI ((t[l1].toNat : Nat) : Int) = true ∧ l1 + ((t.data.toList.drop l1).takeWhile innC).length = k := by
    subst hl1
    have hd1 := drop_at t (i + 1) hlt1
    rw [er] at hd1 ⊢
    rw [hk, hmm]
    have h3 : wordN (t[i + 1] :: t.data.toList.drop (i + 1 + 1)) ≠ 0 := by rw [← hd1, ← hmm]; exact hm0
    by_cases h : smallC t[i + 1] = true
    · refine ⟨h, ?_⟩
      rw [hd1]
      simp only [wordN, h, if_true]
    · exact absurd (by simp [wordN, h]) h3
  have h62 : t[k] = 62 := by
    have hd2 := drop_at t k hltk
    have : r.drop m = t.data.toList.drop k := by rw [← er, List.drop_drop, hk, hl1]
    rw [this, hd2] at hh
    simpa using hh
  have htk : OneA (t.data.toList.drop i) i = .returned (.tuple #[.agg #[.int .i64 (if m ≤ 32 then 3 else 6), .string (if m ≤ 32 then nameL (t.data.toList.drop i) (m + 2) else wholeL (t.data.toList.drop i) (m + 2)), .int .i64 i], .int .i64 (i + (m + 2) : Nat)]) := by
    unfold OneA tokL
    rw [hmc]
    by_cases h : m ≤ 32 <;> simp [okL, h]
  rw [htk]
  have hx1 : t.extract l1 k = nameL (t.data.toList.drop i) (m + 2) := by
    rw [hk, whole_eq, hl1, er, hr]
    simp [wholeL, nameL]
  have hx2 : t.extract i e = wholeL (t.data.toList.drop i) (m + 2) := by rw [← whole_eq, he, hk, hl1]; congr 1; omega
  rw [show i + (m + 2) = e by omega]
  generalize nameL (t.data.toList.drop i) (m + 2) = nm at hx1 ⊢
  generalize wholeL (t.data.toList.drop i) (m + 2) = wh at hx2 ⊢
  have hsm : smallI ((t[i].toNat : Nat) : Int) = false := by rw [ec]; rfl
  have hdg : digI ((t[i].toNat : Nat) : Int) = false := by rw [ec]; rfl
  have b45 : (((t[i].toNat : Nat) : Int) == 45) = false := by rw [ec]; rfl
  have b60 : (((t[i].toNat : Nat) : Int) == 60) = true := by rw [ec]; rfl
  have b62 : (((t[k].toNat : Nat) : Int) == 62) = true := by rw [h62]; rfl
  have Hsm := Lib.hid hsm
  have Hdg := Lib.hid hdg
  have Hsm2 := Lib.hid hsm2.1
  have hp := fun w => parts_T w t l1 hm (by omega)
  rw [hsm2.2] at hp
  have f1 : (i : Int) + 1 = (l1 : Int) := by omega
  have f2 : (k : Int) + 1 = (e : Int) := by omega
  obtain ⟨d1, hd1⟩ : ∃ d1, d1 = m + 1 := ⟨_, rfl⟩
  have f3 : (k : Int) - (i : Int) = (d1 : Int) := by omega
  have f4 : (d1 : Int) - 1 = (m : Int) := by omega
  have g1 : e ≤ t.size := by omega
  have g2 : l1 ≤ k := by omega
  have g3 : i ≤ e := by omega
  have g4 : m ≤ 100000 := by omega
  have g5 : d1 ≤ 100000 := by omega
  clear hd hql hr hm0 hvn hh hvl hmc ec er hmm hk he hl1 hsm2 h62 htk hw hn0 hv0 hsm hdg hd1
  go_enter Tryd.func20, Tryd.ntmps20
  go_wp2_with fail
  generalize (w.alloc (.cells #[.int .i64 0, .string ⟨#[]⟩, .int .i64 0] 46)) = W0 at hB0 hb0 ⊢
  refine (rsmall_T _ _).mono ?_
  rw [Hsm.out]
  rintro e' w' ⟨rfl, rfl⟩
  go_wp2_with fail
  refine (rdigit_T _ _).mono ?_
  rw [Hdg.out]
  rintro e' w' ⟨rfl, rfl⟩
  go_wp2_with fail
  refine (rsmall_T _ _).mono ?_
  rw [Hsm2.out]
  rintro e' w' ⟨rfl, rfl⟩
  go_wp2_with fail
  refine (hp _).mono ?_
  rintro e' w' ⟨rfl, rfl⟩
  obtain ⟨z0, z1, z2, z3, z4, z5⟩ := R.zero_cells hb0
  by_cases h32 : m ≤ 32
  · have f8 : ((32 : Int) < (m : Int)) = False := eq_false (by omega)
    have H32 := Lib.hid h32
    have hm2 := R.mem_sto w' w.heap.size ⟨3, nm, i⟩ hb0
    have hB6 := R.below_but hB0 (R.but_sto w' w.heap.size ⟨3, nm, i⟩) (Nat.le_refl _) hB0.size
    have Hm2 := Lib.hid hm2
    clear hm2 hb0 h32
    go_wp2_with fail
    have hm2 := Hm2.out
    generalize (World.setCell (World.setCell (World.setCell _ ⟨w.heap.size, 0, none⟩ _) ⟨w.heap.size, 1, none⟩ _) ⟨w.heap.size, 2, none⟩ _) = W at hm2 hB6 ⊢
    exact bodyPost_ret (v := .tuple #[.agg #[.int .i64 3, .string nm, .int .i64 i], .int .i64 e]) (by simp [results, Tryd.results20, go_sem, hm2]) rfl ⟨rfl, hB6⟩
  · have f8 : ((32 : Int) < (m : Int)) = True := eq_true (by omega)
    have H32 := Lib.hid h32
    have hm2 := R.mem_sto w' w.heap.size ⟨6, wh, i⟩ hb0
    have hB6 := R.below_but hB0 (R.but_sto w' w.heap.size ⟨6, wh, i⟩) (Nat.le_refl _) hB0.size
    have Hm2 := Lib.hid hm2
    clear hm2 hb0 h32
    go_wp2_with fail
    have hm2 := Hm2.out
    generalize (World.setCell (World.setCell (World.setCell _ ⟨w.heap.size, 0, none⟩ _) ⟨w.heap.size, 1, none⟩ _) ⟨w.heap.size, 2, none⟩ _) = W at hm2 hB6 ⊢
    exact bodyPost_ret (v := .tuple #[.agg #[.int .i64 6, .string wh, .int .i64 i], .int .i64 e]) (by simp [results, Tryd.results20, go_sem, hm2]) rfl ⟨rfl, hB6⟩

end Go.Proofs.YtlnnblfkigcipaaDoor
