/- What the statements' own seen and Check answer. Conditions: the production lies in memory; its parts are few, its texts no longer than may be. -/
import Derived.Test.YtmnpcpgdhaplaaaRefKnows
import Derived.Test.YtmnpcpgdhaplaaaScCheck
namespace Go.Proofs.Ytmnpcpgdhaplaaa
open Go Go.RowKit

set_option pp.deepTerms true
set_option pp.maxSteps 1000000
set_option maxRecDepth 100000 in
set_option maxHeartbeats 1600000 in
theorem refseen_T (w : World) (lo hi : Nat) (x : AtomV) (s : SlH) (K : List ByteArray) (h : RowIn lo hi 1 strCells w s K) (hhi : hi ≤ w.heap.size) (hl : K.length ≤ 100000) :
    Calls Try.prog 50 #[.agg #[.string x.var, .int .i64 x.sym.k, .string x.sym.t, .int .i64 x.sym.n], .slice s.a s.n s.c] w fun e w' => e = .returned (.bool (allowsB K x.var)) ∧ Below w.heap.size w w' := by
  have hB := boxA w x.var x.sym
  have hhas := refhas_T (w.alloc (.cells #[.string x.var, .int .i64 x.sym.k, .string x.sym.t, .int .i64 x.sym.n] 55)) lo hi s K x.var (h.keep (KeepIn.of_below hB hhi)) hl
  clear h
  cases he : x.var.toList.isEmpty
  case true =>
    have he2 : x.var.toList = [] := by simpa using he
    have Ha : Hid (allowsB K x.var = true) := Lib.hid (by simp [allowsB, he])
    go_enter Try.func50, Try.ntmps50
    go_wp2_with fail
    go_ret
    exact ⟨by rw [Ha.out]; rfl, hB⟩
  have he2 : ¬ x.var.toList = [] := by intro h; rw [h] at he; cases he
  have Ha : Hid (allowsB K x.var = knowsB K x.var) := Lib.hid (by simp [allowsB, he])
  go_enter Try.func50, Try.ntmps50
  go_wp2_with fail
  refine hhas.mono ?_
  rintro e w1 ⟨rfl, rfl⟩
  go_wp2_with fail
  go_ret
  exact ⟨by rw [Ha.out]; rfl, hB⟩

theorem shapeP_shok {p : ProdV} (h : (shapeP p).2 = 0) : ShOkL p.cs := by
  refine shOk_of _ p.cs (Nat.le_refl _) 0 0 ?_
  rw [refL_flat]
  have hw := shape_whole h
  unfold shapeP at h
  rw [hw] at h
  cases hf : firstBad (flatL 0 0 p.cs) with
  | none => rfl
  | some r =>
    rw [hf] at h
    have := firstBad_ne hf
    exact absurd h this

theorem badSuff_some {K : List ByteArray} {l : List ActV} {j : Nat} {a : ActV} (h : l[j]? = some a) (ha : sufficesB K a = false) (hb : ∀ x ∈ l.take j, sufficesB K x = true) : badSuff K l = some j := by
  unfold badSuff
  rw [List.findIdx?_eq_some_iff_getElem]
  obtain ⟨h1, h2⟩ := List.getElem?_eq_some_iff.1 h
  refine ⟨h1, by rw [h2, ha]; rfl, fun i hi => ?_⟩
  have h3 : l[i] ∈ l.take j := List.mem_of_getElem? (i := i) (by rw [List.getElem?_take_of_lt hi]; exact List.getElem?_eq_getElem _)
  rw [hb _ h3]; simp
theorem badSuff_none {K : List ByteArray} {l : List ActV} (hb : ∀ x ∈ l, sufficesB K x = true) : badSuff K l = none := by
  unfold badSuff
  rw [List.findIdx?_eq_none_iff]
  intro x hx
  rw [hb x hx]; rfl

set_option maxRecDepth 100000 in
set_option maxHeartbeats 6400000 in
theorem refcheck_T (w : World) (lo hi : Nat) (p : ProdV) (h : ProdOk lo hi w p) (hhi : hi ≤ w.heap.size) (hl : Light p) (hf : ProdFit p) :
    Calls Try.prog 17 #[.agg #[.string p.name, .slice p.conds.a p.conds.n p.conds.c, .slice p.acts.a p.acts.n p.acts.c]] w fun e w' => e = .returned (.tuple #[.int .i64 (surveyP p).2.1, .int .i64 (surveyP p).2.2]) ∧ Below w.heap.size w w' := by
  have na : p.acts.n = p.xs.length := h.2.1
  obtain ⟨sz1, sz2, sz3⟩ := hl.sizes
  obtain ⟨l1, l2, -, -⟩ := hl
  obtain ⟨aa, haa⟩ : ∃ a, p.acts.a = a := ⟨_, rfl⟩
  have hP0 := pbox w p
  have hsh : ∀ W, Below w.heap.size w W → Calls Try.prog 14 #[.agg #[.string p.name, .slice p.conds.a p.conds.n p.conds.c, .slice aa p.xs.length p.acts.c]] W fun e w' => e = .returned (.tuple #[.int .i64 (shapeP p).1, .int .i64 (shapeP p).2]) ∧ Below W.heap.size W w' := fun W hW => by
    have := refshape_T W lo hi p (h.keep (KeepIn.of_below hW hhi)) (Nat.le_trans hhi hW.size) sz1 sz2 hf
    rw [na, haa] at this
    exact this
  have hsize : ∀ W, Below w.heap.size w W → Calls Try.prog 43 #[.slice p.conds.a p.conds.n p.conds.c] W fun e w' => e = .returned (.int .i64 (sizeL p.cs)) ∧ w' = W := fun W hW => refsize_T lo hi _ p.cs (Nat.le_refl _) W p.conds (h.1.keep (KeepIn.of_below hW hhi)) (by omega)
  have hknows : ∀ W, Below w.heap.size w W → ShOkL p.cs → Calls Try.prog 49 #[.slice p.conds.a p.conds.n p.conds.c, .int .i64 0, .slice none 0 0] W fun e w' => KnowsOut w' (passL [] 0 p.cs) e ∧ Below W.heap.size W w' := fun W hW hs =>
    refknows_T lo hi _ p.cs (Nat.le_refl _) W p.conds 0 ⟨none, 0, 0⟩ [] (h.1.keep (KeepIn.of_below hW hhi)) (Nat.le_trans hhi hW.size) hs ⟨rfl, .inl rfl⟩ (by simp; omega) (by omega) (by omega)
  have hacts : ∀ W, Below w.heap.size w W → RowIn lo hi 19 actCells W ⟨aa, p.xs.length, p.acts.c⟩ p.xs := fun W hW => by
    obtain ⟨h1, h2⟩ := h.2.keep (KeepIn.of_below hW hhi)
    rw [haa] at h2
    exact ⟨rfl, h2⟩
  have hconds : ∀ W, Below w.heap.size w W → CondsOk lo hi W p.conds p.cs := fun W hW => h.1.keep (KeepIn.of_below hW hhi)
  have hbox : ∀ W, PBox w p W → W.cell? ⟨w.heap.size, 0, none⟩ = some (.string p.name) ∧ W.cell? ⟨w.heap.size, 1, none⟩ = some (.slice p.conds.a p.conds.n p.conds.c) ∧ W.cell? ⟨w.heap.size, 2, none⟩ = some (.slice aa p.xs.length p.acts.c) := fun W hW => by
    have := hW.cells
    rw [na, haa] at this
    exact this
  have Hsh := Lib.hid hsh
  have Hsize := Lib.hid hsize
  have Hknows := Lib.hid hknows
  have Hacts := Lib.hid hacts
  have Hconds := Lib.hid hconds
  have Hbox := Lib.hid hbox
  have Hf := Lib.hid hf
  obtain ⟨W0, hW0⟩ : ∃ W0, W0 = w.alloc (.cells #[.string p.name, .slice p.conds.a p.conds.n p.conds.c, .slice p.acts.a p.acts.n p.acts.c] 25) := ⟨_, rfl⟩
  rw [← hW0] at hP0
  rw [na, haa] at hW0 ⊢
  have HW0 := Lib.hid hW0
  have HP0 := Lib.hid hP0
  clear hsh hsize hknows hacts hconds hbox hf h hP0 hW0 na haa
  go_enter Try.func17, Try.ntmps17
  go_wp2_with fail
  rw [← HW0.out]
  refine (Hsh.out W0 HP0.out.below).mono ?_
  rintro e w1 ⟨rfl, hB1⟩
  have HP1 := Lib.hid (HP0.out.next hB1)
  by_cases he : (shapeP p).2 = 0
  case neg =>
    have g1 : ((shapeP p).2 != 0) = true := by simp [he]
    have G1 := Lib.hid g1
    have g2 : ((shapeP p).2 == 0) = false := by simp [he]
    clear he
    go_wp2_with fail
    go_ret2
    exact ⟨by rw [surveyP, G1.out]; rfl, HP1.out.below⟩
  have Hshok := Lib.hid (shapeP_shok he)
  have g1 : ((shapeP p).2 != 0) = false := by simp [he]
  have G1 := Lib.hid g1
  have hne := whole_cs (shape_whole he)
  obtain ⟨c0, hc0⟩ : ∃ c0, p.cs[0]? = some c0 := by
    cases hcs : p.cs with
    | nil => exact absurd hcs hne
    | cons c cs => exact ⟨c, rfl⟩
  have hlen : p.conds.n = p.cs.length := (Hconds.out w1 HP1.out.below).1.1
  obtain ⟨b, off, -, -, hsa, hcell⟩ := (Hconds.out w1 HP1.out.below).1.at hc0
  have k0 : w1.cell? ⟨b, off, none⟩ = some (.int .i64 c0.h.kind) := by have := hcell 0 _ rfl; simpa using this
  obtain ⟨-, m1, m2⟩ := Hbox.out w1 HP1.out
  have hpos : (0 : Int) < (p.conds.n : Int) := by
    rw [hlen]
    have := List.length_pos_iff.2 hne
    omega
  have hpos' : 0 < p.conds.n := by omega
  have Hhead : Hid ((p.cs.head?.map fun c => c.h.kind) = some c0.h.kind) := Lib.hid (by rw [List.head?_eq_getElem?, hc0]; rfl)
  have m1' := m1
  rw [hsa] at m1'
  have Hsa := Lib.hid hsa
  clear hcell hc0 hlen hne m1 he
  by_cases hk1 : c0.h.kind = 1
  case neg =>
    have g3 : (c0.h.kind == 1) = false := by simp [hk1]
    have g4 : (c0.h.kind = 1) = False := eq_false hk1
    have G3 : Hid ((some c0.h.kind != some (1 : Int)) = true) := Lib.hid (by simp [hk1])
    clear hk1
    go_wp2_with fail
    go_ret2
    exact ⟨by rw [surveyP, G1.out, Hhead.out, G3.out]; rfl, HP1.out.below⟩
  have g3 : (c0.h.kind == 1) = true := by simp [hk1]
  have G3 : Hid ((some c0.h.kind != some (1 : Int)) = false) := Lib.hid (by simp [hk1])
  clear hk1
  have hkn := Hknows.out w1 HP1.out.below Hshok.out
  rw [hsa] at hkn
  clear hsa
  go_wp2_with fail
  refine hkn.mono ?_
  rintro e w2 ⟨hko, hB2⟩
  have HP2 := Lib.hid (HP1.out.next hB2)
  clear hkn m1' m2 k0
  obtain ⟨-, m1, m2⟩ := Hbox.out w2 HP2.out
  rcases hko with ⟨hr, g, cap, rfl, hrow⟩ | ⟨hr, rfl⟩
  case inr =>
    have Hr := Lib.hid hr
    clear hr
    go_wp2_with fail
    go_ret2
    exact ⟨by rw [surveyP, G1.out, Hhead.out, G3.out, Hr.out]; rfl, HP2.out.below⟩
  have Hpo := Lib.hid (pass_ok _ p.cs (Nat.le_refl _) Hshok.out [] 0 hr)
  have Hr := Lib.hid hr
  have hKl : (passL [] 0 p.cs).1.length ≤ 100000 := by
    have := passL_le [] 0 p.cs
    simp at this; omega
  obtain ⟨K, hK⟩ : ∃ K, (passL [] 0 p.cs).1 = K := ⟨_, rfl⟩
  rw [hK] at hrow hKl ⊢
  have HK := Lib.hid hK
  have Hrow := Lib.hid hrow
  clear hr hK hrow
  go_wp2_with fail
  refine (Hsize.out w2 HP2.out.below).mono ?_
  rintro e w3 ⟨rfl, rfl⟩
  go_wp2_with fail
  go_loopg [9] p.xs.length (fun k iv wr => ∃ j : Nat, iv = .int .i64 j ∧ j ≤ p.xs.length ∧ Hid (k = p.xs.length - j ∧ ∀ a ∈ p.xs.take j, sufficesB K a = true) ∧ Below w3.heap.size w3 wr)
  case atStart => exact ⟨0, rfl, by omega, Lib.hid ⟨rfl, by simp⟩, Below.refl _ _⟩
  case round =>
    obtain ⟨j, rfl, hj, Hm, hBr⟩ := hrel
    have HPr := Lib.hid (HP2.out.next hBr)
    clear m1 m2
    obtain ⟨-, m1, m2⟩ := Hbox.out wr HPr.out
    by_cases hlt : j < p.xs.length
    · obtain ⟨a, ha⟩ : ∃ a, p.xs[j]? = some a := ⟨p.xs[j], by simp [hlt]⟩
      obtain ⟨ba, oa, -, -, haa2, hcell⟩ := (Hacts.out wr HPr.out.below).at ha
      replace haa2 : aa = some ⟨ba, oa, none⟩ := haa2
      subst haa2
      have Hrange : Hid (wr.rangeAt ba (oa + j * 19) (actCells a)) := Lib.hid hcell
      have hBa : Below wr.heap.size wr (wr.alloc (.cells #[.string a.id, .string a.attr.var, .int .i64 a.attr.sym.k, .string a.attr.sym.t, .int .i64 a.attr.sym.n, .int .i64 a.value.op, .string a.value.a.var, .int .i64 a.value.a.sym.k, .string a.value.a.sym.t, .int .i64 a.value.a.sym.n, .string a.value.b.var, .int .i64 a.value.b.sym.k, .string a.value.b.sym.t, .int .i64 a.value.b.sym.n, .int .i64 a.pref, .string a.other.var, .int .i64 a.other.sym.k, .string a.other.sym.t, .int .i64 a.other.sym.n] 59)) := below2 _ _ _
      have Hnb := Lib.hid (heap_alloc_new wr (.cells #[.string a.id, .string a.attr.var, .int .i64 a.attr.sym.k, .string a.attr.sym.t, .int .i64 a.attr.sym.n, .int .i64 a.value.op, .string a.value.a.var, .int .i64 a.value.a.sym.k, .string a.value.a.sym.t, .int .i64 a.value.a.sym.n, .string a.value.b.var, .int .i64 a.value.b.sym.k, .string a.value.b.sym.t, .int .i64 a.value.b.sym.n, .int .i64 a.pref, .string a.other.var, .int .i64 a.other.sym.k, .string a.other.sym.t, .int .i64 a.other.sym.n] 59))
      have hBra := hBr.trans (hBa.mono hBr.size)
      have Ha := Lib.hid ha
      have hcc : ∀ W, Below (wr.alloc (.cells #[.string a.id, .string a.attr.var, .int .i64 a.attr.sym.k, .string a.attr.sym.t, .int .i64 a.attr.sym.n, .int .i64 a.value.op, .string a.value.a.var, .int .i64 a.value.a.sym.k, .string a.value.a.sym.t, .int .i64 a.value.a.sym.n, .string a.value.b.var, .int .i64 a.value.b.sym.k, .string a.value.b.sym.t, .int .i64 a.value.b.sym.n, .int .i64 a.pref, .string a.other.var, .int .i64 a.other.sym.k, .string a.other.sym.t, .int .i64 a.other.sym.n] 59)).heap.size (wr.alloc (.cells #[.string a.id, .string a.attr.var, .int .i64 a.attr.sym.k, .string a.attr.sym.t, .int .i64 a.attr.sym.n, .int .i64 a.value.op, .string a.value.a.var, .int .i64 a.value.a.sym.k, .string a.value.a.sym.t, .int .i64 a.value.a.sym.n, .string a.value.b.var, .int .i64 a.value.b.sym.k, .string a.value.b.sym.t, .int .i64 a.value.b.sym.n, .int .i64 a.pref, .string a.other.var, .int .i64 a.other.sym.k, .string a.other.sym.t, .int .i64 a.other.sym.n] 59)) W →
        (W.cell? ⟨wr.heap.size, 1, none⟩ = some (.string a.attr.var) ∧ W.cell? ⟨wr.heap.size, 2, none⟩ = some (.int .i64 a.attr.sym.k) ∧ W.cell? ⟨wr.heap.size, 3, none⟩ = some (.string a.attr.sym.t) ∧ W.cell? ⟨wr.heap.size, 4, none⟩ = some (.int .i64 a.attr.sym.n)) ∧
        (W.cell? ⟨wr.heap.size, 5, none⟩ = some (.int .i64 a.value.op) ∧ W.cell? ⟨wr.heap.size, 6, none⟩ = some (.string a.value.a.var) ∧ W.cell? ⟨wr.heap.size, 7, none⟩ = some (.int .i64 a.value.a.sym.k) ∧ W.cell? ⟨wr.heap.size, 8, none⟩ = some (.string a.value.a.sym.t) ∧ W.cell? ⟨wr.heap.size, 9, none⟩ = some (.int .i64 a.value.a.sym.n) ∧ W.cell? ⟨wr.heap.size, 10, none⟩ = some (.string a.value.b.var) ∧ W.cell? ⟨wr.heap.size, 11, none⟩ = some (.int .i64 a.value.b.sym.k) ∧ W.cell? ⟨wr.heap.size, 12, none⟩ = some (.string a.value.b.sym.t) ∧ W.cell? ⟨wr.heap.size, 13, none⟩ = some (.int .i64 a.value.b.sym.n)) := by
        intro W hW
        have := (hW.block _ (lt_of_block Hnb.out)).trans Hnb.out
        simp [World.cell?, this]
      have Hcc := Lib.hid hcc
      have hseen : ∀ (x : AtomV) W, Below w3.heap.size w3 W → Calls Try.prog 50 #[.agg #[.string x.var, .int .i64 x.sym.k, .string x.sym.t, .int .i64 x.sym.n], .slice g K.length cap] W fun e w' => e = .returned (.bool (allowsB K x.var)) ∧ Below W.heap.size W w' := fun x W hW =>
        refseen_T W 0 w3.heap.size x ⟨g, K.length, cap⟩ K (Hrow.out.keep (KeepIn.of_below hW (Nat.le_refl _))) hW.size hKl
      have Hseen := Lib.hid hseen
      obtain ⟨⟨f1, f2, f3, f4⟩, -⟩ := hcc _ (Below.refl _ _)
      have HBra := Lib.hid hBra
      clear hcell ha hcc hseen hBa
      go_wp2_with (first
        | refine wpList_load_mid rfl 59 _ rfl ba (oa + j * 19) rfl _ _ Hrange.out Try.underlying59 rfl (by kernel_rfl) ?_
        | refine wpList_store_new rfl 59 _ _ rfl rfl wr _ #[.string a.id, .string a.attr.var, .int .i64 a.attr.sym.k, .string a.attr.sym.t, .int .i64 a.attr.sym.n, .int .i64 a.value.op, .string a.value.a.var, .int .i64 a.value.a.sym.k, .string a.value.a.sym.t, .int .i64 a.value.a.sym.n, .string a.value.b.var, .int .i64 a.value.b.sym.k, .string a.value.b.sym.t, .int .i64 a.value.b.sym.n, .int .i64 a.pref, .string a.other.var, .int .i64 a.other.sym.k, .string a.other.sym.t, .int .i64 a.other.sym.n] rfl rfl rfl (by kernel_rfl) rfl (act_one a) ?_)
      refine (Hseen.out a.attr _ hBra).mono ?_
      rintro e w5 ⟨rfl, hB5⟩
      have hBr5 := hBra.trans (hB5.mono hBra.size)
      obtain ⟨-, f5, f6, f7, f8, f9, f10, f11, f12, f13⟩ := Hcc.out w5 hB5
      clear f1 f2 f3 f4
      have Fin : Hid (∀ W, Below w3.heap.size w3 W → sufficesB K a = false → (Ending.returned (.tuple #[.int .i64 ((sizeL p.cs : Int) + (j : Int)), .int .i64 6]) = Ending.returned (.tuple #[.int .i64 (surveyP p).2.1, .int .i64 (surveyP p).2.2]) ∧ Below w.heap.size w W)) := Lib.hid fun W hW hs => by
        refine ⟨?_, (HP2.out.next hW).below⟩
        have e1 := badSuff_some Ha.out hs Hm.out.2
        have e2 := Hpo.out
        rw [surveyP, G1.out, Hhead.out, G3.out, Hr.out, HK.out, e1, e2]
        simp
      have wr1 : IntKind.i64.wrap ((sizeL p.cs : Int) + (j : Int)) = (sizeL p.cs : Int) + j := IntWalk.i64_in _ (by omega)
      cases ha1 : allowsB K a.attr.var
      · have Hs : Hid (sufficesB K a = false) := Lib.hid (by simp [sufficesB, ha1])
        clear ha1
        go_wp2_with fail
        go_ret2
        exact Fin.out _ hBr5 Hs.out
      have Ha1 := Lib.hid ha1
      clear ha1
      have Next : Hid (∀ W, Below w3.heap.size w3 W → sufficesB K a = true → ∃ j' : Nat, Value.int .i64 ((j : Int) + 1) = .int .i64 j' ∧ j' ≤ p.xs.length ∧ Hid (p.xs.length - (j + 1) = p.xs.length - j' ∧ ∀ a ∈ p.xs.take j', sufficesB K a = true) ∧ Below w3.heap.size w3 W) := Lib.hid fun W hW hs => by
        refine ⟨j + 1, by go_num, by omega, Lib.hid ⟨rfl, fun y hy => ?_⟩, hW⟩
        rw [List.take_add_one, Ha.out] at hy
        rcases List.mem_append.1 hy with hy | hy
        · exact Hm.out.2 y hy
        · obtain rfl : y = a := by simpa using hy
          exact hs
      by_cases ho : a.value.op = 0
      · have g5 : (a.value.op == 0) = true := by simp [ho]
        have g7 : (a.value.op != 0) = false := by simp [ho]
        have g8 : (a.value.op = 0) = True := eq_true ho
        have Hs : Hid (sufficesB K a = true) := Lib.hid (by simp [sufficesB, Ha1.out, ho])
        clear ho
        go_wp2_with fail
        go_roundg (p.xs.length - (j + 1))
        case measure => rw [Hm.out.1]; omega
        case rel => exact Next.out _ hBr5 Hs.out
      have g5 : (a.value.op == 0) = false := by simp [ho]
      have g6 : (a.value.op = 0) = False := eq_false ho
      have g7 : (a.value.op != 0) = true := by simp [ho]
      have Ho := Lib.hid ho
      clear ho
      go_wp2_with fail
      refine (Hseen.out a.value.a _ hBr5).mono ?_
      rintro e w6 ⟨rfl, hB6⟩
      have hBr6 := hBr5.trans (hB6.mono hBr5.size)
      clear f5 f6 f7 f8 f9 f10 f11 f12 f13
      obtain ⟨-, f5, f6, f7, f8, f9, f10, f11, f12, f13⟩ := Hcc.out w6 (hB5.trans (hB6.mono hB5.size))
      cases ha2 : allowsB K a.value.a.var
      · have Hs : Hid (sufficesB K a = false) := Lib.hid (by simp [sufficesB, ha2, Ho.out])
        clear ha2
        go_wp2_with fail
        go_ret2
        exact Fin.out _ hBr6 Hs.out
      have Ha2 := Lib.hid ha2
      clear ha2
      go_wp2_with fail
      refine (Hseen.out a.value.b _ hBr6).mono ?_
      rintro e w7 ⟨rfl, hB7⟩
      have hBr7 := hBr6.trans (hB7.mono hBr6.size)
      cases ha3 : allowsB K a.value.b.var
      · have Hs : Hid (sufficesB K a = false) := Lib.hid (by simp [sufficesB, ha3, Ho.out])
        clear ha3
        go_wp2_with fail
        go_ret2
        exact Fin.out _ hBr7 Hs.out
      · have Hs : Hid (sufficesB K a = true) := Lib.hid (by simp [sufficesB, ha3, Ha1.out, Ha2.out])
        clear ha3
        go_wp2_with fail
        go_roundg (p.xs.length - (j + 1))
        case measure => rw [Hm.out.1]; omega
        case rel => exact Next.out _ hBr7 Hs.out
    · obtain rfl : j = p.xs.length := by omega
      go_wp2_with fail
      go_ret2
      have e1 : badSuff K p.xs = none := badSuff_none (by have := Hm.out.2; rwa [List.take_length] at this)
      exact ⟨by rw [surveyP, G1.out, Hhead.out, G3.out, Hr.out, HK.out, e1]; rfl, HPr.out.below⟩

end Go.Proofs.Ytmnpcpgdhaplaaa
