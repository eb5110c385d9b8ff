/- Blocks that stay as they are; rows of conditions that are one's own. Conditions: none. -/
import Derived.Test.YtmnpcpgdhaplaaaWake
import Derived.Test.YtmnpcpgdhaplaaaMg29
import Derived.Below
import Derived.Deep.AppendLies
import Derived.Laws.OwnMore
import Derived.Great.BuildSlice
import Derived.Laws.Rows
namespace Go.Proofs.Ytmnpcpgdhaplaaa
open Go Go.RowKit

/-- What Within answers. -/
def wm (v n : Int) : Int := if v.tmod n < 0 then v.tmod n + n else v.tmod n

theorem within_m (w : World) (v n : Int) (hn : 1 ≤ n) (hn2 : n ≤ 1000000) :
    Calls Try.prog 23 #[.int .i64 v, .int .i64 n] w fun e w' => e = .returned (.int .i64 (wm v n)) ∧ w' = w := by
  have h1 : (n < 1) = False := by simp; omega
  have h2 := Int.tmod_lt_of_pos v (show 0 < n by omega)
  have h3 := Int.lt_tmod_of_pos v (show 0 < n by omega)
  have H2 := Lib.hid h2
  have H3 := Lib.hid h3
  clear h2 h3
  go_enter Try.func23, Try.ntmps23
  go_wp2_with fail
  · rename_i h
    have h3 := H3.out
    have e : wrap64 (v.tmod n + n) = v.tmod n + n := by unfold wrap64; omega
    go_ret
    exact ⟨by rw [wm, if_pos h]; exact congrArg (fun z => Ending.returned (.int .i64 z)) e, rfl⟩
  · rename_i h
    go_ret
    have e : wm v n = v.tmod n := by rw [wm, if_neg (by omega)]
    exact ⟨by rw [e]; rfl, rfl⟩

theorem wm_lt (v n : Int) (hn : 1 ≤ n) : 0 ≤ wm v n ∧ wm v n < n := by
  have h2 := Int.tmod_lt_of_pos v (show 0 < n by omega)
  have h3 := Int.lt_tmod_of_pos v (show 0 < n by omega)
  unfold wm
  split <;> omega

def Blks (W : World) (L : List (Nat × Obj)) : Prop := ∀ p ∈ L, W.heap[p.1]? = some p.2
theorem lt_of_heap {W : World} {b : Nat} {o : Obj} (h : W.heap[b]? = some o) : b < W.heap.size := (Array.getElem?_eq_some_iff.1 h).1
theorem Blks.below {W W' : World} {L : List (Nat × Obj)} (h : Blks W L) (hB : Below W.heap.size W W') : Blks W' L := fun p hp => (hB.block _ (lt_of_heap (h p hp))).trans (h p hp)
theorem Blks.but {W W' : World} {L : List (Nat × Obj)} {b : Nat} (h : Blks W L) (hB : But b W W') (hn : ∀ p ∈ L, p.1 ≠ b) : Blks W' L := fun p hp => (hB.block _ (lt_of_heap (h p hp)) (hn p hp)).trans (h p hp)
theorem Blks.grown {W W' : World} {L : List (Nat × Obj)} {r : Option Nat} (h : Blks W L) (hg : W.grownBy W' r) (hn : ∀ p ∈ L, r ≠ some p.1) : Blks W' L := fun p hp => (hg.block _ (lt_of_heap (h p hp)) (fun e => hn p hp e.symm)).trans (h p hp)
theorem Blks.cons {W : World} {L : List (Nat × Obj)} {b : Nat} {o : Obj} (h : Blks W L) (hb : W.heap[b]? = some o) : Blks W ((b, o) :: L) := fun p hp => by
  rcases List.mem_cons.1 hp with rfl | hp
  · exact hb
  · exact h p hp

theorem own_below {W W' : World} {B k n : Nat} {T : TypeId} {v : Value} {xs : List Value} (h : W.ownsRow B T k v n xs) (hB : Below W.heap.size W W') : W'.ownsRow B T k v n xs := by
  refine ⟨h.1, ?_⟩
  rcases h.2 with hn | ⟨g, cap, cur, rfl, hb, hg, rest⟩
  · exact .inl hn
  · exact .inr ⟨g, cap, cur, rfl, hb, (hB.block _ (lt_of_block hg)).trans hg, rest⟩
theorem own_but {W W' : World} {B k n b : Nat} {T : TypeId} {v : Value} {xs : List Value} (h : W.ownsRow B T k v n xs) (hB : But b W W') (hne : v.ownBlock ≠ some b) : W'.ownsRow B T k v n xs := by
  refine ⟨h.1, ?_⟩
  rcases h.2 with hn | ⟨g, cap, cur, rfl, hb, hg, rest⟩
  · exact .inl hn
  · exact .inr ⟨g, cap, cur, rfl, hb, (hB.block _ (lt_of_block hg) (fun e => hne (by rw [e]; rfl))).trans hg, rest⟩
theorem own_ne {W : World} {B k n : Nat} {T : TypeId} {v : Value} {xs : List Value} (h : W.ownsRow B T k v n xs) {p : Nat} {c : Array Value} {T' : TypeId} {f : Nat × Nat} (hp : W.heap[p]? = some (.cells c T' f)) (hne : T' ≠ T ∨ c.size < n * k) : v.ownBlock ≠ some p := by
  rcases h.2 with ⟨rfl, -⟩ | ⟨g, cap, cur, rfl, hb, hg, hn, -, hs, -⟩
  · simp [Value.ownBlock]
  · intro e
    have e1 : g = p := by simpa [Value.ownBlock] using e
    subst e1
    rw [hg] at hp
    cases hp
    rcases hne with h1 | h1
    · exact h1 rfl
    · have := Nat.mul_le_mul_right k hn
      omega
theorem Blks.ne_own {W : World} {L : List (Nat × Obj)} (h : Blks W L) {B k n : Nat} {T : TypeId} {v : Value} {xs : List Value} (ho : W.ownsRow B T k v n xs) (hne : ∀ p ∈ L, ∃ c T' f, p.2 = .cells c T' f ∧ (T' ≠ T ∨ c.size < n * k)) : ∀ p ∈ L, v.ownBlock ≠ some p.1 := fun p hp => by
  obtain ⟨c, T', f, e, h1⟩ := hne p hp
  exact own_ne ho (by rw [h p hp, e]) h1

abbrev flatC' (cs : List CondV) : List Value := cs.flatMap condCells
theorem flatC'_get (cs : List CondV) : ∀ (i j : Nat) (x : CondV) (u : Value), cs[i]? = some x → (condCells x)[j]? = some u → (flatC' cs)[i * 7 + j]? = some u := by
  induction cs with
  | nil => intro i j x u h; simp at h
  | cons c cs ih =>
    intro i j x u h hu
    cases i with
    | zero =>
      obtain rfl : c = x := by simpa using h
      have hj : j < 7 := by have := (List.getElem?_eq_some_iff.1 hu).1; simpa using this
      rw [Nat.zero_mul, Nat.zero_add]
      rw [show flatC' (c :: cs) = condCells c ++ flatC' cs from rfl, List.getElem?_append_left (by simpa using hj)]
      exact hu
    | succ i =>
      rw [show flatC' (c :: cs) = condCells c ++ flatC' cs from rfl, List.getElem?_append_right (by simp; omega)]
      have e : (i + 1) * 7 + j - (condCells c).length = i * 7 + j := by simp; omega
      rw [e]
      exact ih i j x u (by simpa using h) hu
theorem flatC'_length (cs : List CondV) : (flatC' cs).length = cs.length * 7 := by
  induction cs with
  | nil => rfl
  | cons c cs ih => rw [show flatC' (c :: cs) = condCells c ++ flatC' cs from rfl, List.length_append, ih]; simp; omega

/-- A part of one's own row of conditions. -/
theorem rowIn_own {W : World} {B g cap : Nat} {T : TypeId} {cs ds es : List CondV} (h : W.ownsRow B T 7 (.slice (some ⟨g, 0, none⟩) cs.length cap) cs.length (flatC' cs)) (he : cs = ds ++ es) (m cp : Nat) (hm : m = es.length) (o : Nat) (hd : o = ds.length * 7) : RowIn B W.heap.size 7 condCells W ⟨some ⟨g, o, none⟩, m, cp⟩ es := by
  refine ⟨hm, .inr ⟨g, o, ?_, ?_, rfl, fun i x hi j u hu => ?_⟩⟩
  · rcases h.2 with ⟨h1, -⟩ | ⟨g', _, _, h1, hb, -⟩
    · cases h1
    · cases h1; exact hb
  · exact (h.lt g rfl).2
  · subst he hd
    have h1 : (ds ++ es)[ds.length + i]? = some x := by rw [List.getElem?_append_right (by omega)]; simpa using hi
    have h2 := flatC'_get _ _ _ _ _ h1 hu
    have h3 := (List.getElem?_eq_some_iff.1 h2).1
    rw [flatC'_length] at h3
    rw [show ds.length * 7 + i * 7 + j = (ds.length + i) * 7 + j by omega, h.cellAt _ h3]
    exact h2

theorem row7_cells {W : World} {b : Nat} {x0 x1 x2 x3 x4 x5 x6 : Value} {T : TypeId} (h : W.heap[b]? = some (.cells #[x0, x1, x2, x3, x4, x5, x6] T (0, 0))) : (W.cell? ⟨b, 0, none⟩ = some x0 ∧ W.cell? ⟨b, 1, none⟩ = some x1 ∧ W.cell? ⟨b, 2, none⟩ = some x2 ∧ W.cell? ⟨b, 3, none⟩ = some x3 ∧ W.cell? ⟨b, 4, none⟩ = some x4 ∧ W.cell? ⟨b, 5, none⟩ = some x5 ∧ W.cell? ⟨b, 6, none⟩ = some x6) ∧ W.frozen? ⟨b, 0, none⟩ = false ∧ W.frozen? ⟨b, 1, none⟩ = false ∧ W.frozen? ⟨b, 2, none⟩ = false ∧ W.frozen? ⟨b, 3, none⟩ = false ∧ W.frozen? ⟨b, 4, none⟩ = false ∧ W.frozen? ⟨b, 5, none⟩ = false ∧ W.frozen? ⟨b, 6, none⟩ = false := by simp [World.cell?, World.frozen?, h]

theorem infoC : (Try.prog.info? 64).map (fun i => (i.zero, i.size, i.bytes)) = some (some (.agg #[.int .i64 0, .bool false, .string ⟨#[]⟩, .slice none 0 0, .slice none 0 0, .bool false, .slice none 0 0]), 7, 112) := by kernel_rfl

theorem cells_one (c : CondV) : ∀ u ∈ condCells c, u.oneCell' = true := by
  intro u hu
  simp at hu
  rcases hu with rfl | rfl | rfl | rfl | rfl | rfl | rfl <;> rfl

theorem append_cond {w : World} {ops : Array Oper} {rest : List Oper} {o : Oper} {a : Act} {Q : Exit → Act → World → Prop} (hgd : o.guard = none) (s x : Operand)
    (ho : o.op = .call { callee := .builtin .append, args := #[s, x], argTypes := #[22, 22] })
    (B : Nat) (v : Value) (cs : List CondV) (y : CondV) (hs : a.eval s = v) (hown : w.ownsRow B 64 7 v cs.length (flatC' cs)) (q : Nat) (hx : a.eval x = .slice (some ⟨q, 0, none⟩) 1 1)
    (T : TypeId) (f : Nat × Nat) (hsrc : w.heap[q]? = some (.cells #[.int .i64 y.h.kind, .bool y.h.goal, .string y.h.id, .slice y.h.attr.a y.h.attr.n y.h.attr.c, .slice y.h.value.a y.h.value.n y.h.value.c, .bool y.h.acc, .slice y.h.conds.a y.h.conds.n y.h.conds.c] T f)) (hlen : cs.length ≤ 1000) (hbase : B ≤ w.heap.size)
    (h : ∀ g cap w', cs.length + 1 ≤ cap → cap ≤ maxLen → w'.ownsRow B 64 7 (.slice (some ⟨g, 0, none⟩) (cs ++ [y]).length cap) (cs ++ [y]).length (flatC' (cs ++ [y])) → B ≤ g → w.grownBy w' v.ownBlock → wpList Try.prog ops Q rest (a.put o.dst (.slice (some ⟨g, 0, none⟩) (cs.length + 1) cap)) w') : wpList Try.prog ops Q (o :: rest) a w := by
  obtain ⟨i0, hi, hz0, hz1, hz2⟩ := info_parts infoC
  refine wpList_append_own w hgd s x _ ho B 64 i0 _ 7 112 Try.underlying22 hi hz0 hz1 hz2 rfl (by decide) v cs.length (flatC' cs) hs hown ⟨q, 0, none⟩ 1 1 (condCells y) hx rfl (World.news_of_block hsrc) (cells_one y) (by unfold maxLen; omega) (by omega) hbase ?_
  intro v' w' h1 h2 _
  have e1 : flatC' cs ++ condCells y = flatC' (cs ++ [y]) := by simp [flatC']
  have e2 : (cs ++ [y]).length = cs.length + 1 := by simp
  rcases h1.2 with ⟨-, h0⟩ | ⟨g, cap, cur, rfl, hb, hg, hn, hm, -⟩
  · omega
  · exact h g cap w' hn hm (by rw [← e1, e2]; exact h1) hb h2

theorem but_setRow (w : World) (b : Nat) (cs : Array Value) : But b w (w.setRow b cs) := ⟨rfl, rfl, rfl, by simp, fun k _ hk => setRow_other w b k cs hk⟩

/-- A guard: the next step stores into the world that a block was added to last. -/
theorem at_row_store {P : Program} {ops : Array Oper} {rest : List Oper} {a : Act} {w : World} {ob : Obj} {Q : Exit → Act → World → Prop} {d : _} {ty : TypeId} {x y : Operand} {t : _} {pos : _} {af : _} {g : _}
    (h : wpList P ops Q ({ dst := d, op := .store ty x y, type := t, pos := pos, after := af, guard := g } :: rest) a (w.alloc ob)) : wpList P ops Q ({ dst := d, op := .store ty x y, type := t, pos := pos, after := af, guard := g } :: rest) a (w.alloc ob) := h

/-- The condition that comes second, alone or within an All. -/
def innC (k : Int) (i1 i2 : Nat) : CondV := .mk ⟨k, false, ⟨#[115]⟩, ⟨some ⟨i1, 0, none⟩, 1, 1⟩, [⟨1, ⟨#[]⟩, ⟨3, ⟨#[112]⟩, 0⟩, ⟨none, 0, 0⟩, []⟩], ⟨some ⟨i2, 0, none⟩, 1, 1⟩, [⟨1, ⟨#[118]⟩, ⟨0, ⟨#[]⟩, 0⟩, ⟨none, 0, 0⟩, []⟩], false, ⟨none, 0, 0⟩⟩ []
def allC (i3 i1 i2 : Nat) : CondV := .mk ⟨3, false, ⟨#[]⟩, ⟨none, 0, 0⟩, [], ⟨none, 0, 0⟩, [], false, ⟨some ⟨i3, 0, none⟩, 1, 1⟩⟩ [innC 1 i1 i2]

/-- The condition that comes last. -/
def lastC (id : ByteArray) (l1 : Nat) (vs : SlH) (vt : List TestV) : CondV := .mk ⟨1, false, id, ⟨some ⟨l1, 0, none⟩, 1, 1⟩, [⟨1, ⟨#[]⟩, ⟨3, ⟨#[113]⟩, 0⟩, ⟨none, 0, 0⟩, []⟩], vs, vt, false, ⟨none, 0, 0⟩⟩ []
def useT (r : Int) : TestV := ⟨r, ⟨#[118]⟩, ⟨0, ⟨#[]⟩, 0⟩, ⟨none, 0, 0⟩, []⟩
def actV : ActV := ⟨⟨#[115]⟩, ⟨⟨#[118]⟩, ⟨0, ⟨#[]⟩, 0⟩⟩, ⟨0, ⟨⟨#[]⟩, ⟨2, ⟨#[]⟩, 2⟩⟩, ⟨⟨#[]⟩, ⟨0, ⟨#[]⟩, 0⟩⟩⟩, 1, ⟨⟨#[]⟩, ⟨0, ⟨#[]⟩, 0⟩⟩⟩

theorem tests_one {W : World} {lo b c : Nat} {t : TestV} {l : List Value} {T : TypeId} {f : Nat × Nat} (h : W.heap[b]? = some (.cells l.toArray T f)) (hl : testCells t = l) (hlo : lo ≤ b) (hn : t.lst = ⟨none, 0, 0⟩) (hs : t.syms = []) : TestsOk lo W.heap.size W ⟨some ⟨b, 0, none⟩, 1, c⟩ [t] :=
  ⟨rowIn_one h hl hlo, fun x hx => by
    obtain rfl := List.mem_singleton.1 hx
    rw [hn, hs]
    exact rowIn_nil⟩
theorem tests_nil {W : World} {lo hi : Nat} : TestsOk lo hi W ⟨none, 0, 0⟩ [] := ⟨rowIn_nil, fun x hx => by simp at hx⟩

theorem inn_ok {W : World} {lo i1 i2 : Nat} {k : Int} (h1 : W.heap[i1]? = some (.cells #[.int .i64 1, .string ⟨#[]⟩, .int .i64 3, .string ⟨#[112]⟩, .int .i64 0, .slice none 0 0] 67 (0, 0))) (h2 : W.heap[i2]? = some (.cells #[.int .i64 1, .string ⟨#[118]⟩, .int .i64 0, .string ⟨#[]⟩, .int .i64 0, .slice none 0 0] 67 (0, 0))) (l1 : lo ≤ i1) (l2 : lo ≤ i2) : CondOk lo W.heap.size W (innC k i1 i2) :=
  ⟨tests_one (l := _) h1 rfl l1 rfl rfl, tests_one (l := _) h2 rfl l2 rfl rfl, rowIn_nil, trivial⟩
theorem all_ok {W : World} {lo i3 i1 i2 : Nat} (h3 : W.heap[i3]? = some (.cells #[.int .i64 1, .bool false, .string ⟨#[115]⟩, .slice (some ⟨i1, 0, none⟩) 1 1, .slice (some ⟨i2, 0, none⟩) 1 1, .bool false, .slice none 0 0] 64 (0, 0))) (l3 : lo ≤ i3) (h : CondOk lo W.heap.size W (innC 1 i1 i2)) : CondOk lo W.heap.size W (allC i3 i1 i2) :=
  ⟨tests_nil, tests_nil, rowIn_one (l := _) h3 rfl l3, h, trivial⟩
theorem last_ok {W : World} {lo l1 : Nat} {id : ByteArray} {vs : SlH} {vt : List TestV} (h1 : W.heap[l1]? = some (.cells #[.int .i64 1, .string ⟨#[]⟩, .int .i64 3, .string ⟨#[113]⟩, .int .i64 0, .slice none 0 0] 67 (0, 0))) (k1 : lo ≤ l1) (h : TestsOk lo W.heap.size W vs vt) : CondOk lo W.heap.size W (lastC id l1 vs vt) :=
  ⟨tests_one (l := _) h1 rfl k1 rfl rfl, h, rowIn_nil, trivial⟩
theorem one_okC {W : World} {lo t1 t2 : Nat} {g : Bool} (h1 : W.heap[t1]? = some (.cells #[.int .i64 1, .string ⟨#[]⟩, .int .i64 3, .string ⟨#[120]⟩, .int .i64 0, .slice none 0 0] 67 (0, 0))) (h2 : W.heap[t2]? = some (.cells #[.int .i64 1, .string ⟨#[]⟩, .int .i64 2, .string ⟨#[]⟩, .int .i64 1, .slice none 0 0] 67 (0, 0))) (k1 : lo ≤ t1) (k2 : lo ≤ t2) : CondOk lo W.heap.size W (oneC t1 t2 g) :=
  ⟨tests_one (l := _) h1 rfl k1 rfl rfl, tests_one (l := _) h2 rfl k2 rfl rfl, rowIn_nil, trivial⟩

end Go.Proofs.Ytmnpcpgdhaplaaa
