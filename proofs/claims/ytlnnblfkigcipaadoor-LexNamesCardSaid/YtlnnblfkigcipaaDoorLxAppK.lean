/- An append to a row of tokens leaves tokens' boxes as they lie. Conditions: the row is nil where it is empty. -/
import Derived.Test.YtlnnblfkigcipaaDoorLxTokK
import Derived.RangeFuncBox
import Derived.Maps.AppendAt
import Derived.Deep.AppendLies
import Derived.Deep.Onto
namespace Go.Proofs.YtlnnblfkigcipaaDoor
open Go Go.RowKit

theorem run_append_keep {P : Program} (w : World) (base : Nat) (t ty e : TypeId) (i : TypeInfo) (z : Value) (size bytes : Nat) (ht : P.underlying t = some (.slice e)) (hi : P.info? e = some i) (hz : i.zero = some z)
    (hsize : i.size = size) (hby : i.bytes = bytes) (hzs : z.cells.size = size) (hsz : 0 < size)
    (v : Value) (n : Nat) (xs : List Value) (hown : w.ownsRow base e size v n xs) (hv : n = 0 → v = .slice none 0 0)
    (a : Addr) (m c : Nat) (news : List Value) (hm : 1 ≤ m) (hl : news.length = m * size) (hnews : ∀ j u, news[j]? = some u → w.cell? (a.add j) = some u) (h1 : ∀ u ∈ news, u.oneCell' = true)
    (h63 : n + m ≤ maxLen) (hbytes : (n + m) * bytes ≤ 140737488355328) (hbase : base ≤ w.heap.size) :
    ∃ v' w', (Builtin.append_ #[t, t] ty #[v, .slice (some a) m c]).run P w = .ok v' w' ∧ w'.ownsRow base e size v' (n + m) (xs ++ news) ∧ w.grownBy w' v.ownBlock ∧
      (∀ (b : Nat) (cs : Array Value), w.heap[b]? = some (.cells cs e (0, 0)) → cs.size = size → w'.heap[b]? = some (.cells cs e (0, 0))) := by
  obtain ⟨v', w', h2, h3, h4, -⟩ := run_append_own (P := P) w base t ty e i z size bytes ht hi hz hsize hby hzs hsz v n xs hown a m c news hl hnews h1 h63 hbytes hbase
  refine ⟨v', w', h2, h3, h4, fun b cs hb hs => ?_⟩
  have hlt := lt_of_block hb
  rcases hown.2 with ⟨rfl, rfl⟩ | ⟨g, cap, cur, rfl, hbg, hg, hnc, hcm, hcs, htake⟩
  · exact (h4.block b hlt (by simp [Value.ownBlock])).trans hb
  · by_cases hroom : n + m ≤ cap
    · refine (h4.block b hlt ?_).trans hb
      intro e'
      have e' : b = g := by simpa [Value.ownBlock] using e'
      subst e'
      rw [hg] at hb
      cases hb
      have hn : n ≠ 0 := fun h => by have := hv h; cases this
      have h2c : 2 ≤ cap := by omega
      have : 2 * size ≤ cap * size := Nat.mul_le_mul_right _ h2c
      omega
    · have holds : ∀ j u, xs[j]? = some u → w.cell? ((⟨g, 0, none⟩ : Addr).add j) = some u := hown.cells (g := g) rfl
      subst hsize
      subst hby
      have hr := run_append_grow (P := P) w t ty e i z ht hi hz ⟨g, 0, none⟩ n cap xs hown.1 holds a m c news hl hnews (by omega) (by simp only [maxLen] at h63; omega) (growslice_fits (by omega) hbytes)
      rw [hr] at h2
      cases h2
      exact (heap_alloc_old w.drew _ (show b < w.drew.heap.size from hlt)).trans hb

theorem wpListIn_append_keep {F : Fence} {n : Nat} {P : Program} (w : World) {ops : Array Oper} {rest : List Oper} {o : Oper} {a : Act} {Q : Exit → Act → World → Prop}
    (hg : o.guard = none) (s x : Operand) (t : TypeId) (hop : o.op = Op.call { callee := Callee.builtin Builtin.append, args := #[s, x], argTypes := #[t, t] })
    (base : Nat) (e : TypeId) (i : TypeInfo) (z : Value) (size bytes : Nat) (h1 : P.underlying t = some (.slice e)) (h2 : P.info? e = some i) (h3 : i.zero = some z) (h4 : i.size = size) (h5 : i.bytes = bytes) (h6 : z.cells.size = size) (h7 : 0 < size)
    (v : Value) (k : Nat) (xs : List Value) (hs : a.eval s = v) (hown : w.ownsRow base e size v k xs) (hv : k = 0 → v = .slice none 0 0) (ad : Addr) (m c : Nat) (news : List Value) (hx : a.eval x = .slice (some ad) m c) (hm : 1 ≤ m) (hn : news.length = m * size)
    (hc : ∀ j u, news[j]? = some u → w.cell? (ad.add j) = some u) (h1c : ∀ u ∈ news, u.oneCell' = true) (b1 : k + m ≤ maxLen) (b2 : (k + m) * bytes ≤ 140737488355328) (b3 : base ≤ w.heap.size)
    (hK : ∀ v' w', w'.ownsRow base e size v' (k + m) (xs ++ news) → w.grownBy w' v.ownBlock → (∀ (b : Nat) (cs : Array Value), w.heap[b]? = some (.cells cs e (0, 0)) → cs.size = size → w'.heap[b]? = some (.cells cs e (0, 0))) → wpListIn F n P ops Q rest (a.put o.dst v') w') :
    wpListIn F n P ops Q (o :: rest) a w := by
  refine wpListIn_plain hg fun K hK' => ?_
  obtain ⟨v', w', hrun, r1, r2, r3⟩ := run_append_keep (P := P) w base t o.type e i z size bytes h1 h2 h3 h4 h5 h6 h7 v k xs hown hv ad m c news hm hn hc h1c b1 b2 b3
  unfold Oper.wpIn
  refine ⟨?_, ?_⟩
  · simp [Oper.about, hop, resolve, Target.leads, Sem.run_pure]
  · rw [Oper.semAt_plain F _ _ (by rw [hop]; intro c hc'; cases hc')]
    simp [execOp, hop, resolve, invoke, builtin, hs, hx, hrun, Result.andThen]
    exact hK' _ _ (hK v' w' r1 r2 r3)

/-- What such an append and the store of what it made leave as it lies. -/
theorem kq_append {n₀ B : Nat} {W w1 : World} {t : TypeId} {v v' : Value} {k : Nat} {xs : List Value} {tmp : Obj} (hv : Boxed W B t v) (h1 : t ≠ 30) (h2 : t ≠ 9)
    (hrow : W.ownsRow n₀ 30 3 v k xs) (hn : n₀ ≤ B) (hgrow : (W.alloc tmp).grownBy w1 v.ownBlock)
    (hkeep : ∀ (b : Nat) (cs : Array Value), (W.alloc tmp).heap[b]? = some (.cells cs 30 (0, 0)) → cs.size = 3 → w1.heap[b]? = some (.cells cs 30 (0, 0)))
    (hv1 : Boxed w1 B t v) : Kq n₀ W (w1.setCell ⟨B, 0, none⟩ v') := by
  have hBl := hv.lt
  have up : ∀ (b : Nat) (o : Obj), W.heap[b]? = some o → (W.alloc tmp).heap[b]? = some o := fun b o h => (Below.heap_alloc _ _ _ (by have := (Array.getElem?_eq_some_iff.1 h).1; omega)).trans h
  have ob : ∀ (b : Nat) (c : Array Value) (T : TypeId) (f : Nat × Nat), W.heap[b]? = some (.cells c T f) → some b = v.ownBlock → n₀ ≤ b ∧ T = 30 := by
    intro b c T f hb hob
    rcases hrow.2 with ⟨rfl, -⟩ | ⟨g, cap, cur, rfl, hbg, hg, -⟩
    · simp [Value.ownBlock] at hob
    · have : b = g := by simpa [Value.ownBlock] using hob
      subst this
      rw [hg] at hb
      cases hb
      exact ⟨hbg, rfl⟩
  have nb : ∀ (b : Nat) (c : Array Value) (T : TypeId) (f : Nat × Nat), W.heap[b]? = some (.cells c T f) → T ≠ t → b ≠ B := by
    rintro b c T f hb hT rfl
    have : W.heap[b]? = some (.cells #[v] t (0, 0)) := hv
    rw [this] at hb
    cases hb
    exact hT rfl
  refine ⟨fun b c T f hb hc => ?_, fun b c hc hs => ?_, fun b c hc => ?_⟩
  · have h := up _ _ hc
    have hne : some b ≠ v.ownBlock := fun e => by have := (ob b c T f hc e).1; omega
    exact (Below.heap_setCell _ _ _ _ (by show b ≠ B; omega)).trans ((hgrow.block b (by have := lt_of_block h; omega) hne).trans h)
  · exact (Below.heap_setCell _ _ _ _ (nb b c _ _ hc (fun e => h1 e.symm))).trans (hkeep b c (up _ _ hc) hs)
  · have h := up _ _ hc
    have hne : some b ≠ v.ownBlock := fun e => by have := (ob b c _ _ hc e).2; revert this; decide
    exact (Below.heap_setCell _ _ _ _ (nb b c _ _ hc (fun e => h2 e.symm))).trans ((hgrow.block b (by have := lt_of_block h; omega) hne).trans h)

end Go.Proofs.YtlnnblfkigcipaaDoor
