/- A range over an iterator that itself ranges over another one: a contract that such an iterator can keep, and the law of a loop over it. Conditions: none.
A range over an iterator that calls itself and stores into boxes of its own (of type shape.spot): a contract that such an iterator can keep, and the law of a loop over it. Conditions: none. -/
import Derived.RangeFuncNested
import Derived.RangeFuncKeeps
import Derived.RangeFuncBound
import Derived.Test.YtmnpcpgdhaplaaaMg1
namespace Go.Proofs.Ytmnpcpgdhaplaaa
open Go Go.RowKit

/-- The loop's record. -/
def lrec (fn : FuncId) (tmps : Array Value) (ps : Array Tmp) (assign body : Code) (D : Nat) (st : LoopState) (pe : Option Code) : Loop :=
  { state := st, pending := pe, fn, tmps, params := ps, assign, body, defers := D }

/-- The two blocks that a loop lays at h: its list of deferred calls, and its record. -/
def Laid2 (h : Nat) (L : Loop) (W : World) : Prop := W.heap[h + 1]? = some (.loop L) ∧ W.heap[h]? = some (.deferred (some []))

theorem Laid2.lt {h : Nat} {L : Loop} {W : World} (hl : Laid2 h L W) : h + 1 < W.heap.size := (Array.getElem?_eq_some_iff.1 hl.1).1

theorem Laid2.new (w : World) (L : Loop) : Laid2 w.heap.size L ((w.alloc (.deferred (some []))).alloc (.loop L)) := by
  refine ⟨?_, (Below.heap_alloc _ _ _ (by simp)).trans (World.alloc_heap_new w _)⟩
  have := World.alloc_heap_new (w.alloc (.deferred (some []))) (.loop L)
  rwa [World.size_alloc] at this

theorem Laid2.put {h : Nat} {L : Loop} {W : World} (hl : Laid2 h L W) (L' : Loop) : Laid2 h L' (W.putObj (h + 1) (.loop L')) :=
  ⟨World.putObj_heap_same hl.lt, (World.putObj_heap_other (by omega)).trans hl.2⟩

theorem Laid2.from {h : Nat} {L : Loop} {W W' : World} (hl : Laid2 h L W) (hk : KeepsFrom h W W') : Laid2 h L W' :=
  ⟨hk.same _ _ (by omega) hl.1 rfl, hk.same _ _ (Nat.le_refl _) hl.2 rfl⟩

theorem Laid2.own {β : Type} {h B : Nat} {L : Loop} (hB : h + 2 ≤ B) : OwnFrom B (fun (_ : β) W => Laid2 h L W) := by
  intro _ A C row hl hg hr
  have h2 := hl.lt
  refine ⟨(hg.block _ h2 fun e => ?_).trans hl.1, (hg.block _ (by omega) fun e => ?_).trans hl.2⟩
  · have := (hr _ e.symm).1; omega
  · have := (hr _ e.symm).1; omega

theorem keeps_put {B : Nat} (W : World) (r : Nat) (o : Obj) (h : r < B) : KeepsFrom B W (W.putObj r o) :=
  ⟨by simp [World.putObj], fun k o' hB hk _ => (World.putObj_heap_other (by omega)).trans hk⟩

theorem keeps_le {B B' : Nat} {W W' : World} (h : KeepsFrom B W W') (hb : B ≤ B') : KeepsFrom B' W W' := ⟨h.size, fun k o hk => h.same k o (by omega)⟩

theorem own_le {β : Type} {B B' : Nat} {I : β → World → Prop} (h : OwnFrom B I) (hb : B ≤ B') : OwnFrom B' I :=
  fun s W W' row hs hg hr => h s W W' row hs hg fun r e => ⟨Nat.le_trans hb (hr r e).1, (hr r e).2⟩

/-- The contract: the iterator asks that what is no cells and was laid since its call stays as it lay through a round; it turns nothing else that is no cells. -/
def SeqW {α : Type} (F : Fence) (n : Nat) (P : Program) (g : Nat) (lb : Array Value) (encs : α → Array Value) (Kp : World → World → Prop) (S Sp : List α → Prop) (w : World) : Prop :=
  ∀ (l : Nat) (J Jx : List α → World → Prop) (W : World), Below w.heap.size w W → OwnFrom W.heap.size J → OwnFrom W.heap.size Jx →
    (∀ pre x W1, J pre W1 → Sp (pre ++ [x]) → YieldAt F (n - 1) P l (encs x) W1 fun e W' =>
      KeepsFrom W.heap.size W1 W' ∧ ((e = .returned (.bool true) ∧ J (pre ++ [x]) W' ∧ Kp W1 W') ∨ (e = .returned (.bool false) ∧ Jx (pre ++ [x]) W'))) →
    J [] W →
    CallsIn F n P g (#[.func (.yield l) #[] #[]] ++ lb) W fun e W' => (∃ v, e = .returned v) ∧ ((∃ xs, S xs ∧ J xs W') ∨ (∃ pre, Sp pre ∧ Jx pre W'))

/-- A loop over such an iterator. -/
theorem wpIn_rangeW {F : Fence} {n : Nat} {P : Program} {w : World} {α : Type} {g : Operand} {ps : Array Tmp} {assign body : Code} {Q : Exit → Act → World → Prop} {a : Act}
    (hro : F.round = none) (h1 : 1 ≤ n) {gf : Nat} {lb : Array Value} (hg : a.eval g = .func (.func gf) #[] lb) (hFg : F.fn gf) (eg : ∀ args w, (callFunc gf args).run P w = .ok (.enter gf args) w)
    {encs : α → Array Value} {Kp : World → World → Prop} {S Sp : List α → Prop} {w0 : World} (hseq : SeqW F (n - 1) P gf lb encs Kp S Sp w0)
    (hKt : ∀ {A B C : World}, Kp A B → Kp B C → Kp A C) (hKb : ∀ (W : World) (l : Nat) (o o' : Obj), W.heap[l]? = some o → o.isCells = false → Kp W (W.putObj l o')) (hb0 : Below w0.heap.size w0 w) (hps : ∀ x, (encs x).size = ps.size)
    (I : List α → World → Prop) (Ix : Code → List α → World → Prop) (hI : OwnFrom w.heap.size I) (hIx : ∀ c, OwnFrom w.heap.size (Ix c)) (h0 : I [] w) (Ax : α → Act → World → Prop) (hAx : ∀ x a', OwnFrom w.heap.size (fun (_ : Unit) W => Ax x a' W))
    (hassign : ∀ (l : Nat) (pre : List α) (x : α) (W : World) (K : Act → World → Prop), I pre W → (∀ a' W', KeepsFrom w.heap.size W W' → Kp W W' → I pre W' → Ax x a' W' → K a' W') →
      assign.wpIn (F.inRound l) (n - 1 - 1) P (Exit.then K (fun _ _ _ => False)) { tmps := (ps.zip (encs x)).foldl (fun t (p, v) => t.setIfInBounds p v) a.tmps, defers := [] } W)
    (hbody : ∀ (l : Nat) (pre : List α) (x : α) (a' : Act) (W : World), w.heap.size ≤ l → (∃ r, W.heap[l]? = some (.loop r)) → I pre W → Ax x a' W → Sp (pre ++ [x]) → body.wpIn (F.inRound l) (n - 1 - 1) P (ownPostG w.heap.size Kp I Ix (pre ++ [x]) W) a' W)
    (hdone : ∀ (D : Nat) (xs : List α) (W : World), w.heap.size ≤ D → S xs → I xs W → W.heap[D]? = some (.deferred (some [])) → Q .normal { a with defers := { target := .collected D, args := #[] } :: a.defers } W)
    (hstop : ∀ (D : Nat) (c : Code) (pre : List α) (W : World), w.heap.size ≤ D → Sp pre → Ix c pre W → W.heap[D]? = some (.deferred (some [])) → c.wpIn F n P Q { a with defers := { target := .collected D, args := #[] } :: a.defers } W) :
    (Code.rangeFunc g ps assign body).wpIn F n P Q a w := by
  refine wpIn_rangeFunc fun fn hfn => ?_
  rw [hro]
  have hlaid := Laid2.new w (lrec fn a.tmps ps assign body w.heap.size .ready none)
  have hbw : Below w.heap.size w ((w.alloc (.deferred (some []))).alloc (.loop (lrec fn a.tmps ps assign body w.heap.size .ready none))) := ((Below.refl _ w).alloc (Nat.le_refl _) _).alloc (by simp) _
  have hI1 := hI.alloc (.loop (lrec fn a.tmps ps assign body w.heap.size .ready none)) (hI.alloc (.deferred (some [])) h0)
  have hent := run_enterLoop_outer (P := P) (w := w) fn a.tmps ps assign body
  have hsz : ((w.alloc (.deferred (some []))).alloc (.loop (lrec fn a.tmps ps assign body w.heap.size .ready none))).heap.size = w.heap.size + 2 := by simp
  change _ = Result.ok _ ((w.alloc (.deferred (some []))).alloc (.loop (lrec fn a.tmps ps assign body w.heap.size .ready none))) at hent
  generalize ((w.alloc (.deferred (some []))).alloc (.loop (lrec fn a.tmps ps assign body w.heap.size .ready none))) = V at hlaid hbw hI1 hent hsz
  refine ⟨_, _, V, ⟨.fn (.func gf) lb, #[.func (.yield (w.heap.size + 1)) #[] #[]]⟩, V, gf, #[.func (.yield (w.heap.size + 1)) #[] #[]] ++ lb, V, hent, ?_, ?_, ?_, fun _ => h1, ?_⟩
  · simp only [resolve, hg]; simp [go_sem]
  · intro f' hf'; simp [Target.leads] at hf'; subst hf'; exact hFg
  · simp [invoke, go_sem, eg]
  have hown : ∀ st pe, OwnFrom V.heap.size (fun (_ : List α) W => Laid2 w.heap.size (lrec fn a.tmps ps assign body w.heap.size st pe) W) := fun st pe => Laid2.own (by omega)
  have hle : w.heap.size ≤ V.heap.size := by omega
  have call := hseq (w.heap.size + 1)
    (fun pre W => I pre W ∧ Laid2 w.heap.size (lrec fn a.tmps ps assign body w.heap.size .ready none) W)
    (fun pre W => ∃ c, Ix c pre W ∧ Laid2 w.heap.size (lrec fn a.tmps ps assign body w.heap.size .done (some c)) W)
    V (hb0.trans (hbw.mono hb0.size)) (OwnFrom.and (own_le hI hle) (hown _ _))
    (fun s A B row hs hg' hr => by
      obtain ⟨c, hc, hl⟩ := hs
      exact ⟨c, own_le (hIx c) hle s A B row hc hg' hr, hown _ _ s A B row hl hg' hr⟩)
  refine (call ?_ ⟨hI1, hlaid⟩).mono ?_
  · rintro pre x W ⟨hi, hl⟩ hlen
    refine ⟨fn, _, assign, body, run_yield (P := P) (args := encs x) hl.1 (hps x), roundIn_of_wpIn hfn (hassign _ pre x W _ hi ?_)⟩
    intro a' Wa hka hpa hia hxa
    have hla := hl.from hka
    have hKb1 := hKb Wa _ _ (.loop (lrec fn a.tmps ps assign body w.heap.size .busy none)) hla.1 rfl
    have hlb := hla.put (lrec fn a.tmps ps assign body w.heap.size .busy none)
    refine ⟨_, run_beginRound hla.1 rfl, ?_⟩
    refine wpIn_mono (hbody _ pre x a' _ (by omega) ⟨_, hlb.1⟩ (hI.putObj _ hia (by omega) hla.1 rfl) ((hAx x a').putObj (s := ()) _ hxa (by omega) hla.1 rfl) hlen) ?_
    have hka2 : KeepsFrom V.heap.size W (Wa.putObj (w.heap.size + 1) (.loop (lrec fn a.tmps ps assign body w.heap.size .busy none))) := (keeps_le hka hle).trans (keeps_put _ _ _ (by omega))
    have stop : ∀ (c : Code) (W3 : World), KeepsFrom w.heap.size (Wa.putObj (w.heap.size + 1) (.loop (lrec fn a.tmps ps assign body w.heap.size .busy none))) W3 → Ix c (pre ++ [x]) W3 →
        ∃ v w', (Instr.endRound (w.heap.size + 1) (some c)).run P W3 = .ok v w' ∧ (KeepsFrom V.heap.size W w' ∧ ((Ending.returned v = .returned (.bool true) ∧ (I (pre ++ [x]) w' ∧ Laid2 w.heap.size (lrec fn a.tmps ps assign body w.heap.size .ready none) w') ∧ Kp W w') ∨
          (Ending.returned v = .returned (.bool false) ∧ ∃ c, Ix c (pre ++ [x]) w' ∧ Laid2 w.heap.size (lrec fn a.tmps ps assign body w.heap.size .done (some c)) w'))) := by
      intro c W3 hk3 hi3
      have hl3 := hlb.from hk3
      exact ⟨_, _, run_endRound (P := P) (some c) hl3.1, (hka2.trans (keeps_le hk3 hle)).trans (keeps_put _ _ _ (by omega)), .inr ⟨rfl, c, (hIx c).putObj _ hi3 (by omega) hl3.1 rfl, hl3.put _⟩⟩
    rintro e a3 W3 hp
    cases e with
    | normal =>
      obtain ⟨hk3, hp3, hi3⟩ := hp
      have hl3 := hlb.from hk3
      exact ⟨_, _, run_endRound (P := P) none hl3.1, (hka2.trans (keeps_le hk3 hle)).trans (keeps_put _ _ _ (by omega)), .inl ⟨rfl, ⟨hI.putObj _ hi3 (by omega) hl3.1 rfl, hl3.put _⟩, hKt hpa (hKt (hKt hKb1 hp3) (hKb _ _ _ _ hl3.1 rfl))⟩⟩
    | ret => exact stop .ret W3 hp.1 hp.2
    | exit id => exact stop (.exit id) W3 hp.1 hp.2
    | goto t => exact stop (.goto t) W3 hp.1 hp.2
    | panic ch => exact hp.elim
    | outgrown => exact hp.elim
  · rintro e W2 ⟨⟨v, rfl⟩, (⟨xs, hS, hi, hl⟩ | ⟨pre, hSp, c, hi, hl⟩)⟩
    · exact ⟨none, _, run_endLoop (P := P) hl.1 (by simp [lrec]), hdone _ xs _ (Nat.le_refl _) hS (hI.putObj _ hi (by omega) hl.1 rfl) (hl.put _).2⟩
    · exact ⟨some c, _, run_endLoop (P := P) hl.1 (by simp [lrec]), hstop _ c pre _ (Nat.le_refl _) hSp ((hIx c).putObj _ hi (by omega) hl.1 rfl) (hl.put _).2⟩

end Go.Proofs.Ytmnpcpgdhaplaaa

namespace Go.Proofs.Ytmnpcpgdhaplaaa
open Go Go.RowKit

/-- An invariant abides what an iterator does for itself from B on: turns of what is no cells, and stores into spots. -/
structure OwnT {β : Type} (B : Nat) (I : β → World → Prop) : Prop where
  own : OwnFrom B I
  spot : ∀ (s : β) (W : World) (b o : Nat) (c : Array Value) (v : Value), B ≤ b → I s W → W.heap[b]? = some (.cells c 77 (0, 0)) → I s (W.setCell ⟨b, o, none⟩ v)

theorem OwnT.and {β : Type} {B : Nat} {I I' : β → World → Prop} (h : OwnT B I) (h' : OwnT B I') : OwnT B (fun s W => I s W ∧ I' s W) :=
  ⟨OwnFrom.and h.own h'.own, fun s W b o c v hb hs hc => ⟨h.spot s W b o c v hb hs.1 hc, h'.spot s W b o c v hb hs.2 hc⟩⟩
theorem OwnT.le {β : Type} {B B' : Nat} {I : β → World → Prop} (h : OwnT B I) (hb : B ≤ B') : OwnT B' I :=
  ⟨own_le h.own hb, fun s W b o c v hbb hs hc => h.spot s W b o c v (Nat.le_trans hb hbb) hs hc⟩
theorem OwnT.no {β : Type} (B : Nat) : OwnT B (fun (_ : β) (_ : World) => False) := ⟨fun _ _ _ _ hs _ _ => hs, fun _ _ _ _ _ _ _ hs _ => hs⟩
theorem OwnT.pure {β : Type} (B : Nat) (p : β → Prop) : OwnT B (fun s (_ : World) => p s) := ⟨fun _ _ _ _ hs _ _ => hs, fun _ _ _ _ _ _ _ hs _ => hs⟩
theorem OwnT.below {β : Type} {n₀ B : Nat} {w₀ : World} (hn : n₀ ≤ w₀.heap.size) (hB : n₀ ≤ B) : OwnT B (fun (_ : β) W => Below n₀ w₀ W) :=
  ⟨ownFrom_below hn hB, fun s W b o c v hb hs hc => hs.setCell (p := ⟨b, o, none⟩) (Nat.le_trans hB hb) v⟩
/-- A block of another type stays. -/
theorem OwnT.block {β : Type} (B k : Nat) (c : β → Array Value) (T : TypeId) (hT : T ≠ 77) : OwnT B (fun (s : β) W => W.heap[k]? = some (.cells (c s) T (0, 0))) := by
  refine ⟨fun s A C row h hg hr => (hg.block k (lt_of_block h) (fun e => by obtain ⟨-, o, ho, hc⟩ := hr k e.symm; rw [h] at ho; cases ho; cases hc)).trans h, fun s W b o c' v hb hs hc => ?_⟩
  refine (Below.heap_setCell _ _ _ _ ?_).trans hs
  rintro rfl
  rw [hs] at hc; cases hc; exact hT rfl

theorem laid2_spot {h b o : Nat} {L : Loop} {W : World} {c : Array Value} (hl : Laid2 h L W) (hc : W.heap[b]? = some (.cells c 77 (0, 0))) (v : Value) : Laid2 h L (W.setCell ⟨b, o, none⟩ v) := by
  refine ⟨(Below.heap_setCell _ _ _ _ ?_).trans hl.1, (Below.heap_setCell _ _ _ _ ?_).trans hl.2⟩
  · rintro rfl; rw [hl.1] at hc; cases hc
  · rintro rfl; rw [hl.2] at hc; cases hc

/-- The contract: the iterator asks that what is no cells and was laid since its call stays as it lay through a round; it turns nothing else that is no cells. -/
def SeqC {α : Type} (F : Fence) (n : Nat) (P : Program) (g : Nat) (lb : Array Value) (encs : α → Array Value) (Kp : World → World → Prop) (S Sp : List α → Prop) (w : World) : Prop :=
  ∀ (l : Nat) (J Jx : List α → World → Prop) (W : World), Below w.heap.size w W → OwnT W.heap.size J → OwnT W.heap.size Jx →
    (∀ pre x W1, J pre W1 → Sp (pre ++ [x]) → YieldAt F (n - 1) P l (encs x) W1 fun e W' =>
      KeepsFrom W.heap.size W1 W' ∧ ((e = .returned (.bool true) ∧ J (pre ++ [x]) W' ∧ Kp W1 W') ∨ (e = .returned (.bool false) ∧ Jx (pre ++ [x]) W'))) →
    J [] W →
    CallsIn F n P g (#[.func (.yield l) #[] #[]] ++ lb) W fun e W' => (∃ v, e = .returned v) ∧ ((∃ xs, S xs ∧ J xs W') ∨ (∃ pre, Sp pre ∧ Jx pre W'))

/-- A loop over such an iterator. -/
theorem wpIn_rangeC {F : Fence} {n : Nat} {P : Program} {w : World} {α : Type} {g : Operand} {ps : Array Tmp} {assign body : Code} {Q : Exit → Act → World → Prop} {a : Act}
    (hro : F.round = none) (h1 : 1 ≤ n) {gf : Nat} {lb : Array Value} (hg : a.eval g = .func (.func gf) #[] lb) (hFg : F.fn gf) (eg : ∀ args w, (callFunc gf args).run P w = .ok (.enter gf args) w)
    {encs : α → Array Value} {Kp : World → World → Prop} {S Sp : List α → Prop} {w0 : World} (hseq : SeqC F (n - 1) P gf lb encs Kp S Sp w0)
    (hKt : ∀ {A B C : World}, Kp A B → Kp B C → Kp A C) (hKb : ∀ (W : World) (l : Nat) (o o' : Obj), W.heap[l]? = some o → o.isCells = false → Kp W (W.putObj l o')) (hb0 : Below w0.heap.size w0 w) (hps : ∀ x, (encs x).size = ps.size)
    (I : List α → World → Prop) (Ix : Code → List α → World → Prop) (hI0 : OwnT w.heap.size I) (hIx0 : ∀ c, OwnT w.heap.size (Ix c)) (h0 : I [] w) (Ax : α → Act → World → Prop) (hAx : ∀ x a', OwnFrom w.heap.size (fun (_ : Unit) W => Ax x a' W))
    (hassign : ∀ (l : Nat) (pre : List α) (x : α) (W : World) (K : Act → World → Prop), I pre W → (∀ a' W', KeepsFrom w.heap.size W W' → Kp W W' → I pre W' → Ax x a' W' → K a' W') →
      assign.wpIn (F.inRound l) (n - 1 - 1) P (Exit.then K (fun _ _ _ => False)) { tmps := (ps.zip (encs x)).foldl (fun t (p, v) => t.setIfInBounds p v) a.tmps, defers := [] } W)
    (hbody : ∀ (l : Nat) (pre : List α) (x : α) (a' : Act) (W : World), w.heap.size ≤ l → (∃ r, W.heap[l]? = some (.loop r)) → I pre W → Ax x a' W → Sp (pre ++ [x]) → body.wpIn (F.inRound l) (n - 1 - 1) P (ownPostG w.heap.size Kp I Ix (pre ++ [x]) W) a' W)
    (hdone : ∀ (D : Nat) (xs : List α) (W : World), w.heap.size ≤ D → S xs → I xs W → W.heap[D]? = some (.deferred (some [])) → Q .normal { a with defers := { target := .collected D, args := #[] } :: a.defers } W)
    (hstop : ∀ (D : Nat) (c : Code) (pre : List α) (W : World), w.heap.size ≤ D → Sp pre → Ix c pre W → W.heap[D]? = some (.deferred (some [])) → c.wpIn F n P Q { a with defers := { target := .collected D, args := #[] } :: a.defers } W) :
    (Code.rangeFunc g ps assign body).wpIn F n P Q a w := by
  have hI := hI0.own
  have hIx := fun c => (hIx0 c).own
  refine wpIn_rangeFunc fun fn hfn => ?_
  rw [hro]
  have hlaid := Laid2.new w (lrec fn a.tmps ps assign body w.heap.size .ready none)
  have hbw : Below w.heap.size w ((w.alloc (.deferred (some []))).alloc (.loop (lrec fn a.tmps ps assign body w.heap.size .ready none))) := ((Below.refl _ w).alloc (Nat.le_refl _) _).alloc (by simp) _
  have hI1 := hI.alloc (.loop (lrec fn a.tmps ps assign body w.heap.size .ready none)) (hI.alloc (.deferred (some [])) h0)
  have hent := run_enterLoop_outer (P := P) (w := w) fn a.tmps ps assign body
  have hsz : ((w.alloc (.deferred (some []))).alloc (.loop (lrec fn a.tmps ps assign body w.heap.size .ready none))).heap.size = w.heap.size + 2 := by simp
  change _ = Result.ok _ ((w.alloc (.deferred (some []))).alloc (.loop (lrec fn a.tmps ps assign body w.heap.size .ready none))) at hent
  generalize ((w.alloc (.deferred (some []))).alloc (.loop (lrec fn a.tmps ps assign body w.heap.size .ready none))) = V at hlaid hbw hI1 hent hsz
  refine ⟨_, _, V, ⟨.fn (.func gf) lb, #[.func (.yield (w.heap.size + 1)) #[] #[]]⟩, V, gf, #[.func (.yield (w.heap.size + 1)) #[] #[]] ++ lb, V, hent, ?_, ?_, ?_, fun _ => h1, ?_⟩
  · simp only [resolve, hg]; simp [go_sem]
  · intro f' hf'; simp [Target.leads] at hf'; subst hf'; exact hFg
  · simp [invoke, go_sem, eg]
  have hown : ∀ st pe, OwnFrom V.heap.size (fun (_ : List α) W => Laid2 w.heap.size (lrec fn a.tmps ps assign body w.heap.size st pe) W) := fun st pe => Laid2.own (by omega)
  have hle : w.heap.size ≤ V.heap.size := by omega
  have call := hseq (w.heap.size + 1)
    (fun pre W => I pre W ∧ Laid2 w.heap.size (lrec fn a.tmps ps assign body w.heap.size .ready none) W)
    (fun pre W => ∃ c, Ix c pre W ∧ Laid2 w.heap.size (lrec fn a.tmps ps assign body w.heap.size .done (some c)) W)
    V (hb0.trans (hbw.mono hb0.size)) ⟨OwnFrom.and (own_le hI hle) (hown _ _), fun s W b o c v hb hs hc => ⟨hI0.spot s W b o c v (Nat.le_trans hle hb) hs.1 hc, laid2_spot hs.2 hc v⟩⟩
    ⟨fun s A B row hs hg' hr => by
      obtain ⟨c, hc, hl⟩ := hs
      exact ⟨c, own_le (hIx c) hle s A B row hc hg' hr, hown _ _ s A B row hl hg' hr⟩, fun s W b o c v hb hs hc => by
      obtain ⟨c', hc', hl⟩ := hs
      exact ⟨c', (hIx0 c').spot s W b o c v (Nat.le_trans hle hb) hc' hc, laid2_spot hl hc v⟩⟩
  refine (call ?_ ⟨hI1, hlaid⟩).mono ?_
  · rintro pre x W ⟨hi, hl⟩ hlen
    refine ⟨fn, _, assign, body, run_yield (P := P) (args := encs x) hl.1 (hps x), roundIn_of_wpIn hfn (hassign _ pre x W _ hi ?_)⟩
    intro a' Wa hka hpa hia hxa
    have hla := hl.from hka
    have hKb1 := hKb Wa _ _ (.loop (lrec fn a.tmps ps assign body w.heap.size .busy none)) hla.1 rfl
    have hlb := hla.put (lrec fn a.tmps ps assign body w.heap.size .busy none)
    refine ⟨_, run_beginRound hla.1 rfl, ?_⟩
    refine wpIn_mono (hbody _ pre x a' _ (by omega) ⟨_, hlb.1⟩ (hI.putObj _ hia (by omega) hla.1 rfl) ((hAx x a').putObj (s := ()) _ hxa (by omega) hla.1 rfl) hlen) ?_
    have hka2 : KeepsFrom V.heap.size W (Wa.putObj (w.heap.size + 1) (.loop (lrec fn a.tmps ps assign body w.heap.size .busy none))) := (keeps_le hka hle).trans (keeps_put _ _ _ (by omega))
    have stop : ∀ (c : Code) (W3 : World), KeepsFrom w.heap.size (Wa.putObj (w.heap.size + 1) (.loop (lrec fn a.tmps ps assign body w.heap.size .busy none))) W3 → Ix c (pre ++ [x]) W3 →
        ∃ v w', (Instr.endRound (w.heap.size + 1) (some c)).run P W3 = .ok v w' ∧ (KeepsFrom V.heap.size W w' ∧ ((Ending.returned v = .returned (.bool true) ∧ (I (pre ++ [x]) w' ∧ Laid2 w.heap.size (lrec fn a.tmps ps assign body w.heap.size .ready none) w') ∧ Kp W w') ∨
          (Ending.returned v = .returned (.bool false) ∧ ∃ c, Ix c (pre ++ [x]) w' ∧ Laid2 w.heap.size (lrec fn a.tmps ps assign body w.heap.size .done (some c)) w'))) := by
      intro c W3 hk3 hi3
      have hl3 := hlb.from hk3
      exact ⟨_, _, run_endRound (P := P) (some c) hl3.1, (hka2.trans (keeps_le hk3 hle)).trans (keeps_put _ _ _ (by omega)), .inr ⟨rfl, c, (hIx c).putObj _ hi3 (by omega) hl3.1 rfl, hl3.put _⟩⟩
    rintro e a3 W3 hp
    cases e with
    | normal =>
      obtain ⟨hk3, hp3, hi3⟩ := hp
      have hl3 := hlb.from hk3
      exact ⟨_, _, run_endRound (P := P) none hl3.1, (hka2.trans (keeps_le hk3 hle)).trans (keeps_put _ _ _ (by omega)), .inl ⟨rfl, ⟨hI.putObj _ hi3 (by omega) hl3.1 rfl, hl3.put _⟩, hKt hpa (hKt (hKt hKb1 hp3) (hKb _ _ _ _ hl3.1 rfl))⟩⟩
    | ret => exact stop .ret W3 hp.1 hp.2
    | exit id => exact stop (.exit id) W3 hp.1 hp.2
    | goto t => exact stop (.goto t) W3 hp.1 hp.2
    | panic ch => exact hp.elim
    | outgrown => exact hp.elim
  · rintro e W2 ⟨⟨v, rfl⟩, (⟨xs, hS, hi, hl⟩ | ⟨pre, hSp, c, hi, hl⟩)⟩
    · exact ⟨none, _, run_endLoop (P := P) hl.1 (by simp [lrec]), hdone _ xs _ (Nat.le_refl _) hS (hI.putObj _ hi (by omega) hl.1 rfl) (hl.put _).2⟩
    · exact ⟨some c, _, run_endLoop (P := P) hl.1 (by simp [lrec]), hstop _ c pre _ (Nat.le_refl _) hSp ((hIx c).putObj _ hi (by omega) hl.1 rfl) (hl.put _).2⟩

end Go.Proofs.Ytmnpcpgdhaplaaa
