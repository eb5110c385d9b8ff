/- LexLeft returns true, whatever it is given. Conditions: the tables lie as the program lays them. -/
import Derived.Test.YtlnnblfkigcipaaDoorLxSameK
import Derived.Test.YtlnnblfkigcipaaDoorWithinAny
import Derived.Deep.RegionHeldLaw
namespace Go.Proofs.YtlnnblfkigcipaaDoor
open Go Go.RowKit Go.Shelf

theorem toks_ne (N f : Nat) (l : List UInt8) : toks N (f + 1) l ≠ [] := by
  unfold toks
  split <;> simp

theorem SlTok.take {W : World} {g c : Nat} {xs : List SymV} {k : Nat} (hk : k ≤ xs.length) (h : ∀ j x, xs[j]? = some x → TokC W g j x) : SlTok W (.slice (some ⟨g, 0, none⟩) k c) (xs.take k) := by
  refine ⟨some ⟨g, 0, none⟩, c, by rw [List.length_take, Nat.min_eq_left hk], fun j x hx => ⟨g, rfl, h j x ?_⟩⟩
  rw [List.getElem?_take] at hx
  split at hx
  · exact hx
  · cases hx

set_option maxRecDepth 100000 in
set_option maxHeartbeats 6400000 in
theorem lexleft_walk (w : World) (s : ByteArray) (n : Int) (hE : EnvX w) : Calls Tryd.prog 4 #[.string s, .int .i64 n] w fun e w' => e = .returned (.bool true) ∧ Below w.heap.size w w' := by
  by_cases hs : s.size ≤ 3000
  · have f1 : ((3000 : Int) < (s.size : Int)) = False := eq_false (by omega)
    have hm : s.size ≤ 100000 := by omega
    have hlen := toksA_len s.data.toList
    have hne : toksA s.data.toList ≠ [] := toks_ne _ _ _
    rw [← size_list] at hlen
    have k1 := fun w => refall_T w s hm
    have hts := fun n₀ Bt w h1 h2 h3 => tokens_stops 2 n₀ Bt s w hm h1 h2 h3
    generalize toksA s.data.toList = L at hlen k1 hts hne
    have hl2 : L.length ≤ 200000 := by omega
    have hl8 : L.length ≤ 800000 := by omega
    have kw := fun w => within_any w n ((L.length : Int) + 1) (by omega) (by omega)
    clear hs hlen
    go_enter Tryd.func4, Tryd.ntmps4
    go_wp2_with fail
    refine (k1 _).mono ?_
    rintro e w1 ⟨v1, rfl, hM1, hB1⟩
    have hE1 := hE.below hB1
    obtain ⟨g, cap, rfl, hcap, -, hg, hc⟩ := MadeT.cells hM1 hne
    have hr1 := hM1.sl
    clear hM1 hne
    go_wp2_with fail
    refine (kw _).mono ?_
    rintro e w' ⟨⟨k, rfl, hk⟩, rfl⟩
    have hkL : k ≤ L.length := by omega
    clear kw hk
    go_wp2_with fail
    refine (tokens_T _ s).mono ?_
    rintro e w4 ⟨rfl, rfl⟩
    have hBt : Below w'.heap.size w' (w'.alloc (.cells #[.string s] 9)) := (Below.refl _ w').alloc (Nat.le_refl _) _
    have hbt := heap_alloc_new w' (.cells #[.string s] 9)
    have hC4 := hB1.trans (hBt.mono hB1.size)
    have hE4 := hE.below hC4
    have hr4 := hr1.below hBt
    have hc4 : ∀ j x, L[j]? = some x → TokC (w'.alloc (.cells #[.string s] 9)) g j x := fun j x hx => (hc j x hx).below hBt
    have hq := eq_nilFunc 21 #[.pointer (some ⟨w'.heap.size, 0, none⟩)]
    go_wp2_with fail
    generalize (w'.alloc (.cells #[.string s] 9)) = w4 at hC4 hE4 hr4 hbt hc4 hBt ⊢
    have hsz := lt_of_block hbt
    have hseq : ∀ W, Below w4.heap.size w4 W → SeqStopsK Fence.wide 2 Tryd.prog 21 #[.pointer (some ⟨w'.heap.size, 0, none⟩)] (fun x : SymV => #[.agg #[.int .i64 x.k, .string x.t, .int .i64 x.n]]) (Kq W.heap.size) (fun xs => xs = L) (fun pre => pre <+: L) L.length W := fun W hB => hts W.heap.size w'.heap.size W ((hB.block _ hsz).trans hbt) (hE4.below hB) (hE4.below hB).seven
    have heg : ∀ args w, (callFunc 21 args).run Tryd.prog w = .ok (.enter 21 args) w := enters_of Tryd.func21 (by kernel_rfl) rfl
    have hd : Below w4.heap.size w4 w4.drew := (Below.refl _ w4).drew
    have a1 := first_T 21 _ _ L w4.drew k heg (hseq _ hd) hl8 (by omega) (Nat.le_refl _)
    have Hc4 := Lib.hid hc4
    have Hseq := Lib.hid hseq
    have Heg := Lib.hid heg
    have hkl : (L.take k).length ≤ 200000 := by rw [List.length_take]; omega
    have hkc : k ≤ cap := by omega
    have g1 : ((k : Int) ≤ (cap : Int)) = True := eq_true (by omega)
    clear hc4 hseq heg hts hc k1 hq
    go_region_held_law (fun _ => True)
      (first | trivial | go_keep | assumption)
      (first
        | (go_at_call 16; (with_reducible refine a1.mono ?_); rintro e w5 ⟨v5, rfl, hM5, hB5⟩; have hC5 : Below w4.heap.size w4 w5 := hd.trans (hB5.mono hd.size); have a2 := same_T w5 v5 _ (L.take k) hkl (MadeT.sl hM5) (SlTok.take (c := cap) hkL (fun j x hx => (Hc4.out j x hx).below hC5)))
        | (go_at_call 11; (with_reducible refine a2.mono ?_); rintro e w6 ⟨rfl, hB6⟩; have hC6 : Below w4.heap.size w4 w6 := hC5.trans (hB6.mono hC5.size); have a3 := list_T 21 _ _ L w6 Heg.out (Hseq.out w6 hC6) hl8 (Nat.le_refl _))
        | (go_at_call 13; (with_reducible refine a3.mono ?_); rintro e w7 ⟨v7, rfl, hM7, hB7⟩; have hC7 : Below w4.heap.size w4 w7 := hC6.trans (hB7.mono hC6.size); have a4 := same_T w7 v7 _ L hl2 (MadeT.sl hM7) (hr4.below hC7))
        | (go_at_call 11; (with_reducible refine a4.mono ?_); rintro e w8 ⟨rfl, hB8⟩; have hC8 : Below w4.heap.size w4 w8 := hC7.trans (hB8.mono hC7.size); have a5 := wakes_T w8 (hE4.below hC8))
        | (go_at_call 9; (with_reducible refine a5.mono ?_); rintro e w9 ⟨rfl, hB9⟩; have hC9 : Below w4.heap.size w4 w9 := hC8.trans (hB9.mono hC8.size))
        | fail "no arm")
    go_wp2_with fail
    go_ret
    exact ⟨rfl, hC4.trans (hC9.mono hC4.size)⟩
  · have f1 : ((3000 : Int) < (s.size : Int)) = True := eq_true (by omega)
    clear hs
    go_enter Tryd.func4, Tryd.ntmps4
    go_wp2_with fail
    refine (wakes_T _ hE).mono ?_
    rintro e w1 ⟨rfl, hB1⟩
    go_wp2_with fail
    go_ret
    exact ⟨rfl, hB1⟩

end Go.Proofs.YtlnnblfkigcipaaDoor
