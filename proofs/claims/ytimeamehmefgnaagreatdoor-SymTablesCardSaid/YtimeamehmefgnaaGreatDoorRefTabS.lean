/- What the statements' own table does. Conditions: it lies in memory; at most 10000 symbols, all right. -/
import Derived.Test.YtimeamehmefgnaaGreatDoorMgTab
import Derived.Test.YtimeamehmefgnaaGreatDoorBytesIn
import Derived.Test.YtimeamehmefgnaaGreatDoorRefValS
import Derived.Test.YtimeamehmefgnaaGreatDoorRefPutS
namespace Go.Proofs.YtimeamehmefgnaaGreatDoor
open Go Go.RowKit Go.Shelf

/-- The statements' table in block r: it knows L, in a slice v in a block from H on. -/
def RTabAt (H : Nat) (w : World) (r : Nat) (room : Int) (v : Value) (L : List SymV) : Prop :=
  w.heap[r]? = some (.cells #[.int .i64 room, v] 31 (0, 0)) ∧ S.SliceGe H w v L ∧ S.Fits v ∧ Sorted symCmp L

theorem RTabAt.below {H : Nat} {w w' : World} {r : Nat} {room : Int} {v : Value} {L : List SymV} (h : RTabAt H w r room v L) (hB : Below w.heap.size w w') : RTabAt H w' r room v L :=
  ⟨(hB.block _ (lt_of_block h.1)).trans h.1, h.2.1.below hB, h.2.2⟩

theorem sliceGe_but2 {B s m : Nat} {w w' : World} {v : Value} {xs : List SymV} (h : S.SliceGe B w v xs) (hb : But2 s m w w') (hs : s < B) (hm : m < B) : S.SliceGe B w' v xs := by
  obtain ⟨a, cap, rfl, h | ⟨b, off, hB, rfl, h⟩⟩ := h
  · exact ⟨a, cap, rfl, .inl h⟩
  · exact ⟨_, cap, rfl, .inr ⟨b, off, hB, rfl, elems_block h fun hl => hb.block b hl (by omega) (by omega)⟩⟩

theorem RTabAt.but2 {H s m : Nat} {w w' : World} {r : Nat} {room : Int} {v : Value} {L : List SymV} (h : RTabAt H w r room v L) (hb : But2 s m w w') (hs : s < H) (hm : m < H) (h1 : r ≠ s) (h2 : r ≠ m) : RTabAt H w' r room v L :=
  ⟨(hb.block _ (lt_of_block h.1) h1 h2).trans h.1, sliceGe_but2 h.2.1 hb hs hm, h.2.2⟩

theorem RTabAt.cells {H : Nat} {w : World} {r : Nat} {room : Int} {v : Value} {L : List SymV} (h : RTabAt H w r room v L) : w.cell? ⟨r, 0, none⟩ = some (.int .i64 room) ∧ w.cell? ⟨r, 1, none⟩ = some v ∧ w.frozen? ⟨r, 1, none⟩ = false := by
  simp [World.cell?, World.frozen?, h.1]

theorem isCap {x : SymV} (h : validB x = true) (hk : x.k = 1) {c : Int} (hc : capI c = true) : isId c x = (x.t.toList == (letterB c).toList) := by
  have hcc : 65 ≤ c ∧ c ≤ 90 := by simpa [capI] using hc
  have h1 := isLetter h hk (UInt8.ofNat c.toNat)
  have e : ((UInt8.ofNat c.toNat).toNat : Int) = c := by
    rw [UInt8.toNat_ofNat']; omega
  rw [e] at h1
  rw [h1, ByteArray.toList_eq (letterB c)]
  rfl

set_option maxRecDepth 100000 in
set_option maxHeartbeats 1600000 in
theorem refnext_T (H : Nat) (w : World) (r : Nat) (room c : Int) (v : Value) (L : List SymV) (h : RTabAt H w r room v L) (hval : ∀ x ∈ L, validB x = true) (hs : L.length ≤ 100000) :
    Calls Tryz.prog 16 #[.pointer (some ⟨r, 0, none⟩), .int .u8 c] w fun e w' => e = .returned (.int .i64 (nextV L c)) ∧ Below w.heap.size w w' := by
  cases hc : capI c
  · have hcc : c < 65 ∨ 90 < c := by
      simp only [capI, Bool.and_eq_false_iff, decide_eq_false_iff_not] at hc; omega
    have hnx : nextV L c = 0 := by simp [nextV, hc]
    rw [hnx]
    clear hnx hc h
    by_cases h1 : c < 65
    · have f1 : (c < 65) = True := eq_true h1
      clear hcc h1
      go_enter Tryz.func16, Tryz.ntmps16
      go_wp2_with fail
      go_ret
      exact ⟨rfl, Below.refl _ _⟩
    · have f1 : (c < 65) = False := eq_false h1
      have f2 : (90 < c) = True := eq_true (by omega)
      clear hcc h1
      go_enter Tryz.func16, Tryz.ntmps16
      go_wp2_with fail
      go_ret
      exact ⟨rfl, Below.refl _ _⟩
  · have hcc : 65 ≤ c ∧ c ≤ 90 := by simpa [capI] using hc
    have f1 : (c < 65) = False := eq_false (by omega)
    have f2 : (90 < c) = False := eq_false (by omega)
    have hnx : nextV L c = maxN L c + 1 := by simp [nextV, hc]
    rw [hnx]
    have Hc := Lib.hid hc
    clear hnx hcc hc
    obtain ⟨a, cap, rfl, hcs⟩ := h.2.1
    have Hel := Lib.hid (fun W (hB : Below w.heap.size w W) => (h.below hB).2.1.slice)
    have Hr := Lib.hid (fun W (hB : Below w.heap.size w W) => (h.below hB).cells)
    have Hval := Lib.hid hval
    have hcl := conv_letter
    clear hcs h hval
    go_enter Tryz.func16, Tryz.ntmps16
    go_wp2_with fail
    go_loopg [5, 6] L.length (fun k n i wr => ∃ (q : Nat) (g : Int), i = .int .i64 q ∧ n = .int .i64 g ∧ q ≤ L.length ∧ Hid (k = L.length - q ∧ g = maxN (L.take q) c) ∧ Below w.heap.size w wr)
    case atStart => exact ⟨0, 0, rfl, rfl, by omega, Lib.hid ⟨rfl, rfl⟩, Below.refl _ _⟩
    case round =>
      obtain ⟨q, g, rfl, rfl, hq, Hk, hB⟩ := hrel
      obtain ⟨-, c1, -⟩ := Hr.out wr hB
      by_cases hlt : q < L.length
      · obtain ⟨az, capz, hz0, hcs⟩ := Hel.out wr hB
        cases hz0
        obtain ⟨b, off, rfl, hel⟩ : ∃ b off, a = some ⟨b, off, none⟩ ∧ S.Elems wr b off L := by
          rcases hcs with h | h
          · rw [h] at hlt; simp at hlt
          · exact h
        obtain ⟨y, hy⟩ : ∃ y, L[q]? = some y := ⟨L[q], by simp [hlt]⟩
        obtain ⟨e0, e1, e2⟩ := hel q y hy
        have hvy := Hval.out y (List.mem_of_getElem? hy)
        have Hstep := Lib.hid (maxN_take hy c)
        by_cases hk : y.k = 1
        · have hQ := isCap hvy hk Hc.out
          obtain ⟨yk, yt, yn⟩ := y
          dsimp only at hk hQ e0 e1 e2
          subst hk
          have hB8 := box1_S wr ⟨1, yt, yn⟩
          dsimp only at hB8
          have hC8 := hB.trans (hB8.mono hB.size)
          have hszz : (wr.alloc (.cells #[.int .i64 1, .string yt, .int .i64 yn] 33)).heap.size = wr.heap.size + 1 := by simp
          have hBa : Below wr.heap.size wr ((wr.alloc (.cells #[.int .i64 1, .string yt, .int .i64 yn] 33)).alloc (.cells #[.int .u8 c] 5)) := hB8.alloc hB8.size _
          have hCa := hB.trans (hBa.mono hB.size)
          have hcl2 := hcl (wr.alloc (.cells #[.int .i64 1, .string yt, .int .i64 yn] 33)) c
          rw [hszz] at hcl2
          clear hy hcs hel hvy hszz hB8 hBa
          cases hb : (yt.toList == (letterB c).toList)
          · have Hfin := Lib.hid (show g = maxN (L.take (q + 1)) c by rw [Hstep.out, hQ, hb, if_neg (by simp)]; exact Hk.out.2)
            clear hQ
            go_wp2_with fail
            go_roundg (L.length - (q + 1))
            case measure => rw [Hk.out.1]; omega
            case rel => exact ⟨q + 1, g, by go_num, rfl, by omega, Lib.hid ⟨rfl, Hfin.out⟩, hCa⟩
          · have hst : maxN (L.take (q + 1)) c = max g yn := by rw [Hstep.out, hQ, hb, if_pos rfl, Hk.out.2]
            have Hst := Lib.hid hst
            clear hst hQ
            by_cases hgt : g < yn
            · have Hy1 := Lib.hid (show yn = maxN (L.take (q + 1)) c by rw [Hst.out]; omega)
              go_wp2_with fail
              go_roundg (L.length - (q + 1))
              case measure => rw [Hk.out.1]; omega
              case rel => exact ⟨q + 1, yn, by go_num, rfl, by omega, Lib.hid ⟨rfl, Hy1.out⟩, hCa⟩
            · have Hy1 := Lib.hid (show g = maxN (L.take (q + 1)) c by rw [Hst.out]; omega)
              go_wp2_with fail
              go_roundg (L.length - (q + 1))
              case measure => rw [Hk.out.1]; omega
              case rel => exact ⟨q + 1, g, by go_num, rfl, by omega, Lib.hid ⟨rfl, Hy1.out⟩, hCa⟩
        · have k1 : (y.k == 1) = false := by simp [hk]
          have hQ := isId_no hk c
          have hC8 := hB.trans ((box1_S wr y).mono hB.size)
          have Hfin := Lib.hid (show g = maxN (L.take (q + 1)) c by rw [Hstep.out, hQ, if_neg (by simp)]; exact Hk.out.2)
          have Hk1 := Lib.hid hk
          clear hk hQ hy hcs hel hvy
          go_wp2_with fail
          go_roundg (L.length - (q + 1))
          case measure => rw [Hk.out.1]; omega
          case rel => exact ⟨q + 1, g, by go_num, rfl, by omega, Lib.hid ⟨rfl, Hfin.out⟩, hC8⟩
      · obtain rfl : q = L.length := by omega
        have hg : g = maxN L c := by have := Hk.out.2; rwa [List.take_length] at this
        have hg0 := maxN_nonneg L c
        have hg1 := maxN_le Hval.out c
        rw [← hg] at hg0 hg1
        have Hg := Lib.hid hg
        clear hg
        go_wp2_with fail
        go_ret
        exact ⟨by rw [← Hg.out]; rfl, hB⟩

end Go.Proofs.YtimeamehmefgnaaGreatDoor
