/- The program's Append gives a new slice with the bytes and the frame, or ErrInvalid where the payload is too long, for all slices. Condition: they are shorter than 2 to the 47. -/
import Derived.Test.YtdaenfhedepiaaaExtend
import Derived.Test.YtdaenfhedepiaaaConcat
import Derived.Test.YtdaenfhedepiaaaWordApp
import Derived.Great.BuildSlice
set_option linter.unusedVariables false
namespace Go.Proofs.Ytdaenfhedepiaaa
open Go.RowKit

/-- the call returned a new slice with the bytes zs -/
def NewBytes (w : World) (zs : List Int) (e : Ending) (w' : World) : Prop :=
  ∃ g cap, e = .returned (.slice (some ⟨g, 0, none⟩) zs.length cap) ∧ Bs w' (some ⟨g, 0, none⟩) zs.length cap zs ∧ Below w.heap.size w w'
theorem be4 (u : Int) : be 4 u = [u / 16777216 % 256, u / 65536 % 256, u / 256 % 256, u % 256] := by
  have e2 : u / 256 / 256 = u / 65536 := by omega
  have e3 : u / 65536 / 256 = u / 16777216 := by omega
  simp [be, e2, e3]
/-- a row of the call's own, marked or not, reads as its bytes -/
theorem bs_new (w : World) (cells : Array Value) (fz : Nat × Nat) (zs : List Int) (hc : cells.toList = U8 zs) (hz : Byt zs) (n : Nat) (hn : zs.length = n) : Bs (w.alloc (.cells cells 5 fz)) (some ⟨w.heap.size, 0, none⟩) n n zs := by
  refine ⟨hn, Nat.le_refl _, (fun e => by cases e), hz, fun h0 => ⟨w.heap.size, 0, rfl, by simp, fun j hj => ?_⟩⟩
  rw [Nat.zero_add, cell_of_row _ _ j cells _ fz (heap_alloc_new w _), ← Array.getElem?_toList, hc]
  unfold U8
  rw [List.getElem?_map, List.getElem?_eq_getElem (by omega), List.getD_eq_getElem?_getD, List.getElem?_eq_getElem (by omega)]
  rfl

theorem sumToBytes_any (c : Int) (w : World) (h0 : 0 ≤ c) (h1 : c < 4294967296) : Calls Try.prog 28 #[.int .u32 c] w (NewBytes w (be 4 c)) := by
  have hm : ∀ x : Int, 0 ≤ x % 256 ∧ x % 256 ≤ 255 := fun x => by omega
  have HM := Lib.hid hm
  have HE := Lib.hid (be4 c)
  clear hm
  go_enter Try.func28, Try.ntmps28
  go_wp2
  go_ret
  have e1 : c / 16777216 % 256 = c / 16777216 := by omega
  have hl := be_len 4 c
  refine ⟨w.heap.size, 4, by rw [hl]; rfl, ?_, (Below.refl _ _).alloc (Nat.le_refl _) _⟩
  rw [hl]
  exact bs_new _ _ _ _ (by rw [HE.out, e1]; rfl) (be_byt _ _) 4 hl

def partA (a0 a1 a2 a3 : Option Addr) : Nat → Option Addr | 0 => a0 | 1 => a1 | 2 => a2 | _ => a3
def partN (a0 a1 a2 a3 : Nat) : Nat → Nat | 0 => a0 | 1 => a1 | 2 => a2 | _ => a3
def partZ (a0 a1 a2 a3 : List Int) : Nat → List Int | 0 => a0 | 1 => a1 | 2 => a2 | _ => a3

set_option maxHeartbeats 1000000 in
theorem append_long (a c : Option Addr) (n cap m cp : Nat) (xs zs : List Int) (w : World) (h' : Bs w c m cp zs) (hm : 1048576 < m) :
    Calls Try.prog 19 #[.slice a n cap, .slice c m cp] w (AppPost w xs zs) := by
  have HL := Lib.hid h'.len
  have hmi : (1048576 : Int) < (m : Int) := by omega
  have HM := Lib.hid hm
  clear hm h'
  go_enter Try.func19, Try.ntmps19
  go_wp2
  go_ret2
  exact ⟨fun h => absurd h (by have := HM.out; have := HL.out; omega), fun _ => rfl, Below.refl _ _⟩

set_option maxHeartbeats 1000000 in
theorem append_short (a c : Option Addr) (n cap m cp : Nat) (xs zs : List Int) (w : World) (h : Bs w a n cap xs) (h' : Bs w c m cp zs) (hn : n ≤ 140737488351232) (hm : m ≤ 1048576) :
    Calls Try.prog 19 #[.slice a n cap, .slice c m cp] w (AppPost w xs zs) := by
  have HL := Lib.hid h'.len
  have hmi : (m : Int) ≤ 1048576 := by omega
  have hv1 := vs9_byt (m : Int) (by omega) (by omega)
  obtain ⟨hv2, hv3⟩ := vs_len 9 (m : Int)
  have HM := Lib.hid hm
  clear hm
  go_enter Try.func19, Try.ntmps19
  go_wp2_with fail
  refine (appendUvarint_any none 0 0 [] (m : Int) _ (Bs.nil_ _) (by omega) (by omega) (by omega)).mono ?_
  rintro e w1 ⟨rfl, ho, hb⟩
  rw [List.nil_append, Nat.zero_add] at ho
  rw [Nat.zero_add]
  have v1 := Bs.own ho hv1
  have x1 := h.below hb
  have z1 := h'.below hb
  clear ho h h'
  go_wp2_with fail
  refine (checksum_ok _ _ _ _ _ v1 (by omega)).mono ?_
  rintro e w2 ⟨rfl, hb2⟩
  have v2 := v1.below hb2
  have x2 := x1.below hb2
  have z2 := z1.below hb2
  have b2 := hb.trans (hb2.mono hb.size)
  obtain ⟨hc1, hc2⟩ := cs_bd 0 (vs 9 (m : Int))
  clear v1 x1 z1 hb hb2
  go_wp2_with fail
  refine (extend_ok _ _ _ _ _ _ hc1 hc2 z2 (by have := HM.out; omega)).mono ?_
  rintro e w3 ⟨rfl, hb3⟩
  have v3 := v2.below hb3
  have x3 := x2.below hb3
  have z3 := z2.below hb3
  have b3 := b2.trans (hb3.mono b2.size)
  clear v2 x2 z2 b2 hb3
  rw [cs_app _ _ _ hv1]
  obtain ⟨hd1, hd2⟩ := cs_bd 0 (vs 9 (m : Int) ++ zs)
  clear hc1 hc2
  go_wp2_with fail
  refine (sumToBytes_any _ _ hd1 hd2).mono ?_
  rintro e w4 ⟨g4, cap4, rfl, s4, hb4⟩
  have v4 := v3.below hb4
  have x4 := x3.below hb4
  have z4 := z3.below hb4
  have b4 := b3.trans (hb4.mono b3.size)
  clear v3 x3 z3 b3 hb4
  have e1 : fr zs = vs 9 (m : Int) ++ zs ++ be 4 (cs 0 (vs 9 (m : Int) ++ zs)) := by unfold fr hd; rw [HL.out]
  generalize hS : be 4 (cs 0 (vs 9 (m : Int) ++ zs)) = S at s4 e1 ⊢
  have hSl : S.length = 4 := by rw [← hS, be_len]
  have HE := Lib.hid e1
  clear hS e1 hd1 hd2
  rw [hSl] at s4 ⊢
  generalize hV : vs 9 (m : Int) = V at *
  generalize hVl : V.length = L at *
  have HVL := Lib.hid hVl
  have HSL := Lib.hid hSl
  clear hV hVl hSl
  go_wp2_with fail
  generalize hcs : (#[Value.slice a n cap, Value.slice (some ⟨w.heap.size, 0, none⟩) L 10, Value.slice c m cp, Value.slice (some ⟨g4, 0, none⟩) 4 cap4] : Array Value) = cells
  have hal : Below w4.heap.size w4 (w4.alloc (Obj.cells cells 22)) := (Below.refl _ _).alloc (Nat.le_refl _) _
  have hcell : ∀ j, j < 4 → (w4.alloc (Obj.cells cells 22)).cell? ⟨w4.heap.size, 0 + j, none⟩ = some (.slice (partA a (some ⟨w.heap.size, 0, none⟩) c (some ⟨g4, 0, none⟩) j) (partN n L m 4 j) (partN cap 10 cp cap4 j)) := by
    intro j hj
    rw [Nat.zero_add, cell_of_row _ _ j _ _ _ (heap_alloc_new w4 _), ← hcs]
    match j, hj with
    | 0, _ => rfl
    | 1, _ => rfl
    | 2, _ => rfl
    | 3, _ => rfl
  have hbs : ∀ j, j < 4 → Bs (w4.alloc (Obj.cells cells 22)) (partA a (some ⟨w.heap.size, 0, none⟩) c (some ⟨g4, 0, none⟩) j) (partN n L m 4 j) (partN cap 10 cp cap4 j) (partZ xs V zs S j) := by
    intro j hj
    match j, hj with
    | 0, _ => exact x4.below hal
    | 1, _ => exact v4.below hal
    | 2, _ => exact z4.below hal
    | 3, _ => exact s4.below hal
  have hxl := x4.len
  have ht : tot (partN n L m 4) 4 = n + (L + m + 4) := by simp [tot, partN]; omega
  have hz : cat (partZ xs V zs S) 4 = xs ++ (V ++ zs ++ S) := by simp [cat, partZ]
  have HT := Lib.hid ht
  have HZ := Lib.hid hz
  have hsum : 1 ≤ tot (partN n L m 4) 4 ∧ tot (partN n L m 4) 4 ≤ 281474976710656 := by rw [ht]; omega
  have b5 := b4.trans (hal.mono b4.size)
  have HXL := Lib.hid hxl
  clear hcs hal ht hz hxl x4 v4 z4 s4 b4
  refine (concat_any w4.heap.size 0 4 4 _ _ _ _ _ (by simp) (Nat.le_refl _) (by omega) hcell hbs hsum.1 hsum.2).mono ?_
  rintro e w5 ⟨g5, cap5, rfl, y5, hb5⟩
  have b6 := b5.trans (hb5.mono b5.size)
  rw [HT.out, HZ.out] at y5
  rw [HT.out]
  clear hcell hbs hsum b5 hb5
  go_wp2
  go_ret2
  have hfl : (fr zs).length = L + m + 4 := by rw [HE.out]; simp [HVL.out, HL.out, HSL.out]; omega
  refine ⟨fun _ => ⟨g5, cap5, ?_, ?_⟩, fun h => absurd h (by have := HM.out; have := HL.out; omega), b6⟩
  · rw [hfl, HXL.out]; rfl
  · rw [hfl, HXL.out, HE.out]; exact y5

theorem append_ok : AppendOk := by
  intro a c n cap m cp xs zs w h h' hn hm
  by_cases hb : 1048576 < m
  · exact append_long a c n cap m cp xs zs w h' hb
  · exact append_short a c n cap m cp xs zs w h h' hn (by omega)
end Go.Proofs.Ytdaenfhedepiaaa
