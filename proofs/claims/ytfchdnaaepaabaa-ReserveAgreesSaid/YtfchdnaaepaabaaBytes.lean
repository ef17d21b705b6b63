/- Slices of bytes as the proofs of layer word speak of them: a slice reads as a list of numbers from 0 to 255; what is kept when the call makes memory; a slice of the call's own read as such; a part of a slice. No program is spoken of, but for the number of the type byte. -/
import Derived.Test.YtfchdnaaepaabaaPure
import Derived.Below
import Derived.Laws.OwnMore
import Derived.OwnWalk
import Derived.Deep.Draws
set_option linter.unusedVariables false
namespace Go.Proofs.Ytfchdnaaepaabaa
open Go Go.RowKit

def U8 (zs : List Int) : List Value := zs.map (Value.int .u8)
/-- each number is a byte's -/
def Byt (zs : List Int) : Prop := ∀ z ∈ zs, 0 ≤ z ∧ z ≤ 255
theorem Byt.nil : Byt [] := fun _ h => by cases h
theorem Byt.app {xs ys : List Int} (h : Byt xs) (k : Byt ys) : Byt (xs ++ ys) := fun z hz => by
  rcases List.mem_append.1 hz with hz | hz
  · exact h z hz
  · exact k z hz
theorem Byt.one {x : Int} (h0 : 0 ≤ x) (h1 : x ≤ 255) : Byt [x] := fun z hz => by
  simp at hz; subst hz; exact ⟨h0, h1⟩
theorem Byt.take {xs : List Int} (h : Byt xs) (n : Nat) : Byt (xs.take n) := fun z hz => h z (List.mem_of_mem_take hz)
theorem Byt.drop {xs : List Int} (h : Byt xs) (n : Nat) : Byt (xs.drop n) := fun z hz => h z (List.mem_of_mem_drop hz)
theorem Byt.get {xs : List Int} (h : Byt xs) (j : Nat) : 0 ≤ xs.getD j 0 ∧ xs.getD j 0 ≤ 255 := by
  rw [List.getD_eq_getElem?_getD]
  rcases Nat.lt_or_ge j xs.length with hj | hj
  · rw [List.getElem?_eq_getElem hj]; exact h _ (List.getElem_mem hj)
  · rw [List.getElem?_eq_none hj]; simp

/-- the slice value (a, n, cap) reads as the bytes zs -/
def Bs (w : World) (a : Option Addr) (n cap : Nat) (zs : List Int) : Prop :=
  zs.length = n ∧ n ≤ cap ∧ (a = none → n = 0 ∧ cap = 0) ∧ Byt zs ∧
  (0 < n → ∃ b off, a = some ⟨b, off, none⟩ ∧ b < w.heap.size ∧ ∀ j, j < n → w.cell? ⟨b, off + j, none⟩ = some (.int .u8 (zs.getD j 0)))

theorem add_at (b off j : Nat) : (⟨b, off, none⟩ : Addr).add j = ⟨b, off + j, none⟩ := by
  unfold Addr.add; split <;> simp_all
section
variable {w w' : World} {a : Option Addr} {n cap : Nat} {zs : List Int}
theorem Bs.keep (h : Bs w a n cap zs) (hs : w.heap.size ≤ w'.heap.size) (hk : ∀ p : Addr, p.block < w.heap.size → w'.cell? p = w.cell? p) : Bs w' a n cap zs := by
  obtain ⟨h1, h2, h3, h4, h5⟩ := h
  refine ⟨h1, h2, h3, h4, fun hn => ?_⟩
  obtain ⟨b, off, ha, hb, hc⟩ := h5 hn
  exact ⟨b, off, ha, Nat.lt_of_lt_of_le hb hs, fun j hj => (hk ⟨b, off + j, none⟩ hb).trans (hc j hj)⟩
theorem Bs.below (h : Bs w a n cap zs) (hb : Below w.heap.size w w') : Bs w' a n cap zs := h.keep hb.size fun _ hp => hb.cell hp
theorem Bs.nil_ (w : World) : Bs w none 0 0 [] := ⟨rfl, Nat.le_refl _, fun _ => ⟨rfl, rfl⟩, Byt.nil, fun h => absurd h (by omega)⟩
theorem Bs.drew (h : Bs w a n cap zs) : Bs w.drew a n cap zs := h
theorem Bs.drewN (h : Bs w a n cap zs) (k : Nat) : Bs (w.drewN k) a n cap zs := h
theorem Bs.len (h : Bs w a n cap zs) : zs.length = n := h.1
theorem Bs.byt (h : Bs w a n cap zs) : Byt zs := h.2.2.2.1
theorem Bs.at_ (h : Bs w a n cap zs) (hn : 0 < n) : ∃ b off, a = some ⟨b, off, none⟩ ∧ b < w.heap.size ∧ ∀ j, j < n → w.cell? ⟨b, off + j, none⟩ = some (.int .u8 (zs.getD j 0)) := h.2.2.2.2 hn
/-- as the source of an append -/
theorem Bs.news (h : Bs w a n cap zs) : ∀ ad, a = some ad → ∀ j u, (U8 zs)[j]? = some u → w.cell? (ad.add j) = some u := by
  intro ad ha j u hu
  unfold U8 at hu
  rw [List.getElem?_map] at hu
  rcases Nat.lt_or_ge j zs.length with hj | hj
  · obtain ⟨b, off, ha', hb, hc⟩ := h.at_ (by have := h.len; omega)
    rw [ha] at ha'
    injection ha' with ha'
    subst ha'
    have := hc j (by have := h.len; omega)
    rw [List.getElem?_eq_getElem hj] at hu
    simp only [Option.map_some, Option.some.injEq] at hu
    subst hu
    rw [add_at]
    simpa [List.getD_eq_getElem?_getD, List.getElem?_eq_getElem hj] using this
  · rw [List.getElem?_eq_none hj] at hu; cases hu
theorem u8_len (zs : List Int) : (U8 zs).length = zs.length := by simp [U8]
theorem u8_one (zs : List Int) : ∀ u ∈ U8 zs, u.oneCell' = true := by
  intro u hu
  unfold U8 at hu
  obtain ⟨z, _, rfl⟩ := List.mem_map.1 hu
  rfl
theorem u8_app (xs ys : List Int) : U8 (xs ++ ys) = U8 xs ++ U8 ys := by simp [U8]
theorem u8_set (zs : List Int) (j : Nat) (x : Int) : (U8 zs).set j (Value.int .u8 x) = U8 (zs.set j x) := by unfold U8; rw [List.map_set]
theorem u8_snoc {zs : List Int} {k : Nat} (hk : k < zs.length) : U8 (zs.take k) ++ [Value.int .u8 (zs[k]?.getD 0)] = U8 (zs.take (k + 1)) := by
  rw [List.take_succ_eq_append_getElem hk, u8_app, List.getElem?_eq_getElem hk]; rfl
/-- a slice of the call's own -/
theorem Bs.own {B g : Nat} (h : w.ownsRow B 5 1 (.slice (some ⟨g, 0, none⟩) n cap) n (U8 zs)) (hz : Byt zs) : Bs w (some ⟨g, 0, none⟩) n cap zs := by
  have hl : zs.length = n := by have := h.1; rw [u8_len] at this; omega
  have hf := h.2
  rcases hf with ⟨h', _⟩ | ⟨g', cap', cur, h', hb, hg, hnc, hcm, hcs, htake⟩
  · simp at h'
  · simp only [Value.slice.injEq, Option.some.injEq, Addr.mk.injEq, and_true, true_and] at h'
    obtain ⟨rfl, rfl⟩ := h'
    have hlt : g < w.heap.size := by
      rcases Nat.lt_or_ge g w.heap.size with hlt | hge
      · exact hlt
      · rw [Array.getElem?_eq_none hge] at hg; cases hg
    refine ⟨hl, hnc, (fun e => by cases e), hz, fun hn => ⟨g, 0, rfl, hlt, fun j hj => ?_⟩⟩
    rw [Nat.zero_add, h.cellAt j (by omega)]
    unfold U8
    rw [List.getElem?_map, List.getElem?_eq_getElem (by omega), List.getD_eq_getElem?_getD, List.getElem?_eq_getElem (by omega)]
    rfl
/-- the part x[i:j] -/
theorem Bs.part {b off i j c : Nat} (h : Bs w (some ⟨b, off, none⟩) n cap zs) (hij : i ≤ j) (hj : j ≤ n) (hc : j - i ≤ c) : Bs w (some ⟨b, off + i, none⟩) (j - i) c ((zs.drop i).take (j - i)) := by
  have hl := h.len
  refine ⟨by simp; omega, hc, (fun e => by cases e), (h.byt.drop i).take _, fun hn => ?_⟩
  obtain ⟨b', off', ha, hb, hcell⟩ := h.at_ (by omega)
  simp only [Option.some.injEq, Addr.mk.injEq, and_true] at ha
  obtain ⟨rfl, rfl⟩ := ha
  refine ⟨b, off + i, rfl, hb, fun k hk => ?_⟩
  rw [Nat.add_assoc, hcell (i + k) (by omega)]
  simp only [List.getD_eq_getElem?_getD]
  rw [List.getElem?_take, if_pos hk, List.getElem?_drop]
end
theorem bs_empty (w : World) (x : Addr) (n c : Nat) (zs : List Int) (hn : n = 0) (hz : zs = []) : Bs w (some x) n c zs := by
  subst hn hz
  exact ⟨rfl, Nat.zero_le _, (fun e => by cases e), Byt.nil, fun h => absurd h (by omega)⟩
theorem own_mono {w : World} {B B' : Nat} {v : Value} {n : Nat} {xs : List Value} (h : w.ownsRow B 5 1 v n xs) (hB : B' ≤ B) : w.ownsRow B' 5 1 v n xs := by
  obtain ⟨h1, h2⟩ := h
  refine ⟨h1, ?_⟩
  rcases h2 with h2 | ⟨g, cap, cur, hv, hg, r⟩
  · exact .inl h2
  · exact .inr ⟨g, cap, cur, hv, Nat.le_trans hB hg, r⟩
theorem own_below {w w' : World} {B g n cap : Nat} {xs : List Value} (h : w.ownsRow B 5 1 (.slice (some ⟨g, 0, none⟩) n cap) n xs) (hb : Below w.heap.size w w') : w'.ownsRow B 5 1 (.slice (some ⟨g, 0, none⟩) n cap) n xs := by
  obtain ⟨h1, h2⟩ := h
  refine ⟨h1, ?_⟩
  rcases h2 with ⟨h', _⟩ | ⟨g', cap', cur, h', hB, hg, r⟩
  · simp at h'
  · have hlt : g' < w.heap.size := by
      rcases Nat.lt_or_ge g' w.heap.size with hlt | hge
      · exact hlt
      · rw [Array.getElem?_eq_none hge] at hg; cases hg
    exact .inr ⟨g', cap', cur, h', hB, (hb.block g' hlt).trans hg, r⟩
theorem own_base {w : World} {B : Nat} {v : Value} {n : Nat} {xs : List Value} (h : w.ownsRow B 5 1 v n xs) : ∀ k, v.ownBlock = some k → B ≤ k := by
  intro k hk
  rcases h.2 with ⟨rfl, _⟩ | ⟨g, cap, cur, rfl, hg, _⟩
  · simp [Value.ownBlock] at hk
  · simp [Value.ownBlock] at hk; omega
theorem own_form {w : World} {B : Nat} {v : Value} {n : Nat} {xs : List Value} (h : w.ownsRow B 5 1 v n xs) (hn : 0 < n) : ∃ g cap, v = .slice (some ⟨g, 0, none⟩) n cap := by
  rcases h.2 with ⟨_, h0⟩ | ⟨g, cap, cur, rfl, _⟩
  · omega
  · exact ⟨g, cap, rfl⟩
/-- the new element of an append, in the block that was made for it -/
theorem cell_new1 (w : World) (x : Value) (t : TypeId) : ∀ j u, [x][j]? = some u → (w.alloc (.cells #[x] t)).cell? ((⟨w.heap.size, 0, none⟩ : Addr).add j) = some u := by
  intro j u hu
  match j, hu with
  | 0, hu => simp at hu; subst hu; simp [Addr.add]
theorem one_cell1 (k : IntKind) (x : Int) : ∀ u ∈ [Value.int k x], u.oneCell' = true := by
  intro u hu; simp at hu; subst hu; rfl
end Go.Proofs.Ytfchdnaaepaabaa
