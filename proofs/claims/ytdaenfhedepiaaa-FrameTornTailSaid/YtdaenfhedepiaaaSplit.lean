/- The program's Split gives the payloads and the end that reading frames in turn gives, for every slice of bytes of at most 100000. It writes nothing that was there. -/
import Derived.Test.YtdaenfhedepiaaaFrameOwn
import Derived.Test.YtdaenfhedepiaaaSpl
set_option linter.unusedVariables false
namespace Go.Proofs.Ytdaenfhedepiaaa
open Go.RowKit

theorem sliceInfo : (Try.prog.info? 22).map (fun i => (i.zero, i.size, i.bytes)) = some (some (.slice none 0 0), 1, 24) := by kernel_rfl

/-- a slice of the call's own, or nil, with the bytes zs -/
def OwnB (B : Nat) (w : World) (a : Option Addr) (cap : Nat) (zs : List Int) : Prop :=
  w.ownsRow B 5 1 (.slice a zs.length cap) zs.length (U8 zs) ∧ Byt zs
/-- the values xs are slices of the call's own with the payloads ps -/
def Pays (B : Nat) (w : World) (xs : List Value) (ps : List (List Int)) : Prop :=
  xs.length = ps.length ∧ ∀ j, j < ps.length → ∃ a c, xs[j]? = some (.slice a (ps.getD j []).length c) ∧ OwnB B w a c (ps.getD j [])
theorem own_other {w w' : World} {B B' m n : Nat} {x v : Value} {xs ys : List Value} (h5 : w.ownsRow B 5 1 x n xs) (h22 : w.ownsRow B' 22 1 v m ys) (hg : w.grownBy w' v.ownBlock) : w'.ownsRow B 5 1 x n xs := by
  refine ⟨h5.1, ?_⟩
  rcases h5.2 with h | ⟨g, cap, cur, rfl, hb, hc, r⟩
  · exact .inl h
  · have hlt : g < w.heap.size := by
      rcases Nat.lt_or_ge g w.heap.size with hlt | hge
      · exact hlt
      · rw [Array.getElem?_eq_none hge] at hc; cases hc
    refine .inr ⟨g, cap, cur, rfl, hb, (hg.block g hlt fun e => ?_).trans hc, r⟩
    rcases h22.2 with ⟨rfl, _⟩ | ⟨g2, cap2, cur2, rfl, _, hc2, _⟩
    · simp [Value.ownBlock] at e
    · simp only [Value.ownBlock, Option.some.injEq] at e
      subst e
      rw [hc] at hc2
      simp at hc2
theorem own_keep {w w' : World} {B n : Nat} {e : TypeId} {v : Value} {xs : List Value} (h : w.ownsRow B e 1 v n xs) (hb : Below w.heap.size w w') : w'.ownsRow B e 1 v n xs := by
  refine ⟨h.1, ?_⟩
  rcases h.2 with h | ⟨g, cap, cur, rfl, hB, hc, r⟩
  · exact .inl h
  · have hlt : g < w.heap.size := by
      rcases Nat.lt_or_ge g w.heap.size with hlt | hge
      · exact hlt
      · rw [Array.getElem?_eq_none hge] at hc; cases hc
    exact .inr ⟨g, cap, cur, rfl, hB, (hb.block g hlt).trans hc, r⟩
theorem own_from {w : World} {B n : Nat} {e : TypeId} {v : Value} {xs : List Value} (h : w.ownsRow B e 1 v n xs) : ∀ k, v.ownBlock = some k → B ≤ k := by
  intro k hk
  rcases h.2 with ⟨rfl, _⟩ | ⟨g, cap, cur, rfl, hg, _⟩
  · simp [Value.ownBlock] at hk
  · simp [Value.ownBlock] at hk; omega
theorem Pays.keep {w w' : World} {B : Nat} {xs : List Value} {ps : List (List Int)} (h : Pays B w xs ps) (hb : Below w.heap.size w w') : Pays B w' xs ps :=
  ⟨h.1, fun j hj => by
    obtain ⟨a, c, h1, h2, h3⟩ := h.2 j hj
    exact ⟨a, c, h1, own_keep h2 hb, h3⟩⟩
theorem Pays.other {w w' : World} {B B' m : Nat} {v : Value} {xs ys : List Value} {ps : List (List Int)} (h : Pays B w xs ps) (h22 : w.ownsRow B' 22 1 v m ys) (hg : w.grownBy w' v.ownBlock) : Pays B w' xs ps :=
  ⟨h.1, fun j hj => by
    obtain ⟨a, c, h1, h2, h3⟩ := h.2 j hj
    exact ⟨a, c, h1, own_other h2 h22 hg, h3⟩⟩
theorem Pays.snoc {w : World} {B : Nat} {xs : List Value} {ps : List (List Int)} {a : Option Addr} {c : Nat} {P : List Int} (h : Pays B w xs ps) (hP : OwnB B w a c P) : Pays B w (xs ++ [.slice a P.length c]) (ps ++ [P]) := by
  refine ⟨by simp [h.1], fun j hj => ?_⟩
  rcases Nat.lt_or_ge j ps.length with hl | hl
  · obtain ⟨a', c', h1, h2⟩ := h.2 j hl
    have e : (ps ++ [P]).getD j [] = ps.getD j [] := by simp [List.getD_eq_getElem?_getD, List.getElem?_append_left hl]
    rw [e]
    exact ⟨a', c', by rw [List.getElem?_append_left (by rw [h.1]; exact hl)]; exact h1, h2⟩
  · simp only [List.length_append, List.length_cons, List.length_nil] at hj
    obtain rfl : j = ps.length := by omega
    have e : (ps ++ [P]).getD ps.length [] = P := by simp [List.getD_eq_getElem?_getD]
    rw [e]
    exact ⟨a, c, by rw [List.getElem?_append_right (by rw [h.1]; exact Nat.le_refl _), h.1]; simp, hP⟩
def SplitRel (w : World) (zs : List Int) (n : Nat) (v i : Value) (wr : World) : Prop :=
  ∃ (ps : List (List Int)) (p : Nat) (xs : List Value), i = .int .i64 (p : Int) ∧ wr.ownsRow w.heap.size 22 1 v ps.length xs ∧ Pays w.heap.size wr xs ps ∧ To zs 0 ps (p : Int) ∧ p ≤ n ∧ ps.length ≤ p ∧ Below w.heap.size w wr
def SplitPost (w : World) (zs : List Int) (e : Ending) (w' : World) : Prop :=
  ∃ (ps : List (List Int)) (q : Nat) (xs : List Value) (v : Value), e = .returned (.tuple #[v, .int .i64 (q : Int)]) ∧ w'.ownsRow w.heap.size 22 1 v ps.length xs ∧ Pays w.heap.size w' xs ps ∧ Spl zs ps (q : Int) ∧ Below w.heap.size w w'

set_option maxHeartbeats 1000000 in
theorem split_any (a : Option Addr) (n cap : Nat) (zs : List Int) (w : World) (h : Bs w a n cap zs) (hn : n ≤ 100000) :
    Calls Try.prog 24 #[.slice a n cap] w (SplitPost w zs) := by
  obtain ⟨i0, hi, hz0, hz1, hz2⟩ := info_parts sliceInfo
  have HB := Lib.hid h
  clear h
  go_enter Try.func24, Try.ntmps24
  go_wp2
  go_loopw [4, 5] (fun v i wr => SplitRel w zs n v i wr) (fun _ i _ => n - (intOf i).toNat)
  case atStart => exact ⟨[], 0, [], rfl, World.ownsRow_nil _ _ _ _, ⟨rfl, fun j hj => by simp at hj⟩, To.nil 0, Nat.zero_le _, Nat.le_refl _, Below.refl _ _⟩
  case round =>
    obtain ⟨ps, p, xs, rfl, hown, hpay, hto, hp, hpl, hbl⟩ := hrel
    have HT := Lib.hid hto
    clear hto
    go_wp2_with fail
    refine (next_own _ _ _ (p : Int) zs _ (HB.out.below hbl) (by omega)).mono ?_
    rintro e w1 ⟨pa, pc, rfl, hq, hb1⟩
    obtain ⟨x, P, q, HX⟩ : ∃ x P q, Hid (nx zs (p : Int) = (x, P, q)) := ⟨_, _, _, rfl⟩
    rw [HX.out] at hq ⊢
    dsimp only at hq ⊢
    by_cases hx : x = 0
    · subst hx
      have hnx := nx_next HB.out.byt HX.out
      rw [HB.out.len] at hnx
      obtain ⟨r, rfl⟩ := Int.eq_ofNat_of_zero_le (show 0 ≤ q by omega)
      have hown1 := own_keep hown hb1
      have hpay1 := hpay.keep hb1
      have hbl1 : Below w.heap.size w w1 := hbl.trans (hb1.mono hbl.size)
      have hP : OwnB w.heap.size w1 pa pc P := ⟨own_mono hq.1 hbl.size, hq.2⟩
      have hpr : p + 5 ≤ r := by omega
      have hrn : r ≤ n := by omega
      clear hown hpay hbl hb1 hq hnx
      have hal : Below w1.heap.size w1 (w1.alloc (Obj.cells #[Value.slice pa P.length pc] 22)) := (Below.refl _ _).alloc (Nat.le_refl _) _
      have hown2 := own_keep hown1 hal
      have hpay2 := hpay1.keep hal
      have hP2 : OwnB w.heap.size (w1.alloc (Obj.cells #[Value.slice pa P.length pc] 22)) pa pc P := ⟨own_keep hP.1 hal, hP.2⟩
      have hbl2 : Below w.heap.size w (w1.alloc (Obj.cells #[Value.slice pa P.length pc] 22)) := hbl1.trans (hal.mono hbl1.size)
      generalize hL : P.length = L at *
      have HL := Lib.hid hL
      clear hL hown1 hpay1 hbl1 hP hal
      go_wp2_with (at_builtin; refine wpList_append_own _ rfl (.tmp 20) (.tmp 22) 42 rfl w.heap.size 22 i0 (.slice none 0 0) 1 24 Try.underlying42 hi hz0 hz1 hz2 rfl (by decide) _ ps.length xs rfl hown2 ⟨w1.heap.size, 0, none⟩ 1 1 [.slice pa L pc] rfl rfl (cell_new1 _ _ _) (by intro u hu; simp at hu; subst hu; rfl) (by unfold maxLen; omega) (by omega) hbl2.size ?_; intro v' w' hown' hgrow hnz)
      have hpl' : ps.length + 1 ≤ r := by omega
      refine ⟨⟨ps ++ [P], r, xs ++ [.slice pa L pc], rfl, by simpa using hown', ?_, To.snoc HT.out HX.out, hrn, by simpa using hpl', hbl2.grown hgrow hbl2.size (own_from hown2)⟩, by simp [intOf]; omega⟩
      have hP3 : OwnB w.heap.size w' pa pc P := ⟨own_other hP2.1 hown2 hgrow, hP2.2⟩
      have := (hpay2.other hown2 hgrow).snoc hP3
      rw [HL.out] at this
      exact this
    · have hne : (x != 0) = true := by simpa using hx
      go_wp2
      go_ret2
      refine ⟨ps, p, xs, _, rfl, own_keep hown hb1, hpay.keep hb1, ⟨HT.out, by rw [HX.out]; exact hx⟩, hbl.trans (hb1.mono hbl.size)⟩
end Go.Proofs.Ytdaenfhedepiaaa
