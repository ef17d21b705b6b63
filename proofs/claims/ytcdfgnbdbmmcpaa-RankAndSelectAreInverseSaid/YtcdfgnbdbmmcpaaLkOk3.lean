/- The program's lookups keep their contracts. -/
import Derived.Test.YtcdfgnbdbmmcpaaLkOk2
import Derived.Test.YtcdfgnbdbmmcpaaAuPlay1
import Derived.Maps.AppendAt
set_option linter.unusedVariables false
set_option linter.unusedSimpArgs false
namespace Go.Proofs.Ytcdfgnbdbmmcpaa
open Go.RowKit
set_option maxHeartbeats 2000000 in
set_option maxRecDepth 100000 in
theorem ceilingP_any (I : AImpl) {p : Value} {A : Ar} {rd : Int} {F : Nat → Prop} {i : Nat} {t : Tr} {l : List En} (k : Int) (w : World) (hI : I.Is w p A rd F) (hT : TreeAt A i t l) (h0 : 0 ≤ rd) (h1 : rd ≤ 1099511627776) (hk : i64R k) :
    Calls Try.prog 22 #[p, .int .u32 (i : Int), .int .i64 k] w (ReadsTo I p A rd F (mostI l.length) (enR (ceilE l k)) w) := by
  obtain ⟨pa, rfl⟩ := I.ptr hI
  have hin : (Try.prog.info? 41).map (·.size) = some 2 := by kernel_rfl
  have HINF := Lib.hid hin
  have HU : Hid _ := Lib.hid Try.underlying41
  have hv : aft A.nd (k + if true then 0 else 1) t none = ceilE l k := by
    rw [show (k + if true then 0 else 1 : Int) = k + 0 from rfl, aft_spec A.nd _ t none (by rw [hT.ents]; exact hT.up), hT.ents, Option.or_none]
    rw [Int.add_zero]
  have HC : Hid (∀ (wx : World) (F1 : Nat → Prop), I.Is wx (.pointer (some pa)) A rd F1 → Calls Try.prog 36 #[.pointer (some pa), .int .u32 (i : Int), .int .i64 k, .bool true] wx (ReadsTo I (.pointer (some pa)) A rd F1 (mostI l.length) (enR (ceilE l k)) wx)) := fun wx F1 hI1 => hv ▸ afterP_any I k true wx hI1 hT h0 h1
  have hin1 := (In.start hI).alloc (.cells #[.int .i64 0, .int .i64 0] 41)
  have hr1 := heap_alloc_new w (.cells #[.int .i64 0, .int .i64 0] 41)
  clear hI hT h0 h1 hk hv hin
  go_enter Try.func22, Try.ntmps22
  go_upto_region 1 with fail
  generalize w.alloc (Obj.cells #[.int .i64 0, .int .i64 0] 41) = w1 at hin1 hr1 ⊢
  have HIN1 := Lib.hid hin1
  have HR1 := Lib.hid hr1
  clear hin1 hr1
  go_wp2_with fail
  refine (HIN1.out.call fun F1 hI1 => HC.out w1 F1 hI1).mono ?_
  rintro e w2 ⟨rfl, rd2, hin2, hk2, h20, h21⟩
  have hr2 := (hk2 w.heap.size (.inr rfl)).trans HR1.out
  obtain ⟨r0, r1⟩ := two_ofE hr2
  have f0 := frozen_of_row _ _ 0 _ _ hr2
  have f1 := frozen_of_row _ _ 1 _ _ hr2
  obtain ⟨O, hO⟩ : ∃ O, ceilE l k = O := ⟨_, rfl⟩
  rw [hO]
  have HO := Lib.hid hO
  have HE : Hid (∀ x y, ReadsTo I (.pointer (some pa)) A rd F (mostI l.length) (enR O) w (.returned (enR O)) ((w2.setCell ⟨w.heap.size, 0, none⟩ (.int .i64 x)).setCell ⟨w.heap.size, 1, none⟩ (.int .i64 y)) ∧
      ((w2.setCell ⟨w.heap.size, 0, none⟩ (.int .i64 x)).setCell ⟨w.heap.size, 1, none⟩ (.int .i64 y)).heap[w.heap.size]? = some (.cells #[.int .i64 x, .int .i64 y] 41 (0, 0))) := fun x y =>
    ⟨(hin2.set2 (g := w.heap.size) (.inr rfl) (Nat.le_refl _) (.int .i64 x) (.int .i64 y)).ends h20 h21, by rw [heap_setCell_same _ _ 1 _ _ _ (heap_setCell_same _ _ 0 _ _ _ hr2)]; rfl⟩
  unfold enR enA at HE ⊢
  obtain ⟨X, hX⟩ : ∃ X, O.elim (0 : Int) (·.key) = X := ⟨_, rfl⟩
  obtain ⟨Y, hY⟩ : ∃ Y, O.elim (0 : Int) (·.val) = Y := ⟨_, rfl⟩
  obtain ⟨Z, hZ⟩ : ∃ Z, O.isSome = Z := ⟨_, rfl⟩
  rw [hX, hY, hZ] at HE ⊢
  have HXX : Hid (enR O = .tuple #[.agg #[.int .i64 X, .int .i64 Y], .bool Z]) := by show _ = _; unfold enR enA; rw [hX, hY, hZ]
  clear hO hX hY hZ hin2 hk2 h20 h21 hr2
  go_wp2_with fail
  refine bodyPost_ret (results_row_tmp rfl _ _ w.heap.size 41 #[.int .i64 X, .int .i64 Y] (0, 0) _ rfl (HE.out X Y).2 HU.out rfl HINF.out) rfl ?_
  rw [HO.out, HXX.out]
  exact (HE.out X Y).1
theorem ceil_head {l : List En} (h : ∀ e ∈ l, i64R e.key) : ceilE l (-9223372036854775808) = l.head? := by
  have h0 : rankE l (-9223372036854775808) = 0 := rankE_zero fun y hy => by have := (h y hy).1; omega
  unfold ceilE
  rw [h0, show ((0 : Nat) : Int) = ((0 : Nat) : Int) from rfl, selE_nat]
  cases l <;> rfl
theorem floor_last {l : List En} (hu : Up l) (h : ∀ e ∈ l, i64R e.key) : floorE l 9223372036854775807 = l.getLast? := by
  rw [floor_below hu]
  unfold belowE
  rw [rankE_all fun y hy => by have := (h y hy).2; omega, selE_pred]
  cases l with
  | nil => rfl
  | cons a t =>
    rw [if_neg (by simp), List.getLast?_eq_getElem?]
theorem In.grew {I : AImpl} {w wr wx : World} {F : Nat → Prop} {p : Value} {A : Ar} {rd : Int} {e : TypeId} {s n n' : Nat} {v v' : Value} {xs xs' : List Value} (h : In I w F p A rd (fun k => v.ownBlock = some k) wr) (hr : wr.ownsRow w.heap.size e s v n xs) (hr' : wx.ownsRow w.heap.size e s v' n' xs') (hg : wr.grownBy wx v.ownBlock)
    (hv : v'.ownBlock = v.ownBlock ∨ v'.ownBlock = some wr.heap.size) : In I w F p A rd (fun k => v'.ownBlock = some k) wx := by
  obtain ⟨F1, f1, f2, f3⟩ := h.mr.has
  refine ⟨⟨⟨F1, I.keep f1 fun k hk => hg.block k (I.dom f1 k hk) fun e' => (f3 k (.inr e'.symm)).2 hk, f2, fun k hk => ?_⟩, h.mr.below.grown hg (Nat.zero_le _) (fun _ _ => Nat.zero_le _), Nat.zero_le _⟩, fun k hk => ?_⟩
  · rcases hk with hk | hk
    · have := f3 k (.inl hk)
      exact ⟨Nat.lt_of_lt_of_le this.1 hg.size, this.2⟩
    · refine ⟨(row_lt hr' k hk).2, fun hF => ?_⟩
      rcases hv with e' | e'
      · exact (f3 k (.inr (e' ▸ hk))).2 hF
      · rw [e'] at hk
        have := I.dom f1 k hF
        have e2 := Option.some.inj hk
        omega
  · refine (hg.block k (h.mr.lt (.inl hk)) fun e' => ?_).trans (h.kp k hk)
    have h1 := row_from hr k e'.symm
    have h2 := hk.1
    omega
def WayP (I : AImpl) (w : World) (F : Nat → Prop) (p : Value) (A : Ar) (rd0 k : Int) (P : List Nat) (top : Int) (U : Nat) (v x c : Value) (wr : World) : Prop :=
  ∃ (i n : Nat) (u : Tr) (rd : Int) (D : List Nat) (va : Option Addr) (vc : Nat), v = .slice va D.length vc ∧ x = .int .u32 (i : Int) ∧ c = .int .i64 (n : Int) ∧ Sub A i u ∧ D ++ pathT A.nd k u = P ∧ rd0 ≤ rd ∧ rd + (u.ht : Int) ≤ top ∧ n + u.size ≤ U ∧ In I w F p A rd (fun g => Value.ownBlock (.slice va D.length vc) = some g) wr ∧ wr.ownsRow w.heap.size 26 1 (.slice va D.length vc) D.length (u32s D)
theorem In.path {I : AImpl} {w wr : World} {F : Nat → Prop} {p : Value} {A : Ar} {rd rd0 bd : Int} {P : List Nat} {va : Option Addr} {vc n : Nat} (h : In I w F p A rd (fun g => Value.ownBlock (.slice va n vc) = some g) wr) (hr : wr.ownsRow w.heap.size 26 1 (.slice va n vc) n (u32s P)) (hn : n = P.length) (h0 : rd0 ≤ rd) (h1 : rd ≤ rd0 + bd) :
    PathRes I p A rd0 F bd P w (.returned (.slice va n vc)) wr := by
  subst hn
  obtain ⟨F', f1, f2, f3⟩ := h.mr.has
  refine ⟨F', rd, va, vc, rfl, ⟨h.mr.below.os, h.mr.below.tape, h.mr.below.output, h.mr.below.size, fun k hlt hF => h.kp k ⟨hlt, hF⟩, fun k hF' => ?_⟩, f1, h0, h1, hr, fun g hg => (f3 g (.inr hg)).2⟩
  by_cases hlt : k < w.heap.size
  · by_cases hF : F k
    · exact .inl hF
    · exact absurd hF' (f3 k (.inl ⟨hlt, hF⟩)).2
  · exact .inr (by omega)
theorem lkImpl (I : AImpl) : LkImpl I where
  ceiling := fun k w hI hT h0 h1 hk => ceilingP_any I k w hI hT h0 h1 hk
end Go.Proofs.Ytcdfgnbdbmmcpaa
