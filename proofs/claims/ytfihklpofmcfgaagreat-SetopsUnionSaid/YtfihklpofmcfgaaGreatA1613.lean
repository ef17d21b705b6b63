/- Of the proofs of SetopsUnion, SetopsIntersect, SetopsSubtract: LkOk3, RsCon, ShOk1, RsOk, JnCat. -/
import Derived.Test.YtfihklpofmcfgaaGreatA1612
import Derived.Maps.AppendAt
import Derived.Deep.DeepCutAuto
set_option linter.unusedVariables false
set_option linter.unusedSimpArgs false
namespace Go.Proofs.YtfihklpofmcfgaaGreat
open Go.RowKit
set_option maxHeartbeats 2000000 in
set_option maxRecDepth 100000 in
theorem floorH_any (I : AImpl) {p : Value} {A : Ar} {rd : Int} {F : Nat → Prop} {i : Nat} {t : Tr} {l : List En} (bd : Int) (k : Int) (w : World) (hI : I.Is w p A rd F) (hT : TreeAt A i t l) (h0 : 0 ≤ rd) (h1 : rd ≤ 1099511627776) (hbd : (t.ht : Int) ≤ bd) (hk : i64R k) :
    Calls Tryz.prog 131 #[p, .int .u32 (i : Int), .int .i64 k] w (ReadsTo I p A rd F (bd) (enR (floorE l k)) w) := by
  obtain ⟨pa, rfl⟩ := I.ptr hI
  have hin : (Tryz.prog.info? 69).map (·.size) = some 2 := by kernel_rfl
  have HINF := Lib.hid hin
  have HU : Hid _ := Lib.hid Tryz.underlying69
  have hv : bef A.nd (k + if true then 1 else 0) t none = floorE l k := by
    rw [show (k + if true then 1 else 0 : Int) = k + 1 from rfl, bef_spec A.nd _ t none (by rw [hT.ents]; exact hT.up), hT.ents, Option.or_none]
    rw [floor_below hT.up]
  have HC : Hid (∀ (wx : World) (F1 : Nat → Prop), I.Is wx (.pointer (some pa)) A rd F1 → Calls Tryz.prog 142 #[.pointer (some pa), .int .u32 (i : Int), .int .i64 k, .bool true] wx (ReadsTo I (.pointer (some pa)) A rd F1 (bd) (enR (floorE l k)) wx)) := fun wx F1 hI1 => hv ▸ beforeH_any I bd k true wx hI1 hT h0 h1 hbd
  have hin1 := (In.start hI).alloc (.cells #[.int .i64 0, .int .i64 0] 69)
  have hr1 := heap_alloc_new w (.cells #[.int .i64 0, .int .i64 0] 69)
  clear hI hT h0 h1 hbd hk hv hin
  go_enter Tryz.func131, Tryz.ntmps131
  go_upto_region 1 with fail
  generalize w.alloc (Obj.cells #[.int .i64 0, .int .i64 0] 69) = w1 at hin1 hr1 ⊢
  have HIN1 := Lib.hid hin1
  have HR1 := Lib.hid hr1
  clear hin1 hr1
  go_wp2_with fail
  refine (HIN1.out.call fun F1 hI1 => HC.out w1 F1 hI1).mono ?_
  rintro e w2 ⟨rfl, rd2, hin2, hk2, h20, h21⟩
  have hr2 := (hk2 w.heap.size (.inr rfl)).trans HR1.out
  obtain ⟨r0, r1⟩ := two_ofE hr2
  have f0 := frozen_of_row _ _ 0 _ _ hr2
  have f1 := frozen_of_row _ _ 1 _ _ hr2
  obtain ⟨O, hO⟩ : ∃ O, floorE l k = O := ⟨_, rfl⟩
  rw [hO]
  have HO := Lib.hid hO
  have HE : Hid (∀ x y, ReadsTo I (.pointer (some pa)) A rd F (bd) (enR O) w (.returned (enR O)) ((w2.setCell ⟨w.heap.size, 0, none⟩ (.int .i64 x)).setCell ⟨w.heap.size, 1, none⟩ (.int .i64 y)) ∧
      ((w2.setCell ⟨w.heap.size, 0, none⟩ (.int .i64 x)).setCell ⟨w.heap.size, 1, none⟩ (.int .i64 y)).heap[w.heap.size]? = some (.cells #[.int .i64 x, .int .i64 y] 69 (0, 0))) := fun x y =>
    ⟨(hin2.set2 (g := w.heap.size) (.inr rfl) (Nat.le_refl _) (.int .i64 x) (.int .i64 y)).ends h20 h21, by rw [heap_setCell_same _ _ 1 _ _ _ (heap_setCell_same _ _ 0 _ _ _ hr2)]; rfl⟩
  unfold enR enA at HE ⊢
  obtain ⟨X, hX⟩ : ∃ X, O.elim (0 : Int) (·.key) = X := ⟨_, rfl⟩
  obtain ⟨Y, hY⟩ : ∃ Y, O.elim (0 : Int) (·.val) = Y := ⟨_, rfl⟩
  obtain ⟨Z, hZ⟩ : ∃ Z, O.isSome = Z := ⟨_, rfl⟩
  rw [hX, hY, hZ] at HE ⊢
  have HXX : Hid (enR O = .tuple #[.agg #[.int .i64 X, .int .i64 Y], .bool Z]) := by show _ = _; unfold enR enA; rw [hX, hY, hZ]
  clear hO hX hY hZ hin2 hk2 h20 h21 hr2
  go_wp2_with fail
  refine bodyPost_ret (results_row_tmp rfl _ _ w.heap.size 69 #[.int .i64 X, .int .i64 Y] (0, 0) _ rfl (HE.out X Y).2 HU.out rfl HINF.out) rfl ?_
  rw [HO.out, HXX.out]
  exact (HE.out X Y).1
theorem floorP_any (I : AImpl) {p : Value} {A : Ar} {rd : Int} {F : Nat → Prop} {i : Nat} {t : Tr} {l : List En} (k : Int) (w : World) (hI : I.Is w p A rd F) (hT : TreeAt A i t l) (h0 : 0 ≤ rd) (h1 : rd ≤ 1099511627776) (hk : i64R k) :
    Calls Tryz.prog 131 #[p, .int .u32 (i : Int), .int .i64 k] w (ReadsTo I p A rd F (mostI l.length) (enR (floorE l k)) w) :=
  floorH_any I (mostI l.length) k w hI hT h0 h1 hT.bound.1 hk
set_option maxHeartbeats 2000000 in
set_option maxRecDepth 100000 in
theorem ceilingH_any (I : AImpl) {p : Value} {A : Ar} {rd : Int} {F : Nat → Prop} {i : Nat} {t : Tr} {l : List En} (bd : Int) (k : Int) (w : World) (hI : I.Is w p A rd F) (hT : TreeAt A i t l) (h0 : 0 ≤ rd) (h1 : rd ≤ 1099511627776) (hbd : (t.ht : Int) ≤ bd) (hk : i64R k) :
    Calls Tryz.prog 132 #[p, .int .u32 (i : Int), .int .i64 k] w (ReadsTo I p A rd F (bd) (enR (ceilE l k)) w) := by
  obtain ⟨pa, rfl⟩ := I.ptr hI
  have hin : (Tryz.prog.info? 69).map (·.size) = some 2 := by kernel_rfl
  have HINF := Lib.hid hin
  have HU : Hid _ := Lib.hid Tryz.underlying69
  have hv : aft A.nd (k + if true then 0 else 1) t none = ceilE l k := by
    rw [show (k + if true then 0 else 1 : Int) = k + 0 from rfl, aft_spec A.nd _ t none (by rw [hT.ents]; exact hT.up), hT.ents, Option.or_none]
    rw [Int.add_zero]
  have HC : Hid (∀ (wx : World) (F1 : Nat → Prop), I.Is wx (.pointer (some pa)) A rd F1 → Calls Tryz.prog 143 #[.pointer (some pa), .int .u32 (i : Int), .int .i64 k, .bool true] wx (ReadsTo I (.pointer (some pa)) A rd F1 (bd) (enR (ceilE l k)) wx)) := fun wx F1 hI1 => hv ▸ afterH_any I bd k true wx hI1 hT h0 h1 hbd
  have hin1 := (In.start hI).alloc (.cells #[.int .i64 0, .int .i64 0] 69)
  have hr1 := heap_alloc_new w (.cells #[.int .i64 0, .int .i64 0] 69)
  clear hI hT h0 h1 hbd hk hv hin
  go_enter Tryz.func132, Tryz.ntmps132
  go_upto_region 1 with fail
  generalize w.alloc (Obj.cells #[.int .i64 0, .int .i64 0] 69) = w1 at hin1 hr1 ⊢
  have HIN1 := Lib.hid hin1
  have HR1 := Lib.hid hr1
  clear hin1 hr1
  go_wp2_with fail
  refine (HIN1.out.call fun F1 hI1 => HC.out w1 F1 hI1).mono ?_
  rintro e w2 ⟨rfl, rd2, hin2, hk2, h20, h21⟩
  have hr2 := (hk2 w.heap.size (.inr rfl)).trans HR1.out
  obtain ⟨r0, r1⟩ := two_ofE hr2
  have f0 := frozen_of_row _ _ 0 _ _ hr2
  have f1 := frozen_of_row _ _ 1 _ _ hr2
  obtain ⟨O, hO⟩ : ∃ O, ceilE l k = O := ⟨_, rfl⟩
  rw [hO]
  have HO := Lib.hid hO
  have HE : Hid (∀ x y, ReadsTo I (.pointer (some pa)) A rd F (bd) (enR O) w (.returned (enR O)) ((w2.setCell ⟨w.heap.size, 0, none⟩ (.int .i64 x)).setCell ⟨w.heap.size, 1, none⟩ (.int .i64 y)) ∧
      ((w2.setCell ⟨w.heap.size, 0, none⟩ (.int .i64 x)).setCell ⟨w.heap.size, 1, none⟩ (.int .i64 y)).heap[w.heap.size]? = some (.cells #[.int .i64 x, .int .i64 y] 69 (0, 0))) := fun x y =>
    ⟨(hin2.set2 (g := w.heap.size) (.inr rfl) (Nat.le_refl _) (.int .i64 x) (.int .i64 y)).ends h20 h21, by rw [heap_setCell_same _ _ 1 _ _ _ (heap_setCell_same _ _ 0 _ _ _ hr2)]; rfl⟩
  unfold enR enA at HE ⊢
  obtain ⟨X, hX⟩ : ∃ X, O.elim (0 : Int) (·.key) = X := ⟨_, rfl⟩
  obtain ⟨Y, hY⟩ : ∃ Y, O.elim (0 : Int) (·.val) = Y := ⟨_, rfl⟩
  obtain ⟨Z, hZ⟩ : ∃ Z, O.isSome = Z := ⟨_, rfl⟩
  rw [hX, hY, hZ] at HE ⊢
  have HXX : Hid (enR O = .tuple #[.agg #[.int .i64 X, .int .i64 Y], .bool Z]) := by show _ = _; unfold enR enA; rw [hX, hY, hZ]
  clear hO hX hY hZ hin2 hk2 h20 h21 hr2
  go_wp2_with fail
  refine bodyPost_ret (results_row_tmp rfl _ _ w.heap.size 69 #[.int .i64 X, .int .i64 Y] (0, 0) _ rfl (HE.out X Y).2 HU.out rfl HINF.out) rfl ?_
  rw [HO.out, HXX.out]
  exact (HE.out X Y).1
theorem ceilingP_any (I : AImpl) {p : Value} {A : Ar} {rd : Int} {F : Nat → Prop} {i : Nat} {t : Tr} {l : List En} (k : Int) (w : World) (hI : I.Is w p A rd F) (hT : TreeAt A i t l) (h0 : 0 ≤ rd) (h1 : rd ≤ 1099511627776) (hk : i64R k) :
    Calls Tryz.prog 132 #[p, .int .u32 (i : Int), .int .i64 k] w (ReadsTo I p A rd F (mostI l.length) (enR (ceilE l k)) w) :=
  ceilingH_any I (mostI l.length) k w hI hT h0 h1 hT.bound.1 hk
theorem ceil_head {l : List En} (h : ∀ e ∈ l, i64R e.key) : ceilE l (-9223372036854775808) = l.head? := by
  have h0 : rankE l (-9223372036854775808) = 0 := rankE_zero fun y hy => by have := (h y hy).1; omega
  unfold ceilE
  rw [h0, show ((0 : Nat) : Int) = ((0 : Nat) : Int) from rfl, selE_nat]
  cases l <;> rfl
theorem floor_last {l : List En} (hu : Up l) (h : ∀ e ∈ l, i64R e.key) : floorE l 9223372036854775807 = l.getLast? := by
  rw [floor_below hu]
  unfold belowE
  rw [rankE_all fun y hy => by have := (h y hy).2; omega, selE_pred]
  cases l with
  | nil => rfl
  | cons a t =>
    rw [if_neg (by simp), List.getLast?_eq_getElem?]
set_option maxHeartbeats 2000000 in
set_option maxRecDepth 100000 in
theorem firstH_any (I : AImpl) {p : Value} {A : Ar} {rd : Int} {F : Nat → Prop} {i : Nat} {t : Tr} {l : List En} (bd : Int) (w : World) (hI : I.Is w p A rd F) (hT : TreeAt A i t l) (h0 : 0 ≤ rd) (h1 : rd ≤ 1099511627776) (hbd : (t.ht : Int) ≤ bd) (hW : ∀ e ∈ l, i64R e.key) :
    Calls Tryz.prog 120 #[p, .int .u32 (i : Int)] w (ReadsTo I p A rd F (bd) (enR (l.head?)) w) := by
  obtain ⟨pa, rfl⟩ := I.ptr hI
  have hin : (Tryz.prog.info? 69).map (·.size) = some 2 := by kernel_rfl
  have HINF := Lib.hid hin
  have HU : Hid _ := Lib.hid Tryz.underlying69
  have hv : ceilE l (-9223372036854775808) = l.head? := ceil_head hW
  have HC : Hid (∀ (wx : World) (F1 : Nat → Prop), I.Is wx (.pointer (some pa)) A rd F1 → Calls Tryz.prog 132 #[.pointer (some pa), .int .u32 (i : Int), .int .i64 (-9223372036854775808)] wx (ReadsTo I (.pointer (some pa)) A rd F1 (bd) (enR (l.head?)) wx)) := fun wx F1 hI1 => hv ▸ ceilingH_any I bd (-9223372036854775808) wx hI1 hT h0 h1 hbd (by unfold i64R; omega)
  have hin1 := (In.start hI).alloc (.cells #[.int .i64 0, .int .i64 0] 69)
  have hr1 := heap_alloc_new w (.cells #[.int .i64 0, .int .i64 0] 69)
  clear hI hT h0 h1 hbd hW hv hin
  go_enter Tryz.func120, Tryz.ntmps120
  go_upto_region 1 with fail
  generalize w.alloc (Obj.cells #[.int .i64 0, .int .i64 0] 69) = w1 at hin1 hr1 ⊢
  have HIN1 := Lib.hid hin1
  have HR1 := Lib.hid hr1
  clear hin1 hr1
  go_wp2_with fail
  refine (HIN1.out.call fun F1 hI1 => HC.out w1 F1 hI1).mono ?_
  rintro e w2 ⟨rfl, rd2, hin2, hk2, h20, h21⟩
  have hr2 := (hk2 w.heap.size (.inr rfl)).trans HR1.out
  obtain ⟨r0, r1⟩ := two_ofE hr2
  have f0 := frozen_of_row _ _ 0 _ _ hr2
  have f1 := frozen_of_row _ _ 1 _ _ hr2
  obtain ⟨O, hO⟩ : ∃ O, l.head? = O := ⟨_, rfl⟩
  rw [hO]
  have HO := Lib.hid hO
  have HE : Hid (∀ x y, ReadsTo I (.pointer (some pa)) A rd F (bd) (enR O) w (.returned (enR O)) ((w2.setCell ⟨w.heap.size, 0, none⟩ (.int .i64 x)).setCell ⟨w.heap.size, 1, none⟩ (.int .i64 y)) ∧
      ((w2.setCell ⟨w.heap.size, 0, none⟩ (.int .i64 x)).setCell ⟨w.heap.size, 1, none⟩ (.int .i64 y)).heap[w.heap.size]? = some (.cells #[.int .i64 x, .int .i64 y] 69 (0, 0))) := fun x y =>
    ⟨(hin2.set2 (g := w.heap.size) (.inr rfl) (Nat.le_refl _) (.int .i64 x) (.int .i64 y)).ends h20 h21, by rw [heap_setCell_same _ _ 1 _ _ _ (heap_setCell_same _ _ 0 _ _ _ hr2)]; rfl⟩
  unfold enR enA at HE ⊢
  obtain ⟨X, hX⟩ : ∃ X, O.elim (0 : Int) (·.key) = X := ⟨_, rfl⟩
  obtain ⟨Y, hY⟩ : ∃ Y, O.elim (0 : Int) (·.val) = Y := ⟨_, rfl⟩
  obtain ⟨Z, hZ⟩ : ∃ Z, O.isSome = Z := ⟨_, rfl⟩
  rw [hX, hY, hZ] at HE ⊢
  have HXX : Hid (enR O = .tuple #[.agg #[.int .i64 X, .int .i64 Y], .bool Z]) := by show _ = _; unfold enR enA; rw [hX, hY, hZ]
  clear hO hX hY hZ hin2 hk2 h20 h21 hr2
  go_wp2_with fail
  refine bodyPost_ret (results_row_tmp rfl _ _ w.heap.size 69 #[.int .i64 X, .int .i64 Y] (0, 0) _ rfl (HE.out X Y).2 HU.out rfl HINF.out) rfl ?_
  rw [HO.out, HXX.out]
  exact (HE.out X Y).1
theorem firstP_any (I : AImpl) {p : Value} {A : Ar} {rd : Int} {F : Nat → Prop} {i : Nat} {t : Tr} {l : List En} (w : World) (hI : I.Is w p A rd F) (hT : TreeAt A i t l) (h0 : 0 ≤ rd) (h1 : rd ≤ 1099511627776) (hW : ∀ e ∈ l, i64R e.key) :
    Calls Tryz.prog 120 #[p, .int .u32 (i : Int)] w (ReadsTo I p A rd F (mostI l.length) (enR (l.head?)) w) :=
  firstH_any I (mostI l.length) w hI hT h0 h1 hT.bound.1 hW
set_option maxHeartbeats 2000000 in
set_option maxRecDepth 100000 in
theorem lastH_any (I : AImpl) {p : Value} {A : Ar} {rd : Int} {F : Nat → Prop} {i : Nat} {t : Tr} {l : List En} (bd : Int) (w : World) (hI : I.Is w p A rd F) (hT : TreeAt A i t l) (h0 : 0 ≤ rd) (h1 : rd ≤ 1099511627776) (hbd : (t.ht : Int) ≤ bd) (hW : ∀ e ∈ l, i64R e.key) :
    Calls Tryz.prog 119 #[p, .int .u32 (i : Int)] w (ReadsTo I p A rd F (bd) (enR (l.getLast?)) w) := by
  obtain ⟨pa, rfl⟩ := I.ptr hI
  have hin : (Tryz.prog.info? 69).map (·.size) = some 2 := by kernel_rfl
  have HINF := Lib.hid hin
  have HU : Hid _ := Lib.hid Tryz.underlying69
  have hv : floorE l 9223372036854775807 = l.getLast? := floor_last hT.up hW
  have HC : Hid (∀ (wx : World) (F1 : Nat → Prop), I.Is wx (.pointer (some pa)) A rd F1 → Calls Tryz.prog 131 #[.pointer (some pa), .int .u32 (i : Int), .int .i64 9223372036854775807] wx (ReadsTo I (.pointer (some pa)) A rd F1 (bd) (enR (l.getLast?)) wx)) := fun wx F1 hI1 => hv ▸ floorH_any I bd 9223372036854775807 wx hI1 hT h0 h1 hbd (by unfold i64R; omega)
  have hin1 := (In.start hI).alloc (.cells #[.int .i64 0, .int .i64 0] 69)
  have hr1 := heap_alloc_new w (.cells #[.int .i64 0, .int .i64 0] 69)
  clear hI hT h0 h1 hbd hW hv hin
  go_enter Tryz.func119, Tryz.ntmps119
  go_upto_region 1 with fail
  generalize w.alloc (Obj.cells #[.int .i64 0, .int .i64 0] 69) = w1 at hin1 hr1 ⊢
  have HIN1 := Lib.hid hin1
  have HR1 := Lib.hid hr1
  clear hin1 hr1
  go_wp2_with fail
  refine (HIN1.out.call fun F1 hI1 => HC.out w1 F1 hI1).mono ?_
  rintro e w2 ⟨rfl, rd2, hin2, hk2, h20, h21⟩
  have hr2 := (hk2 w.heap.size (.inr rfl)).trans HR1.out
  obtain ⟨r0, r1⟩ := two_ofE hr2
  have f0 := frozen_of_row _ _ 0 _ _ hr2
  have f1 := frozen_of_row _ _ 1 _ _ hr2
  obtain ⟨O, hO⟩ : ∃ O, l.getLast? = O := ⟨_, rfl⟩
  rw [hO]
  have HO := Lib.hid hO
  have HE : Hid (∀ x y, ReadsTo I (.pointer (some pa)) A rd F (bd) (enR O) w (.returned (enR O)) ((w2.setCell ⟨w.heap.size, 0, none⟩ (.int .i64 x)).setCell ⟨w.heap.size, 1, none⟩ (.int .i64 y)) ∧
      ((w2.setCell ⟨w.heap.size, 0, none⟩ (.int .i64 x)).setCell ⟨w.heap.size, 1, none⟩ (.int .i64 y)).heap[w.heap.size]? = some (.cells #[.int .i64 x, .int .i64 y] 69 (0, 0))) := fun x y =>
    ⟨(hin2.set2 (g := w.heap.size) (.inr rfl) (Nat.le_refl _) (.int .i64 x) (.int .i64 y)).ends h20 h21, by rw [heap_setCell_same _ _ 1 _ _ _ (heap_setCell_same _ _ 0 _ _ _ hr2)]; rfl⟩
  unfold enR enA at HE ⊢
  obtain ⟨X, hX⟩ : ∃ X, O.elim (0 : Int) (·.key) = X := ⟨_, rfl⟩
  obtain ⟨Y, hY⟩ : ∃ Y, O.elim (0 : Int) (·.val) = Y := ⟨_, rfl⟩
  obtain ⟨Z, hZ⟩ : ∃ Z, O.isSome = Z := ⟨_, rfl⟩
  rw [hX, hY, hZ] at HE ⊢
  have HXX : Hid (enR O = .tuple #[.agg #[.int .i64 X, .int .i64 Y], .bool Z]) := by show _ = _; unfold enR enA; rw [hX, hY, hZ]
  clear hO hX hY hZ hin2 hk2 h20 h21 hr2
  go_wp2_with fail
  refine bodyPost_ret (results_row_tmp rfl _ _ w.heap.size 69 #[.int .i64 X, .int .i64 Y] (0, 0) _ rfl (HE.out X Y).2 HU.out rfl HINF.out) rfl ?_
  rw [HO.out, HXX.out]
  exact (HE.out X Y).1
theorem lastP_any (I : AImpl) {p : Value} {A : Ar} {rd : Int} {F : Nat → Prop} {i : Nat} {t : Tr} {l : List En} (w : World) (hI : I.Is w p A rd F) (hT : TreeAt A i t l) (h0 : 0 ≤ rd) (h1 : rd ≤ 1099511627776) (hW : ∀ e ∈ l, i64R e.key) :
    Calls Tryz.prog 119 #[p, .int .u32 (i : Int)] w (ReadsTo I p A rd F (mostI l.length) (enR (l.getLast?)) w) :=
  lastH_any I (mostI l.length) w hI hT h0 h1 hT.bound.1 hW
theorem In.grew {I : AImpl} {w wr wx : World} {F : Nat → Prop} {p : Value} {A : Ar} {rd : Int} {e : TypeId} {s n n' : Nat} {v v' : Value} {xs xs' : List Value} (h : In I w F p A rd (fun k => v.ownBlock = some k) wr) (hr : wr.ownsRow w.heap.size e s v n xs) (hr' : wx.ownsRow w.heap.size e s v' n' xs') (hg : wr.grownBy wx v.ownBlock)
    (hv : v'.ownBlock = v.ownBlock ∨ v'.ownBlock = some wr.heap.size) : In I w F p A rd (fun k => v'.ownBlock = some k) wx := by
  obtain ⟨F1, f1, f2, f3⟩ := h.mr.has
  refine ⟨⟨⟨F1, I.keep f1 fun k hk => hg.block k (I.dom f1 k hk) fun e' => (f3 k (.inr e'.symm)).2 hk, f2, fun k hk => ?_⟩, h.mr.below.grown hg (Nat.zero_le _) (fun _ _ => Nat.zero_le _), Nat.zero_le _⟩, fun k hk => ?_⟩
  · rcases hk with hk | hk
    · have := f3 k (.inl hk)
      exact ⟨Nat.lt_of_lt_of_le this.1 hg.size, this.2⟩
    · refine ⟨(row_lt hr' k hk).2, fun hF => ?_⟩
      rcases hv with e' | e'
      · exact (f3 k (.inr (e' ▸ hk))).2 hF
      · rw [e'] at hk
        have := I.dom f1 k hF
        have e2 := Option.some.inj hk
        omega
  · refine (hg.block k (h.mr.lt (.inl hk)) fun e' => ?_).trans (h.kp k hk)
    have h1 := row_from hr k e'.symm
    have h2 := hk.1
    omega
def WayP (I : AImpl) (w : World) (F : Nat → Prop) (p : Value) (A : Ar) (rd0 k : Int) (P : List Nat) (top : Int) (U : Nat) (v x c : Value) (wr : World) : Prop :=
  ∃ (i n : Nat) (u : Tr) (rd : Int) (D : List Nat) (va : Option Addr) (vc : Nat), v = .slice va D.length vc ∧ x = .int .u32 (i : Int) ∧ c = .int .i64 (n : Int) ∧ Sub A i u ∧ D ++ pathT A.nd k u = P ∧ rd0 ≤ rd ∧ rd + (u.ht : Int) ≤ top ∧ n + u.size ≤ U ∧ In I w F p A rd (fun g => Value.ownBlock (.slice va D.length vc) = some g) wr ∧ wr.ownsRow w.heap.size 26 1 (.slice va D.length vc) D.length (u32s D)
theorem In.path {I : AImpl} {w wr : World} {F : Nat → Prop} {p : Value} {A : Ar} {rd rd0 bd : Int} {P : List Nat} {va : Option Addr} {vc n : Nat} (h : In I w F p A rd (fun g => Value.ownBlock (.slice va n vc) = some g) wr) (hr : wr.ownsRow w.heap.size 26 1 (.slice va n vc) n (u32s P)) (hn : n = P.length) (h0 : rd0 ≤ rd) (h1 : rd ≤ rd0 + bd) :
    PathRes I p A rd0 F bd P w (.returned (.slice va n vc)) wr := by
  subst hn
  obtain ⟨F', f1, f2, f3⟩ := h.mr.has
  refine ⟨F', rd, va, vc, rfl, ⟨h.mr.below.os, h.mr.below.tape, h.mr.below.output, h.mr.below.size, fun k hlt hF => h.kp k ⟨hlt, hF⟩, fun k hF' => ?_⟩, f1, h0, h1, hr, fun g hg => (f3 g (.inr hg)).2⟩
  by_cases hlt : k < w.heap.size
  · by_cases hF : F k
    · exact .inl hF
    · exact absurd hF' (f3 k (.inl ⟨hlt, hF⟩)).2
  · exact .inr (by omega)
set_option maxHeartbeats 4000000 in
set_option maxRecDepth 100000 in
theorem pathP_any (I : AImpl) {p : Value} {A : Ar} {rd : Int} {F : Nat → Prop} {i : Nat} {t : Tr} {l : List En} (k : Int) (w : World) (hI : I.Is w p A rd F) (hT : TreeAt A i t l) (h0 : 0 ≤ rd) (h1 : rd ≤ 1099511627776) (hk : i64R k) :
    Calls Tryz.prog 70 #[p, .int .u32 (i : Int), .int .i64 k] w (PathRes I p A rd F (mostI l.length) (pathT A.nd k t) w) := by
  obtain ⟨pa, rfl⟩ := I.ptr hI
  obtain ⟨i0, ji, jz0, jz1, jz2⟩ := info_parts uInfo
  have hb := hT.bound
  have hpl := pathT_ht A.nd k t
  obtain ⟨P, hP⟩ : ∃ P, pathT A.nd k t = P := ⟨_, rfl⟩
  rw [hP] at hpl ⊢
  obtain ⟨M, hM⟩ : ∃ M, mostI l.length = M := ⟨_, rfl⟩
  rw [hM] at hb ⊢
  obtain ⟨held, hv⟩ := hT.inv
  have hcap := hv.ok.cap2
  have hhd := hT.held
  obtain ⟨U, hU⟩ : ∃ U, U + A.σ.free.length = A.σ.cap := ⟨A.σ.cap - A.σ.free.length, by omega⟩
  have HLP := Lib.hid (longest_any I w hI hU)
  have HUU : Hid (U ≤ 65536 ∧ t.size ≤ U) := ⟨by omega, by omega⟩
  have HOK := Lib.hid hv.ok
  have HRD : Hid (0 ≤ rd ∧ rd ≤ 1099511627776 ∧ (t.ht : Int) ≤ M ∧ t.ht ≤ 65536 ∧ P.length ≤ 65536) := ⟨h0, h1, hb.1, hb.2, by omega⟩
  have HW0 : Hid (∀ w', Below w.heap.size w w' → WayP I w F (.pointer (some pa)) A rd k P (rd + (t.ht : Int)) U (.slice none 0 0) (.int .u32 (i : Int)) (.int .i64 0) w') := fun w' hb' => ⟨i, 0, t, rd, [], none, 0, rfl, rfl, rfl, hT.sub, hP, Int.le_refl _, Int.le_refl _, by omega, ((In.start hI).calm hb').less fun k hk => (by simp [Value.ownBlock] at hk), World.ownsRow_nil _ _ _ _⟩
  clear hI hT h0 h1 hk hb hpl hP hM hv hcap hhd hU
  go_enter Tryz.func70, Tryz.ntmps70
  go_wp2_with fail
  refine HLP.out.mono ?_
  rintro e w0 ⟨rfl, hb0⟩
  have HW1 := Lib.hid (HW0.out w0 hb0)
  clear hb0 HW0 HLP
  go_wp2_with fail
  go_loopw [7, 8, 14] (fun v x c wr => WayP I w F (.pointer (some pa)) A rd k P (rd + (t.ht : Int)) U v x c wr) (fun _ _ c _ => U - (intOf c).toNat)
  case atStart => exact HW1.out
  case round =>
    clear HW1
    obtain ⟨i, n, u, rd1, D, va, vc, rfl, rfl, rfl, hu, hg, hr0, hr1, hn, hin, hrow⟩ := hrel
    rcases Nat.lt_or_ge n U with hnu | hnu
    rotate_left
    · have hnu2 : decide ((n : Int) < (U : Int)) = false := decide_eq_false (by omega)
      have hu0 : u = .nil := by
        cases u with
        | nil => rfl
        | node i l r =>
          have : (Tr.node i l r).size = l.size + r.size + 1 := rfl
          omega
      subst hu0
      have hDP : D = P := by rw [← hg]; exact (List.append_nil D).symm
      have HE : Hid (PathRes I (.pointer (some pa)) A rd F M P w (.returned (.slice va D.length vc)) wr) := hin.path (hDP ▸ hrow) (by rw [hDP]) hr0 (by have := HRD.out; omega)
      have hUn : ¬ n < U := Nat.not_lt.2 hnu
      clear hu hg hr0 hr1 hin hrow hDP hn hnu
      go_wp2_with fail
      go_ret
      exact HE.out
    have hnu2 : decide ((n : Int) < (U : Int)) = true := decide_eq_true (by omega)
    have hnu3 : (n : Int) < (U : Int) := by omega
    have hU4 : (U : Int) ≤ 65536 := by have := HUU.out.1; omega
    have hn0 : (0 : Int) ≤ (n : Int) := by omega
    cases u with
    | nil =>
      obtain rfl : i = 0 := by
        cases hu with
        | nil => rfl
      have hDP : D = P := by rw [← hg]; exact (List.append_nil D).symm
      have HR1 : Hid (rd ≤ rd1 ∧ rd1 ≤ rd + (t.ht : Int)) := ⟨hr0, by have : (Tr.nil.ht : Nat) = 0 := rfl; omega⟩
      have HIN := Lib.hid hin
      have HROW : Hid (wr.ownsRow w.heap.size 26 1 (.slice va D.length vc) D.length (u32s P)) := hDP ▸ hrow
      have HN : Hid (D.length = P.length) := by show _ = _; rw [hDP]
      obtain ⟨N, hN⟩ : ∃ N, D.length = N := ⟨_, rfl⟩
      rw [hN] at HIN HROW HN ⊢
      clear hu hg hr0 hr1 hin hn hrow hDP hN
      go_wp2_with fail
      refine (HIN.out.off (by have := HR1.out; have := HRD.out; omega) (by have := HR1.out; have := HRD.out; omega)).mono ?_
      rintro e w1 ⟨rfl, hin1, hk1⟩
      have hb8 := below_new7 w1 (Obj.cells (ndRow Nd.zero) 81)
      have hrow8 := row_below (row_keep HROW.out fun k hk => hk1 k hk) hb8
      have hin8 := hin1.calm hb8
      clear hin1 hk1 hb8 HIN HROW
      unfold ndRow
      go_upto_region 6 with fail
      rw [show #[Value.int .i64 Nd.zero.key, .int .i64 Nd.zero.val, .int .u32 (Nd.zero.left : Int), .int .u32 (Nd.zero.right : Int), .int .i64 Nd.zero.size, .int .i64 Nd.zero.sum, .int .i64 Nd.zero.mn, .int .i64 Nd.zero.mx] = ndRow Nd.zero from rfl]
      generalize w1.alloc (Obj.cells (ndRow Nd.zero) 81) = w2 at hrow8 hin8 ⊢
      have HE : Hid (PathRes I (.pointer (some pa)) A rd F M P w (.returned (.slice va N vc)) w2) := hin8.path hrow8 HN.out HR1.out.1 (by have := HR1.out; have := HRD.out; omega)
      clear hrow8 hin8
      go_wp2_with fail
      go_ret
      exact HE.out
    | node i2 l2 r2 =>
      obtain ⟨rfl, h0, hon, hsl, hsr⟩ : i2 = i ∧ i ≠ 0 ∧ A.σ.on i = true ∧ Sub A (A.nd i).left l2 ∧ Sub A (A.nd i).right r2 := by
        cases hu with
        | node _ _ _ h1 h2 h3 h4 => exact ⟨rfl, h1, h2, h3, h4⟩
      have hi4 : i2 < 4294967296 := by have := HOK.out.on i2 hon; have := HOK.out.cap2; omega
      have hht : (Tr.node i2 l2 r2).ht = 1 + max l2.ht r2.ht := rfl
      rw [show (Tr.node i2 l2 r2).size = l2.size + r2.size + 1 from rfl] at hn
      have HNL : Hid (n + 1 + l2.size ≤ U) := by show _ ≤ _; omega
      have HNR : Hid (n + 1 + r2.size ≤ U) := by show _ ≤ _; omega
      have HSL := Lib.hid hsl
      have HSR := Lib.hid hsr
      have HON := Lib.hid hon
      have HI4 := Lib.hid hi4
      have HR1 : Hid (rd ≤ rd1 ∧ rd1 + 1 + (l2.ht : Int) ≤ rd + (t.ht : Int) ∧ rd1 + 1 + (r2.ht : Int) ≤ rd + (t.ht : Int)) := ⟨hr0, by omega, by omega⟩
      unfold pathT at hg
      have hDl : D.length + 1 ≤ P.length := by rw [← hg, List.length_append, List.length_cons]; omega
      have HG := Lib.hid hg
      obtain ⟨N, hN⟩ : ∃ N, D.length = N := ⟨_, rfl⟩
      rw [hN] at hin hrow hDl ⊢
      have HN := Lib.hid hN
      have HIN := Lib.hid hin
      have HROW := Lib.hid hrow
      have HDL : Hid (N + 1 ≤ 65536) := by have := HRD.out; show _ ≤ _; omega
      clear hu hg hr0 hr1 hin hrow h0 hon hsl hsr hi4 hht hDl hN hn
      go_wp2_with fail
      refine (HIN.out.node (by have := HR1.out; have := HRD.out; omega) (by have := HR1.out; have := HRD.out; omega) HI4.out HON.out).mono ?_
      rintro e w7 ⟨rfl, hin7, hk7⟩
      have HIN7 := Lib.hid hin7
      have HROW7 := Lib.hid (row_keep HROW.out fun k hk => hk7 k hk)
      clear hin7 hk7 HIN HROW
      unfold ndRow
      go_upto_region 6 with fail
      rw [show #[Value.int .i64 (A.nd i2).key, .int .i64 (A.nd i2).val, .int .u32 ((A.nd i2).left : Int), .int .u32 ((A.nd i2).right : Int), .int .i64 (A.nd i2).size, .int .i64 (A.nd i2).sum, .int .i64 (A.nd i2).mn, .int .i64 (A.nd i2).mx] = ndRow (A.nd i2) from rfl]
      have hb8 := below_new7 w7 (Obj.cells (ndRow (A.nd i2)) 81)
      have hin8 := HIN7.out.calm hb8
      have hrow8 := row_below HROW7.out hb8
      have hbx := heap_alloc_new w7 (Obj.cells (ndRow (A.nd i2)) 81)
      have hown : ∀ k, Value.ownBlock (.slice va N vc) = some k → k ≠ w7.heap.size := fun k hk => Nat.ne_of_lt (HIN7.out.mr.lt (.inr hk))
      have hgl : w7.heap.size < (w7.alloc (Obj.cells (ndRow (A.nd i2)) 81)).heap.size := by simp
      generalize w7.alloc (Obj.cells (ndRow (A.nd i2)) 81) = w8 at hin8 hrow8 hbx hgl ⊢
      clear hb8
      generalize w7.heap.size = g at hbx hgl hown ⊢
      have hb9 := below_new7 w8 (.cells #[.int .u32 (i2 : Int)] 26)
      have hin9 := hin8.calm hb9
      have hrow9 := row_below hrow8 hb9
      have hbx9 := (hb9.block g hgl).trans hbx
      have hgl9 := Nat.lt_of_lt_of_le hgl hb9.size
      have hsz9 : w.heap.size ≤ (w8.alloc (.cells #[.int .u32 (i2 : Int)] 26)).heap.size := hin9.mr.below.size
      have HIN9 := Lib.hid hin9
      have HROW9 := Lib.hid hrow9
      have HX9 := Lib.hid hbx9
      have HOWN : Hid ((∀ k, Value.ownBlock (.slice va N vc) = some k → k ≠ g) ∧ g < (w8.alloc (.cells #[.int .u32 (i2 : Int)] 26)).heap.size) := ⟨hown, hgl9⟩
      clear hin8 hrow8 hbx hgl hb9 hin9 hbx9 hgl9 hown HIN7 HROW7
      go_upto_region 8 with (at_builtin; refine wpList_append_own_at _ rfl (.tmp 24) (.tmp 26) 31 rfl w.heap.size 26 i0 (.int .u32 0) 1 4 Tryz.underlying31 ji jz0 jz1 jz2 rfl (by decide) _ N (u32s D) rfl hrow9 ⟨w8.heap.size, 0, none⟩ 1 1 [.int .u32 (i2 : Int)] rfl rfl (cell_one_new _ _ _) (one_cell1 _ _) (by have := HDL.out; unfold maxLen; omega) (by have := HDL.out; omega) hsz9 ?_; intro v6 w6 ho6 hg6 _ hv6)
      obtain ⟨va6, vc6, rfl⟩ := row_val ho6
      have hin6 := HIN9.out.grew HROW9.out ho6 hg6 hv6
      have hbx6 := (hg6.block g HOWN.out.2 fun e' => HOWN.out.1 g e'.symm rfl).trans HX9.out
      have hdl : (D ++ [i2]).length = N + 1 := by rw [List.length_append, HN.out]; rfl
      have hrow6 : w6.ownsRow w.heap.size 26 1 (.slice va6 (D ++ [i2]).length vc6) (D ++ [i2]).length (u32s (D ++ [i2])) := by rw [hdl, u32s_app]; exact ho6
      have hin6' : In I w F (.pointer (some pa)) A (rd1 + 1) (fun g => Value.ownBlock (.slice va6 (D ++ [i2]).length vc6) = some g) w6 := by rw [hdl]; exact hin6
      have HIN6 := Lib.hid hin6'
      have HROW6 := Lib.hid hrow6
      have HDL6 := Lib.hid hdl
      have x0 : w6.cell? ⟨g, 0, none⟩ = some (.int .i64 (A.nd i2).key) := by rw [cell_of_row _ _ _ _ _ _ hbx6]; rfl
      have x1 : w6.cell? ⟨g, 1, none⟩ = some (.int .i64 (A.nd i2).val) := by rw [cell_of_row _ _ _ _ _ _ hbx6]; rfl
      have x2 : w6.cell? ⟨g, 2, none⟩ = some (.int .u32 ((A.nd i2).left : Int)) := by rw [cell_of_row _ _ _ _ _ _ hbx6]; rfl
      have x3 : w6.cell? ⟨g, 3, none⟩ = some (.int .u32 ((A.nd i2).right : Int)) := by rw [cell_of_row _ _ _ _ _ _ hbx6]; rfl
      have x4 : w6.cell? ⟨g, 4, none⟩ = some (.int .i64 (A.nd i2).size) := by rw [cell_of_row _ _ _ _ _ _ hbx6]; rfl
      have x5 : w6.cell? ⟨g, 5, none⟩ = some (.int .i64 (A.nd i2).sum) := by rw [cell_of_row _ _ _ _ _ _ hbx6]; rfl
      have x6 : w6.cell? ⟨g, 6, none⟩ = some (.int .i64 (A.nd i2).mn) := by rw [cell_of_row _ _ _ _ _ _ hbx6]; rfl
      have x7 : w6.cell? ⟨g, 7, none⟩ = some (.int .i64 (A.nd i2).mx) := by rw [cell_of_row _ _ _ _ _ _ hbx6]; rfl
      have hg := HG.out
      clear hin6 hin6' ho6 hg6 hv6 hrow6 hrow9 hsz9 hbx6 hdl HIN9 HROW9 HX9 HOWN HG
      by_cases hke : k = (A.nd i2).key
      · have hlt : ((A.nd i2).key == k) = true := by rw [hke]; simp
        rw [if_pos hke] at hg
        have HE : Hid (PathRes I (.pointer (some pa)) A rd F M P w (.returned (.slice va6 (N + 1) vc6)) w6) := by
          have h1 := HIN6.out.path (P := P) (n := (D ++ [i2]).length) (by rw [← hg]; exact HROW6.out) (by rw [← hg]) (rd0 := rd) (bd := M) (by have := HR1.out; omega) (by have := HR1.out; have := HRD.out; omega)
          rw [HDL6.out] at h1
          exact h1
        clear hke hg
        go_wp2_with fail
        go_ret
        exact HE.out
      · have hlt : ((A.nd i2).key == k) = false := by simp; exact fun e => hke e.symm
        rw [if_neg hke] at hg
        have HT := Lib.hid (towards_any (A.nd i2) k w6)
        have HE : Hid (∀ w3, Below w6.heap.size w6 w3 → WayP I w F (.pointer (some pa)) A rd k P (rd + (t.ht : Int)) U (.slice va6 (N + 1) vc6) (.int .u32 (twd (A.nd i2) k : Int)) (.int .i64 ((n + 1 : Nat) : Int)) w3) := fun w3 hb3 => by
          by_cases hkl : k < (A.nd i2).key
          · rw [if_pos hkl] at hg
            rw [show twd (A.nd i2) k = (A.nd i2).left from if_pos hkl]
            exact ⟨_, n + 1, l2, rd1 + 1, D ++ [i2], va6, vc6, by rw [HDL6.out], rfl, rfl, HSL.out, by rw [List.append_assoc]; exact hg, by have := HR1.out; omega, HR1.out.2.1, HNL.out, HIN6.out.calm hb3, row_below HROW6.out hb3⟩
          · rw [if_neg hkl] at hg
            rw [show twd (A.nd i2) k = (A.nd i2).right from if_neg hkl]
            exact ⟨_, n + 1, r2, rd1 + 1, D ++ [i2], va6, vc6, by rw [HDL6.out], rfl, rfl, HSR.out, by rw [List.append_assoc]; exact hg, by have := HR1.out; omega, HR1.out.2.2, HNR.out, HIN6.out.calm hb3, row_below HROW6.out hb3⟩
        clear hke hg
        go_wp2_with fail
        refine HT.out.mono ?_
        rintro e w3 ⟨rfl, hb3⟩
        have HE3 := Lib.hid (HE.out w3 hb3)
        clear hb3 HE HT
        go_wp2_with fail
        exact ⟨by rw [show ((n : Int) + 1) = ((n + 1 : Nat) : Int) by omega]; exact HE3.out, by simp [intOf]; omega⟩
theorem lkImpl (I : AImpl) : LkImpl I where
  get := fun k w hI hT h0 h1 hk => getP_any I k w hI hT h0 h1 hk
  first := fun w hI hT h0 h1 hk => firstP_any I w hI hT h0 h1 hk
  last := fun w hI hT h0 h1 hk => lastP_any I w hI hT h0 h1 hk
  floor := fun k w hI hT h0 h1 hk => floorP_any I k w hI hT h0 h1 hk
  ceiling := fun k w hI hT h0 h1 hk => ceilingP_any I k w hI hT h0 h1 hk
  path := fun k w hI hT h0 h1 hk => pathP_any I k w hI hT h0 h1 hk
theorem need_ok {a b c more extra factor : Int} (ha : vld a) (hb : vld b) (hc : vld c) : needI a b c more extra factor = extra + factor * (xhI (a + b + c + more) + 2) := if_pos ⟨ha, hb, hc⟩
theorem vld0 : vld 0 := ⟨by decide, by decide⟩
theorem wt_80 {n : Nat} (h : n ≤ 80) : wt n < 1000000000000 := Nat.lt_of_le_of_lt (wt_mono h) wt_small
theorem leastAbove_any {j : Nat} (h : wt (j + 1) < 1000000000000) (w : World) : Calls Tryz.prog 129 #[.int .i64 (wt j : Int)] w fun e w' => e = .returned (.int .i64 (wt (j + 1) : Int)) ∧ w' = w := by
  have h1 := wt_succ j
  have h2 : wrap64 ((wt j : Int) + 3) = (wt j : Int) + 3 := by unfold wrap64; omega
  have h3 : wrap64 ((wt j : Int) + 3 - 1) = (wt j : Int) + 2 := by unfold wrap64; omega
  have h4 : wrap64 ((wt j : Int) + wrap64 (((wt j : Int) + 2).tdiv 3)) = (wt (j + 1) : Int) := by
    rw [Int.tdiv_eq_ediv_of_nonneg (by omega)]
    unfold wrap64
    omega
  have H2 := Lib.hid h2
  have H3 := Lib.hid h3
  have H4 := Lib.hid h4
  clear h1 h2 h3 h4 h
  generalize (wt (j + 1) : Int) = Y at H4 ⊢
  generalize (wt j : Int) = X at H2 H3 H4 ⊢
  go_enter Tryz.func129, Tryz.ntmps129
  go_wp2_with fail
  go_ret
  exact ⟨by show Ending.returned (Value.int IntKind.i64 (wrap64 (X + wrap64 ((wrap64 (wrap64 (X + 3) - 1)).tdiv 3)))) = _; rw [H2.out, H3.out, H4.out], rfl⟩
theorem weight_any {n : Int} (h0 : 0 ≤ n) (h1 : n ≤ 2147483647) (w : World) : Calls Tryz.prog 130 #[.int .i64 n] w fun e w' => e = .returned (.int .i64 (n + 1)) ∧ w' = w := by
  have h2 : wrap64 (n + 1) = n + 1 := by unfold wrap64; omega
  have H2 := Lib.hid h2
  clear h0 h1 h2
  go_enter Tryz.func130, Tryz.ntmps130
  go_wp2_with fail
  go_ret
  exact ⟨by show Ending.returned (Value.int IntKind.i64 (wrap64 (n + 1))) = _; rw [H2.out], rfl⟩
theorem isSize_any (n : Int) (w : World) : Calls Tryz.prog 128 #[.int .i64 n] w fun e w' => e = .returned (.bool (decide (0 ≤ n ∧ n ≤ 2147483647))) ∧ w' = w := by
  by_cases h1 : 0 ≤ n
  · have hd : decide (n ≥ 0) = true := decide_eq_true h1
    have hd2 : decide (0 ≤ n) = true := decide_eq_true h1
    by_cases h2 : n ≤ 2147483647
    · have hd3 : decide (n ≤ 2147483647) = true := decide_eq_true h2
      have HE : Hid (decide (0 ≤ n ∧ n ≤ 2147483647) = true) := decide_eq_true ⟨h1, h2⟩
      clear h1 h2
      go_enter Tryz.func128, Tryz.ntmps128
      go_wp2_with fail
      go_ret
      exact ⟨by rw [HE.out]; rfl, rfl⟩
    · have hd3 : decide (n ≤ 2147483647) = false := decide_eq_false h2
      have HE : Hid (decide (0 ≤ n ∧ n ≤ 2147483647) = false) := decide_eq_false (fun h => h2 h.2)
      clear h1 h2
      go_enter Tryz.func128, Tryz.ntmps128
      go_wp2_with fail
      go_ret
      exact ⟨by rw [HE.out]; rfl, rfl⟩
  · have hd : decide (n ≥ 0) = false := decide_eq_false h1
    have hd2 : decide (0 ≤ n) = false := decide_eq_false h1
    have HE : Hid (decide (0 ≤ n ∧ n ≤ 2147483647) = false) := decide_eq_false (fun h => h1 h.1)
    clear h1
    go_enter Tryz.func128, Tryz.ntmps128
    go_wp2_with fail
    go_ret
    exact ⟨by rw [HE.out]; rfl, rfl⟩
set_option maxHeartbeats 1000000 in
set_option maxRecDepth 100000 in
theorem maxHeight_any (n : Int) (w : World) (h0 : -9223372036854775808 ≤ n) (h1 : n ≤ 9223372036854775807) : Calls Tryz.prog 117 #[.int .i64 n] w (Calm w (.int .i64 (xhI n))) := by
  by_cases hr : 0 ≤ n ∧ n ≤ 2147483647
  · obtain ⟨m, rfl⟩ := Int.eq_ofNat_of_zero_le hr.1
    have hm : m ≤ 2147483647 := by omega
    have HM := Lib.hid hm
    have HD : Hid (decide (0 ≤ (m : Int) ∧ (m : Int) ≤ 2147483647) = true) := decide_eq_true hr
    have HX : Hid (xhI (m : Int) = (xh m : Int)) := by
      show xhI (m : Int) = _
      unfold xhI
      rw [if_pos hr, Int.toNat_natCast]
    clear hr h0 h1 hm
    go_enter Tryz.func117, Tryz.ntmps117
    go_wp2_with fail
    refine (isSize_any (m : Int) w).mono ?_
    rintro e w1 ⟨rfl, rfl⟩
    rw [HD.out]
    go_wp2_with fail
    refine (leastAbove_any (j := 0) (by decide) w1).mono ?_
    rintro e w2 ⟨rfl, rfl⟩
    go_wp2_with fail
    go_loopw [3, 4] (fun x y wr => ∃ j : Nat, x = .int .i64 (j : Int) ∧ y = .int .i64 (wt (j + 1) : Int) ∧ j < 80 ∧ wt j - 1 ≤ m ∧ wr = w2) (fun x _ _ => 80 - (intOf x).toNat)
    case atStart => exact ⟨0, rfl, rfl, by omega, by unfold wt; omega, rfl⟩
    case round =>
      obtain ⟨j, rfl, rfl, hj, hwj, rfl⟩ := hrel
      have HJ : Hid (j < 80 ∧ wt j - 1 ≤ m) := ⟨hj, hwj⟩
      have hwp := wt_pos (j + 1)
      obtain ⟨V, hV⟩ : ∃ V, wt (j + 1) = V := ⟨_, rfl⟩
      have HV := Lib.hid hV
      have HM1 : Hid ((0 : Int) ≤ (m : Int) ∧ (m : Int) ≤ 2147483647) := ⟨by omega, by have := HM.out; omega⟩
      rw [hV]
      by_cases hle : V ≤ m + 1
      · have hj1 : j + 1 < 80 := by
          rcases Nat.lt_or_ge (j + 1) 80 with h | h
          · exact h
          · have h1 := wt_mono h
            have h2 := wt_big
            have h3 := HM.out
            omega
        have hw82 := wt_80 (show j + 1 + 1 ≤ 80 by omega)
        have hlei : decide ((V : Int) ≤ (m : Int) + 1) = true := decide_eq_true (by omega)
        have hleN : decide (V ≤ m + 1) = true := decide_eq_true hle
        have hw1 : IntKind.i64.wrap ((j : Int) + 1) = (j : Int) + 1 := by rw [IntKind.wrap_i64]; omega
        have HN : Hid (∃ k : Nat, ((j : Int) + 1 : Int) = (k : Int) ∧ (wt (j + 1 + 1) : Int) = (wt (k + 1) : Int) ∧ k < 80 ∧ wt k - 1 ≤ m) := ⟨j + 1, by omega, rfl, hj1, by omega⟩
        have HLA : Hid (∀ w : World, Calls Tryz.prog 129 #[.int .i64 (V : Int)] w fun e w' => e = .returned (.int .i64 (wt (j + 1 + 1) : Int)) ∧ w' = w) := fun w => by
          rw [← hV]; exact leastAbove_any hw82 w
        have HLE : Hid (V ≤ m + 1) := hle
        clear hj hwj hwp hV hj1 hw82 hle
        generalize wt (j + 1 + 1) = U at HN HLA
        go_wp2_with fail
        refine (weight_any HM1.out.1 HM1.out.2 wr).mono ?_
        rintro e w3 ⟨rfl, rfl⟩
        go_wp2_with fail
        refine (HLA.out w3).mono ?_
        rintro e w4 ⟨rfl, rfl⟩
        go_wp2_with fail
        obtain ⟨k, h1, h2, h3, h4⟩ := HN.out
        exact ⟨⟨k, by rw [h1], by rw [h2], h3, h4, trivial⟩, by have := HJ.out; simp [intOf]; omega⟩
      · have hlei : decide ((V : Int) ≤ (m : Int) + 1) = false := decide_eq_false (by omega)
        have hleN : decide (V ≤ m + 1) = false := decide_eq_false hle
        have hleM : ¬ V ≤ m + 1 := hle
        have HE : Hid (xhI (m : Int) = (j : Int)) := by
          show xhI (m : Int) = _
          rw [HX.out, xh_of HM.out HJ.out.2 (by omega)]
        clear hj hwj hwp hV hle
        go_wp2_with fail
        refine (weight_any HM1.out.1 HM1.out.2 wr).mono ?_
        rintro e w3 ⟨rfl, rfl⟩
        go_wp2_with fail
        go_ret
        exact ⟨by rw [HE.out]; rfl, Below.refl _ _⟩
  · have HE : Hid (xhI n = -1) := if_neg hr
    have HD : Hid (decide (0 ≤ n ∧ n ≤ 2147483647) = false) := decide_eq_false hr
    clear hr h0 h1
    go_enter Tryz.func117, Tryz.ntmps117
    go_wp2_with fail
    refine (isSize_any n w).mono ?_
    rintro e w1 ⟨rfl, rfl⟩
    rw [HD.out]
    go_wp2_with fail
    go_ret
    exact ⟨by rw [HE.out]; rfl, Below.refl _ _⟩
set_option maxHeartbeats 1000000 in
set_option maxRecDepth 100000 in
theorem balancedP_any (l r : Int) (w : World) (hl0 : -9223372036854775808 ≤ l) (hl1 : l ≤ 9223372036854775807) (hr0 : -9223372036854775808 ≤ r) (hr1 : r ≤ 9223372036854775807) : Calls Tryz.prog 135 #[.int .i64 l, .int .i64 r] w (Calm w (.bool (bal l r))) := by
  by_cases hl : 0 ≤ l ∧ l ≤ 2147483647
  · have HL : Hid (decide (0 ≤ l ∧ l ≤ 2147483647) = true) := decide_eq_true hl
    by_cases hr : 0 ≤ r ∧ r ≤ 2147483647
    · have HR : Hid (decide (0 ≤ r ∧ r ≤ 2147483647) = true) := decide_eq_true hr
      have w1 : IntKind.i64.wrap (l + 1) = l + 1 := by rw [IntKind.wrap_i64]; omega
      have w2 : IntKind.i64.wrap (r + 1) = r + 1 := by rw [IntKind.wrap_i64]; omega
      have w3 : IntKind.i64.wrap (3 * (l + 1)) = 3 * (l + 1) := by rw [IntKind.wrap_i64]; omega
      have w4 : IntKind.i64.wrap (3 * (r + 1)) = 3 * (r + 1) := by rw [IntKind.wrap_i64]; omega
      have HB : Hid (bal l r = (decide (l + 1 ≤ 3 * (r + 1)) && decide (r + 1 ≤ 3 * (l + 1)))) := by
        show bal l r = _
        unfold bal
        rw [← Bool.decide_and]
        exact decide_eq_decide.2 (by omega)
      have HLI := Lib.hid hl
      have HRI := Lib.hid hr
      generalize hb1 : decide (l + 1 ≤ 3 * (r + 1)) = b1 at HB
      generalize hb2 : decide (r + 1 ≤ 3 * (l + 1)) = b2 at HB
      clear hl hr hl0 hl1 hr0 hr1
      cases b1
      all_goals (
        go_enter Tryz.func135, Tryz.ntmps135
        go_wp2_with fail
        refine (isSize_any l w).mono ?_
        rintro e w5 ⟨rfl, rfl⟩
        rw [HL.out]
        go_wp2_with fail
        refine (isSize_any r w5).mono ?_
        rintro e w6 ⟨rfl, rfl⟩
        rw [HR.out]
        go_wp2_with fail
        refine (weight_any HLI.out.1 HLI.out.2 w6).mono ?_
        rintro e w7 ⟨rfl, rfl⟩
        go_wp2_with fail
        refine (weight_any HRI.out.1 HRI.out.2 w7).mono ?_
        rintro e w8 ⟨rfl, rfl⟩
        go_wp2_with fail
        go_ret
        exact ⟨by rw [HB.out]; rfl, Below.refl _ _⟩)
    · have HR : Hid (decide (0 ≤ r ∧ r ≤ 2147483647) = false) := decide_eq_false hr
      have HB : Hid (bal l r = false) := decide_eq_false (fun h => hr ⟨h.2.2.1, h.2.2.2.1⟩)
      clear hl hr hl0 hl1 hr0 hr1
      go_enter Tryz.func135, Tryz.ntmps135
      go_wp2_with fail
      refine (isSize_any l w).mono ?_
      rintro e w5 ⟨rfl, rfl⟩
      rw [HL.out]
      go_wp2_with fail
      refine (isSize_any r w5).mono ?_
      rintro e w6 ⟨rfl, rfl⟩
      rw [HR.out]
      go_wp2_with fail
      go_ret
      exact ⟨by rw [HB.out]; rfl, Below.refl _ _⟩
  · have HL : Hid (decide (0 ≤ l ∧ l ≤ 2147483647) = false) := decide_eq_false hl
    have HB : Hid (bal l r = false) := decide_eq_false (fun h => hl ⟨h.1, h.2.1⟩)
    clear hl hl0 hl1 hr0 hr1
    go_enter Tryz.func135, Tryz.ntmps135
    go_wp2_with fail
    refine (isSize_any l w).mono ?_
    rintro e w5 ⟨rfl, rfl⟩
    rw [HL.out]
    go_wp2_with fail
    go_ret
    exact ⟨by rw [HB.out]; rfl, Below.refl _ _⟩
theorem valid_any (n : Int) (w : World) : Calls Tryz.prog 97 #[.int .i64 n] w fun e w' => e = .returned (.bool (decide (vld n))) ∧ w' = w := by
  by_cases h1 : 0 ≤ n
  · have hd : decide (n ≥ 0) = true := decide_eq_true h1
    have hd2 : decide (0 ≤ n) = true := decide_eq_true h1
    by_cases h2 : n ≤ 65536
    · have hd3 : decide (n ≤ 65536) = true := decide_eq_true h2
      have HE : Hid (decide (vld n) = true) := decide_eq_true ⟨h1, h2⟩
      clear h1 h2
      go_enter Tryz.func97, Tryz.ntmps97
      go_wp2_with fail
      go_ret
      exact ⟨by rw [HE.out]; rfl, rfl⟩
    · have hd3 : decide (n ≤ 65536) = false := decide_eq_false h2
      have HE : Hid (decide (vld n) = false) := decide_eq_false (fun h => h2 h.2)
      clear h1 h2
      go_enter Tryz.func97, Tryz.ntmps97
      go_wp2_with fail
      go_ret
      exact ⟨by rw [HE.out]; rfl, rfl⟩
  · have hd : decide (n ≥ 0) = false := decide_eq_false h1
    have hd2 : decide (0 ≤ n) = false := decide_eq_false h1
    have HE : Hid (decide (vld n) = false) := decide_eq_false (fun h => h1 h.1)
    clear h1
    go_enter Tryz.func97, Tryz.ntmps97
    go_wp2_with fail
    go_ret
    exact ⟨by rw [HE.out]; rfl, rfl⟩
theorem pathR_any (n : Int) (w : World) (h0 : 0 ≤ n) (h1 : n ≤ 1000000) : Calls Tryz.prog 98 #[.int .i64 n] w (Calm w (.int .i64 (xhI n + 2))) := by
  have hX := xhI_in h0 h1
  have HC := Lib.hid (maxHeight_any n w (by omega) (by omega))
  obtain ⟨X, hXX⟩ : ∃ X, xhI n = X := ⟨_, rfl⟩
  rw [hXX] at hX HC ⊢
  have w4 : IntKind.i64.wrap (X + 2) = X + 2 := by rw [IntKind.wrap_i64]; omega
  clear h0 h1 hX hXX
  go_enter Tryz.func98, Tryz.ntmps98
  go_wp2_with fail
  refine HC.out.mono ?_
  rintro e w1 ⟨rfl, hb⟩
  have HB := Lib.hid hb
  clear hb
  go_wp2_with fail
  go_ret
  exact ⟨rfl, HB.out⟩
theorem path_in {f n : Int} (hf : 0 ≤ f ∧ f ≤ 12) (h0 : 0 ≤ n) (h1 : n ≤ 1000000) : 0 ≤ f * (xhI n + 2) ∧ f * (xhI n + 2) ≤ 984 := by
  have hX := xhI_in h0 h1
  have h4 : f * (xhI n + 2) ≤ 12 * 82 := Int.mul_le_mul hf.2 (by omega) (by omega) (by decide)
  exact ⟨Int.mul_nonneg hf.1 (by omega), by omega⟩
set_option maxHeartbeats 1000000 in
set_option maxRecDepth 100000 in
theorem rsInsert_any (n : Int) (w : World) (hn : in64 n) : Calls Tryz.prog 72 #[.int .i64 n] w (Calm w (.int .i64 (insI n))) := by
  by_cases vn : vld n
  rotate_left
  · have HE : Hid (insI n = -1) := by show insI n = -1; unfold insI needI; rw [if_neg (fun h => vn h.1)]
    have HV : Hid (decide (vld n) = false) := decide_eq_false vn
    clear hn vn
    go_enter Tryz.func72, Tryz.ntmps72
    go_wp2_with fail
    refine (valid_any n _).mono ?_
    rintro e wv ⟨rfl, rfl⟩
    rw [HV.out]
    go_wp2_with fail
    go_ret
    exact ⟨by rw [HE.out]; rfl, Below.refl _ _⟩
  have hE : insI n = 0 + 4 * (xhI (n + 0 + 0 + 1) + 2) := need_ok vn vld0 vld0
  have HVn : Hid (decide (vld n) = true) := decide_eq_true vn
  rw [show n + 0 + 0 + 1 = n + 1 by omega] at hE
  have har : 0 ≤ n + 1 ∧ n + 1 ≤ 1000000 := by unfold vld at vn; omega
  have hpi := path_in (f := 4) ⟨by decide, by decide⟩ har.1 har.2
  have HC : Hid (∀ wx, Calls Tryz.prog 98 #[.int .i64 (n + 1)] wx (Calm wx (.int .i64 (xhI (n + 1) + 2)))) := fun wx => pathR_any (n + 1) wx har.1 har.2
  obtain ⟨Q, hQ⟩ : ∃ Q, xhI (n + 1) + 2 = Q := ⟨_, rfl⟩
  rw [hQ] at hE hpi HC
  have hq1 : IntKind.i64.wrap (4 * Q) = 4 * Q := by rw [IntKind.wrap_i64]; omega
  have hs0 : IntKind.i64.wrap (n + 1) = n + 1 := by unfold vld at vn; rw [IntKind.wrap_i64]; omega
  have HE := Lib.hid hE
  clear hE har hpi hQ hn vn
  go_enter Tryz.func72, Tryz.ntmps72
  go_wp2_with fail
  refine (valid_any n _).mono ?_
  rintro e wv ⟨rfl, rfl⟩
  rw [HVn.out]
  go_wp2_with fail
  refine (HC.out _).mono ?_
  rintro e w2 ⟨rfl, hb2⟩
  have HB2 := Lib.hid hb2
  clear hb2
  go_wp2_with fail
  go_ret
  exact ⟨by rw [HE.out, Int.zero_add]; rfl, HB2.out⟩
set_option maxHeartbeats 1000000 in
set_option maxRecDepth 100000 in
theorem rsDelete_any (n : Int) (w : World) (hn : in64 n) : Calls Tryz.prog 68 #[.int .i64 n] w (Calm w (.int .i64 (delI n))) := by
  by_cases vn : vld n
  rotate_left
  · have HE : Hid (delI n = -1) := by show delI n = -1; unfold delI needI; rw [if_neg (fun h => vn h.1)]
    have HV : Hid (decide (vld n) = false) := decide_eq_false vn
    clear hn vn
    go_enter Tryz.func68, Tryz.ntmps68
    go_wp2_with fail
    refine (valid_any n _).mono ?_
    rintro e wv ⟨rfl, rfl⟩
    rw [HV.out]
    go_wp2_with fail
    go_ret
    exact ⟨by rw [HE.out]; rfl, Below.refl _ _⟩
  have hE : delI n = 0 + 4 * (xhI (n + 0 + 0 + 0) + 2) := need_ok vn vld0 vld0
  have HVn : Hid (decide (vld n) = true) := decide_eq_true vn
  rw [show n + 0 + 0 + 0 = n by omega] at hE
  have har : 0 ≤ n ∧ n ≤ 1000000 := by unfold vld at vn; omega
  have hpi := path_in (f := 4) ⟨by decide, by decide⟩ har.1 har.2
  have HC : Hid (∀ wx, Calls Tryz.prog 98 #[.int .i64 (n)] wx (Calm wx (.int .i64 (xhI (n) + 2)))) := fun wx => pathR_any (n) wx har.1 har.2
  obtain ⟨Q, hQ⟩ : ∃ Q, xhI (n) + 2 = Q := ⟨_, rfl⟩
  rw [hQ] at hE hpi HC
  have hq1 : IntKind.i64.wrap (4 * Q) = 4 * Q := by rw [IntKind.wrap_i64]; omega
  have HE := Lib.hid hE
  clear hE har hpi hQ hn vn
  go_enter Tryz.func68, Tryz.ntmps68
  go_wp2_with fail
  refine (valid_any n _).mono ?_
  rintro e wv ⟨rfl, rfl⟩
  rw [HVn.out]
  go_wp2_with fail
  refine (HC.out _).mono ?_
  rintro e w2 ⟨rfl, hb2⟩
  have HB2 := Lib.hid hb2
  clear hb2
  go_wp2_with fail
  go_ret
  exact ⟨by rw [HE.out, Int.zero_add]; rfl, HB2.out⟩
set_option maxHeartbeats 1000000 in
set_option maxRecDepth 100000 in
theorem rsJoin_any (l r : Int) (w : World) (hl : in64 l) (hr : in64 r) : Calls Tryz.prog 121 #[.int .i64 l, .int .i64 r] w (Calm w (.int .i64 (joinI l r))) := by
  by_cases vl : vld l
  rotate_left
  · have HE : Hid (joinI l r = -1) := by show joinI l r = -1; unfold joinI needI; rw [if_neg (fun h => vl h.1)]
    have HV : Hid (decide (vld l) = false) := decide_eq_false vl
    clear hl hr vl
    go_enter Tryz.func121, Tryz.ntmps121
    go_wp2_with fail
    refine (valid_any l _).mono ?_
    rintro e wv ⟨rfl, rfl⟩
    rw [HV.out]
    go_wp2_with fail
    go_ret
    exact ⟨by rw [HE.out]; rfl, Below.refl _ _⟩
  by_cases vr : vld r
  rotate_left
  · have HE : Hid (joinI l r = -1) := by show joinI l r = -1; unfold joinI needI; rw [if_neg (fun h => vr h.2.1)]
    have HV : Hid (decide (vld r) = false) := decide_eq_false vr
    have HVl : Hid (decide (vld l) = true) := decide_eq_true vl
    clear hl hr vl vr
    go_enter Tryz.func121, Tryz.ntmps121
    go_wp2_with fail
    refine (valid_any l _).mono ?_
    rintro e wv ⟨rfl, rfl⟩
    rw [HVl.out]
    go_wp2_with fail
    refine (valid_any r _).mono ?_
    rintro e wv ⟨rfl, rfl⟩
    rw [HV.out]
    go_wp2_with fail
    go_ret
    exact ⟨by rw [HE.out]; rfl, Below.refl _ _⟩
  have hE : joinI l r = 0 + 4 * (xhI (l + r + 0 + 1) + 2) := need_ok vl vr vld0
  have HVl : Hid (decide (vld l) = true) := decide_eq_true vl
  have HVr : Hid (decide (vld r) = true) := decide_eq_true vr
  rw [show l + r + 0 + 1 = l + r + 1 by omega] at hE
  have har : 0 ≤ l + r + 1 ∧ l + r + 1 ≤ 1000000 := by unfold vld at vl vr; omega
  have hpi := path_in (f := 4) ⟨by decide, by decide⟩ har.1 har.2
  have HC : Hid (∀ wx, Calls Tryz.prog 98 #[.int .i64 (l + r + 1)] wx (Calm wx (.int .i64 (xhI (l + r + 1) + 2)))) := fun wx => pathR_any (l + r + 1) wx har.1 har.2
  obtain ⟨Q, hQ⟩ : ∃ Q, xhI (l + r + 1) + 2 = Q := ⟨_, rfl⟩
  rw [hQ] at hE hpi HC
  have hq1 : IntKind.i64.wrap (4 * Q) = 4 * Q := by rw [IntKind.wrap_i64]; omega
  have hs0 : IntKind.i64.wrap (l + r) = l + r := by unfold vld at vl vr; rw [IntKind.wrap_i64]; omega
  have hs1 : IntKind.i64.wrap (l + r + 1) = l + r + 1 := by unfold vld at vl vr; rw [IntKind.wrap_i64]; omega
  have HE := Lib.hid hE
  clear hE har hpi hQ hl vl hr vr
  go_enter Tryz.func121, Tryz.ntmps121
  go_wp2_with fail
  refine (valid_any l _).mono ?_
  rintro e wv ⟨rfl, rfl⟩
  rw [HVl.out]
  go_wp2_with fail
  refine (valid_any r _).mono ?_
  rintro e wv ⟨rfl, rfl⟩
  rw [HVr.out]
  go_wp2_with fail
  refine (HC.out _).mono ?_
  rintro e w2 ⟨rfl, hb2⟩
  have HB2 := Lib.hid hb2
  clear hb2
  go_wp2_with fail
  go_ret
  exact ⟨by rw [HE.out, Int.zero_add]; rfl, HB2.out⟩
set_option maxHeartbeats 1000000 in
set_option maxRecDepth 100000 in
theorem rsSplit_any (n : Int) (w : World) (hn : in64 n) : Calls Tryz.prog 140 #[.int .i64 n] w (Calm w (.int .i64 (splitI n))) := by
  by_cases vn : vld n
  rotate_left
  · have HE : Hid (splitI n = -1) := by show splitI n = -1; unfold splitI needI; rw [if_neg (fun h => vn h.1)]
    have HV : Hid (decide (vld n) = false) := decide_eq_false vn
    clear hn vn
    go_enter Tryz.func140, Tryz.ntmps140
    go_wp2_with fail
    refine (valid_any n _).mono ?_
    rintro e wv ⟨rfl, rfl⟩
    rw [HV.out]
    go_wp2_with fail
    go_ret
    exact ⟨by rw [HE.out]; rfl, Below.refl _ _⟩
  have hE : splitI n = 0 + 12 * (xhI (n + 0 + 0 + 0) + 2) := need_ok vn vld0 vld0
  have HVn : Hid (decide (vld n) = true) := decide_eq_true vn
  rw [show n + 0 + 0 + 0 = n by omega] at hE
  have har : 0 ≤ n ∧ n ≤ 1000000 := by unfold vld at vn; omega
  have hpi := path_in (f := 12) ⟨by decide, by decide⟩ har.1 har.2
  have HC : Hid (∀ wx, Calls Tryz.prog 98 #[.int .i64 (n)] wx (Calm wx (.int .i64 (xhI (n) + 2)))) := fun wx => pathR_any (n) wx har.1 har.2
  obtain ⟨Q, hQ⟩ : ∃ Q, xhI (n) + 2 = Q := ⟨_, rfl⟩
  rw [hQ] at hE hpi HC
  have hq1 : IntKind.i64.wrap (12 * Q) = 12 * Q := by rw [IntKind.wrap_i64]; omega
  have HE := Lib.hid hE
  clear hE har hpi hQ hn vn
  go_enter Tryz.func140, Tryz.ntmps140
  go_wp2_with fail
  refine (valid_any n _).mono ?_
  rintro e wv ⟨rfl, rfl⟩
  rw [HVn.out]
  go_wp2_with fail
  refine (HC.out _).mono ?_
  rintro e w2 ⟨rfl, hb2⟩
  have HB2 := Lib.hid hb2
  clear hb2
  go_wp2_with fail
  go_ret
  exact ⟨by rw [HE.out, Int.zero_add]; rfl, HB2.out⟩
set_option maxHeartbeats 1000000 in
set_option maxRecDepth 100000 in
theorem rsSetOperation_any (l r : Int) (w : World) (hl : in64 l) (hr : in64 r) : Calls Tryz.prog 80 #[.int .i64 l, .int .i64 r] w (Calm w (.int .i64 (setI l r))) := by
  by_cases vl : vld l
  rotate_left
  · have HE : Hid (setI l r = -1) := by show setI l r = -1; unfold setI needI; rw [if_neg (fun h => vl h.1)]
    have HV : Hid (decide (vld l) = false) := decide_eq_false vl
    clear hl hr vl
    go_enter Tryz.func80, Tryz.ntmps80
    go_wp2_with fail
    refine (valid_any l _).mono ?_
    rintro e wv ⟨rfl, rfl⟩
    rw [HV.out]
    go_wp2_with fail
    go_ret
    exact ⟨by rw [HE.out]; rfl, Below.refl _ _⟩
  by_cases vr : vld r
  rotate_left
  · have HE : Hid (setI l r = -1) := by show setI l r = -1; unfold setI needI; rw [if_neg (fun h => vr h.2.1)]
    have HV : Hid (decide (vld r) = false) := decide_eq_false vr
    have HVl : Hid (decide (vld l) = true) := decide_eq_true vl
    clear hl hr vl vr
    go_enter Tryz.func80, Tryz.ntmps80
    go_wp2_with fail
    refine (valid_any l _).mono ?_
    rintro e wv ⟨rfl, rfl⟩
    rw [HVl.out]
    go_wp2_with fail
    refine (valid_any r _).mono ?_
    rintro e wv ⟨rfl, rfl⟩
    rw [HV.out]
    go_wp2_with fail
    go_ret
    exact ⟨by rw [HE.out]; rfl, Below.refl _ _⟩
  have hE : setI l r = l + r + 12 * (xhI (l + r + 0 + 0) + 2) := need_ok vl vr vld0
  have HVl : Hid (decide (vld l) = true) := decide_eq_true vl
  have HVr : Hid (decide (vld r) = true) := decide_eq_true vr
  rw [show l + r + 0 + 0 = l + r by omega] at hE
  have har : 0 ≤ l + r ∧ l + r ≤ 1000000 := by unfold vld at vl vr; omega
  have hpi := path_in (f := 12) ⟨by decide, by decide⟩ har.1 har.2
  have HC : Hid (∀ wx, Calls Tryz.prog 98 #[.int .i64 (l + r)] wx (Calm wx (.int .i64 (xhI (l + r) + 2)))) := fun wx => pathR_any (l + r) wx har.1 har.2
  obtain ⟨Q, hQ⟩ : ∃ Q, xhI (l + r) + 2 = Q := ⟨_, rfl⟩
  rw [hQ] at hE hpi HC
  have hq1 : IntKind.i64.wrap (12 * Q) = 12 * Q := by rw [IntKind.wrap_i64]; omega
  have hs0 : IntKind.i64.wrap (l + r) = l + r := by unfold vld at vl vr; rw [IntKind.wrap_i64]; omega
  have hsq : IntKind.i64.wrap (l + r + 12 * Q) = l + r + 12 * Q := by unfold vld at vl vr; rw [IntKind.wrap_i64]; omega
  have HE := Lib.hid hE
  clear hE har hpi hQ hl vl hr vr
  go_enter Tryz.func80, Tryz.ntmps80
  go_wp2_with fail
  refine (valid_any l _).mono ?_
  rintro e wv ⟨rfl, rfl⟩
  rw [HVl.out]
  go_wp2_with fail
  refine (valid_any r _).mono ?_
  rintro e wv ⟨rfl, rfl⟩
  rw [HVr.out]
  go_wp2_with fail
  refine (HC.out _).mono ?_
  rintro e w2 ⟨rfl, hb2⟩
  have HB2 := Lib.hid hb2
  clear hb2
  go_wp2_with fail
  go_ret
  exact ⟨by rw [HE.out]; rfl, HB2.out⟩
theorem up_joinJ {l m : List En} {x y : En} (hl : Up l) (hm : Up m) (hx : l.getLast? = some x) (hy : m.head? = some y) : Up (l ++ m) ↔ x.key < y.key := by
  constructor
  · intro h
    exact (List.pairwise_append.1 h).2.2 x (List.mem_of_getLast? hx) y (List.mem_of_mem_head? hy)
  · intro h
    refine List.pairwise_append.2 ⟨hl, hm, fun u hu v hv => ?_⟩
    have h1 : u.key ≤ x.key := by
      obtain ⟨i, hi, rfl⟩ := List.mem_iff_getElem.1 hu
      rw [List.getLast?_eq_getElem?] at hx
      obtain ⟨hj, rfl⟩ := List.getElem?_eq_some_iff.1 hx
      rcases Nat.lt_or_ge i (l.length - 1) with h2 | h2
      · have := List.pairwise_iff_getElem.1 hl i (l.length - 1) hi hj h2; omega
      · have h3 : i = l.length - 1 := by omega
        subst h3; exact Int.le_refl _
    have h4 : y.key ≤ v.key := by
      cases m with
      | nil => cases hy
      | cons z t =>
        cases hy
        rcases List.mem_cons.1 hv with rfl | hv
        · exact Int.le_refl _
        · have := (List.pairwise_cons.1 hm).1 v hv; omega
    omega
theorem numJ : ShNum := ⟨maxHeight_any, balancedP_any⟩
theorem TreeAt.few {A : Ar} {i : Nat} {t : Tr} {l : List En} (h : TreeAt A i t l) : l.length ≤ 65536 := by
  obtain ⟨held, hv⟩ := h.inv
  have h1 := h.held
  have h2 := h.size
  have h3 := hv.ok.cap2
  omega
theorem TreeAt.idx' {A : Ar} {i : Nat} {t : Tr} {l : List En} (h : TreeAt A i t l) : A.Idx i := h.sub.idx
theorem joinJ {n m : Nat} (hn : n ≤ 65536) (hm : m ≤ 65536) : joinI (n : Int) (m : Int) = 4 * ((xh (n + m + 1) : Int) + 2) := by
  unfold joinI needI
  have hv : vld (n : Int) ∧ vld (m : Int) ∧ vld 0 := by unfold vld; omega
  rw [if_pos hv, show (n : Int) + (m : Int) + 0 + 1 = ((n + m + 1 : Nat) : Int) by omega, xhI_nat (by omega)]
  omega
/-- what Concat answers, how many slots it takes and how often it reads -/
def CatS (A : Ar) (rd : Int) (held : Nat → Nat) (L R : Nat) (ll lr : List En) (en : Ending) (B : Ar) (rd' : Int) : Prop :=
  CatQ A rd held L R ll lr en B rd' ∧ A.σ.free.length ≤ B.σ.free.length + 4 * xh (ll.length + lr.length + 1) + 1 ∧ rd' ≤ rd + mostI ll.length + mostI lr.length + 26 * (xh (ll.length + lr.length + 1) : Int) + 4
set_option maxHeartbeats 32000000 in
set_option maxRecDepth 100000 in
theorem concatH_any (I : AImpl) {p : Value} {A : Ar} {rd : Int} {F : Nat → Prop} {held : Nat → Nat} {L R : Nat} {tl tr : Tr} {ll lr : List En} (w : World) (hI : I.Is w p A rd F) (hv : A.Inv [] held) (hm : ∀ j, held j ≤ 1048200) (hL : TreeAt A L tl ll) (hR : TreeAt A R tr lr) (hwl : WfL ll) (hwr : WfL lr) (h0 : 0 ≤ rd) (h1 : rd ≤ 1099511000000) :
    Calls Tryz.prog 99 #[p, .int .u32 (L : Int), .int .u32 (R : Int)] w (Mut I p F (CatS A rd held L R ll lr) w) := by
  obtain ⟨pa, rfl⟩ := I.ptr hI
  have HS0 := Lib.hid (Ins.start hI)
  have HV := Lib.hid hv
  have HM := Lib.hid hm
  have HL := Lib.hid hL
  have HR := Lib.hid hR
  have HW : Hid (WfL ll ∧ WfL lr) := ⟨hwl, hwr⟩
  have HRD : Hid (0 ≤ rd ∧ rd ≤ 1099511000000) := ⟨h0, h1⟩
  have hn := hL.few
  have hm' := hR.few
  have x1 := xh_up (m := ll.length) (n := ll.length + lr.length + 1) (by omega) (by omega)
  have x2 := xh_up (m := lr.length) (n := ll.length + lr.length + 1) (by omega) (by omega)
  have HN : Hid (ll.length ≤ 65536 ∧ lr.length ≤ 65536) := ⟨hn, hm'⟩
  have HB : Hid (mostI ll.length + mostI lr.length + 2 + 12 * (xh (ll.length + lr.length + 1) : Int) + 14 * (xh (ll.length + lr.length + 1) : Int) + 2 ≤ joinBd ll.length lr.length ∧ 0 ≤ mostI ll.length ∧ 0 ≤ mostI lr.length ∧ mostI ll.length ≤ 1000 ∧ mostI lr.length ≤ 1000 ∧ (xh (ll.length + lr.length + 1) : Int) ≤ 100 ∧ joinI (ll.length : Int) (lr.length : Int) = 4 * ((xh (ll.length + lr.length + 1) : Int) + 2) ∧ tr.ht ≤ xh (ll.length + lr.length + 1) ∧ lossN tr ≤ xh (ll.length + lr.length + 1)) := by
    have h2 := (xh_spec (n := ll.length + lr.length + 1) (by omega)).2.1
    have h3 := hR.ht (by omega)
    have h4 := lossN_le hR.bal (by rw [hR.size]; omega)
    rw [hR.size] at h4
    refine ⟨?_, ?_, ?_, ?_, ?_, by omega, joinJ hn hm', by omega, by omega⟩ <;> (try unfold joinBd) <;> (try unfold mostI) <;> omega
  have HZ : Hid (A.sz L = (ll.length : Int) ∧ A.sz R = (lr.length : Int) ∧ A.Idx L ∧ A.Idx R ∧ L < 4294967296 ∧ R < 4294967296) := ⟨hL.at_.sz hL.agg, hR.at_.sz hL.agg, hL.idx', hR.idx', hL.idx, hR.idx⟩
  clear hI hv hm hL hR hwl hwr h0 h1 hn hm' x1 x2
  go_enter Tryz.func99, Tryz.ntmps99
  by_cases hz : L = 0
  · subst hz
    have hll : ll = [] := (HL.out.at_.zero_iff (held := held)).1 rfl
    have HQ : Hid (CatS A rd held 0 R ll lr (.returned (.tuple #[.int .u32 (R : Int), .int .i64 0])) (A.ret R) rd) := by
      obtain ⟨m1, m2, m3, m4⟩ := (Mid.start HV.out HL.out.agg).ret HR.out.idx'
      refine ⟨⟨Int.le_refl _, by have := HB.out; omega, .inl ⟨.inl hll, tr, by rw [show 0 + R = R by omega], ?_, by rw [m3]⟩⟩, by rw [m3]; omega, by have := HB.out; omega⟩
      rw [hll, show 0 + R = R by omega]
      show Got A held (A.ret R) R tr lr
      exact m1.got (HR.out.at_.kept m2)
    go_wp2_with fail
    refine (HS0.out.mut fun F1 hI1 => share_any I w hI1 HV.out (fun j => Nat.le_trans (HM.out j) (by decide)) HR.out.idx').mono ?_
    rintro en w4 ⟨B, rd4, ⟨rfl, rfl, rfl⟩, hs4⟩
    have HE := Lib.hid hs4.ends
    clear hs4
    go_wp2_with fail
    go_ret2
    obtain ⟨F', hal, hI⟩ := HE.out
    exact ⟨F', _, _, hal, hI, HQ.out⟩
  by_cases hz2 : R = 0
  · subst hz2
    have hlr : lr = [] := (HR.out.at_.zero_iff (held := held)).1 rfl
    have HQ : Hid (CatS A rd held L 0 ll lr (.returned (.tuple #[.int .u32 (L : Int), .int .i64 0])) (A.ret L) rd) := by
      obtain ⟨m1, m2, m3, m4⟩ := (Mid.start HV.out HL.out.agg).ret HL.out.idx'
      refine ⟨⟨Int.le_refl _, by have := HB.out; omega, .inl ⟨.inr hlr, tl, by rw [show L + 0 = L by omega], ?_, by rw [m3]⟩⟩, by rw [m3]; omega, by have := HB.out; omega⟩
      rw [hlr, show L + 0 = L by omega]
      rw [List.append_nil]
      exact m1.got (HL.out.at_.kept m2)
    have hd : decide ((L : Int) = 0) = false := decide_eq_false (by omega)
    have hd2 : ¬ (L : Int) = 0 := by omega
    go_wp2_with fail
    refine (HS0.out.mut fun F1 hI1 => share_any I w hI1 HV.out (fun j => Nat.le_trans (HM.out j) (by decide)) HL.out.idx').mono ?_
    rintro en w4 ⟨B, rd4, ⟨rfl, rfl, rfl⟩, hs4⟩
    have HE := Lib.hid hs4.ends
    clear hs4
    go_wp2_with fail
    go_ret2
    obtain ⟨F', hal, hI⟩ := HE.out
    exact ⟨F', _, _, hal, hI, HQ.out⟩
  have hd : decide ((L : Int) = 0) = false := decide_eq_false (by omega)
  have hd2 : ¬ (L : Int) = 0 := by omega
  have hd3 : decide ((R : Int) = 0) = false := decide_eq_false (by omega)
  have hd4 : ¬ (R : Int) = 0 := by omega
  have HNE : Hid (ll ≠ [] ∧ lr ≠ []) := ⟨fun q => hz ((HL.out.at_.zero_iff (held := held)).2 q), fun q => hz2 ((HR.out.at_.zero_iff (held := held)).2 q)⟩
  clear hz hz2
  obtain ⟨x, hx⟩ : ∃ x, ll.getLast? = some x := ⟨_, List.getLast?_eq_some_getLast HNE.out.1⟩
  obtain ⟨y, hy⟩ : ∃ y, lr.head? = some y := ⟨_, List.head?_eq_some_head HNE.out.2⟩
  have HX := Lib.hid hx
  have HY := Lib.hid hy
  have HUJ : Hid (Up (ll ++ lr) ↔ x.key < y.key) := up_joinJ HL.out.up HR.out.up hx hy
  have HYT : Hid (lr = y :: lr.tail) := by
    show lr = _
    cases lr with
    | nil => cases hy
    | cons z t => cases hy; rfl
  clear hx hy
  go_wp2_with fail
  refine (HS0.out.call fun F1 hI1 => (lkImpl I).last w hI1 HL.out HRD.out.1 (by have := HRD.out; omega) (fun y hy => (HW.out.1 y hy).1)).mono ?_
  rintro en w2 ⟨rfl, rd1, hs, r1, r2⟩
  rw [HX.out]
  have HR1 : Hid (rd ≤ rd1 ∧ rd1 ≤ rd + mostI ll.length) := ⟨r1, r2⟩
  unfold enR enA
  simp only [Option.elim_some, Option.isSome_some]
  have hs1 := hs.box #[Value.int .i64 x.key, .int .i64 x.val] 69
  clear hs HS0 r1 r2
  go_upto_region 6 with fail
  generalize w2.alloc (Obj.cells #[Value.int .i64 x.key, .int .i64 x.val] 69) = w3 at hs1 ⊢
  generalize w2.heap.size = ga at hs1 ⊢
  have HS1 := Lib.hid hs1
  clear hs1
  go_wp2_with fail
  refine (HS1.out.call fun F1 hI1 => (lkImpl I).first w3 hI1 HR.out (by have := HRD.out; have := HR1.out; omega) (by have := HRD.out; have := HR1.out; have := HB.out; omega) (fun y hy => (HW.out.2 y hy).1)).mono ?_
  rintro en w4 ⟨rfl, rd2, hs, r1, r2⟩
  rw [HY.out]
  have HR2 : Hid (rd ≤ rd2 ∧ rd2 ≤ rd + mostI ll.length + mostI lr.length) := ⟨by have := HR1.out; omega, by have := HR1.out; omega⟩
  have hs2 := hs.box #[Value.int .i64 y.key, .int .i64 y.val] 69
  clear hs HS1 r1 r2
  unfold enR enA
  simp only [Option.elim_some, Option.isSome_some]
  go_upto_region 7 with fail
  generalize w4.alloc (Obj.cells #[Value.int .i64 y.key, .int .i64 y.val] 69) = w5 at hs2 ⊢
  generalize w4.heap.size = gb at hs2 ⊢
  have HS2 := Lib.hid hs2
  clear hs2
  obtain ⟨z0, z1⟩ := two_ofE (HS2.out.boxes (gb, Obj.cells #[Value.int .i64 y.key, .int .i64 y.val] 69 (0, 0)) (by simp)).2
  obtain ⟨u0, u1⟩ := two_ofE (HS2.out.boxes (ga, Obj.cells #[Value.int .i64 x.key, .int .i64 x.val] 69 (0, 0)) (by simp)).2
  by_cases hc : y.key ≤ x.key
  · have d1 : decide (y.key ≤ x.key) = true := decide_eq_true hc
    have HQ : Hid (CatS A rd held L R ll lr (.returned (.tuple #[.int .u32 0, .int .i64 7])) A rd2) := ⟨⟨HR2.out.1, by have := HR2.out; have := HB.out; omega, .inr (.inl ⟨HNE.out, fun q => by have := HUJ.out.1 q; omega, rfl, rfl⟩)⟩, by omega, by have := HR2.out; have := HB.out; omega⟩
    have HE := Lib.hid HS2.out.ends
    go_wp2_with fail
    go_ret2
    obtain ⟨F', hal, hI⟩ := HE.out
    exact ⟨F', A, rd2, hal, hI, HQ.out⟩
  have d1 : decide (y.key ≤ x.key) = false := decide_eq_false hc
  have HUP : Hid (Up (ll ++ lr)) := HUJ.out.2 (by omega)
  go_wp2_with fail
  refine HS2.out.free.mono ?_
  rintro en w6 ⟨rfl, hs6⟩
  have HS6 := Lib.hid hs6
  clear hs6 HS2 z0 z1 u0 u1
  go_wp2_with fail
  refine (HS6.out.sz (by have := HRD.out; have := HR2.out; omega) (by have := HRD.out; have := HR2.out; have := HB.out; omega) HZ.out.2.2.2.2.1 HZ.out.2.2.1 HV.out.ok).mono ?_
  rintro en w7 ⟨rfl, hs7⟩
  rw [HZ.out.1]
  have HS7 := Lib.hid hs7
  clear hs7 HS6
  go_wp2_with fail
  refine (HS7.out.sz (by have := HRD.out; have := HR2.out; (repeat' split) <;> omega) (by have := HRD.out; have := HR2.out; have := HB.out; (repeat' split) <;> omega) HZ.out.2.2.2.2.2 HZ.out.2.2.2.1 HV.out.ok).mono ?_
  rintro en w8 ⟨rfl, hs8⟩
  rw [HZ.out.2.1]
  obtain ⟨rd3, hrd3⟩ : ∃ r, (rd2 + if L = 0 then 0 else 1) + (if R = 0 then 0 else 1) = r := ⟨_, rfl⟩
  have HR3 : Hid (rd ≤ rd3 ∧ rd3 ≤ rd + mostI ll.length + mostI lr.length + 2) := by
    have := HR2.out
    show rd ≤ rd3 ∧ rd3 ≤ rd + mostI ll.length + mostI lr.length + 2
    rw [← hrd3]
    (repeat' split) <;> omega
  rw [hrd3] at hs8
  have HS8 := Lib.hid hs8
  clear hs8 hrd3 HS7
  go_wp2_with fail
  refine (rsJoin_any (ll.length : Int) (lr.length : Int) w8 (by have := HN.out; unfold in64; omega) (by have := HN.out; unfold in64; omega)).mono ?_
  rintro en w9 ⟨rfl, hb9⟩
  have HS9 := Lib.hid (HS8.out.calm hb9)
  clear hb9 HS8
  by_cases hfr : (A.σ.free.length : Int) < joinI (ll.length : Int) (lr.length : Int)
  · have d9 : decide ((A.σ.free.length : Int) < joinI (ll.length : Int) (lr.length : Int)) = true := decide_eq_true hfr
    have HQ : Hid (CatS A rd held L R ll lr (.returned (.tuple #[.int .u32 0, .int .i64 2])) A rd3) := ⟨⟨HR3.out.1, by have := HR3.out; have := HB.out; omega, .inr (.inr (.inl ⟨HNE.out, HUP.out, hfr, rfl, rfl⟩))⟩, by omega, by have := HR3.out; have := HB.out; omega⟩
    have HE := Lib.hid HS9.out.ends
    go_wp2_with fail
    go_ret2
    obtain ⟨F', hal, hI⟩ := HE.out
    exact ⟨F', A, rd3, hal, hI, HQ.out⟩
  have d9 : decide ((A.σ.free.length : Int) < joinI (ll.length : Int) (lr.length : Int)) = false := decide_eq_false hfr
  have HFR : Hid (joinI (ll.length : Int) (lr.length : Int) ≤ (A.σ.free.length : Int)) := by show _ ≤ _; omega
  go_wp2_with fail
  refine (HS9.out.mut fun F1 hI1 => wfo_all I (rotImpl I) numJ tr w9 ⟨hI1, HV.out, HL.out.agg, fun j => Nat.le_trans (HM.out j) (by decide), HR.out.at_, HNE.out.2, HW.out.2, by have := HN.out; omega, by have := HRD.out; have := HR3.out; omega, by have := HRD.out; have := HR3.out; have := HB.out; omega, by have := HFR.out; have := HB.out; omega⟩).mono ?_
  rintro en w10 ⟨B, rd10, ⟨q0, q1, j1, t1, rfl, q2, q3, q4⟩, hs10⟩
  have HR4 : Hid (rd3 ≤ rd10 ∧ rd10 ≤ rd3 + 12 * (xh (ll.length + lr.length + 1) : Int)) := ⟨q0, by have := HB.out; omega⟩
  have HS10 := Lib.hid hs10
  have HMB : Hid (Mid A held B [j1]) := q2
  have HTB := Lib.hid q3
  have HFB : Hid (A.σ.free.length ≤ B.σ.free.length + xh (ll.length + lr.length + 1)) := by have := HB.out; show _ ≤ _; omega
  have HJ : Hid (jd tl t1 ≤ xh (ll.length + lr.length + 1)) := by
    have e1 := HL.out.size
    have e2 := q3.size
    have e3 : lr.length = lr.tail.length + 1 := by have := congrArg List.length HYT.out; simpa using this
    have h1 := jd_xh HL.out.bal q3.bal (by have := HN.out; omega)
    have h2 := xh_up (m := tl.size + t1.size + 1) (n := ll.length + lr.length + 1) (by omega) (by have := HN.out; omega)
    show _ ≤ _
    omega
  have HWT : Hid (WfL lr.tail ∧ (i64R y.key ∧ i64R y.val) ∧ ll.length + lr.tail.length + 1 ≤ 2147483647) := by
    have h := HW.out.2
    have e3 : lr.length = lr.tail.length + 1 := by have := congrArg List.length HYT.out; simpa using this
    exact ⟨fun z hz => h z (List.mem_of_mem_tail hz), h y (by rw [HYT.out]; simp), by have := HN.out; omega⟩
  clear q0 q1 q2 q3 q4 hs10 HS9
  obtain ⟨z0, z1⟩ := two_ofE (HS10.out.boxes (gb, Obj.cells #[Value.int .i64 y.key, .int .i64 y.val] 69 (0, 0)) (by simp)).2
  go_wp2_with fail
  refine (HS10.out.mut fun F1 hI1 => link_all I (rotImpl I) numJ _ y w10 ⟨hI1, HMB.out.inv, HMB.out.agg, fun j => Nat.le_trans (plL_le HM.out [j1] j) (show 1048200 + 1 ≤ 1048400 by decide), HL.out.at_.kept HMB.out.kept, HTB.out, HW.out.1, HWT.out.1, HWT.out.2.1, HWT.out.2.2, by have := HRD.out; have := HR3.out; have := HR4.out; omega, by have := HRD.out; have := HR3.out; have := HR4.out; have := HB.out; have := HJ.out; omega, by have := HFR.out; have := HB.out; have := HJ.out; have := HFB.out; omega⟩ (Nat.lt_succ_self _)).mono ?_
  rintro en w11 ⟨C, rd11, ⟨q0, q1, j, t, rfl, q2, q3, q4, -⟩, hs11⟩
  obtain ⟨g1, g2, g3, g4, g5⟩ := nest_give HMB.out q2 q3
  rw [← HYT.out] at g5
  have HU : Hid (C.Inv [j1] (plL held [j]) ∧ C.Idx j1 ∧ j1 < 4294967296) := ⟨g1, g2, idx_lt32 q2.inv g2⟩
  have HQ : Hid (CatS A rd held L R ll lr (.returned (.tuple #[.int .u32 (j : Int), .int .i64 0])) (C.gone j1) rd11) :=
    ⟨⟨by have := HR3.out; have := HR4.out; omega, by have := HR3.out; have := HR4.out; have := HB.out; have := HJ.out; omega, .inr (.inr (.inr ⟨HNE.out, HUP.out, HFR.out, j, t, rfl, g3.got g5⟩))⟩, by have := HFB.out; have := HJ.out; omega, by have := HR3.out; have := HR4.out; have := HB.out; have := HJ.out; omega⟩
  have HS11 := Lib.hid hs11
  clear q0 q1 q2 q3 q4 g1 g2 g3 g4 g5 hs11 HS10 z0 z1
  go_wp2_with fail
  refine (HS11.out.release HU.out.2.2 HU.out.2.1 HU.out.1).mono ?_
  rintro en w12 ⟨rfl, hs12⟩
  have HE := Lib.hid hs12.ends
  clear hs12 HS11
  go_wp2_with fail
  go_ret2
  obtain ⟨F', hal, hI⟩ := HE.out
  exact ⟨F', _, rd11, hal, hI, HQ.out⟩
theorem concatS_any (I : AImpl) {p : Value} {A : Ar} {rd : Int} {F : Nat → Prop} {held : Nat → Nat} {L R : Nat} {tl tr : Tr} {ll lr : List En} (w : World) (hI : I.Is w p A rd F) (hv : A.Inv [] held) (hm : ∀ j, held j ≤ 1048000) (hL : TreeAt A L tl ll) (hR : TreeAt A R tr lr) (hwl : WfL ll) (hwr : WfL lr) (h0 : 0 ≤ rd) (h1 : rd ≤ 1099511000000) :
    Calls Tryz.prog 99 #[p, .int .u32 (L : Int), .int .u32 (R : Int)] w (Mut I p F (CatS A rd held L R ll lr) w) :=
  concatH_any I w hI hv (fun j => Nat.le_trans (hm j) (by decide)) hL hR hwl hwr h0 h1
end Go.Proofs.YtfihklpofmcfgaaGreat
