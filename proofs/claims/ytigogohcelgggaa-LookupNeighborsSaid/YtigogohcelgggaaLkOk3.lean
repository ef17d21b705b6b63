/- The program's lookups keep their contracts. -/
import Derived.Test.YtigogohcelgggaaLkOk2
import Derived.Test.YtigogohcelgggaaAuPlay1
import Derived.Maps.AppendAt
set_option linter.unusedVariables false
set_option linter.unusedSimpArgs false
namespace Go.Proofs.Ytigogohcelgggaa
open Go.RowKit
set_option maxHeartbeats 2000000 in
set_option maxRecDepth 100000 in
theorem floorP_any (I : AImpl) {p : Value} {A : Ar} {rd : Int} {F : Nat → Prop} {i : Nat} {t : Tr} {l : List En} (k : Int) (w : World) (hI : I.Is w p A rd F) (hT : TreeAt A i t l) (h0 : 0 ≤ rd) (h1 : rd ≤ 1099511627776) (hk : i64R k) :
    Calls Try.prog 21 #[p, .int .u32 (i : Int), .int .i64 k] w (ReadsTo I p A rd F (mostI l.length) (enR (floorE l k)) w) := by
  obtain ⟨pa, rfl⟩ := I.ptr hI
  have hin : (Try.prog.info? 37).map (·.size) = some 2 := by kernel_rfl
  have HINF := Lib.hid hin
  have HU : Hid _ := Lib.hid Try.underlying37
  have hv : bef A.nd (k + if true then 1 else 0) t none = floorE l k := by
    rw [show (k + if true then 1 else 0 : Int) = k + 1 from rfl, bef_spec A.nd _ t none (by rw [hT.ents]; exact hT.up), hT.ents, Option.or_none]
    rw [floor_below hT.up]
  have HC : Hid (∀ (wx : World) (F1 : Nat → Prop), I.Is wx (.pointer (some pa)) A rd F1 → Calls Try.prog 42 #[.pointer (some pa), .int .u32 (i : Int), .int .i64 k, .bool true] wx (ReadsTo I (.pointer (some pa)) A rd F1 (mostI l.length) (enR (floorE l k)) wx)) := fun wx F1 hI1 => hv ▸ beforeP_any I k true wx hI1 hT h0 h1
  have hin1 := (In.start hI).alloc (.cells #[.int .i64 0, .int .i64 0] 37)
  have hr1 := heap_alloc_new w (.cells #[.int .i64 0, .int .i64 0] 37)
  clear hI hT h0 h1 hk hv hin
  go_enter Try.func21, Try.ntmps21
  go_upto_region 1 with fail
  generalize w.alloc (Obj.cells #[.int .i64 0, .int .i64 0] 37) = w1 at hin1 hr1 ⊢
  have HIN1 := Lib.hid hin1
  have HR1 := Lib.hid hr1
  clear hin1 hr1
  go_wp2_with fail
  refine (HIN1.out.call fun F1 hI1 => HC.out w1 F1 hI1).mono ?_
  rintro e w2 ⟨rfl, rd2, hin2, hk2, h20, h21⟩
  have hr2 := (hk2 w.heap.size (.inr rfl)).trans HR1.out
  obtain ⟨r0, r1⟩ := two_ofE hr2
  have f0 := frozen_of_row _ _ 0 _ _ hr2
  have f1 := frozen_of_row _ _ 1 _ _ hr2
  obtain ⟨O, hO⟩ : ∃ O, floorE l k = O := ⟨_, rfl⟩
  rw [hO]
  have HO := Lib.hid hO
  have HE : Hid (∀ x y, ReadsTo I (.pointer (some pa)) A rd F (mostI l.length) (enR O) w (.returned (enR O)) ((w2.setCell ⟨w.heap.size, 0, none⟩ (.int .i64 x)).setCell ⟨w.heap.size, 1, none⟩ (.int .i64 y)) ∧
      ((w2.setCell ⟨w.heap.size, 0, none⟩ (.int .i64 x)).setCell ⟨w.heap.size, 1, none⟩ (.int .i64 y)).heap[w.heap.size]? = some (.cells #[.int .i64 x, .int .i64 y] 37 (0, 0))) := fun x y =>
    ⟨(hin2.set2 (g := w.heap.size) (.inr rfl) (Nat.le_refl _) (.int .i64 x) (.int .i64 y)).ends h20 h21, by rw [heap_setCell_same _ _ 1 _ _ _ (heap_setCell_same _ _ 0 _ _ _ hr2)]; rfl⟩
  unfold enR enA at HE ⊢
  obtain ⟨X, hX⟩ : ∃ X, O.elim (0 : Int) (·.key) = X := ⟨_, rfl⟩
  obtain ⟨Y, hY⟩ : ∃ Y, O.elim (0 : Int) (·.val) = Y := ⟨_, rfl⟩
  obtain ⟨Z, hZ⟩ : ∃ Z, O.isSome = Z := ⟨_, rfl⟩
  rw [hX, hY, hZ] at HE ⊢
  have HXX : Hid (enR O = .tuple #[.agg #[.int .i64 X, .int .i64 Y], .bool Z]) := by show _ = _; unfold enR enA; rw [hX, hY, hZ]
  clear hO hX hY hZ hin2 hk2 h20 h21 hr2
  go_wp2_with fail
  refine bodyPost_ret (results_row_tmp rfl _ _ w.heap.size 37 #[.int .i64 X, .int .i64 Y] (0, 0) _ rfl (HE.out X Y).2 HU.out rfl HINF.out) rfl ?_
  rw [HO.out, HXX.out]
  exact (HE.out X Y).1
set_option maxHeartbeats 2000000 in
set_option maxRecDepth 100000 in
theorem ceilingP_any (I : AImpl) {p : Value} {A : Ar} {rd : Int} {F : Nat → Prop} {i : Nat} {t : Tr} {l : List En} (k : Int) (w : World) (hI : I.Is w p A rd F) (hT : TreeAt A i t l) (h0 : 0 ≤ rd) (h1 : rd ≤ 1099511627776) (hk : i64R k) :
    Calls Try.prog 23 #[p, .int .u32 (i : Int), .int .i64 k] w (ReadsTo I p A rd F (mostI l.length) (enR (ceilE l k)) w) := by
  obtain ⟨pa, rfl⟩ := I.ptr hI
  have hin : (Try.prog.info? 37).map (·.size) = some 2 := by kernel_rfl
  have HINF := Lib.hid hin
  have HU : Hid _ := Lib.hid Try.underlying37
  have hv : aft A.nd (k + if true then 0 else 1) t none = ceilE l k := by
    rw [show (k + if true then 0 else 1 : Int) = k + 0 from rfl, aft_spec A.nd _ t none (by rw [hT.ents]; exact hT.up), hT.ents, Option.or_none]
    rw [Int.add_zero]
  have HC : Hid (∀ (wx : World) (F1 : Nat → Prop), I.Is wx (.pointer (some pa)) A rd F1 → Calls Try.prog 44 #[.pointer (some pa), .int .u32 (i : Int), .int .i64 k, .bool true] wx (ReadsTo I (.pointer (some pa)) A rd F1 (mostI l.length) (enR (ceilE l k)) wx)) := fun wx F1 hI1 => hv ▸ afterP_any I k true wx hI1 hT h0 h1
  have hin1 := (In.start hI).alloc (.cells #[.int .i64 0, .int .i64 0] 37)
  have hr1 := heap_alloc_new w (.cells #[.int .i64 0, .int .i64 0] 37)
  clear hI hT h0 h1 hk hv hin
  go_enter Try.func23, Try.ntmps23
  go_upto_region 1 with fail
  generalize w.alloc (Obj.cells #[.int .i64 0, .int .i64 0] 37) = w1 at hin1 hr1 ⊢
  have HIN1 := Lib.hid hin1
  have HR1 := Lib.hid hr1
  clear hin1 hr1
  go_wp2_with fail
  refine (HIN1.out.call fun F1 hI1 => HC.out w1 F1 hI1).mono ?_
  rintro e w2 ⟨rfl, rd2, hin2, hk2, h20, h21⟩
  have hr2 := (hk2 w.heap.size (.inr rfl)).trans HR1.out
  obtain ⟨r0, r1⟩ := two_ofE hr2
  have f0 := frozen_of_row _ _ 0 _ _ hr2
  have f1 := frozen_of_row _ _ 1 _ _ hr2
  obtain ⟨O, hO⟩ : ∃ O, ceilE l k = O := ⟨_, rfl⟩
  rw [hO]
  have HO := Lib.hid hO
  have HE : Hid (∀ x y, ReadsTo I (.pointer (some pa)) A rd F (mostI l.length) (enR O) w (.returned (enR O)) ((w2.setCell ⟨w.heap.size, 0, none⟩ (.int .i64 x)).setCell ⟨w.heap.size, 1, none⟩ (.int .i64 y)) ∧
      ((w2.setCell ⟨w.heap.size, 0, none⟩ (.int .i64 x)).setCell ⟨w.heap.size, 1, none⟩ (.int .i64 y)).heap[w.heap.size]? = some (.cells #[.int .i64 x, .int .i64 y] 37 (0, 0))) := fun x y =>
    ⟨(hin2.set2 (g := w.heap.size) (.inr rfl) (Nat.le_refl _) (.int .i64 x) (.int .i64 y)).ends h20 h21, by rw [heap_setCell_same _ _ 1 _ _ _ (heap_setCell_same _ _ 0 _ _ _ hr2)]; rfl⟩
  unfold enR enA at HE ⊢
  obtain ⟨X, hX⟩ : ∃ X, O.elim (0 : Int) (·.key) = X := ⟨_, rfl⟩
  obtain ⟨Y, hY⟩ : ∃ Y, O.elim (0 : Int) (·.val) = Y := ⟨_, rfl⟩
  obtain ⟨Z, hZ⟩ : ∃ Z, O.isSome = Z := ⟨_, rfl⟩
  rw [hX, hY, hZ] at HE ⊢
  have HXX : Hid (enR O = .tuple #[.agg #[.int .i64 X, .int .i64 Y], .bool Z]) := by show _ = _; unfold enR enA; rw [hX, hY, hZ]
  clear hO hX hY hZ hin2 hk2 h20 h21 hr2
  go_wp2_with fail
  refine bodyPost_ret (results_row_tmp rfl _ _ w.heap.size 37 #[.int .i64 X, .int .i64 Y] (0, 0) _ rfl (HE.out X Y).2 HU.out rfl HINF.out) rfl ?_
  rw [HO.out, HXX.out]
  exact (HE.out X Y).1
set_option maxHeartbeats 2000000 in
set_option maxRecDepth 100000 in
theorem belowP_any (I : AImpl) {p : Value} {A : Ar} {rd : Int} {F : Nat → Prop} {i : Nat} {t : Tr} {l : List En} (k : Int) (w : World) (hI : I.Is w p A rd F) (hT : TreeAt A i t l) (h0 : 0 ≤ rd) (h1 : rd ≤ 1099511627776) (hk : i64R k) :
    Calls Try.prog 25 #[p, .int .u32 (i : Int), .int .i64 k] w (ReadsTo I p A rd F (mostI l.length) (enR (belowE l k)) w) := by
  obtain ⟨pa, rfl⟩ := I.ptr hI
  have hin : (Try.prog.info? 37).map (·.size) = some 2 := by kernel_rfl
  have HINF := Lib.hid hin
  have HU : Hid _ := Lib.hid Try.underlying37
  have hv : bef A.nd (k + if false then 1 else 0) t none = belowE l k := by
    rw [show (k + if false then 1 else 0 : Int) = k + 0 from rfl, bef_spec A.nd _ t none (by rw [hT.ents]; exact hT.up), hT.ents, Option.or_none]
    rw [Int.add_zero]
  have HC : Hid (∀ (wx : World) (F1 : Nat → Prop), I.Is wx (.pointer (some pa)) A rd F1 → Calls Try.prog 42 #[.pointer (some pa), .int .u32 (i : Int), .int .i64 k, .bool false] wx (ReadsTo I (.pointer (some pa)) A rd F1 (mostI l.length) (enR (belowE l k)) wx)) := fun wx F1 hI1 => hv ▸ beforeP_any I k false wx hI1 hT h0 h1
  have hin1 := (In.start hI).alloc (.cells #[.int .i64 0, .int .i64 0] 37)
  have hr1 := heap_alloc_new w (.cells #[.int .i64 0, .int .i64 0] 37)
  clear hI hT h0 h1 hk hv hin
  go_enter Try.func25, Try.ntmps25
  go_upto_region 1 with fail
  generalize w.alloc (Obj.cells #[.int .i64 0, .int .i64 0] 37) = w1 at hin1 hr1 ⊢
  have HIN1 := Lib.hid hin1
  have HR1 := Lib.hid hr1
  clear hin1 hr1
  go_wp2_with fail
  refine (HIN1.out.call fun F1 hI1 => HC.out w1 F1 hI1).mono ?_
  rintro e w2 ⟨rfl, rd2, hin2, hk2, h20, h21⟩
  have hr2 := (hk2 w.heap.size (.inr rfl)).trans HR1.out
  obtain ⟨r0, r1⟩ := two_ofE hr2
  have f0 := frozen_of_row _ _ 0 _ _ hr2
  have f1 := frozen_of_row _ _ 1 _ _ hr2
  obtain ⟨O, hO⟩ : ∃ O, belowE l k = O := ⟨_, rfl⟩
  rw [hO]
  have HO := Lib.hid hO
  have HE : Hid (∀ x y, ReadsTo I (.pointer (some pa)) A rd F (mostI l.length) (enR O) w (.returned (enR O)) ((w2.setCell ⟨w.heap.size, 0, none⟩ (.int .i64 x)).setCell ⟨w.heap.size, 1, none⟩ (.int .i64 y)) ∧
      ((w2.setCell ⟨w.heap.size, 0, none⟩ (.int .i64 x)).setCell ⟨w.heap.size, 1, none⟩ (.int .i64 y)).heap[w.heap.size]? = some (.cells #[.int .i64 x, .int .i64 y] 37 (0, 0))) := fun x y =>
    ⟨(hin2.set2 (g := w.heap.size) (.inr rfl) (Nat.le_refl _) (.int .i64 x) (.int .i64 y)).ends h20 h21, by rw [heap_setCell_same _ _ 1 _ _ _ (heap_setCell_same _ _ 0 _ _ _ hr2)]; rfl⟩
  unfold enR enA at HE ⊢
  obtain ⟨X, hX⟩ : ∃ X, O.elim (0 : Int) (·.key) = X := ⟨_, rfl⟩
  obtain ⟨Y, hY⟩ : ∃ Y, O.elim (0 : Int) (·.val) = Y := ⟨_, rfl⟩
  obtain ⟨Z, hZ⟩ : ∃ Z, O.isSome = Z := ⟨_, rfl⟩
  rw [hX, hY, hZ] at HE ⊢
  have HXX : Hid (enR O = .tuple #[.agg #[.int .i64 X, .int .i64 Y], .bool Z]) := by show _ = _; unfold enR enA; rw [hX, hY, hZ]
  clear hO hX hY hZ hin2 hk2 h20 h21 hr2
  go_wp2_with fail
  refine bodyPost_ret (results_row_tmp rfl _ _ w.heap.size 37 #[.int .i64 X, .int .i64 Y] (0, 0) _ rfl (HE.out X Y).2 HU.out rfl HINF.out) rfl ?_
  rw [HO.out, HXX.out]
  exact (HE.out X Y).1
set_option maxHeartbeats 2000000 in
set_option maxRecDepth 100000 in
theorem aboveP_any (I : AImpl) {p : Value} {A : Ar} {rd : Int} {F : Nat → Prop} {i : Nat} {t : Tr} {l : List En} (k : Int) (w : World) (hI : I.Is w p A rd F) (hT : TreeAt A i t l) (h0 : 0 ≤ rd) (h1 : rd ≤ 1099511627776) (hk : i64R k) :
    Calls Try.prog 27 #[p, .int .u32 (i : Int), .int .i64 k] w (ReadsTo I p A rd F (mostI l.length) (enR (aboveE l k)) w) := by
  obtain ⟨pa, rfl⟩ := I.ptr hI
  have hin : (Try.prog.info? 37).map (·.size) = some 2 := by kernel_rfl
  have HINF := Lib.hid hin
  have HU : Hid _ := Lib.hid Try.underlying37
  have hv : aft A.nd (k + if false then 0 else 1) t none = aboveE l k := by
    rw [show (k + if false then 0 else 1 : Int) = k + 1 from rfl, aft_spec A.nd _ t none (by rw [hT.ents]; exact hT.up), hT.ents, Option.or_none]
    rw [above_ceil hT.up]
  have HC : Hid (∀ (wx : World) (F1 : Nat → Prop), I.Is wx (.pointer (some pa)) A rd F1 → Calls Try.prog 44 #[.pointer (some pa), .int .u32 (i : Int), .int .i64 k, .bool false] wx (ReadsTo I (.pointer (some pa)) A rd F1 (mostI l.length) (enR (aboveE l k)) wx)) := fun wx F1 hI1 => hv ▸ afterP_any I k false wx hI1 hT h0 h1
  have hin1 := (In.start hI).alloc (.cells #[.int .i64 0, .int .i64 0] 37)
  have hr1 := heap_alloc_new w (.cells #[.int .i64 0, .int .i64 0] 37)
  clear hI hT h0 h1 hk hv hin
  go_enter Try.func27, Try.ntmps27
  go_upto_region 1 with fail
  generalize w.alloc (Obj.cells #[.int .i64 0, .int .i64 0] 37) = w1 at hin1 hr1 ⊢
  have HIN1 := Lib.hid hin1
  have HR1 := Lib.hid hr1
  clear hin1 hr1
  go_wp2_with fail
  refine (HIN1.out.call fun F1 hI1 => HC.out w1 F1 hI1).mono ?_
  rintro e w2 ⟨rfl, rd2, hin2, hk2, h20, h21⟩
  have hr2 := (hk2 w.heap.size (.inr rfl)).trans HR1.out
  obtain ⟨r0, r1⟩ := two_ofE hr2
  have f0 := frozen_of_row _ _ 0 _ _ hr2
  have f1 := frozen_of_row _ _ 1 _ _ hr2
  obtain ⟨O, hO⟩ : ∃ O, aboveE l k = O := ⟨_, rfl⟩
  rw [hO]
  have HO := Lib.hid hO
  have HE : Hid (∀ x y, ReadsTo I (.pointer (some pa)) A rd F (mostI l.length) (enR O) w (.returned (enR O)) ((w2.setCell ⟨w.heap.size, 0, none⟩ (.int .i64 x)).setCell ⟨w.heap.size, 1, none⟩ (.int .i64 y)) ∧
      ((w2.setCell ⟨w.heap.size, 0, none⟩ (.int .i64 x)).setCell ⟨w.heap.size, 1, none⟩ (.int .i64 y)).heap[w.heap.size]? = some (.cells #[.int .i64 x, .int .i64 y] 37 (0, 0))) := fun x y =>
    ⟨(hin2.set2 (g := w.heap.size) (.inr rfl) (Nat.le_refl _) (.int .i64 x) (.int .i64 y)).ends h20 h21, by rw [heap_setCell_same _ _ 1 _ _ _ (heap_setCell_same _ _ 0 _ _ _ hr2)]; rfl⟩
  unfold enR enA at HE ⊢
  obtain ⟨X, hX⟩ : ∃ X, O.elim (0 : Int) (·.key) = X := ⟨_, rfl⟩
  obtain ⟨Y, hY⟩ : ∃ Y, O.elim (0 : Int) (·.val) = Y := ⟨_, rfl⟩
  obtain ⟨Z, hZ⟩ : ∃ Z, O.isSome = Z := ⟨_, rfl⟩
  rw [hX, hY, hZ] at HE ⊢
  have HXX : Hid (enR O = .tuple #[.agg #[.int .i64 X, .int .i64 Y], .bool Z]) := by show _ = _; unfold enR enA; rw [hX, hY, hZ]
  clear hO hX hY hZ hin2 hk2 h20 h21 hr2
  go_wp2_with fail
  refine bodyPost_ret (results_row_tmp rfl _ _ w.heap.size 37 #[.int .i64 X, .int .i64 Y] (0, 0) _ rfl (HE.out X Y).2 HU.out rfl HINF.out) rfl ?_
  rw [HO.out, HXX.out]
  exact (HE.out X Y).1
theorem ceil_head {l : List En} (h : ∀ e ∈ l, i64R e.key) : ceilE l (-9223372036854775808) = l.head? := by
  have h0 : rankE l (-9223372036854775808) = 0 := rankE_zero fun y hy => by have := (h y hy).1; omega
  unfold ceilE
  rw [h0, show ((0 : Nat) : Int) = ((0 : Nat) : Int) from rfl, selE_nat]
  cases l <;> rfl
theorem floor_last {l : List En} (hu : Up l) (h : ∀ e ∈ l, i64R e.key) : floorE l 9223372036854775807 = l.getLast? := by
  rw [floor_below hu]
  unfold belowE
  rw [rankE_all fun y hy => by have := (h y hy).2; omega, selE_pred]
  cases l with
  | nil => rfl
  | cons a t =>
    rw [if_neg (by simp), List.getLast?_eq_getElem?]
set_option maxHeartbeats 2000000 in
set_option maxRecDepth 100000 in
theorem firstP_any (I : AImpl) {p : Value} {A : Ar} {rd : Int} {F : Nat → Prop} {i : Nat} {t : Tr} {l : List En} (w : World) (hI : I.Is w p A rd F) (hT : TreeAt A i t l) (h0 : 0 ≤ rd) (h1 : rd ≤ 1099511627776) (hW : ∀ e ∈ l, i64R e.key) :
    Calls Try.prog 16 #[p, .int .u32 (i : Int)] w (ReadsTo I p A rd F (mostI l.length) (enR (l.head?)) w) := by
  obtain ⟨pa, rfl⟩ := I.ptr hI
  have hin : (Try.prog.info? 37).map (·.size) = some 2 := by kernel_rfl
  have HINF := Lib.hid hin
  have HU : Hid _ := Lib.hid Try.underlying37
  have hv : ceilE l (-9223372036854775808) = l.head? := ceil_head hW
  have HC : Hid (∀ (wx : World) (F1 : Nat → Prop), I.Is wx (.pointer (some pa)) A rd F1 → Calls Try.prog 23 #[.pointer (some pa), .int .u32 (i : Int), .int .i64 (-9223372036854775808)] wx (ReadsTo I (.pointer (some pa)) A rd F1 (mostI l.length) (enR (l.head?)) wx)) := fun wx F1 hI1 => hv ▸ ceilingP_any I (-9223372036854775808) wx hI1 hT h0 h1 (by unfold i64R; omega)
  have hin1 := (In.start hI).alloc (.cells #[.int .i64 0, .int .i64 0] 37)
  have hr1 := heap_alloc_new w (.cells #[.int .i64 0, .int .i64 0] 37)
  clear hI hT h0 h1 hW hv hin
  go_enter Try.func16, Try.ntmps16
  go_upto_region 1 with fail
  generalize w.alloc (Obj.cells #[.int .i64 0, .int .i64 0] 37) = w1 at hin1 hr1 ⊢
  have HIN1 := Lib.hid hin1
  have HR1 := Lib.hid hr1
  clear hin1 hr1
  go_wp2_with fail
  refine (HIN1.out.call fun F1 hI1 => HC.out w1 F1 hI1).mono ?_
  rintro e w2 ⟨rfl, rd2, hin2, hk2, h20, h21⟩
  have hr2 := (hk2 w.heap.size (.inr rfl)).trans HR1.out
  obtain ⟨r0, r1⟩ := two_ofE hr2
  have f0 := frozen_of_row _ _ 0 _ _ hr2
  have f1 := frozen_of_row _ _ 1 _ _ hr2
  obtain ⟨O, hO⟩ : ∃ O, l.head? = O := ⟨_, rfl⟩
  rw [hO]
  have HO := Lib.hid hO
  have HE : Hid (∀ x y, ReadsTo I (.pointer (some pa)) A rd F (mostI l.length) (enR O) w (.returned (enR O)) ((w2.setCell ⟨w.heap.size, 0, none⟩ (.int .i64 x)).setCell ⟨w.heap.size, 1, none⟩ (.int .i64 y)) ∧
      ((w2.setCell ⟨w.heap.size, 0, none⟩ (.int .i64 x)).setCell ⟨w.heap.size, 1, none⟩ (.int .i64 y)).heap[w.heap.size]? = some (.cells #[.int .i64 x, .int .i64 y] 37 (0, 0))) := fun x y =>
    ⟨(hin2.set2 (g := w.heap.size) (.inr rfl) (Nat.le_refl _) (.int .i64 x) (.int .i64 y)).ends h20 h21, by rw [heap_setCell_same _ _ 1 _ _ _ (heap_setCell_same _ _ 0 _ _ _ hr2)]; rfl⟩
  unfold enR enA at HE ⊢
  obtain ⟨X, hX⟩ : ∃ X, O.elim (0 : Int) (·.key) = X := ⟨_, rfl⟩
  obtain ⟨Y, hY⟩ : ∃ Y, O.elim (0 : Int) (·.val) = Y := ⟨_, rfl⟩
  obtain ⟨Z, hZ⟩ : ∃ Z, O.isSome = Z := ⟨_, rfl⟩
  rw [hX, hY, hZ] at HE ⊢
  have HXX : Hid (enR O = .tuple #[.agg #[.int .i64 X, .int .i64 Y], .bool Z]) := by show _ = _; unfold enR enA; rw [hX, hY, hZ]
  clear hO hX hY hZ hin2 hk2 h20 h21 hr2
  go_wp2_with fail
  refine bodyPost_ret (results_row_tmp rfl _ _ w.heap.size 37 #[.int .i64 X, .int .i64 Y] (0, 0) _ rfl (HE.out X Y).2 HU.out rfl HINF.out) rfl ?_
  rw [HO.out, HXX.out]
  exact (HE.out X Y).1
set_option maxHeartbeats 2000000 in
set_option maxRecDepth 100000 in
theorem lastP_any (I : AImpl) {p : Value} {A : Ar} {rd : Int} {F : Nat → Prop} {i : Nat} {t : Tr} {l : List En} (w : World) (hI : I.Is w p A rd F) (hT : TreeAt A i t l) (h0 : 0 ≤ rd) (h1 : rd ≤ 1099511627776) (hW : ∀ e ∈ l, i64R e.key) :
    Calls Try.prog 18 #[p, .int .u32 (i : Int)] w (ReadsTo I p A rd F (mostI l.length) (enR (l.getLast?)) w) := by
  obtain ⟨pa, rfl⟩ := I.ptr hI
  have hin : (Try.prog.info? 37).map (·.size) = some 2 := by kernel_rfl
  have HINF := Lib.hid hin
  have HU : Hid _ := Lib.hid Try.underlying37
  have hv : floorE l 9223372036854775807 = l.getLast? := floor_last hT.up hW
  have HC : Hid (∀ (wx : World) (F1 : Nat → Prop), I.Is wx (.pointer (some pa)) A rd F1 → Calls Try.prog 21 #[.pointer (some pa), .int .u32 (i : Int), .int .i64 9223372036854775807] wx (ReadsTo I (.pointer (some pa)) A rd F1 (mostI l.length) (enR (l.getLast?)) wx)) := fun wx F1 hI1 => hv ▸ floorP_any I 9223372036854775807 wx hI1 hT h0 h1 (by unfold i64R; omega)
  have hin1 := (In.start hI).alloc (.cells #[.int .i64 0, .int .i64 0] 37)
  have hr1 := heap_alloc_new w (.cells #[.int .i64 0, .int .i64 0] 37)
  clear hI hT h0 h1 hW hv hin
  go_enter Try.func18, Try.ntmps18
  go_upto_region 1 with fail
  generalize w.alloc (Obj.cells #[.int .i64 0, .int .i64 0] 37) = w1 at hin1 hr1 ⊢
  have HIN1 := Lib.hid hin1
  have HR1 := Lib.hid hr1
  clear hin1 hr1
  go_wp2_with fail
  refine (HIN1.out.call fun F1 hI1 => HC.out w1 F1 hI1).mono ?_
  rintro e w2 ⟨rfl, rd2, hin2, hk2, h20, h21⟩
  have hr2 := (hk2 w.heap.size (.inr rfl)).trans HR1.out
  obtain ⟨r0, r1⟩ := two_ofE hr2
  have f0 := frozen_of_row _ _ 0 _ _ hr2
  have f1 := frozen_of_row _ _ 1 _ _ hr2
  obtain ⟨O, hO⟩ : ∃ O, l.getLast? = O := ⟨_, rfl⟩
  rw [hO]
  have HO := Lib.hid hO
  have HE : Hid (∀ x y, ReadsTo I (.pointer (some pa)) A rd F (mostI l.length) (enR O) w (.returned (enR O)) ((w2.setCell ⟨w.heap.size, 0, none⟩ (.int .i64 x)).setCell ⟨w.heap.size, 1, none⟩ (.int .i64 y)) ∧
      ((w2.setCell ⟨w.heap.size, 0, none⟩ (.int .i64 x)).setCell ⟨w.heap.size, 1, none⟩ (.int .i64 y)).heap[w.heap.size]? = some (.cells #[.int .i64 x, .int .i64 y] 37 (0, 0))) := fun x y =>
    ⟨(hin2.set2 (g := w.heap.size) (.inr rfl) (Nat.le_refl _) (.int .i64 x) (.int .i64 y)).ends h20 h21, by rw [heap_setCell_same _ _ 1 _ _ _ (heap_setCell_same _ _ 0 _ _ _ hr2)]; rfl⟩
  unfold enR enA at HE ⊢
  obtain ⟨X, hX⟩ : ∃ X, O.elim (0 : Int) (·.key) = X := ⟨_, rfl⟩
  obtain ⟨Y, hY⟩ : ∃ Y, O.elim (0 : Int) (·.val) = Y := ⟨_, rfl⟩
  obtain ⟨Z, hZ⟩ : ∃ Z, O.isSome = Z := ⟨_, rfl⟩
  rw [hX, hY, hZ] at HE ⊢
  have HXX : Hid (enR O = .tuple #[.agg #[.int .i64 X, .int .i64 Y], .bool Z]) := by show _ = _; unfold enR enA; rw [hX, hY, hZ]
  clear hO hX hY hZ hin2 hk2 h20 h21 hr2
  go_wp2_with fail
  refine bodyPost_ret (results_row_tmp rfl _ _ w.heap.size 37 #[.int .i64 X, .int .i64 Y] (0, 0) _ rfl (HE.out X Y).2 HU.out rfl HINF.out) rfl ?_
  rw [HO.out, HXX.out]
  exact (HE.out X Y).1
theorem In.grew {I : AImpl} {w wr wx : World} {F : Nat → Prop} {p : Value} {A : Ar} {rd : Int} {e : TypeId} {s n n' : Nat} {v v' : Value} {xs xs' : List Value} (h : In I w F p A rd (fun k => v.ownBlock = some k) wr) (hr : wr.ownsRow w.heap.size e s v n xs) (hr' : wx.ownsRow w.heap.size e s v' n' xs') (hg : wr.grownBy wx v.ownBlock)
    (hv : v'.ownBlock = v.ownBlock ∨ v'.ownBlock = some wr.heap.size) : In I w F p A rd (fun k => v'.ownBlock = some k) wx := by
  obtain ⟨F1, f1, f2, f3⟩ := h.mr.has
  refine ⟨⟨⟨F1, I.keep f1 fun k hk => hg.block k (I.dom f1 k hk) fun e' => (f3 k (.inr e'.symm)).2 hk, f2, fun k hk => ?_⟩, h.mr.below.grown hg (Nat.zero_le _) (fun _ _ => Nat.zero_le _), Nat.zero_le _⟩, fun k hk => ?_⟩
  · rcases hk with hk | hk
    · have := f3 k (.inl hk)
      exact ⟨Nat.lt_of_lt_of_le this.1 hg.size, this.2⟩
    · refine ⟨(row_lt hr' k hk).2, fun hF => ?_⟩
      rcases hv with e' | e'
      · exact (f3 k (.inr (e' ▸ hk))).2 hF
      · rw [e'] at hk
        have := I.dom f1 k hF
        have e2 := Option.some.inj hk
        omega
  · refine (hg.block k (h.mr.lt (.inl hk)) fun e' => ?_).trans (h.kp k hk)
    have h1 := row_from hr k e'.symm
    have h2 := hk.1
    omega
def WayP (I : AImpl) (w : World) (F : Nat → Prop) (p : Value) (A : Ar) (rd0 k : Int) (P : List Nat) (top : Int) (U : Nat) (v x c : Value) (wr : World) : Prop :=
  ∃ (i n : Nat) (u : Tr) (rd : Int) (D : List Nat) (va : Option Addr) (vc : Nat), v = .slice va D.length vc ∧ x = .int .u32 (i : Int) ∧ c = .int .i64 (n : Int) ∧ Sub A i u ∧ D ++ pathT A.nd k u = P ∧ rd0 ≤ rd ∧ rd + (u.ht : Int) ≤ top ∧ n + u.size ≤ U ∧ In I w F p A rd (fun g => Value.ownBlock (.slice va D.length vc) = some g) wr ∧ wr.ownsRow w.heap.size 26 1 (.slice va D.length vc) D.length (u32s D)
theorem In.path {I : AImpl} {w wr : World} {F : Nat → Prop} {p : Value} {A : Ar} {rd rd0 bd : Int} {P : List Nat} {va : Option Addr} {vc n : Nat} (h : In I w F p A rd (fun g => Value.ownBlock (.slice va n vc) = some g) wr) (hr : wr.ownsRow w.heap.size 26 1 (.slice va n vc) n (u32s P)) (hn : n = P.length) (h0 : rd0 ≤ rd) (h1 : rd ≤ rd0 + bd) :
    PathRes I p A rd0 F bd P w (.returned (.slice va n vc)) wr := by
  subst hn
  obtain ⟨F', f1, f2, f3⟩ := h.mr.has
  refine ⟨F', rd, va, vc, rfl, ⟨h.mr.below.os, h.mr.below.tape, h.mr.below.output, h.mr.below.size, fun k hlt hF => h.kp k ⟨hlt, hF⟩, fun k hF' => ?_⟩, f1, h0, h1, hr, fun g hg => (f3 g (.inr hg)).2⟩
  by_cases hlt : k < w.heap.size
  · by_cases hF : F k
    · exact .inl hF
    · exact absurd hF' (f3 k (.inl ⟨hlt, hF⟩)).2
  · exact .inr (by omega)
set_option maxHeartbeats 4000000 in
set_option maxRecDepth 100000 in
theorem pathP_any (I : AImpl) {p : Value} {A : Ar} {rd : Int} {F : Nat → Prop} {i : Nat} {t : Tr} {l : List En} (k : Int) (w : World) (hI : I.Is w p A rd F) (hT : TreeAt A i t l) (h0 : 0 ≤ rd) (h1 : rd ≤ 1099511627776) (hk : i64R k) :
    Calls Try.prog 29 #[p, .int .u32 (i : Int), .int .i64 k] w (PathRes I p A rd F (mostI l.length) (pathT A.nd k t) w) := by
  obtain ⟨pa, rfl⟩ := I.ptr hI
  obtain ⟨i0, ji, jz0, jz1, jz2⟩ := info_parts uInfo
  have hb := hT.bound
  have hpl := pathT_ht A.nd k t
  obtain ⟨P, hP⟩ : ∃ P, pathT A.nd k t = P := ⟨_, rfl⟩
  rw [hP] at hpl ⊢
  obtain ⟨M, hM⟩ : ∃ M, mostI l.length = M := ⟨_, rfl⟩
  rw [hM] at hb ⊢
  obtain ⟨held, hv⟩ := hT.inv
  have hcap := hv.ok.cap2
  have hhd := hT.held
  obtain ⟨U, hU⟩ : ∃ U, U + A.σ.free.length = A.σ.cap := ⟨A.σ.cap - A.σ.free.length, by omega⟩
  have HLP := Lib.hid (longest_any I w hI hU)
  have HUU : Hid (U ≤ 65536 ∧ t.size ≤ U) := ⟨by omega, by omega⟩
  have HOK := Lib.hid hv.ok
  have HRD : Hid (0 ≤ rd ∧ rd ≤ 1099511627776 ∧ (t.ht : Int) ≤ M ∧ t.ht ≤ 65536 ∧ P.length ≤ 65536) := ⟨h0, h1, hb.1, hb.2, by omega⟩
  have HW0 : Hid (∀ w', Below w.heap.size w w' → WayP I w F (.pointer (some pa)) A rd k P (rd + (t.ht : Int)) U (.slice none 0 0) (.int .u32 (i : Int)) (.int .i64 0) w') := fun w' hb' => ⟨i, 0, t, rd, [], none, 0, rfl, rfl, rfl, hT.sub, hP, Int.le_refl _, Int.le_refl _, by omega, ((In.start hI).calm hb').less fun k hk => (by simp [Value.ownBlock] at hk), World.ownsRow_nil _ _ _ _⟩
  clear hI hT h0 h1 hk hb hpl hP hM hv hcap hhd hU
  go_enter Try.func29, Try.ntmps29
  go_wp2_with fail
  refine HLP.out.mono ?_
  rintro e w0 ⟨rfl, hb0⟩
  have HW1 := Lib.hid (HW0.out w0 hb0)
  clear hb0 HW0 HLP
  go_wp2_with fail
  go_loopw [7, 8, 14] (fun v x c wr => WayP I w F (.pointer (some pa)) A rd k P (rd + (t.ht : Int)) U v x c wr) (fun _ _ c _ => U - (intOf c).toNat)
  case atStart => exact HW1.out
  case round =>
    clear HW1
    obtain ⟨i, n, u, rd1, D, va, vc, rfl, rfl, rfl, hu, hg, hr0, hr1, hn, hin, hrow⟩ := hrel
    rcases Nat.lt_or_ge n U with hnu | hnu
    rotate_left
    · have hnu2 : decide ((n : Int) < (U : Int)) = false := decide_eq_false (by omega)
      have hu0 : u = .nil := by
        cases u with
        | nil => rfl
        | node i l r =>
          have : (Tr.node i l r).size = l.size + r.size + 1 := rfl
          omega
      subst hu0
      have hDP : D = P := by rw [← hg]; exact (List.append_nil D).symm
      have HE : Hid (PathRes I (.pointer (some pa)) A rd F M P w (.returned (.slice va D.length vc)) wr) := hin.path (hDP ▸ hrow) (by rw [hDP]) hr0 (by have := HRD.out; omega)
      have hUn : ¬ n < U := Nat.not_lt.2 hnu
      clear hu hg hr0 hr1 hin hrow hDP hn hnu
      go_wp2_with fail
      go_ret
      exact HE.out
    have hnu2 : decide ((n : Int) < (U : Int)) = true := decide_eq_true (by omega)
    have hnu3 : (n : Int) < (U : Int) := by omega
    have hU4 : (U : Int) ≤ 65536 := by have := HUU.out.1; omega
    have hn0 : (0 : Int) ≤ (n : Int) := by omega
    cases u with
    | nil =>
      obtain rfl : i = 0 := by
        cases hu with
        | nil => rfl
      have hDP : D = P := by rw [← hg]; exact (List.append_nil D).symm
      have HR1 : Hid (rd ≤ rd1 ∧ rd1 ≤ rd + (t.ht : Int)) := ⟨hr0, by have : (Tr.nil.ht : Nat) = 0 := rfl; omega⟩
      have HIN := Lib.hid hin
      have HROW : Hid (wr.ownsRow w.heap.size 26 1 (.slice va D.length vc) D.length (u32s P)) := hDP ▸ hrow
      have HN : Hid (D.length = P.length) := by show _ = _; rw [hDP]
      obtain ⟨N, hN⟩ : ∃ N, D.length = N := ⟨_, rfl⟩
      rw [hN] at HIN HROW HN ⊢
      clear hu hg hr0 hr1 hin hn hrow hDP hN
      go_wp2_with fail
      refine (HIN.out.off (by have := HR1.out; have := HRD.out; omega) (by have := HR1.out; have := HRD.out; omega)).mono ?_
      rintro e w1 ⟨rfl, hin1, hk1⟩
      have hb8 := below_new7 w1 (Obj.cells (ndRow Nd.zero) 55)
      have hrow8 := row_below (row_keep HROW.out fun k hk => hk1 k hk) hb8
      have hin8 := hin1.calm hb8
      clear hin1 hk1 hb8 HIN HROW
      unfold ndRow
      go_upto_region 6 with fail
      rw [show #[Value.int .i64 Nd.zero.key, .int .i64 Nd.zero.val, .int .u32 (Nd.zero.left : Int), .int .u32 (Nd.zero.right : Int), .int .i64 Nd.zero.size, .int .i64 Nd.zero.sum, .int .i64 Nd.zero.mn, .int .i64 Nd.zero.mx] = ndRow Nd.zero from rfl]
      generalize w1.alloc (Obj.cells (ndRow Nd.zero) 55) = w2 at hrow8 hin8 ⊢
      have HE : Hid (PathRes I (.pointer (some pa)) A rd F M P w (.returned (.slice va N vc)) w2) := hin8.path hrow8 HN.out HR1.out.1 (by have := HR1.out; have := HRD.out; omega)
      clear hrow8 hin8
      go_wp2_with fail
      go_ret
      exact HE.out
    | node i2 l2 r2 =>
      obtain ⟨rfl, h0, hon, hsl, hsr⟩ : i2 = i ∧ i ≠ 0 ∧ A.σ.on i = true ∧ Sub A (A.nd i).left l2 ∧ Sub A (A.nd i).right r2 := by
        cases hu with
        | node _ _ _ h1 h2 h3 h4 => exact ⟨rfl, h1, h2, h3, h4⟩
      have hi4 : i2 < 4294967296 := by have := HOK.out.on i2 hon; have := HOK.out.cap2; omega
      have hht : (Tr.node i2 l2 r2).ht = 1 + max l2.ht r2.ht := rfl
      rw [show (Tr.node i2 l2 r2).size = l2.size + r2.size + 1 from rfl] at hn
      have HNL : Hid (n + 1 + l2.size ≤ U) := by show _ ≤ _; omega
      have HNR : Hid (n + 1 + r2.size ≤ U) := by show _ ≤ _; omega
      have HSL := Lib.hid hsl
      have HSR := Lib.hid hsr
      have HON := Lib.hid hon
      have HI4 := Lib.hid hi4
      have HR1 : Hid (rd ≤ rd1 ∧ rd1 + 1 + (l2.ht : Int) ≤ rd + (t.ht : Int) ∧ rd1 + 1 + (r2.ht : Int) ≤ rd + (t.ht : Int)) := ⟨hr0, by omega, by omega⟩
      unfold pathT at hg
      have hDl : D.length + 1 ≤ P.length := by rw [← hg, List.length_append, List.length_cons]; omega
      have HG := Lib.hid hg
      obtain ⟨N, hN⟩ : ∃ N, D.length = N := ⟨_, rfl⟩
      rw [hN] at hin hrow hDl ⊢
      have HN := Lib.hid hN
      have HIN := Lib.hid hin
      have HROW := Lib.hid hrow
      have HDL : Hid (N + 1 ≤ 65536) := by have := HRD.out; show _ ≤ _; omega
      clear hu hg hr0 hr1 hin hrow h0 hon hsl hsr hi4 hht hDl hN hn
      go_wp2_with fail
      refine (HIN.out.node (by have := HR1.out; have := HRD.out; omega) (by have := HR1.out; have := HRD.out; omega) HI4.out HON.out).mono ?_
      rintro e w7 ⟨rfl, hin7, hk7⟩
      have HIN7 := Lib.hid hin7
      have HROW7 := Lib.hid (row_keep HROW.out fun k hk => hk7 k hk)
      clear hin7 hk7 HIN HROW
      unfold ndRow
      go_upto_region 6 with fail
      rw [show #[Value.int .i64 (A.nd i2).key, .int .i64 (A.nd i2).val, .int .u32 ((A.nd i2).left : Int), .int .u32 ((A.nd i2).right : Int), .int .i64 (A.nd i2).size, .int .i64 (A.nd i2).sum, .int .i64 (A.nd i2).mn, .int .i64 (A.nd i2).mx] = ndRow (A.nd i2) from rfl]
      have hb8 := below_new7 w7 (Obj.cells (ndRow (A.nd i2)) 55)
      have hin8 := HIN7.out.calm hb8
      have hrow8 := row_below HROW7.out hb8
      have hbx := heap_alloc_new w7 (Obj.cells (ndRow (A.nd i2)) 55)
      have hown : ∀ k, Value.ownBlock (.slice va N vc) = some k → k ≠ w7.heap.size := fun k hk => Nat.ne_of_lt (HIN7.out.mr.lt (.inr hk))
      have hgl : w7.heap.size < (w7.alloc (Obj.cells (ndRow (A.nd i2)) 55)).heap.size := by simp
      generalize w7.alloc (Obj.cells (ndRow (A.nd i2)) 55) = w8 at hin8 hrow8 hbx hgl ⊢
      clear hb8
      generalize w7.heap.size = g at hbx hgl hown ⊢
      have hb9 := below_new7 w8 (.cells #[.int .u32 (i2 : Int)] 26)
      have hin9 := hin8.calm hb9
      have hrow9 := row_below hrow8 hb9
      have hbx9 := (hb9.block g hgl).trans hbx
      have hgl9 := Nat.lt_of_lt_of_le hgl hb9.size
      have hsz9 : w.heap.size ≤ (w8.alloc (.cells #[.int .u32 (i2 : Int)] 26)).heap.size := hin9.mr.below.size
      have HIN9 := Lib.hid hin9
      have HROW9 := Lib.hid hrow9
      have HX9 := Lib.hid hbx9
      have HOWN : Hid ((∀ k, Value.ownBlock (.slice va N vc) = some k → k ≠ g) ∧ g < (w8.alloc (.cells #[.int .u32 (i2 : Int)] 26)).heap.size) := ⟨hown, hgl9⟩
      clear hin8 hrow8 hbx hgl hb9 hin9 hbx9 hgl9 hown HIN7 HROW7
      go_upto_region 8 with (at_builtin; refine wpList_append_own_at _ rfl (.tmp 24) (.tmp 26) 31 rfl w.heap.size 26 i0 (.int .u32 0) 1 4 Try.underlying31 ji jz0 jz1 jz2 rfl (by decide) _ N (u32s D) rfl hrow9 ⟨w8.heap.size, 0, none⟩ 1 1 [.int .u32 (i2 : Int)] rfl rfl (cell_one_new _ _ _) (one_cell1 _ _) (by have := HDL.out; unfold maxLen; omega) (by have := HDL.out; omega) hsz9 ?_; intro v6 w6 ho6 hg6 _ hv6)
      obtain ⟨va6, vc6, rfl⟩ := row_val ho6
      have hin6 := HIN9.out.grew HROW9.out ho6 hg6 hv6
      have hbx6 := (hg6.block g HOWN.out.2 fun e' => HOWN.out.1 g e'.symm rfl).trans HX9.out
      have hdl : (D ++ [i2]).length = N + 1 := by rw [List.length_append, HN.out]; rfl
      have hrow6 : w6.ownsRow w.heap.size 26 1 (.slice va6 (D ++ [i2]).length vc6) (D ++ [i2]).length (u32s (D ++ [i2])) := by rw [hdl, u32s_app]; exact ho6
      have hin6' : In I w F (.pointer (some pa)) A (rd1 + 1) (fun g => Value.ownBlock (.slice va6 (D ++ [i2]).length vc6) = some g) w6 := by rw [hdl]; exact hin6
      have HIN6 := Lib.hid hin6'
      have HROW6 := Lib.hid hrow6
      have HDL6 := Lib.hid hdl
      have x0 : w6.cell? ⟨g, 0, none⟩ = some (.int .i64 (A.nd i2).key) := by rw [cell_of_row _ _ _ _ _ _ hbx6]; rfl
      have x1 : w6.cell? ⟨g, 1, none⟩ = some (.int .i64 (A.nd i2).val) := by rw [cell_of_row _ _ _ _ _ _ hbx6]; rfl
      have x2 : w6.cell? ⟨g, 2, none⟩ = some (.int .u32 ((A.nd i2).left : Int)) := by rw [cell_of_row _ _ _ _ _ _ hbx6]; rfl
      have x3 : w6.cell? ⟨g, 3, none⟩ = some (.int .u32 ((A.nd i2).right : Int)) := by rw [cell_of_row _ _ _ _ _ _ hbx6]; rfl
      have x4 : w6.cell? ⟨g, 4, none⟩ = some (.int .i64 (A.nd i2).size) := by rw [cell_of_row _ _ _ _ _ _ hbx6]; rfl
      have x5 : w6.cell? ⟨g, 5, none⟩ = some (.int .i64 (A.nd i2).sum) := by rw [cell_of_row _ _ _ _ _ _ hbx6]; rfl
      have x6 : w6.cell? ⟨g, 6, none⟩ = some (.int .i64 (A.nd i2).mn) := by rw [cell_of_row _ _ _ _ _ _ hbx6]; rfl
      have x7 : w6.cell? ⟨g, 7, none⟩ = some (.int .i64 (A.nd i2).mx) := by rw [cell_of_row _ _ _ _ _ _ hbx6]; rfl
      have hg := HG.out
      clear hin6 hin6' ho6 hg6 hv6 hrow6 hrow9 hsz9 hbx6 hdl HIN9 HROW9 HX9 HOWN HG
      by_cases hke : k = (A.nd i2).key
      · have hlt : ((A.nd i2).key == k) = true := by rw [hke]; simp
        rw [if_pos hke] at hg
        have HE : Hid (PathRes I (.pointer (some pa)) A rd F M P w (.returned (.slice va6 (N + 1) vc6)) w6) := by
          have h1 := HIN6.out.path (P := P) (n := (D ++ [i2]).length) (by rw [← hg]; exact HROW6.out) (by rw [← hg]) (rd0 := rd) (bd := M) (by have := HR1.out; omega) (by have := HR1.out; have := HRD.out; omega)
          rw [HDL6.out] at h1
          exact h1
        clear hke hg
        go_wp2_with fail
        go_ret
        exact HE.out
      · have hlt : ((A.nd i2).key == k) = false := by simp; exact fun e => hke e.symm
        rw [if_neg hke] at hg
        have HT := Lib.hid (towards_any (A.nd i2) k w6)
        have HE : Hid (∀ w3, Below w6.heap.size w6 w3 → WayP I w F (.pointer (some pa)) A rd k P (rd + (t.ht : Int)) U (.slice va6 (N + 1) vc6) (.int .u32 (twd (A.nd i2) k : Int)) (.int .i64 ((n + 1 : Nat) : Int)) w3) := fun w3 hb3 => by
          by_cases hkl : k < (A.nd i2).key
          · rw [if_pos hkl] at hg
            rw [show twd (A.nd i2) k = (A.nd i2).left from if_pos hkl]
            exact ⟨_, n + 1, l2, rd1 + 1, D ++ [i2], va6, vc6, by rw [HDL6.out], rfl, rfl, HSL.out, by rw [List.append_assoc]; exact hg, by have := HR1.out; omega, HR1.out.2.1, HNL.out, HIN6.out.calm hb3, row_below HROW6.out hb3⟩
          · rw [if_neg hkl] at hg
            rw [show twd (A.nd i2) k = (A.nd i2).right from if_neg hkl]
            exact ⟨_, n + 1, r2, rd1 + 1, D ++ [i2], va6, vc6, by rw [HDL6.out], rfl, rfl, HSR.out, by rw [List.append_assoc]; exact hg, by have := HR1.out; omega, HR1.out.2.2, HNR.out, HIN6.out.calm hb3, row_below HROW6.out hb3⟩
        clear hke hg
        go_wp2_with fail
        refine HT.out.mono ?_
        rintro e w3 ⟨rfl, hb3⟩
        have HE3 := Lib.hid (HE.out w3 hb3)
        clear hb3 HE HT
        go_wp2_with fail
        exact ⟨by rw [show ((n : Int) + 1) = ((n + 1 : Nat) : Int) by omega]; exact HE3.out, by simp [intOf]; omega⟩
theorem lkImpl (I : AImpl) : LkImpl I :=
  ⟨fun k w hI hT h0 h1 hk => getP_any I k w hI hT h0 h1 hk, fun w hI hT h0 h1 hW => firstP_any I w hI hT h0 h1 hW, fun w hI hT h0 h1 hW => lastP_any I w hI hT h0 h1 hW,
   fun k w hI hT h0 h1 hk => floorP_any I k w hI hT h0 h1 hk, fun k w hI hT h0 h1 hk => ceilingP_any I k w hI hT h0 h1 hk, fun k w hI hT h0 h1 hk => belowP_any I k w hI hT h0 h1 hk, fun k w hI hT h0 h1 hk => aboveP_any I k w hI hT h0 h1 hk,
   fun k w hI hT h0 h1 hk => pathP_any I k w hI hT h0 h1 hk⟩
end Go.Proofs.Ytigogohcelgggaa
