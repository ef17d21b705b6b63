/- Of the proofs of JoinJoins, JoinConcatenates, JoinSplits: JnOk3, Near, Near2. -/
import Derived.Test.YtehaffcjoafkcaaGreatK7
import Derived.Test.YtehaffcjoafkcaaGreatK5
import Derived.Test.YtehaffcjoafkcaaGreatK1
import Derived.Test.YtehaffcjoafkcaaGreatK2
import Derived.Test.YtehaffcjoafkcaaGreatK6
import Derived.Test.YtehaffcjoafkcaaGreatK9
import Derived.Test.YtehaffcjoafkcaaGreatK4
import Derived.Test.YtehaffcjoafkcaaGreatK3
import Derived.Test.YtehaffcjoafkcaaGreatK8
set_option linter.unusedVariables false
set_option linter.unusedSimpArgs false
namespace Go.Proofs.YtehaffcjoafkcaaGreat
open Go.RowKit
set_option maxHeartbeats 16000000 in
set_option maxRecDepth 100000 in
theorem withLeft_any (I : AImpl) (K : RotImpl I) (KN : ShNum) {p : Value} {A0 A : Ar} {rd : Int} {F : Nat → Prop} {held : Nat → Nat} {x : Nat} {X : Nd} {tl tr : Tr} {ll lr : List En} (w : World) (hI : I.Is w p A rd F) (hM : Mid A0 held A [x]) (hm : ∀ j, held j ≤ 1048480)
    (hL : At A x tl ll) (hR : At A X.right tr lr) (hwl : WfL ll) (hwr : WfL lr) (hwe : i64R X.key ∧ i64R X.val) (hb : HbL ll lr) (hs : ll.length + lr.length + 1 ≤ 2147483647) (h0 : 0 ≤ rd) (h1 : rd ≤ 2199023254900) (hfr : (wbL ll lr ∧ 1 ≤ A.σ.free.length) ∨ 4 ≤ A.σ.free.length) :
    Calls Tryz.prog 75 #[p, .int .u32 (x : Int), .agg #[Value.int .i64 X.key, .int .i64 X.val, .int .u32 (X.left : Int), .int .u32 (X.right : Int), .int .i64 X.size, .int .i64 X.sum, .int .i64 X.mn, .int .i64 X.mx]] w (Mut I p F (BalQ A0 A rd held ll lr ⟨X.key, X.val⟩) w) := by
  obtain ⟨pa, rfl⟩ := I.ptr hI
  have hs0 := (Ins.start hI).box #[Value.int .i64 X.key, .int .i64 X.val, .int .u32 (X.left : Int), .int .u32 (X.right : Int), .int .i64 X.size, .int .i64 X.sum, .int .i64 X.mn, .int .i64 X.mx] 49
  have HK := Lib.hid K
  have HKN := Lib.hid KN
  have HM := Lib.hid hM
  have HH := Lib.hid hm
  have HL := Lib.hid hL
  have HR := Lib.hid hR
  have HW : Hid (WfL ll ∧ WfL lr ∧ (i64R X.key ∧ i64R X.val)) := ⟨hwl, hwr, hwe⟩
  have HB := Lib.hid hb
  have HSZ := Lib.hid hs
  have HFR := Lib.hid hfr
  have HRD : Hid (0 ≤ rd ∧ rd ≤ 2199023254900) := ⟨h0, h1⟩
  clear hI hM hm hL hR hwl hwr hwe hb hs hfr h0 h1 K KN
  go_enter Tryz.func75, Tryz.ntmps75
  go_upto_region 1 with fail
  generalize w.alloc (Obj.cells #[Value.int .i64 X.key, .int .i64 X.val, .int .u32 (X.left : Int), .int .u32 (X.right : Int), .int .i64 X.size, .int .i64 X.sum, .int .i64 X.mn, .int .i64 X.mx] 49) = w1 at hs0 ⊢
  generalize w.heap.size = g at hs0 ⊢
  have HCEL : Hid (∀ {wx : World} {C : Ar} {rdx : Int}, Ins I w F (.pointer (some pa)) C rdx [] [(g, Obj.cells #[Value.int .i64 X.key, .int .i64 X.val, .int .u32 (X.left : Int), .int .u32 (X.right : Int), .int .i64 X.size, .int .i64 X.sum, .int .i64 X.mn, .int .i64 X.mx] 49 (0, 0))] wx → wx.cell? ⟨g, 0, none⟩ = some (.int .i64 X.key) ∧ wx.cell? ⟨g, 1, none⟩ = some (.int .i64 X.val) ∧ wx.cell? ⟨g, 2, none⟩ = some (.int .u32 (X.left : Int)) ∧ wx.cell? ⟨g, 3, none⟩ = some (.int .u32 (X.right : Int)) ∧ wx.cell? ⟨g, 4, none⟩ = some (.int .i64 X.size) ∧ wx.cell? ⟨g, 5, none⟩ = some (.int .i64 X.sum) ∧ wx.cell? ⟨g, 6, none⟩ = some (.int .i64 X.mn) ∧ wx.cell? ⟨g, 7, none⟩ = some (.int .i64 X.mx)) := fun {wx C rdx} hx => by
    obtain ⟨hq, -⟩ := hx.row8 (g := g) (X := X) (by simp [ndRow])
    exact hq
  have hsd := hs0.calm (Below.refl _ _).drew
  clear hs0
  refine anyG_begin (S := (fun w' => w'.cell? ⟨g, 0, none⟩ = some (.int .i64 X.key) ∧ w'.cell? ⟨g, 1, none⟩ = some (.int .i64 X.val) ∧ w'.cell? ⟨g, 2, none⟩ = some (.int .u32 (X.left : Int)) ∧ w'.cell? ⟨g, 3, none⟩ = some (.int .u32 (X.right : Int)) ∧ w'.cell? ⟨g, 4, none⟩ = some (.int .i64 X.size) ∧ w'.cell? ⟨g, 5, none⟩ = some (.int .i64 X.sum) ∧ w'.cell? ⟨g, 6, none⟩ = some (.int .i64 X.mn) ∧ w'.cell? ⟨g, 7, none⟩ = some (.int .i64 X.mx))) (z := 9999) (by kernel_rfl) (HCEL.out hsd) (fun hHeld => ?_)
  refine anyG_take (k := 0) (o := _) (v := ?_) (some 11) rfl (by kernel_rfl) (by kernel_rfl) (by kernel_rfl) (by kernel_rfl) (fun _ _ _ h => h) (Or.inl ⟨by rfl, ?_⟩) (by assumption) (by kernel_rfl) ?_
  rotate_left
  · intro w hSw; (try dsimp only at hSw); go_simp; try with_reducible rfl
  (try simp only [Act.put, List.setIfInBounds_toArray, List.set_cons_zero, List.set_cons_succ])
  refine anyG_take (k := 1) (o := _) (v := ?_) (some 12) rfl (by kernel_rfl) (by kernel_rfl) (by kernel_rfl) (by kernel_rfl) (fun _ _ _ h => h) (Or.inl ⟨by rfl, ?_⟩) (by assumption) (by kernel_rfl) ?_
  rotate_left
  · intro w hSw; (try dsimp only at hSw); go_simp; try with_reducible rfl
  (try simp only [Act.put, List.setIfInBounds_toArray, List.set_cons_zero, List.set_cons_succ])
  refine anyG_take (k := 2) (o := _) (v := ?_) (some 13) rfl (by kernel_rfl) (by kernel_rfl) (by kernel_rfl) (by kernel_rfl) (fun _ _ _ h => h) (Or.inl ⟨by rfl, ?_⟩) (by assumption) (by kernel_rfl) ?_
  rotate_left
  · intro w hSw; (try dsimp only at hSw); go_simp; try with_reducible rfl
  (try simp only [Act.put, List.setIfInBounds_toArray, List.set_cons_zero, List.set_cons_succ])
  refine anyG_take (k := 4) (o := _) (v := ?_) (some 15) rfl (by kernel_rfl) (by kernel_rfl) (by kernel_rfl) (by kernel_rfl) (fun _ _ _ h => h) (Or.inl ⟨by rfl, ?_⟩) (by assumption) (by kernel_rfl) ?_
  rotate_left
  · intro w hSw; (try dsimp only at hSw); go_simp; try with_reducible rfl
  (try simp only [Act.put, List.setIfInBounds_toArray, List.set_cons_zero, List.set_cons_succ])
  refine anyG_take (k := 5) (o := _) (v := ?_) (some 16) rfl (by kernel_rfl) (by kernel_rfl) (by kernel_rfl) (by kernel_rfl) (fun _ _ _ h => h) (Or.inl ⟨by rfl, ?_⟩) (by assumption) (by kernel_rfl) ?_
  rotate_left
  · intro w hSw; (try dsimp only at hSw); go_simp; try with_reducible rfl
  (try simp only [Act.put, List.setIfInBounds_toArray, List.set_cons_zero, List.set_cons_succ])
  refine anyG_one (k := 3) (o := _) (by kernel_rfl) rfl (fun KT hKT => ?_)
  go_simp
  go_at_call 99
  refine (entryJ_any X _).mono ?_
  rintro eA wA ⟨rfl, hbA⟩
  have hsA := hsd.calm hbA
  try go_wp2_with fail
  refine hKT.out _ _ (HCEL.out hsA) (fun hHeld => ?_)
  clear hKT KT
  (try simp only [Act.put, List.setIfInBounds_toArray, List.set_cons_zero, List.set_cons_succ])
  refine anyG_one (k := 6) (o := _) (by kernel_rfl) rfl (fun KT hKT => ?_)
  go_simp
  go_at_call 98
  refine (hsA.mut fun F1 hI1 => balance_any I HK.out HKN.out ⟨X.key, X.val⟩ wA hI1 HM.out.inv HM.out.agg (fun j => Nat.le_trans (plL_le HH.out [x] j) (show 1048480 + 1 ≤ 1048490 by decide)) HL.out HR.out HW.out.1 HW.out.2.1 HW.out.2.2 HB.out HSZ.out HRD.out.1 HRD.out.2 HFR.out).mono ?_
  rintro eB wB ⟨B, rdB, ⟨b1, b2, j, t, rfl, b3, b4, b5, b6⟩, hsB⟩
  try go_wp2_with fail
  refine hKT.out _ _ (HCEL.out hsB) (fun hHeld => ?_)
  clear hKT KT
  (try simp only [Act.put, List.setIfInBounds_toArray, List.set_cons_zero, List.set_cons_succ])
  refine anyG_take (k := 7) (o := _) (v := ?_) (some 10) rfl (by kernel_rfl) (by kernel_rfl) (by kernel_rfl) (by kernel_rfl) (fun _ _ _ h => h) (Or.inl ⟨by rfl, ?_⟩) (by assumption) (by kernel_rfl) ?_
  rotate_left
  · intro w hSw; (try dsimp only at hSw); go_simp; try with_reducible rfl
  (try simp only [Act.put, List.setIfInBounds_toArray, List.set_cons_zero, List.set_cons_succ])
  refine anyG_take (k := 8) (o := _) (v := ?_) (some 18) rfl (by kernel_rfl) (by kernel_rfl) (by kernel_rfl) (by kernel_rfl) (fun _ _ _ h => h) (Or.inl ⟨by rfl, ?_⟩) (by assumption) (by kernel_rfl) ?_
  rotate_left
  · intro w hSw; (try dsimp only at hSw); go_simp; try with_reducible rfl
  (try simp only [Act.put, List.setIfInBounds_toArray, List.set_cons_zero, List.set_cons_succ])
  refine anyG_take (k := 9) (o := _) (v := ?_) (some 19) rfl (by kernel_rfl) (by kernel_rfl) (by kernel_rfl) (by kernel_rfl) (fun _ _ _ h => h) (Or.inl ⟨by rfl, ?_⟩) (by assumption) (by kernel_rfl) ?_
  rotate_left
  · intro w hSw; (try dsimp only at hSw); go_simp; try with_reducible rfl
  (try simp only [Act.put, List.setIfInBounds_toArray, List.set_cons_zero, List.set_cons_succ])
  refine anyG_take (k := 10) (o := _) (v := ?_) (some 8) rfl (by kernel_rfl) (by kernel_rfl) (by kernel_rfl) (by kernel_rfl) (fun _ _ _ h => h) (Or.inl ⟨by rfl, ?_⟩) (by assumption) (by kernel_rfl) ?_
  rotate_left
  · intro w hSw; (try dsimp only at hSw); go_simp; try with_reducible rfl
  (try simp only [Act.put, List.setIfInBounds_toArray, List.set_cons_zero, List.set_cons_succ])
  refine anyG_take (k := 11) (o := _) (v := ?_) (some 9) rfl (by kernel_rfl) (by kernel_rfl) (by kernel_rfl) (by kernel_rfl) (fun _ _ _ h => h) (Or.inl ⟨by rfl, ?_⟩) (by assumption) (by kernel_rfl) ?_
  rotate_left
  · intro w hSw; (try dsimp only at hSw); go_simp; try with_reducible rfl
  (try simp only [Act.put, List.setIfInBounds_toArray, List.set_cons_zero, List.set_cons_succ])
  refine anyG_done (by kernel_rfl) ?_ _
  obtain ⟨u1, u2, u3, u4, u5⟩ := nest_give HM.out b3 b4
  have HSB := Lib.hid hsB
  have HU : Hid (B.Inv [x] (plL held [j]) ∧ B.Idx x ∧ x < 4294967296) := ⟨u1, u2, idx_lt32 b3.inv u2⟩
  have HQ : Hid (BalQ A0 A rd held ll lr ⟨X.key, X.val⟩ (.returned (.tuple #[.int .u32 (j : Int), .int .i64 0])) (B.gone x) rdB) := ⟨b1, b2, j, t, rfl, u3, u5, fun q => by have := b5 q; omega, by omega⟩
  clear hsB hsA hsd hbA hHeld HCEL b1 b2 b3 b4 b5 b6 u1 u2 u3 u4 u5
  go_wp2_with fail
  refine (HSB.out.release HU.out.2.2 HU.out.2.1 HU.out.1).mono ?_
  rintro en w9 ⟨rfl, hs9⟩
  have HE := Lib.hid hs9.ends
  clear hs9 HSB
  go_wp2_with fail
  go_ret2
  obtain ⟨F', hal, hI⟩ := HE.out
  exact ⟨F', _, rdB, hal, hI, HQ.out⟩
set_option maxHeartbeats 16000000 in
set_option maxRecDepth 100000 in
theorem withRight_any (I : AImpl) (K : RotImpl I) (KN : ShNum) {p : Value} {A0 A : Ar} {rd : Int} {F : Nat → Prop} {held : Nat → Nat} {x : Nat} {X : Nd} {tl tr : Tr} {ll lr : List En} (w : World) (hI : I.Is w p A rd F) (hM : Mid A0 held A [x]) (hm : ∀ j, held j ≤ 1048480)
    (hL : At A X.left tl ll) (hR : At A x tr lr) (hwl : WfL ll) (hwr : WfL lr) (hwe : i64R X.key ∧ i64R X.val) (hb : HbL ll lr) (hs : ll.length + lr.length + 1 ≤ 2147483647) (h0 : 0 ≤ rd) (h1 : rd ≤ 2199023254900) (hfr : (wbL ll lr ∧ 1 ≤ A.σ.free.length) ∨ 4 ≤ A.σ.free.length) :
    Calls Tryz.prog 89 #[p, .agg #[Value.int .i64 X.key, .int .i64 X.val, .int .u32 (X.left : Int), .int .u32 (X.right : Int), .int .i64 X.size, .int .i64 X.sum, .int .i64 X.mn, .int .i64 X.mx], .int .u32 (x : Int)] w (Mut I p F (BalQ A0 A rd held ll lr ⟨X.key, X.val⟩) w) := by
  obtain ⟨pa, rfl⟩ := I.ptr hI
  have hs0 := (Ins.start hI).box #[Value.int .i64 X.key, .int .i64 X.val, .int .u32 (X.left : Int), .int .u32 (X.right : Int), .int .i64 X.size, .int .i64 X.sum, .int .i64 X.mn, .int .i64 X.mx] 49
  have HK := Lib.hid K
  have HKN := Lib.hid KN
  have HM := Lib.hid hM
  have HH := Lib.hid hm
  have HL := Lib.hid hL
  have HR := Lib.hid hR
  have HW : Hid (WfL ll ∧ WfL lr ∧ (i64R X.key ∧ i64R X.val)) := ⟨hwl, hwr, hwe⟩
  have HB := Lib.hid hb
  have HSZ := Lib.hid hs
  have HFR := Lib.hid hfr
  have HRD : Hid (0 ≤ rd ∧ rd ≤ 2199023254900) := ⟨h0, h1⟩
  clear hI hM hm hL hR hwl hwr hwe hb hs hfr h0 h1 K KN
  go_enter Tryz.func89, Tryz.ntmps89
  go_upto_region 1 with fail
  generalize w.alloc (Obj.cells #[Value.int .i64 X.key, .int .i64 X.val, .int .u32 (X.left : Int), .int .u32 (X.right : Int), .int .i64 X.size, .int .i64 X.sum, .int .i64 X.mn, .int .i64 X.mx] 49) = w1 at hs0 ⊢
  generalize w.heap.size = g at hs0 ⊢
  have HCEL : Hid (∀ {wx : World} {C : Ar} {rdx : Int}, Ins I w F (.pointer (some pa)) C rdx [] [(g, Obj.cells #[Value.int .i64 X.key, .int .i64 X.val, .int .u32 (X.left : Int), .int .u32 (X.right : Int), .int .i64 X.size, .int .i64 X.sum, .int .i64 X.mn, .int .i64 X.mx] 49 (0, 0))] wx → wx.cell? ⟨g, 0, none⟩ = some (.int .i64 X.key) ∧ wx.cell? ⟨g, 1, none⟩ = some (.int .i64 X.val) ∧ wx.cell? ⟨g, 2, none⟩ = some (.int .u32 (X.left : Int)) ∧ wx.cell? ⟨g, 3, none⟩ = some (.int .u32 (X.right : Int)) ∧ wx.cell? ⟨g, 4, none⟩ = some (.int .i64 X.size) ∧ wx.cell? ⟨g, 5, none⟩ = some (.int .i64 X.sum) ∧ wx.cell? ⟨g, 6, none⟩ = some (.int .i64 X.mn) ∧ wx.cell? ⟨g, 7, none⟩ = some (.int .i64 X.mx)) := fun {wx C rdx} hx => by
    obtain ⟨hq, -⟩ := hx.row8 (g := g) (X := X) (by simp [ndRow])
    exact hq
  have hsd := hs0.calm (Below.refl _ _).drew
  clear hs0
  refine anyG_begin (S := (fun w' => w'.cell? ⟨g, 0, none⟩ = some (.int .i64 X.key) ∧ w'.cell? ⟨g, 1, none⟩ = some (.int .i64 X.val) ∧ w'.cell? ⟨g, 2, none⟩ = some (.int .u32 (X.left : Int)) ∧ w'.cell? ⟨g, 3, none⟩ = some (.int .u32 (X.right : Int)) ∧ w'.cell? ⟨g, 4, none⟩ = some (.int .i64 X.size) ∧ w'.cell? ⟨g, 5, none⟩ = some (.int .i64 X.sum) ∧ w'.cell? ⟨g, 6, none⟩ = some (.int .i64 X.mn) ∧ w'.cell? ⟨g, 7, none⟩ = some (.int .i64 X.mx))) (z := 9999) (by kernel_rfl) (HCEL.out hsd) (fun hHeld => ?_)
  refine anyG_take (k := 0) (o := _) (v := ?_) (some 11) rfl (by kernel_rfl) (by kernel_rfl) (by kernel_rfl) (by kernel_rfl) (fun _ _ _ h => h) (Or.inl ⟨by rfl, ?_⟩) (by assumption) (by kernel_rfl) ?_
  rotate_left
  · intro w hSw; (try dsimp only at hSw); go_simp; try with_reducible rfl
  (try simp only [Act.put, List.setIfInBounds_toArray, List.set_cons_zero, List.set_cons_succ])
  refine anyG_take (k := 1) (o := _) (v := ?_) (some 12) rfl (by kernel_rfl) (by kernel_rfl) (by kernel_rfl) (by kernel_rfl) (fun _ _ _ h => h) (Or.inl ⟨by rfl, ?_⟩) (by assumption) (by kernel_rfl) ?_
  rotate_left
  · intro w hSw; (try dsimp only at hSw); go_simp; try with_reducible rfl
  (try simp only [Act.put, List.setIfInBounds_toArray, List.set_cons_zero, List.set_cons_succ])
  refine anyG_take (k := 2) (o := _) (v := ?_) (some 13) rfl (by kernel_rfl) (by kernel_rfl) (by kernel_rfl) (by kernel_rfl) (fun _ _ _ h => h) (Or.inl ⟨by rfl, ?_⟩) (by assumption) (by kernel_rfl) ?_
  rotate_left
  · intro w hSw; (try dsimp only at hSw); go_simp; try with_reducible rfl
  (try simp only [Act.put, List.setIfInBounds_toArray, List.set_cons_zero, List.set_cons_succ])
  refine anyG_take (k := 3) (o := _) (v := ?_) (some 14) rfl (by kernel_rfl) (by kernel_rfl) (by kernel_rfl) (by kernel_rfl) (fun _ _ _ h => h) (Or.inl ⟨by rfl, ?_⟩) (by assumption) (by kernel_rfl) ?_
  rotate_left
  · intro w hSw; (try dsimp only at hSw); go_simp; try with_reducible rfl
  (try simp only [Act.put, List.setIfInBounds_toArray, List.set_cons_zero, List.set_cons_succ])
  refine anyG_take (k := 5) (o := _) (v := ?_) (some 16) rfl (by kernel_rfl) (by kernel_rfl) (by kernel_rfl) (by kernel_rfl) (fun _ _ _ h => h) (Or.inl ⟨by rfl, ?_⟩) (by assumption) (by kernel_rfl) ?_
  rotate_left
  · intro w hSw; (try dsimp only at hSw); go_simp; try with_reducible rfl
  (try simp only [Act.put, List.setIfInBounds_toArray, List.set_cons_zero, List.set_cons_succ])
  refine anyG_one (k := 4) (o := _) (by kernel_rfl) rfl (fun KT hKT => ?_)
  go_simp
  go_at_call 99
  refine (entryJ_any X _).mono ?_
  rintro eA wA ⟨rfl, hbA⟩
  have hsA := hsd.calm hbA
  try go_wp2_with fail
  refine hKT.out _ _ (HCEL.out hsA) (fun hHeld => ?_)
  clear hKT KT
  (try simp only [Act.put, List.setIfInBounds_toArray, List.set_cons_zero, List.set_cons_succ])
  refine anyG_one (k := 6) (o := _) (by kernel_rfl) rfl (fun KT hKT => ?_)
  go_simp
  go_at_call 98
  refine (hsA.mut fun F1 hI1 => balance_any I HK.out HKN.out ⟨X.key, X.val⟩ wA hI1 HM.out.inv HM.out.agg (fun j => Nat.le_trans (plL_le HH.out [x] j) (show 1048480 + 1 ≤ 1048490 by decide)) HL.out HR.out HW.out.1 HW.out.2.1 HW.out.2.2 HB.out HSZ.out HRD.out.1 HRD.out.2 HFR.out).mono ?_
  rintro eB wB ⟨B, rdB, ⟨b1, b2, j, t, rfl, b3, b4, b5, b6⟩, hsB⟩
  try go_wp2_with fail
  refine hKT.out _ _ (HCEL.out hsB) (fun hHeld => ?_)
  clear hKT KT
  (try simp only [Act.put, List.setIfInBounds_toArray, List.set_cons_zero, List.set_cons_succ])
  refine anyG_take (k := 7) (o := _) (v := ?_) (some 10) rfl (by kernel_rfl) (by kernel_rfl) (by kernel_rfl) (by kernel_rfl) (fun _ _ _ h => h) (Or.inl ⟨by rfl, ?_⟩) (by assumption) (by kernel_rfl) ?_
  rotate_left
  · intro w hSw; (try dsimp only at hSw); go_simp; try with_reducible rfl
  (try simp only [Act.put, List.setIfInBounds_toArray, List.set_cons_zero, List.set_cons_succ])
  refine anyG_take (k := 8) (o := _) (v := ?_) (some 18) rfl (by kernel_rfl) (by kernel_rfl) (by kernel_rfl) (by kernel_rfl) (fun _ _ _ h => h) (Or.inl ⟨by rfl, ?_⟩) (by assumption) (by kernel_rfl) ?_
  rotate_left
  · intro w hSw; (try dsimp only at hSw); go_simp; try with_reducible rfl
  (try simp only [Act.put, List.setIfInBounds_toArray, List.set_cons_zero, List.set_cons_succ])
  refine anyG_take (k := 9) (o := _) (v := ?_) (some 19) rfl (by kernel_rfl) (by kernel_rfl) (by kernel_rfl) (by kernel_rfl) (fun _ _ _ h => h) (Or.inl ⟨by rfl, ?_⟩) (by assumption) (by kernel_rfl) ?_
  rotate_left
  · intro w hSw; (try dsimp only at hSw); go_simp; try with_reducible rfl
  (try simp only [Act.put, List.setIfInBounds_toArray, List.set_cons_zero, List.set_cons_succ])
  refine anyG_take (k := 10) (o := _) (v := ?_) (some 8) rfl (by kernel_rfl) (by kernel_rfl) (by kernel_rfl) (by kernel_rfl) (fun _ _ _ h => h) (Or.inl ⟨by rfl, ?_⟩) (by assumption) (by kernel_rfl) ?_
  rotate_left
  · intro w hSw; (try dsimp only at hSw); go_simp; try with_reducible rfl
  (try simp only [Act.put, List.setIfInBounds_toArray, List.set_cons_zero, List.set_cons_succ])
  refine anyG_take (k := 11) (o := _) (v := ?_) (some 9) rfl (by kernel_rfl) (by kernel_rfl) (by kernel_rfl) (by kernel_rfl) (fun _ _ _ h => h) (Or.inl ⟨by rfl, ?_⟩) (by assumption) (by kernel_rfl) ?_
  rotate_left
  · intro w hSw; (try dsimp only at hSw); go_simp; try with_reducible rfl
  (try simp only [Act.put, List.setIfInBounds_toArray, List.set_cons_zero, List.set_cons_succ])
  refine anyG_done (by kernel_rfl) ?_ _
  obtain ⟨u1, u2, u3, u4, u5⟩ := nest_give HM.out b3 b4
  have HSB := Lib.hid hsB
  have HU : Hid (B.Inv [x] (plL held [j]) ∧ B.Idx x ∧ x < 4294967296) := ⟨u1, u2, idx_lt32 b3.inv u2⟩
  have HQ : Hid (BalQ A0 A rd held ll lr ⟨X.key, X.val⟩ (.returned (.tuple #[.int .u32 (j : Int), .int .i64 0])) (B.gone x) rdB) := ⟨b1, b2, j, t, rfl, u3, u5, fun q => by have := b5 q; omega, by omega⟩
  clear hsB hsA hsd hbA hHeld HCEL b1 b2 b3 b4 b5 b6 u1 u2 u3 u4 u5
  go_wp2_with fail
  refine (HSB.out.release HU.out.2.2 HU.out.2.1 HU.out.1).mono ?_
  rintro en w9 ⟨rfl, hs9⟩
  have HE := Lib.hid hs9.ends
  clear hs9 HSB
  go_wp2_with fail
  go_ret2
  obtain ⟨F', hal, hI⟩ := HE.out
  exact ⟨F', _, rdB, hal, hI, HQ.out⟩
theorem jdl_zero {n : Nat} : ∀ {t : Tr}, ¬ 3 * (n + 1) < t.size + 1 → jdl n t = 0
  | .nil, _ => rfl
  | .node i l r, h => by
    have hz : (Tr.node i l r).size = l.size + r.size + 1 := rfl
    unfold jdl
    rw [if_neg (by omega)]
theorem jdr_zero {n : Nat} : ∀ {t : Tr}, ¬ 3 * (n + 1) < t.size + 1 → jdr n t = 0
  | .nil, _ => rfl
  | .node i l r, h => by
    have hz : (Tr.node i l r).size = l.size + r.size + 1 := rfl
    unfold jdr
    rw [if_neg (by omega)]
/-- one level down on the left of the heavier tree -/
theorem jd_left {t l r : Tr} {i : Nat} (h : 3 * (t.size + 1) < (Tr.node i l r).size + 1) (hw : wb (l.size + 1) (r.size + 1)) : jd t (.node i l r) = jd t l + 1 := by
  have hz : (Tr.node i l r).size = l.size + r.size + 1 := rfl
  have h2 := hw.2
  unfold jd
  rw [if_pos h]
  have e : jdl t.size (.node i l r) = 1 + jdl t.size l := by rw [jdl, if_pos (by omega)]
  rw [e]
  by_cases hc : 3 * (t.size + 1) < l.size + 1
  · rw [if_pos hc]; omega
  · rw [if_neg hc, jdl_zero hc, jdr_zero (by omega)]
theorem jd_right {u l r : Tr} {i : Nat} (h : 3 * (u.size + 1) < (Tr.node i l r).size + 1) (hw : wb (l.size + 1) (r.size + 1)) : jd (.node i l r) u = jd r u + 1 := by
  have hz : (Tr.node i l r).size = l.size + r.size + 1 := rfl
  have h2 := hw.1
  unfold jd
  rw [if_neg (by omega)]
  have e : jdr u.size (.node i l r) = 1 + jdr u.size r := by rw [jdr, if_pos (by omega)]
  rw [e]
  by_cases hc : 3 * (r.size + 1) < u.size + 1
  · omega
  · rw [if_neg hc]; omega
/-- what link answers -/
def LnkQ (A : Ar) (rd bd : Int) (held : Nat → Nat) (L R n : Nat) (ll lr : List En) (e : En) (en : Ending) (B : Ar) (rd' : Int) : Prop :=
  rd ≤ rd' ∧ rd' ≤ rd + bd ∧ ∃ (j : Nat) (t : Tr), en = .returned (.tuple #[.int .u32 (j : Int), .int .i64 0]) ∧ Mid A held B [j] ∧ At B j t (ll ++ e :: lr) ∧ A.σ.free.length ≤ B.σ.free.length + 3 * n + 1 ∧ (wbL ll lr → (B.nd j).left = L ∧ (B.nd j).right = R ∧ B.σ.free.length + 1 = A.σ.free.length)
/-- what is given to link -/
structure LnkP (k : Int) (I : AImpl) (w : World) (p : Value) (A : Ar) (rd : Int) (F : Nat → Prop) (held : Nat → Nat) (L R : Nat) (tl tr : Tr) (ll lr : List En) (e : En) : Prop where
  is : I.Is w p A rd F
  inv : A.Inv [] held
  agg : A.Agg
  few : ∀ j, held j ≤ 1048400
  left : At A L tl ll
  right : At A R tr lr
  wfl : WfL ll
  wfr : WfL lr
  wfe : i64R e.key ∧ i64R e.val
  size : ll.length + lr.length + 1 ≤ 2147483647
  rd0 : 0 ≤ rd
  rd1 : rd + 14 * (jd tl tr : Int) + k ≤ 2199023254000
  room : 3 * jd tl tr + 4 ≤ A.σ.free.length
def LinkOk (I : AImpl) (n : Nat) : Prop := ∀ {p : Value} {A : Ar} {rd : Int} {F : Nat → Prop} {held : Nat → Nat} {L R : Nat} {tl tr : Tr} {ll lr : List En} (e : En) (w : World), LnkP 2 I w p A rd F held L R tl tr ll lr e → ll.length + lr.length < n →
    Calls Tryz.prog 43 #[p, .int .u32 (L : Int), .agg #[Value.int .i64 e.key, .int .i64 e.val], .int .u32 (R : Int)] w (Mut I p F (LnkQ A rd (14 * (jd tl tr : Int) + 2) held L R (jd tl tr) ll lr e) w)
set_option maxHeartbeats 16000000 in
set_option maxRecDepth 100000 in
theorem linkLeft_any (I : AImpl) (K : RotImpl I) (KN : ShNum) {n : Nat} (ih : LinkOk I n) {p : Value} {A : Ar} {rd : Int} {F : Nat → Prop} {held : Nat → Nat} {L R : Nat} {tl tr : Tr} {ll lr : List En} (e : En) (w : World) (hP : LnkP 0 I w p A rd F held L R tl tr ll lr e) (hn : ll.length + lr.length < n + 1) (hc : 3 * (ll.length + 1) < lr.length + 1) :
    Calls Tryz.prog 67 #[p, .int .u32 (L : Int), .agg #[Value.int .i64 e.key, .int .i64 e.val], .int .u32 (R : Int)] w (Mut I p F (LnkQ A rd (14 * (jd tl tr : Int)) held L R (jd tl tr) ll lr e) w) := by
  obtain ⟨pa, rfl⟩ := I.ptr hP.is
  have hs0 := (Ins.start hP.is).box #[Value.int .i64 e.key, .int .i64 e.val] 25
  have HK := Lib.hid K
  have HKN := Lib.hid KN
  have HIH : Hid (LinkOk I n) := @ih
  have hnw : ¬ wbL ll lr := fun q => by have h1 := q.1; have h2 := q.2; omega
  have HNW := Lib.hid hnw
  have hR0 : R ≠ 0 := fun q => by
    have := (hP.right.zero_iff (held := held)).1 q
    rw [this] at hc
    simp at hc
  have hon := hP.right.idx.resolve_left hR0
  have hsp := hP.right.split hR0
  obtain ⟨XN, hX⟩ : ∃ x, A.nd R = x := ⟨_, rfl⟩
  rw [hX] at hsp
  have HX := Lib.hid hX
  have HON := Lib.hid hon
  have HI32 : Hid (R < 4294967296) := idx_lt32 hP.inv (.inr hon)
  obtain ⟨ta, tb, la, lb, rfl, rfl, hA, hB, hab⟩ := hsp
  have hsA := hA.size
  have hsB := hB.size
  have hsL := hP.left.size
  have hlen : (la ++ (⟨XN.key, XN.val⟩ : En) :: lb).length = la.length + lb.length + 1 := by simp; omega
  have hjd : jd tl (.node R ta tb) = jd tl ta + 1 := jd_left (by show 3 * (tl.size + 1) < ta.size + tb.size + 1 + 1; omega) (by rw [hsA, hsB]; exact hab)
  have h1 := hab.1
  have h2 := hab.2
  have hin : (ll ++ e :: la).length = ll.length + la.length + 1 := by simp; omega
  have hHB : HbL (ll ++ e :: la) lb := by
    unfold HbL wbL
    rw [hin]
    by_cases hq : 3 * (lb.length + 1) < ll.length + la.length + 1 + 1
    · exact .inr (.inr ⟨hq, by have := hv_join (l := lb.length + 1) (r := la.length + 1) (x := ll.length + 1) ⟨h2, h1⟩ (by omega); rw [show ll.length + la.length + 1 + 1 = la.length + 1 + (ll.length + 1) by omega]; exact this⟩)
    · exact .inl ⟨by omega, by omega⟩
  have HHB := Lib.hid hHB
  have hww := hP.wfr
  have HWW : Hid (WfL la ∧ WfL lb ∧ (i64R XN.key ∧ i64R XN.val) ∧ WfL (ll ++ e :: la)) := ⟨hww.left, hww.right.tail, hww (⟨XN.key, XN.val⟩ : En) (by simp), hP.wfl.mid hP.wfe hww.left⟩
  have hsz := hP.size
  have HSZ : Hid (ll.length + la.length + 1 ≤ 2147483647 ∧ (ll ++ e :: la).length + lb.length + 1 ≤ 2147483647 ∧ ll.length + la.length < n) := ⟨by omega, by omega, by omega⟩
  have HJ : Hid (jd tl (.node R ta tb) = jd tl ta + 1) := hjd
  have hro := hP.room
  have hr1 := hP.rd1
  rw [hjd] at hro hr1
  have HRO : Hid (3 * jd tl ta + 7 ≤ A.σ.free.length ∧ 0 ≤ rd ∧ rd + 14 * (jd tl ta : Int) + 14 ≤ 2199023254000) := ⟨by omega, hP.rd0, by omega⟩
  have HA := Lib.hid hA
  have HB := Lib.hid hB
  have HEQ : Hid ((ll ++ e :: la) ++ (⟨XN.key, XN.val⟩ : En) :: lb = ll ++ e :: (la ++ (⟨XN.key, XN.val⟩ : En) :: lb)) := by show _ = _; rw [List.append_assoc]; rfl
  have HP : Hid (A.Inv [] held ∧ A.Agg ∧ (∀ j, held j ≤ 1048400) ∧ At A L tl ll ∧ WfL ll ∧ (i64R e.key ∧ i64R e.val)) := ⟨hP.inv, hP.agg, hP.few, hP.left, hP.wfl, hP.wfe⟩
  clear hP ih hn hc hnw hR0 hon hX hA hB hab hsA hsB hsL hlen hjd h1 h2 hin hHB hww hsz hro hr1 K KN
  go_enter Tryz.func67, Tryz.ntmps67
  go_upto_region 1 with fail
  generalize w.alloc (Obj.cells #[Value.int .i64 e.key, .int .i64 e.val] 25) = w1 at hs0 ⊢
  generalize w.heap.size = ge at hs0 ⊢
  have HS0 := Lib.hid hs0
  clear hs0
  go_wp2_with fail
  refine (HS0.out.call fun F1 hI1 => readJ_any I w1 hI1 HP.out.1 HP.out.2.1 HON.out HX.out HRO.out.2.1 (by have := HRO.out; omega)).mono ?_
  rintro en w2 ⟨rfl, rd1, hs, r1, r2⟩
  have HR1 : Hid (rd ≤ rd1 ∧ rd1 ≤ rd + 3) := ⟨r1, r2⟩
  have hs1 := hs.box #[Value.int .i64 XN.key, .int .i64 XN.val, .int .u32 (XN.left : Int), .int .u32 (XN.right : Int), .int .i64 XN.size, .int .i64 XN.sum, .int .i64 XN.mn, .int .i64 XN.mx] 49
  clear hs HS0 r1 r2
  go_upto_region 4 with fail
  generalize w2.alloc (Obj.cells #[Value.int .i64 XN.key, .int .i64 XN.val, .int .u32 (XN.left : Int), .int .u32 (XN.right : Int), .int .i64 XN.size, .int .i64 XN.sum, .int .i64 XN.mn, .int .i64 XN.mx] 49) = w3 at hs1 ⊢
  generalize w2.heap.size = gx at hs1 ⊢
  have HS1 := Lib.hid hs1
  clear hs1
  obtain ⟨⟨x0, x1, x2, x3, x4, x5, x6, x7⟩, -⟩ := HS1.out.row8 (g := gx) (X := XN) (by simp [ndRow])
  obtain ⟨y0, y1⟩ := two_ofE (HS1.out.boxes (ge, Obj.cells #[Value.int .i64 e.key, .int .i64 e.val] 25 (0, 0)) (by simp)).2
  go_wp2_with fail
  refine (HS1.out.mut fun F1 hI1 => HIH.out e w3 ⟨hI1, HP.out.1, HP.out.2.1, HP.out.2.2.1, HP.out.2.2.2.1, HA.out, HP.out.2.2.2.2.1, HWW.out.1, HP.out.2.2.2.2.2, HSZ.out.1, by have := HRO.out; have := HR1.out; omega, by have := HRO.out; have := HR1.out; omega, by have := HRO.out; omega⟩ HSZ.out.2.2).mono ?_
  rintro en w4 ⟨B, rd4, ⟨q0, q1, j, t, rfl, q2, q3, q4, -⟩, hs4⟩
  have HR4 : Hid (rd ≤ rd4 ∧ rd4 ≤ rd + 14 * (jd tl ta : Int) + 5) := ⟨by have := HR1.out; omega, by have := HR1.out; omega⟩
  have HS4 := Lib.hid hs4
  have HM4 := Lib.hid q2
  have HT4 := Lib.hid q3
  have HF4 : Hid (A.σ.free.length ≤ B.σ.free.length + 3 * jd tl ta + 1 ∧ 4 ≤ B.σ.free.length) := ⟨q4, by have := HRO.out; omega⟩
  clear q0 q1 q2 q3 q4 hs4 HS1 x0 x1 x2 x3 x4 x5 x6 x7 y0 y1
  obtain ⟨⟨x0, x1, x2, x3, x4, x5, x6, x7⟩, -⟩ := HS4.out.row8 (g := gx) (X := XN) (by simp [ndRow])
  go_wp2_with fail
  refine (HS4.out.mut fun F1 hI1 => withLeft_any I HK.out HKN.out (X := XN) w4 hI1 HM4.out (fun j => Nat.le_trans (HP.out.2.2.1 j) (by decide)) HT4.out (HB.out.kept HM4.out.kept) HWW.out.2.2.2 HWW.out.2.1 HWW.out.2.2.1 HHB.out HSZ.out.2.1 (by have := HRO.out; have := HR4.out; omega) (by have := HRO.out; have := HR4.out; omega) (.inr HF4.out.2)).mono ?_
  rintro en w5 ⟨C, rd5, ⟨q0, q1, j2, t2, rfl, q2, q3, -, q4⟩, hs5⟩
  rw [HEQ.out] at q3
  have HQ : Hid (LnkQ A rd (14 * (jd tl (.node R ta tb) : Int)) held L R (jd tl (.node R ta tb)) ll (la ++ (⟨XN.key, XN.val⟩ : En) :: lb) e (.returned (.tuple #[.int .u32 (j2 : Int), .int .i64 0])) C rd5) := by
    refine ⟨by have := HR4.out; omega, ?_, j2, t2, rfl, q2, q3, ?_, fun q => absurd q HNW.out⟩
    · have h1 := HR4.out
      rw [HJ.out]
      omega
    · have h1 := HF4.out
      rw [HJ.out]
      omega
  have HE := Lib.hid hs5.ends
  clear q0 q1 q2 q3 q4 hs5 HS4 x0 x1 x2 x3 x4 x5 x6 x7
  go_wp2_with fail
  go_ret2
  obtain ⟨F', hal, hI⟩ := HE.out
  exact ⟨F', C, rd5, hal, hI, HQ.out⟩
set_option maxHeartbeats 16000000 in
set_option maxRecDepth 100000 in
theorem linkRight_any (I : AImpl) (K : RotImpl I) (KN : ShNum) {n : Nat} (ih : LinkOk I n) {p : Value} {A : Ar} {rd : Int} {F : Nat → Prop} {held : Nat → Nat} {L R : Nat} {tl tr : Tr} {ll lr : List En} (e : En) (w : World) (hP : LnkP 0 I w p A rd F held L R tl tr ll lr e) (hn : ll.length + lr.length < n + 1) (hc : 3 * (lr.length + 1) < ll.length + 1) :
    Calls Tryz.prog 68 #[p, .int .u32 (L : Int), .agg #[Value.int .i64 e.key, .int .i64 e.val], .int .u32 (R : Int)] w (Mut I p F (LnkQ A rd (14 * (jd tl tr : Int)) held L R (jd tl tr) ll lr e) w) := by
  obtain ⟨pa, rfl⟩ := I.ptr hP.is
  have hs0 := (Ins.start hP.is).box #[Value.int .i64 e.key, .int .i64 e.val] 25
  have HK := Lib.hid K
  have HKN := Lib.hid KN
  have HIH : Hid (LinkOk I n) := @ih
  have hnw : ¬ wbL ll lr := fun q => by have h1 := q.1; have h2 := q.2; omega
  have HNW := Lib.hid hnw
  have hR0 : L ≠ 0 := fun q => by
    have := (hP.left.zero_iff (held := held)).1 q
    rw [this] at hc
    simp at hc
  have hon := hP.left.idx.resolve_left hR0
  have hsp := hP.left.split hR0
  obtain ⟨XN, hX⟩ : ∃ x, A.nd L = x := ⟨_, rfl⟩
  rw [hX] at hsp
  have HX := Lib.hid hX
  have HON := Lib.hid hon
  have HI32 : Hid (L < 4294967296) := idx_lt32 hP.inv (.inr hon)
  obtain ⟨ta, tb, la, lb, rfl, rfl, hA, hB, hab⟩ := hsp
  have hsA := hA.size
  have hsB := hB.size
  have hsL := hP.right.size
  have hlen : (la ++ (⟨XN.key, XN.val⟩ : En) :: lb).length = la.length + lb.length + 1 := by simp; omega
  have hjd : jd (.node L ta tb) tr = jd tb tr + 1 := jd_right (by show 3 * (tr.size + 1) < ta.size + tb.size + 1 + 1; omega) (by rw [hsA, hsB]; exact hab)
  have h1 := hab.1
  have h2 := hab.2
  have hin : (lb ++ e :: lr).length = lr.length + lb.length + 1 := by simp; omega
  have hHB : HbL la (lb ++ e :: lr) := by
    unfold HbL wbL
    rw [hin]
    by_cases hq : 3 * (la.length + 1) < lr.length + lb.length + 1 + 1
    · exact .inr (.inl ⟨hq, by have := hv_join (l := la.length + 1) (r := lb.length + 1) (x := lr.length + 1) ⟨h1, h2⟩ (by omega); rw [show lr.length + lb.length + 1 + 1 = lb.length + 1 + (lr.length + 1) by omega]; exact this⟩)
    · exact .inl ⟨by omega, by omega⟩
  have HHB := Lib.hid hHB
  have hww := hP.wfl
  have HWW : Hid (WfL lb ∧ WfL la ∧ (i64R XN.key ∧ i64R XN.val) ∧ WfL (lb ++ e :: lr)) := ⟨hww.right.tail, hww.left, hww (⟨XN.key, XN.val⟩ : En) (by simp), hww.right.tail.mid hP.wfe hP.wfr⟩
  have hsz := hP.size
  have HSZ : Hid (lb.length + lr.length + 1 ≤ 2147483647 ∧ la.length + (lb ++ e :: lr).length + 1 ≤ 2147483647 ∧ lb.length + lr.length < n) := ⟨by omega, by omega, by omega⟩
  have HJ : Hid (jd (.node L ta tb) tr = jd tb tr + 1) := hjd
  have hro := hP.room
  have hr1 := hP.rd1
  rw [hjd] at hro hr1
  have HRO : Hid (3 * jd tb tr + 7 ≤ A.σ.free.length ∧ 0 ≤ rd ∧ rd + 14 * (jd tb tr : Int) + 14 ≤ 2199023254000) := ⟨by omega, hP.rd0, by omega⟩
  have HA := Lib.hid hA
  have HB := Lib.hid hB
  have HEQ : Hid (la ++ (⟨XN.key, XN.val⟩ : En) :: (lb ++ e :: lr) = (la ++ (⟨XN.key, XN.val⟩ : En) :: lb) ++ e :: lr) := by show _ = _; rw [List.append_assoc]; rfl
  have HP : Hid (A.Inv [] held ∧ A.Agg ∧ (∀ j, held j ≤ 1048400) ∧ At A R tr lr ∧ WfL lr ∧ (i64R e.key ∧ i64R e.val)) := ⟨hP.inv, hP.agg, hP.few, hP.right, hP.wfr, hP.wfe⟩
  clear hP ih hn hc hnw hR0 hon hX hA hB hab hsA hsB hsL hlen hjd h1 h2 hin hHB hww hsz hro hr1 K KN
  go_enter Tryz.func68, Tryz.ntmps68
  go_upto_region 1 with fail
  generalize w.alloc (Obj.cells #[Value.int .i64 e.key, .int .i64 e.val] 25) = w1 at hs0 ⊢
  generalize w.heap.size = ge at hs0 ⊢
  have HS0 := Lib.hid hs0
  clear hs0
  go_wp2_with fail
  refine (HS0.out.call fun F1 hI1 => readJ_any I w1 hI1 HP.out.1 HP.out.2.1 HON.out HX.out HRO.out.2.1 (by have := HRO.out; omega)).mono ?_
  rintro en w2 ⟨rfl, rd1, hs, r1, r2⟩
  have HR1 : Hid (rd ≤ rd1 ∧ rd1 ≤ rd + 3) := ⟨r1, r2⟩
  have hs1 := hs.box #[Value.int .i64 XN.key, .int .i64 XN.val, .int .u32 (XN.left : Int), .int .u32 (XN.right : Int), .int .i64 XN.size, .int .i64 XN.sum, .int .i64 XN.mn, .int .i64 XN.mx] 49
  clear hs HS0 r1 r2
  go_upto_region 4 with fail
  generalize w2.alloc (Obj.cells #[Value.int .i64 XN.key, .int .i64 XN.val, .int .u32 (XN.left : Int), .int .u32 (XN.right : Int), .int .i64 XN.size, .int .i64 XN.sum, .int .i64 XN.mn, .int .i64 XN.mx] 49) = w3 at hs1 ⊢
  generalize w2.heap.size = gx at hs1 ⊢
  have HS1 := Lib.hid hs1
  clear hs1
  obtain ⟨⟨x0, x1, x2, x3, x4, x5, x6, x7⟩, -⟩ := HS1.out.row8 (g := gx) (X := XN) (by simp [ndRow])
  obtain ⟨y0, y1⟩ := two_ofE (HS1.out.boxes (ge, Obj.cells #[Value.int .i64 e.key, .int .i64 e.val] 25 (0, 0)) (by simp)).2
  go_wp2_with fail
  refine (HS1.out.mut fun F1 hI1 => HIH.out e w3 ⟨hI1, HP.out.1, HP.out.2.1, HP.out.2.2.1, HB.out, HP.out.2.2.2.1, HWW.out.1, HP.out.2.2.2.2.1, HP.out.2.2.2.2.2, HSZ.out.1, by have := HRO.out; have := HR1.out; omega, by have := HRO.out; have := HR1.out; omega, by have := HRO.out; omega⟩ HSZ.out.2.2).mono ?_
  rintro en w4 ⟨B, rd4, ⟨q0, q1, j, t, rfl, q2, q3, q4, -⟩, hs4⟩
  have HR4 : Hid (rd ≤ rd4 ∧ rd4 ≤ rd + 14 * (jd tb tr : Int) + 5) := ⟨by have := HR1.out; omega, by have := HR1.out; omega⟩
  have HS4 := Lib.hid hs4
  have HM4 := Lib.hid q2
  have HT4 := Lib.hid q3
  have HF4 : Hid (A.σ.free.length ≤ B.σ.free.length + 3 * jd tb tr + 1 ∧ 4 ≤ B.σ.free.length) := ⟨q4, by have := HRO.out; omega⟩
  clear q0 q1 q2 q3 q4 hs4 HS1 x0 x1 x2 x3 x4 x5 x6 x7 y0 y1
  obtain ⟨⟨x0, x1, x2, x3, x4, x5, x6, x7⟩, -⟩ := HS4.out.row8 (g := gx) (X := XN) (by simp [ndRow])
  go_wp2_with fail
  refine (HS4.out.mut fun F1 hI1 => withRight_any I HK.out HKN.out (X := XN) w4 hI1 HM4.out (fun j => Nat.le_trans (HP.out.2.2.1 j) (by decide)) (HA.out.kept HM4.out.kept) HT4.out HWW.out.2.1 HWW.out.2.2.2 HWW.out.2.2.1 HHB.out HSZ.out.2.1 (by have := HRO.out; have := HR4.out; omega) (by have := HRO.out; have := HR4.out; omega) (.inr HF4.out.2)).mono ?_
  rintro en w5 ⟨C, rd5, ⟨q0, q1, j2, t2, rfl, q2, q3, -, q4⟩, hs5⟩
  rw [HEQ.out] at q3
  have HQ : Hid (LnkQ A rd (14 * (jd (.node L ta tb) tr : Int)) held L R (jd (.node L ta tb) tr) (la ++ (⟨XN.key, XN.val⟩ : En) :: lb) lr e (.returned (.tuple #[.int .u32 (j2 : Int), .int .i64 0])) C rd5) := by
    refine ⟨by have := HR4.out; omega, ?_, j2, t2, rfl, q2, q3, ?_, fun q => absurd q HNW.out⟩
    · have h1 := HR4.out
      rw [HJ.out]
      omega
    · have h1 := HF4.out
      rw [HJ.out]
      omega
  have HE := Lib.hid hs5.ends
  clear q0 q1 q2 q3 q4 hs5 HS4 x0 x1 x2 x3 x4 x5 x6 x7
  go_wp2_with fail
  go_ret2
  obtain ⟨F', hal, hI⟩ := HE.out
  exact ⟨F', C, rd5, hal, hI, HQ.out⟩
set_option maxHeartbeats 16000000 in
set_option maxRecDepth 100000 in
theorem link_step (I : AImpl) (K : RotImpl I) (KN : ShNum) {n : Nat} (ih : LinkOk I n) : LinkOk I (n + 1) := by
  intro p A rd F held L R tl tr ll lr e w hP hn
  obtain ⟨pa, rfl⟩ := I.ptr hP.is
  have hs0 := (Ins.start hP.is).box #[Value.int .i64 e.key, .int .i64 e.val] 25
  have HK := Lib.hid K
  have HKN := Lib.hid KN
  have HIH : Hid (LinkOk I n) := @ih
  have HN := Lib.hid hn
  have HZ : Hid (A.sz L = (ll.length : Int) ∧ A.sz R = (lr.length : Int) ∧ A.Idx L ∧ A.Idx R ∧ L < 4294967296 ∧ R < 4294967296) := ⟨hP.left.sz hP.agg, hP.right.sz hP.agg, hP.left.idx, hP.right.idx, idx_lt32 hP.inv hP.left.idx, idx_lt32 hP.inv hP.right.idx⟩
  have HP : Hid (A.Inv [] held ∧ A.Agg ∧ (∀ j, held j ≤ 1048400) ∧ At A L tl ll ∧ At A R tr lr ∧ WfL ll ∧ WfL lr ∧ (i64R e.key ∧ i64R e.val) ∧ ll.length + lr.length + 1 ≤ 2147483647) := ⟨hP.inv, hP.agg, hP.few, hP.left, hP.right, hP.wfl, hP.wfr, hP.wfe, hP.size⟩
  have HRO : Hid (3 * jd tl tr + 4 ≤ A.σ.free.length ∧ 0 ≤ rd ∧ rd + 14 * (jd tl tr : Int) + 2 ≤ 2199023254000) := ⟨hP.room, hP.rd0, hP.rd1⟩
  clear hP ih hn K KN
  go_enter Tryz.func43, Tryz.ntmps43
  go_upto_region 1 with fail
  generalize w.alloc (Obj.cells #[Value.int .i64 e.key, .int .i64 e.val] 25) = w1 at hs0 ⊢
  generalize w.heap.size = ge at hs0 ⊢
  have HS0 := Lib.hid hs0
  clear hs0
  go_wp2_with fail
  refine (HS0.out.sz HRO.out.2.1 (by have := HRO.out; omega) HZ.out.2.2.2.2.1 HZ.out.2.2.1 HP.out.1.ok).mono ?_
  rintro en w2 ⟨rfl, hs⟩
  rw [HZ.out.1]
  have HS1 := Lib.hid hs
  clear hs HS0
  go_wp2_with fail
  refine (HS1.out.sz (by have := HRO.out; (repeat' split) <;> omega) (by have := HRO.out; (repeat' split) <;> omega) HZ.out.2.2.2.2.2 HZ.out.2.2.2.1 HP.out.1.ok).mono ?_
  rintro en w3 ⟨rfl, hs⟩
  rw [HZ.out.2.1]
  obtain ⟨rd1, hrd1⟩ : ∃ r, (rd + if L = 0 then 0 else 1) + (if R = 0 then 0 else 1) = r := ⟨_, rfl⟩
  have HR1 : Hid (rd ≤ rd1 ∧ rd1 ≤ rd + 2) := by
    show rd ≤ rd1 ∧ rd1 ≤ rd + 2
    rw [← hrd1]
    (repeat' split) <;> omega
  rw [hrd1] at hs
  have HS2 := Lib.hid hs
  clear hs HS1 hrd1
  go_wp2_with fail
  refine (HKN.out.balanced (ll.length : Int) (lr.length : Int) w3 (by omega) (by have := HP.out; omega) (by omega) (by have := HP.out; omega)).mono ?_
  rintro en w4 ⟨rfl, hb4⟩
  have HS3 := Lib.hid (HS2.out.calm hb4)
  clear hb4 HS2
  obtain ⟨y0, y1⟩ := two_ofE (HS3.out.boxes (ge, Obj.cells #[Value.int .i64 e.key, .int .i64 e.val] 25 (0, 0)) (by simp)).2
  obtain ⟨b, hbv⟩ : ∃ b, Proofs.YtehaffcjoafkcaaGreat.bal (ll.length : Int) (lr.length : Int) = b := ⟨_, rfl⟩
  rw [hbv]
  have HBV := Lib.hid hbv
  clear hbv
  cases b
  rotate_left
  · obtain ⟨i1, t1, hf⟩ : ∃ i t, A.σ.free = i :: t := by
      have h := HRO.out.1
      cases hq : A.σ.free with
      | nil => rw [hq] at h; simp at h
      | cons i t => exact ⟨i, t, rfl⟩
    have hsz : (A.node e.key e.val L R).size ≤ 2147483647 := by
      show 1 + A.sz L + A.sz R ≤ _
      rw [HZ.out.1, HZ.out.2.1]
      have := HP.out
      omega
    have HF := Lib.hid hf
    have HSZ := Lib.hid hsz
    obtain ⟨m1, m2, m3, m4, m5, m6⟩ := (Mid.start HP.out.1 HP.out.2.1).made hf (key := e.key) (val := e.val) HZ.out.2.2.1 HZ.out.2.2.2.1 hsz
    have hw := bal_wb HBV.out
    have HQ : Hid (LnkQ A rd (14 * (jd tl tr : Int) + 2) held L R (jd tl tr) ll lr e (.returned (.tuple #[.int .u32 (i1 : Int), .int .i64 0])) (A.made i1 t1 (A.node e.key e.val L R)) rd1) := by
      have hfl : (A.made i1 t1 (A.node e.key e.val L R)).σ.free.length + 1 = A.σ.free.length := by rw [m3, hf]; rfl
      refine ⟨HR1.out.1, by have := HR1.out; omega, i1, _, rfl, m1, At.join m1.agg m4 m5 (by rw [m6]; exact ⟨rfl, rfl, rfl, rfl⟩) (HP.out.2.2.2.1.kept m2) (HP.out.2.2.2.2.1.kept m2) hw, by omega, fun _ => ⟨by rw [m6]; rfl, by rw [m6]; rfl, hfl⟩⟩
    clear hf hsz m1 m2 m3 m4 m5 m6 hw
    go_wp2_with fail
    refine (HS3.out.make HP.out.1 HP.out.2.1 (fun j => Nat.le_trans (HP.out.2.2.1 j) (by decide)) HP.out.2.2.2.2.2.2.2.1.1 HP.out.2.2.2.2.2.2.2.1.2 HZ.out.2.2.1 HZ.out.2.2.2.1 HSZ.out HF.out).mono ?_
    rintro en w5 ⟨rfl, hs5⟩
    have HE := Lib.hid hs5.ends
    clear hs5 HS3 y0 y1
    go_wp2_with fail
    go_ret2
    obtain ⟨F', hal, hI⟩ := HE.out
    exact ⟨F', _, rd1, hal, hI, HQ.out⟩
  have hnw : ¬ wbL ll lr := fun q => by
    have h := HP.out.2.2.2.2.2.2.2.2
    have := wb_bal (a := ll.length) (b := lr.length) (by omega) (by omega) q
    rw [HBV.out] at this
    cases this
  have hcc : 3 * (ll.length + 1) < lr.length + 1 ∨ 3 * (lr.length + 1) < ll.length + 1 := by
    by_cases h1 : 3 * (ll.length + 1) < lr.length + 1
    · exact .inl h1
    · refine .inr ?_
      by_cases h2 : 3 * (lr.length + 1) < ll.length + 1
      · exact h2
      · exact absurd ⟨by omega, by omega⟩ hnw
  clear hnw HBV
  rcases hcc with hc | hc
  · have HC := Lib.hid hc
    have hlt : decide ((ll.length : Int) < (lr.length : Int)) = true := decide_eq_true (by omega)
    have hlt2 : (ll.length : Int) < (lr.length : Int) := by omega
    clear hc
    go_wp2_with fail
    refine (HS3.out.mut fun F1 hI1 => linkLeft_any I HK.out HKN.out HIH.out e w4 ⟨hI1, HP.out.1, HP.out.2.1, HP.out.2.2.1, HP.out.2.2.2.1, HP.out.2.2.2.2.1, HP.out.2.2.2.2.2.1, HP.out.2.2.2.2.2.2.1, HP.out.2.2.2.2.2.2.2.1, HP.out.2.2.2.2.2.2.2.2, by have := HRO.out; have := HR1.out; omega, by have := HRO.out; have := HR1.out; omega, HRO.out.1⟩ HN.out HC.out).mono ?_
    rintro en w5 ⟨B, rd5, ⟨q0, q1, j, t, rfl, q2⟩, hs5⟩
    have HQ : Hid (LnkQ A rd (14 * (jd tl tr : Int) + 2) held L R (jd tl tr) ll lr e (.returned (.tuple #[.int .u32 (j : Int), .int .i64 0])) B rd5) := ⟨by have := HR1.out; omega, by have := HR1.out; omega, j, t, rfl, q2⟩
    have HE := Lib.hid hs5.ends
    clear q0 q1 q2 hs5 HS3 y0 y1
    go_wp2_with fail
    go_ret2
    obtain ⟨F', hal, hI⟩ := HE.out
    exact ⟨F', B, rd5, hal, hI, HQ.out⟩
  · have HC := Lib.hid hc
    have hlt : decide ((ll.length : Int) < (lr.length : Int)) = false := decide_eq_false (by omega)
    have hlt2 : ¬ (ll.length : Int) < (lr.length : Int) := by omega
    clear hc
    go_wp2_with fail
    refine (HS3.out.mut fun F1 hI1 => linkRight_any I HK.out HKN.out HIH.out e w4 ⟨hI1, HP.out.1, HP.out.2.1, HP.out.2.2.1, HP.out.2.2.2.1, HP.out.2.2.2.2.1, HP.out.2.2.2.2.2.1, HP.out.2.2.2.2.2.2.1, HP.out.2.2.2.2.2.2.2.1, HP.out.2.2.2.2.2.2.2.2, by have := HRO.out; have := HR1.out; omega, by have := HRO.out; have := HR1.out; omega, HRO.out.1⟩ HN.out HC.out).mono ?_
    rintro en w5 ⟨B, rd5, ⟨q0, q1, j, t, rfl, q2⟩, hs5⟩
    have HQ : Hid (LnkQ A rd (14 * (jd tl tr : Int) + 2) held L R (jd tl tr) ll lr e (.returned (.tuple #[.int .u32 (j : Int), .int .i64 0])) B rd5) := ⟨by have := HR1.out; omega, by have := HR1.out; omega, j, t, rfl, q2⟩
    have HE := Lib.hid hs5.ends
    clear q0 q1 q2 hs5 HS3 y0 y1
    go_wp2_with fail
    go_ret2
    obtain ⟨F', hal, hI⟩ := HE.out
    exact ⟨F', B, rd5, hal, hI, HQ.out⟩
theorem link_all (I : AImpl) (K : RotImpl I) (KN : ShNum) : ∀ n, LinkOk I n
  | 0 => fun _ _ _ h => absurd h (Nat.not_lt_zero _)
  | n + 1 => link_step I K KN (link_all I K KN n)
end Go.Proofs.YtehaffcjoafkcaaGreat
set_option linter.unusedVariables false
namespace Go.Proofs.YtehaffcjoafkcaaGreat
theorem rankE_cons (x : En) (t : List En) (k : Int) : rankE (x :: t) k = rankE t k + (if x.key < k then 1 else 0) := by
  unfold rankE
  rw [List.countP_cons]
  by_cases h : x.key < k <;> simp [h]
theorem rankE_zero : ∀ {t : List En} {k : Int}, (∀ y ∈ t, k ≤ y.key) → rankE t k = 0
  | [], k, h => rfl
  | x :: t, k, h => by
    rw [rankE_cons, rankE_zero (fun y hy => h y (by simp [hy])), if_neg (by have := h x (by simp); omega)]
/-- the entries before the rank have lesser keys, those behind it none -/
theorem rank_iff : ∀ {l : List En} (k : Int), Up l → ∀ {j : Nat} {e : En}, l[j]? = some e → (e.key < k ↔ j < rankE l k)
  | [], k, h, j, e, he => by simp at he
  | x :: t, k, h, j, e, he => by
    unfold Up at h
    rw [List.pairwise_cons] at h
    rw [rankE_cons]
    match j, he with
    | 0, he =>
      simp at he
      subst he
      by_cases hx : x.key < k
      · rw [if_pos hx]; exact ⟨fun _ => by omega, fun _ => hx⟩
      · rw [if_neg hx, rankE_zero (fun y hy => by have := h.1 y hy; omega)]
        exact ⟨fun h => absurd h hx, fun h => absurd h (by omega)⟩
    | j + 1, he =>
      simp at he
      have hm := List.mem_of_getElem? he
      have hlt := h.1 e hm
      have ih := rank_iff k h.2 he
      by_cases hx : x.key < k
      · rw [if_pos hx]
        exact ⟨fun h => by have := ih.1 h; omega, fun h => ih.2 (by omega)⟩
      · rw [if_neg hx, rankE_zero (fun y hy => by have := h.1 y hy; omega)]
        exact ⟨fun h => by omega, fun h => by omega⟩
theorem rank_of {l : List En} (h : Up l) {j : Nat} {e : En} (he : l[j]? = some e) : rankE l e.key = j := by
  have h1 := rank_iff e.key h he
  have hj := (List.getElem?_eq_some_iff.1 he).1
  rcases Nat.lt_trichotomy (rankE l e.key) j with h2 | h2 | h2
  · have h3 : l[rankE l e.key]? = some l[rankE l e.key] := List.getElem?_eq_getElem (by omega)
    have h4 := rank_iff e.key h h3
    have h5 : l[rankE l e.key].key < e.key := by
      have := List.pairwise_iff_getElem.1 h (rankE l e.key) j (by omega) hj h2
      rw [List.getElem?_eq_getElem hj] at he
      have e2 : l[j].key = e.key := by rw [Option.some.inj he]
      omega
    have := h4.1 h5
    omega
  · exact h2
  · have := h1.2 h2; omega
theorem get_some {l : List En} {k : Int} {e : En} (h : getE l k = some e) : e ∈ l ∧ e.key = k := by
  unfold getE at h
  have h2 := List.find?_some h
  exact ⟨List.mem_of_find?_eq_some h, of_decide_eq_true h2⟩
theorem get_none {l : List En} {k : Int} (h : getE l k = none) : ∀ e ∈ l, e.key ≠ k := fun e he => by
  unfold getE at h
  have := List.find?_eq_none.1 h e he
  simpa using this
theorem selE_nat (l : List En) (j : Nat) : selE l (j : Int) = l[j]? := by unfold selE; rw [if_pos (by omega), Int.toNat_natCast]
theorem selE_pred (l : List En) (j : Nat) : selE l ((j : Int) - 1) = if j = 0 then none else l[j - 1]? := by
  unfold selE
  by_cases h : j = 0
  · rw [if_pos h, if_neg (by omega)]
  · rw [if_neg h, if_pos (by omega), show ((j : Int) - 1).toNat = j - 1 by omega]
end Go.Proofs.YtehaffcjoafkcaaGreat
set_option linter.unusedVariables false
namespace Go.Proofs.YtehaffcjoafkcaaGreat
theorem up_app {A B : List En} {e : En} (h : Up (A ++ e :: B)) : Up A ∧ Up B ∧ (∀ x ∈ A, x.key < e.key) ∧ ∀ x ∈ B, e.key < x.key := by
  unfold Up at *
  rw [List.pairwise_append, List.pairwise_cons] at h
  exact ⟨h.1, h.2.1.2, fun x hx => h.2.2 x hx e (by simp), h.2.1.1⟩
theorem rankE_app (A B : List En) (k : Int) : rankE (A ++ B) k = rankE A k + rankE B k := by unfold rankE; exact List.countP_append
theorem rankE_all : ∀ {A : List En} {k : Int}, (∀ x ∈ A, x.key < k) → rankE A k = A.length
  | [], k, h => rfl
  | x :: t, k, h => by rw [rankE_cons, rankE_all (fun y hy => h y (by simp [hy])), if_pos (h x (by simp))]; rfl
/-- the rank of the next number -/
theorem rank_next {l : List En} (h : Up l) (k : Int) : rankE l (k + 1) = rankE l k + (if (getE l k).isSome then 1 else 0) := by
  cases hg : getE l k with
  | none =>
    have h1 := get_none hg
    show rankE l (k + 1) = rankE l k
    unfold rankE
    exact List.countP_congr fun e he => by
      have := h1 e he
      simp only [decide_eq_true_eq]
      omega
  | some e =>
    obtain ⟨hm, rfl⟩ := get_some hg
    obtain ⟨j, hj, hje⟩ := List.mem_iff_getElem.1 hm
    have hje' : l[j]? = some e := by rw [List.getElem?_eq_getElem hj, hje]
    rw [rank_of h hje']
    show rankE l (e.key + 1) = j + 1
    have h1 := (rank_iff (e.key + 1) h hje').1 (by omega)
    rcases Nat.lt_or_ge (j + 1) (rankE l (e.key + 1)) with h2 | h2
    · have h3 := rankE_le l (e.key + 1)
      have hb : l[j + 1]? = some l[j + 1] := List.getElem?_eq_getElem (by omega)
      have h4 := (rank_iff (e.key + 1) h hb).2 h2
      have h5 := List.pairwise_iff_getElem.1 h j (j + 1) hj (by omega) (by omega)
      rw [hje] at h5
      omega
    · omega
theorem floor_below {l : List En} (h : Up l) (k : Int) : floorE l k = belowE l (k + 1) := by
  unfold floorE belowE
  rw [rank_next h k]
  cases hg : (getE l k).isSome with
  | true => rw [if_pos rfl, if_pos rfl]; congr 1; omega
  | false => rfl
theorem below_node {A B : List En} {e : En} (h : Up (A ++ e :: B)) (k : Int) : belowE (A ++ e :: B) k = if e.key < k then (belowE B k).or (some e) else belowE A k := by
  obtain ⟨h1, h2, h3, h4⟩ := up_app h
  unfold belowE
  rw [rankE_app, rankE_cons, selE_pred]
  by_cases hk : e.key < k
  · rw [if_pos hk, rankE_all (A := A) (fun x hx => by have := h3 x hx; omega), if_neg (by omega), if_pos hk, selE_pred]
    by_cases h0 : rankE B k = 0
    · rw [if_pos h0, h0, show A.length + (0 + 1) - 1 = A.length by omega]
      rw [List.getElem?_append_right (Nat.le_refl _), Nat.sub_self]
      rfl
    · rw [if_neg h0, show A.length + (rankE B k + 1) - 1 = A.length + rankE B k by omega, List.getElem?_append_right (by omega), show A.length + rankE B k - A.length = (rankE B k - 1) + 1 by omega, List.getElem?_cons_succ]
      have := rankE_le B k
      rw [List.getElem?_eq_getElem (by omega)]
      rfl
  · rw [if_neg hk, if_neg hk, rankE_zero (t := B) (fun y hy => by have := h4 y hy; omega), selE_pred]
    simp only [Nat.add_zero]
    by_cases h0 : rankE A k = 0
    · rw [if_pos h0, if_pos h0]
    · have := rankE_le A k
      rw [if_neg h0, if_neg h0, List.getElem?_append_left (by omega)]
theorem ceil_node {A B : List En} {e : En} (h : Up (A ++ e :: B)) (k : Int) : ceilE (A ++ e :: B) k = if e.key < k then ceilE B k else (ceilE A k).or (some e) := by
  obtain ⟨h1, h2, h3, h4⟩ := up_app h
  unfold ceilE
  rw [rankE_app, rankE_cons, selE_nat, selE_nat, selE_nat]
  by_cases hk : e.key < k
  · rw [if_pos hk, if_pos hk, rankE_all (A := A) (fun x hx => by have := h3 x hx; omega), List.getElem?_append_right (by omega), show A.length + (rankE B k + 1) - A.length = rankE B k + 1 by omega, List.getElem?_cons_succ]
  · rw [if_neg hk, if_neg hk, rankE_zero (t := B) (fun y hy => by have := h4 y hy; omega)]
    simp only [Nat.add_zero]
    have := rankE_le A k
    rcases Nat.lt_or_ge (rankE A k) A.length with h0 | h0
    · rw [List.getElem?_append_left h0, List.getElem?_eq_getElem h0]; rfl
    · rw [List.getElem?_append_right h0, show rankE A k - A.length = 0 by omega, List.getElem?_eq_none h0]; rfl
theorem getE_app (A B : List En) (k : Int) : getE (A ++ B) k = (getE A k).or (getE B k) := by unfold getE; exact List.find?_append
theorem getE_none {l : List En} {k : Int} (h : ∀ e ∈ l, e.key ≠ k) : getE l k = none := by
  unfold getE
  exact List.find?_eq_none.2 fun e he => by simpa using h e he
def ndE (x : Nd) : En := ⟨x.key, x.val⟩
def bef (nd : Nat → Nd) (k : Int) : Tr → Option En → Option En
  | .nil, o => o
  | .node i l r, o => if (nd i).key < k then bef nd k r (some (ndE (nd i))) else bef nd k l o
def aft (nd : Nat → Nd) (k : Int) : Tr → Option En → Option En
  | .nil, o => o
  | .node i l r, o => if (nd i).key < k then aft nd k r o else aft nd k l (some (ndE (nd i)))
theorem bef_spec (nd : Nat → Nd) (k : Int) : ∀ (t : Tr) (o : Option En), Up (t.ents nd) → bef nd k t o = (belowE (t.ents nd) k).or o
  | .nil, o, h => by unfold bef; show o = (belowE [] k).or o; rfl
  | .node i l r, o, h => by
    rw [Tr.ents_node] at h ⊢
    obtain ⟨h1, h2, _, _⟩ := up_app h
    rw [below_node h k]
    unfold bef
    by_cases hk : (nd i).key < k
    · rw [if_pos hk, if_pos hk, bef_spec nd k r _ h2, Option.or_assoc]; rfl
    · rw [if_neg hk, if_neg hk, bef_spec nd k l _ h1]
theorem aft_spec (nd : Nat → Nd) (k : Int) : ∀ (t : Tr) (o : Option En), Up (t.ents nd) → aft nd k t o = (ceilE (t.ents nd) k).or o
  | .nil, o, h => by unfold aft; show o = (ceilE [] k).or o; rfl
  | .node i l r, o, h => by
    rw [Tr.ents_node] at h ⊢
    obtain ⟨h1, h2, _, _⟩ := up_app h
    rw [ceil_node h k]
    unfold aft
    by_cases hk : (nd i).key < k
    · rw [if_pos hk, if_pos hk, aft_spec nd k r _ h2]
    · rw [if_neg hk, if_neg hk, aft_spec nd k l _ h1, Option.or_assoc]; rfl
end Go.Proofs.YtehaffcjoafkcaaGreat
