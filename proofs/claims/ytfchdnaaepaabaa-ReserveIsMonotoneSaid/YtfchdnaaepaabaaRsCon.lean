/- What is asked of the program's reservations, stated, not proved here; the laws about them, over that. -/
import Derived.Test.YtfchdnaaepaabaaRefRsv
import Derived.Test.YtfchdnaaepaabaaKitMod
import Derived.Deep.DeepCutAuto
set_option linter.unusedVariables false
set_option linter.unusedSimpArgs false
namespace Go.Proofs.Ytfchdnaaepaabaa
open Go.RowKit
structure RsImpl : Prop where
  insert : ∀ (n : Int) (w : World), in64 n → Calls Try.prog 8 #[.int .i64 n] w (Calm w (.int .i64 (insI n)))
  delete : ∀ (n : Int) (w : World), in64 n → Calls Try.prog 9 #[.int .i64 n] w (Calm w (.int .i64 (delI n)))
  join : ∀ (l r : Int) (w : World), in64 l → in64 r → Calls Try.prog 10 #[.int .i64 l, .int .i64 r] w (Calm w (.int .i64 (joinI l r)))
  split : ∀ (n : Int) (w : World), in64 n → Calls Try.prog 11 #[.int .i64 n] w (Calm w (.int .i64 (splitI n)))
  build : ∀ (n : Int) (w : World), in64 n → Calls Try.prog 15 #[.int .i64 n] w (Calm w (.int .i64 (buildI n)))
  setOp : ∀ (l r : Int) (w : World), in64 l → in64 r → Calls Try.prog 12 #[.int .i64 l, .int .i64 r] w (Calm w (.int .i64 (setI l r)))
  merge : ∀ (b o t : Int) (w : World), in64 b → in64 o → in64 t → Calls Try.prog 13 #[.int .i64 b, .int .i64 o, .int .i64 t] w (Calm w (.int .i64 (mergeI b o t)))
  apply : ∀ (n c : Int) (w : World), in64 n → in64 c → Calls Try.prog 14 #[.int .i64 n, .int .i64 c] w (Calm w (.int .i64 (applyI n c)))
theorem calm_tr {a b c : World} (h : Below a.heap.size a b) (h1 : Below b.heap.size b c) : Below a.heap.size a c := h.trans (h1.mono h.size)
theorem awake8_any (K : RsImpl) (w : World) : Calls Try.prog 5 #[] w (Calm w (.bool true)) := by
  have HK := Lib.hid K
  have H1 : Hid (insI 0 = 12) := by show insI 0 = 12; decide
  have H2 : Hid (buildI 5 = 5) := by show buildI 5 = 5; decide
  clear K
  go_enter Try.func5, Try.ntmps5
  go_wp2_with fail
  refine (HK.out.insert 0 w in0).mono ?_
  rintro e w1 ⟨rfl, hb1⟩
  rw [H1.out]
  have HB1 := Lib.hid hb1
  clear hb1
  go_wp2_with fail
  refine (HK.out.build 5 w1 ⟨by decide, by decide⟩).mono ?_
  rintro e w2 ⟨rfl, hb2⟩
  rw [H2.out]
  have HB2 := Lib.hid (calm_tr HB1.out hb2)
  clear hb2
  go_wp2_with fail
  go_ret
  exact ⟨rfl, HB2.out⟩
set_option maxHeartbeats 2000000 in
set_option maxRecDepth 100000 in
theorem agrees8_any (K : RsImpl) (n m k : Int) (w : World) (hn : in64 n) (hm : in64 m) (hk : in64 k) : Calls Try.prog 6 #[.int .i64 n, .int .i64 m, .int .i64 k] w (Calm w (.bool true)) := by
  have HN := Lib.hid hn
  have HM := Lib.hid hm
  have HKK := Lib.hid hk
  obtain ⟨XInsert, hxInsert⟩ : ∃ X, insI n = X := ⟨_, rfl⟩
  have HPInsert : Hid (∀ wx, Calls Try.prog 8 #[.int .i64 n] wx (Calm wx (.int .i64 XInsert))) := fun wx => hxInsert ▸ K.insert n wx HN.out
  have HRInsert : Hid (∀ wx, Calls Try.prog 16 #[.int .i64 n] wx (Calm wx (.int .i64 XInsert))) := fun wx => hxInsert ▸ refInsert_any n wx HN.out
  have heInsert : (XInsert == XInsert) = true := by simp
  clear hxInsert
  obtain ⟨XDelete, hxDelete⟩ : ∃ X, delI n = X := ⟨_, rfl⟩
  have HPDelete : Hid (∀ wx, Calls Try.prog 9 #[.int .i64 n] wx (Calm wx (.int .i64 XDelete))) := fun wx => hxDelete ▸ K.delete n wx HN.out
  have HRDelete : Hid (∀ wx, Calls Try.prog 17 #[.int .i64 n] wx (Calm wx (.int .i64 XDelete))) := fun wx => hxDelete ▸ refDelete_any n wx HN.out
  have heDelete : (XDelete == XDelete) = true := by simp
  clear hxDelete
  obtain ⟨XJoin, hxJoin⟩ : ∃ X, joinI n m = X := ⟨_, rfl⟩
  have HPJoin : Hid (∀ wx, Calls Try.prog 10 #[.int .i64 n, .int .i64 m] wx (Calm wx (.int .i64 XJoin))) := fun wx => hxJoin ▸ K.join n m wx HN.out HM.out
  have HRJoin : Hid (∀ wx, Calls Try.prog 18 #[.int .i64 n, .int .i64 m] wx (Calm wx (.int .i64 XJoin))) := fun wx => hxJoin ▸ refJoin_any n m wx HN.out HM.out
  have heJoin : (XJoin == XJoin) = true := by simp
  clear hxJoin
  obtain ⟨XSplit, hxSplit⟩ : ∃ X, splitI n = X := ⟨_, rfl⟩
  have HPSplit : Hid (∀ wx, Calls Try.prog 11 #[.int .i64 n] wx (Calm wx (.int .i64 XSplit))) := fun wx => hxSplit ▸ K.split n wx HN.out
  have HRSplit : Hid (∀ wx, Calls Try.prog 19 #[.int .i64 n] wx (Calm wx (.int .i64 XSplit))) := fun wx => hxSplit ▸ refSplit_any n wx HN.out
  have heSplit : (XSplit == XSplit) = true := by simp
  clear hxSplit
  obtain ⟨XBuild, hxBuild⟩ : ∃ X, buildI n = X := ⟨_, rfl⟩
  have HPBuild : Hid (∀ wx, Calls Try.prog 15 #[.int .i64 n] wx (Calm wx (.int .i64 XBuild))) := fun wx => hxBuild ▸ K.build n wx HN.out
  have HRBuild : Hid (∀ wx, Calls Try.prog 20 #[.int .i64 n] wx (Calm wx (.int .i64 XBuild))) := fun wx => hxBuild ▸ refBuild_any n wx HN.out
  have heBuild : (XBuild == XBuild) = true := by simp
  clear hxBuild
  obtain ⟨XSetOperation, hxSetOperation⟩ : ∃ X, setI n m = X := ⟨_, rfl⟩
  have HPSetOperation : Hid (∀ wx, Calls Try.prog 12 #[.int .i64 n, .int .i64 m] wx (Calm wx (.int .i64 XSetOperation))) := fun wx => hxSetOperation ▸ K.setOp n m wx HN.out HM.out
  have HRSetOperation : Hid (∀ wx, Calls Try.prog 21 #[.int .i64 n, .int .i64 m] wx (Calm wx (.int .i64 XSetOperation))) := fun wx => hxSetOperation ▸ refSetOperation_any n m wx HN.out HM.out
  have heSetOperation : (XSetOperation == XSetOperation) = true := by simp
  clear hxSetOperation
  obtain ⟨XMerge, hxMerge⟩ : ∃ X, mergeI n m k = X := ⟨_, rfl⟩
  have HPMerge : Hid (∀ wx, Calls Try.prog 13 #[.int .i64 n, .int .i64 m, .int .i64 k] wx (Calm wx (.int .i64 XMerge))) := fun wx => hxMerge ▸ K.merge n m k wx HN.out HM.out HKK.out
  have HRMerge : Hid (∀ wx, Calls Try.prog 22 #[.int .i64 n, .int .i64 m, .int .i64 k] wx (Calm wx (.int .i64 XMerge))) := fun wx => hxMerge ▸ refMerge_any n m k wx HN.out HM.out HKK.out
  have heMerge : (XMerge == XMerge) = true := by simp
  clear hxMerge
  obtain ⟨XApply, hxApply⟩ : ∃ X, applyI n m = X := ⟨_, rfl⟩
  have HPApply : Hid (∀ wx, Calls Try.prog 14 #[.int .i64 n, .int .i64 m] wx (Calm wx (.int .i64 XApply))) := fun wx => hxApply ▸ K.apply n m wx HN.out HM.out
  have HRApply : Hid (∀ wx, Calls Try.prog 23 #[.int .i64 n, .int .i64 m] wx (Calm wx (.int .i64 XApply))) := fun wx => hxApply ▸ refApply_any n m wx HN.out HM.out
  have heApply : (XApply == XApply) = true := by simp
  clear hxApply
  clear K hn hm hk
  have HB0 : Hid (Below w.heap.size w w) := Below.refl _ _
  go_enter Try.func6, Try.ntmps6
  go_wp2_with fail
  refine (HPInsert.out w).mono ?_
  rintro e w1 ⟨rfl, hb⟩
  have HB1 := Lib.hid (calm_tr HB0.out hb)
  clear hb
  go_wp2_with fail
  refine (HRInsert.out w1).mono ?_
  rintro e w2 ⟨rfl, hb⟩
  have HB2 := Lib.hid (calm_tr HB1.out hb)
  clear hb
  go_wp2_with fail
  refine (HPDelete.out w2).mono ?_
  rintro e w3 ⟨rfl, hb⟩
  have HB3 := Lib.hid (calm_tr HB2.out hb)
  clear hb
  go_wp2_with fail
  refine (HRDelete.out w3).mono ?_
  rintro e w4 ⟨rfl, hb⟩
  have HB4 := Lib.hid (calm_tr HB3.out hb)
  clear hb
  go_wp2_with fail
  refine (HPJoin.out w4).mono ?_
  rintro e w5 ⟨rfl, hb⟩
  have HB5 := Lib.hid (calm_tr HB4.out hb)
  clear hb
  go_wp2_with fail
  refine (HRJoin.out w5).mono ?_
  rintro e w6 ⟨rfl, hb⟩
  have HB6 := Lib.hid (calm_tr HB5.out hb)
  clear hb
  go_wp2_with fail
  refine (HPSplit.out w6).mono ?_
  rintro e w7 ⟨rfl, hb⟩
  have HB7 := Lib.hid (calm_tr HB6.out hb)
  clear hb
  go_wp2_with fail
  refine (HRSplit.out w7).mono ?_
  rintro e w8 ⟨rfl, hb⟩
  have HB8 := Lib.hid (calm_tr HB7.out hb)
  clear hb
  go_wp2_with fail
  refine (HPBuild.out w8).mono ?_
  rintro e w9 ⟨rfl, hb⟩
  have HB9 := Lib.hid (calm_tr HB8.out hb)
  clear hb
  go_wp2_with fail
  refine (HRBuild.out w9).mono ?_
  rintro e w10 ⟨rfl, hb⟩
  have HB10 := Lib.hid (calm_tr HB9.out hb)
  clear hb
  go_wp2_with fail
  refine (HPSetOperation.out w10).mono ?_
  rintro e w11 ⟨rfl, hb⟩
  have HB11 := Lib.hid (calm_tr HB10.out hb)
  clear hb
  go_wp2_with fail
  refine (HRSetOperation.out w11).mono ?_
  rintro e w12 ⟨rfl, hb⟩
  have HB12 := Lib.hid (calm_tr HB11.out hb)
  clear hb
  go_wp2_with fail
  refine (HPMerge.out w12).mono ?_
  rintro e w13 ⟨rfl, hb⟩
  have HB13 := Lib.hid (calm_tr HB12.out hb)
  clear hb
  go_wp2_with fail
  refine (HRMerge.out w13).mono ?_
  rintro e w14 ⟨rfl, hb⟩
  have HB14 := Lib.hid (calm_tr HB13.out hb)
  clear hb
  go_wp2_with fail
  refine (HPApply.out w14).mono ?_
  rintro e w15 ⟨rfl, hb⟩
  have HB15 := Lib.hid (calm_tr HB14.out hb)
  clear hb
  go_wp2_with fail
  refine (HRApply.out w15).mono ?_
  rintro e w16 ⟨rfl, hb⟩
  have HB16 := Lib.hid (calm_tr HB15.out hb)
  clear hb
  go_wp2_with fail
  go_ret
  exact ⟨rfl, HB16.out⟩
set_option maxHeartbeats 2000000 in
set_option maxRecDepth 100000 in
theorem rsAgrees_walk (K : RsImpl) (n m k : Int) (w : World) (hn : in64 n) (hm : in64 m) (hk : in64 k) : Calls Try.prog 3 #[.int .i64 n, .int .i64 m, .int .i64 k] w (Calm w (.bool true)) := by
  have HK := Lib.hid K
  have HN := Lib.hid hn
  have HM := Lib.hid hm
  have HKK := Lib.hid hk
  have hv0 := Int.emod_nonneg n (b := 65538) (by decide)
  have hv1 := Int.emod_lt_of_pos n (b := 65538) (by decide)
  obtain ⟨n65538, hv2⟩ : ∃ X, n % 65538 = X := ⟨_, rfl⟩
  rw [hv2] at hv0 hv1
  have Hn65538 : Hid (in64 n65538) := ⟨by omega, by omega⟩
  have HMn65538 : Hid (∀ wx, Calls Try.prog 7 #[.int .i64 n, .int .i64 65538] wx (fun e w' => e = .returned (.int .i64 n65538) ∧ w' = wx)) := fun wx => (mod_any n 65538 wx hn.1 hn.2 (by decide) (by decide)).mono fun e w' ⟨h1, h2⟩ => ⟨by rw [h1, hv2], h2.symm⟩
  clear hv0 hv1 hv2
  have hv0 := Int.emod_nonneg m (b := 65538) (by decide)
  have hv1 := Int.emod_lt_of_pos m (b := 65538) (by decide)
  obtain ⟨m65538, hv2⟩ : ∃ X, m % 65538 = X := ⟨_, rfl⟩
  rw [hv2] at hv0 hv1
  have Hm65538 : Hid (in64 m65538) := ⟨by omega, by omega⟩
  have HMm65538 : Hid (∀ wx, Calls Try.prog 7 #[.int .i64 m, .int .i64 65538] wx (fun e w' => e = .returned (.int .i64 m65538) ∧ w' = wx)) := fun wx => (mod_any m 65538 wx hm.1 hm.2 (by decide) (by decide)).mono fun e w' ⟨h1, h2⟩ => ⟨by rw [h1, hv2], h2.symm⟩
  clear hv0 hv1 hv2
  have hv0 := Int.emod_nonneg k (b := 65538) (by decide)
  have hv1 := Int.emod_lt_of_pos k (b := 65538) (by decide)
  obtain ⟨k65538, hv2⟩ : ∃ X, k % 65538 = X := ⟨_, rfl⟩
  rw [hv2] at hv0 hv1
  have Hk65538 : Hid (in64 k65538) := ⟨by omega, by omega⟩
  have HMk65538 : Hid (∀ wx, Calls Try.prog 7 #[.int .i64 k, .int .i64 65538] wx (fun e w' => e = .returned (.int .i64 k65538) ∧ w' = wx)) := fun wx => (mod_any k 65538 wx hk.1 hk.2 (by decide) (by decide)).mono fun e w' ⟨h1, h2⟩ => ⟨by rw [h1, hv2], h2.symm⟩
  clear hv0 hv1 hv2
  have hv0 := Int.emod_nonneg n (b := 100) (by decide)
  have hv1 := Int.emod_lt_of_pos n (b := 100) (by decide)
  obtain ⟨n100, hv2⟩ : ∃ X, n % 100 = X := ⟨_, rfl⟩
  rw [hv2] at hv0 hv1
  have Hn100 : Hid (in64 n100) := ⟨by omega, by omega⟩
  have HMn100 : Hid (∀ wx, Calls Try.prog 7 #[.int .i64 n, .int .i64 100] wx (fun e w' => e = .returned (.int .i64 n100) ∧ w' = wx)) := fun wx => (mod_any n 100 wx hn.1 hn.2 (by decide) (by decide)).mono fun e w' ⟨h1, h2⟩ => ⟨by rw [h1, hv2], h2.symm⟩
  clear hv0 hv1 hv2
  have hv0 := Int.emod_nonneg m (b := 100) (by decide)
  have hv1 := Int.emod_lt_of_pos m (b := 100) (by decide)
  obtain ⟨m100, hv2⟩ : ∃ X, m % 100 = X := ⟨_, rfl⟩
  rw [hv2] at hv0 hv1
  have Hm100 : Hid (in64 m100) := ⟨by omega, by omega⟩
  have HMm100 : Hid (∀ wx, Calls Try.prog 7 #[.int .i64 m, .int .i64 100] wx (fun e w' => e = .returned (.int .i64 m100) ∧ w' = wx)) := fun wx => (mod_any m 100 wx hm.1 hm.2 (by decide) (by decide)).mono fun e w' ⟨h1, h2⟩ => ⟨by rw [h1, hv2], h2.symm⟩
  clear hv0 hv1 hv2
  have hv0 := Int.emod_nonneg k (b := 100) (by decide)
  have hv1 := Int.emod_lt_of_pos k (b := 100) (by decide)
  obtain ⟨k100, hv2⟩ : ∃ X, k % 100 = X := ⟨_, rfl⟩
  rw [hv2] at hv0 hv1
  have Hk100 : Hid (in64 k100) := ⟨by omega, by omega⟩
  have HMk100 : Hid (∀ wx, Calls Try.prog 7 #[.int .i64 k, .int .i64 100] wx (fun e w' => e = .returned (.int .i64 k100) ∧ w' = wx)) := fun wx => (mod_any k 100 wx hk.1 hk.2 (by decide) (by decide)).mono fun e w' ⟨h1, h2⟩ => ⟨by rw [h1, hv2], h2.symm⟩
  clear hv0 hv1 hv2
  clear K hn hm hk
  go_enter Try.func3, Try.ntmps3
  go_wp2_with fail
  refine (awake8_any HK.out w).mono ?_
  rintro e w1 ⟨rfl, hb⟩
  have HB1 := Lib.hid hb
  clear hb
  go_wp2_with fail
  refine (agrees8_any HK.out n m k w1 HN.out HM.out HKK.out).mono ?_
  rintro e w2 ⟨rfl, hb⟩
  have HB2 := Lib.hid (calm_tr HB1.out hb)
  clear hb
  go_wp2_with fail
  refine (HMn65538.out _).mono ?_
  rintro e wy ⟨rfl, rfl⟩
  go_wp2_with fail
  refine (HMm65538.out _).mono ?_
  rintro e wy ⟨rfl, rfl⟩
  go_wp2_with fail
  refine (HMk65538.out _).mono ?_
  rintro e wy ⟨rfl, rfl⟩
  go_wp2_with fail
  refine (agrees8_any HK.out n65538 m65538 k65538 _ Hn65538.out Hm65538.out Hk65538.out).mono ?_
  rintro e w3 ⟨rfl, hb⟩
  have HB3 := Lib.hid (calm_tr HB2.out hb)
  clear hb
  go_wp2_with fail
  refine (HMn100.out _).mono ?_
  rintro e wy ⟨rfl, rfl⟩
  go_wp2_with fail
  refine (HMm100.out _).mono ?_
  rintro e wy ⟨rfl, rfl⟩
  go_wp2_with fail
  refine (HMk100.out _).mono ?_
  rintro e wy ⟨rfl, rfl⟩
  go_wp2_with fail
  refine (agrees8_any HK.out n100 m100 k100 _ Hn100.out Hm100.out Hk100.out).mono ?_
  rintro e w4 ⟨rfl, hb⟩
  have HB4 := Lib.hid (calm_tr HB3.out hb)
  clear hb
  go_wp2_with fail
  go_ret
  exact ⟨rfl, HB4.out⟩
/-! ### more keys never need less -/
theorem xhI_mono {n m : Int} (h0 : 0 ≤ n) (h1 : n ≤ m) (h2 : m ≤ 2147483647) : xhI n ≤ xhI m := by
  unfold xhI
  rw [if_pos ⟨h0, by omega⟩, if_pos ⟨by omega, h2⟩]
  have h3 := xh_spec (n := n.toNat) (by omega)
  have h4 := xh_le (n := m.toNat) (h := xh n.toNat) (by omega) (by omega)
  omega
theorem xhI_38 {n : Int} (h0 : 0 ≤ n) (h1 : n ≤ 65536) : xhI n ≤ 38 := by
  unfold xhI
  rw [if_pos ⟨h0, by omega⟩]
  have h3 := xh_spec (n := n.toNat) (by omega)
  have h4 : 65538 ≤ wt 39 := by decide
  rcases Nat.lt_or_ge 38 (xh n.toNat) with h5 | h5
  · have h6 := wt_mono (show 39 ≤ xh n.toNat from h5)
    omega
  · omega
theorem need_ok {a b c more extra factor : Int} (ha : vld a) (hb : vld b) (hc : vld c) : needI a b c more extra factor = extra + factor * (xhI (a + b + c + more) + 2) := if_pos ⟨ha, hb, hc⟩
theorem vld0 : vld 0 := ⟨by decide, by decide⟩
set_option maxHeartbeats 2000000 in
set_option maxRecDepth 100000 in
theorem rsMono_walk (K : RsImpl) (n m k : Int) (w : World) (hn : in64 n) (hm : in64 m) (hk : in64 k) : Calls Try.prog 4 #[.int .i64 n, .int .i64 m, .int .i64 k] w (Calm w (.bool true)) := by
  have HK := Lib.hid K
  have n0 := Int.emod_nonneg n (b := 65536) (by decide)
  have n1 := Int.emod_lt_of_pos n (b := 65536) (by decide)
  obtain ⟨nx, n2⟩ : ∃ X, n % 65536 = X := ⟨_, rfl⟩
  rw [n2] at n0 n1
  have HMn : Hid (∀ wx, Calls Try.prog 7 #[.int .i64 n, .int .i64 65536] wx (fun e w' => e = .returned (.int .i64 nx) ∧ w' = wx)) := fun wx => (mod_any n 65536 wx hn.1 hn.2 (by decide) (by decide)).mono fun e w' ⟨h1, h2⟩ => ⟨by rw [h1, n2], h2.symm⟩
  have vn : vld nx := ⟨n0, by omega⟩
  have vn' : vld (nx + 1) := ⟨by omega, by omega⟩
  have i_n : in64 nx := ⟨by omega, by omega⟩
  have i_n' : in64 (nx + 1) := ⟨by omega, by omega⟩
  have hwn : IntKind.i64.wrap (nx + 1) = nx + 1 := by rw [IntKind.wrap_i64]; omega
  have m0 := Int.emod_nonneg m (b := 65536) (by decide)
  have m1 := Int.emod_lt_of_pos m (b := 65536) (by decide)
  obtain ⟨mx, m2⟩ : ∃ X, m % 65536 = X := ⟨_, rfl⟩
  rw [m2] at m0 m1
  have HMm : Hid (∀ wx, Calls Try.prog 7 #[.int .i64 m, .int .i64 65536] wx (fun e w' => e = .returned (.int .i64 mx) ∧ w' = wx)) := fun wx => (mod_any m 65536 wx hm.1 hm.2 (by decide) (by decide)).mono fun e w' ⟨h1, h2⟩ => ⟨by rw [h1, m2], h2.symm⟩
  have vm : vld mx := ⟨m0, by omega⟩
  have vm' : vld (mx + 1) := ⟨by omega, by omega⟩
  have im : in64 mx := ⟨by omega, by omega⟩
  have im' : in64 (mx + 1) := ⟨by omega, by omega⟩
  have hwm : IntKind.i64.wrap (mx + 1) = mx + 1 := by rw [IntKind.wrap_i64]; omega
  have k0 := Int.emod_nonneg k (b := 65536) (by decide)
  have k1 := Int.emod_lt_of_pos k (b := 65536) (by decide)
  obtain ⟨kx, k2⟩ : ∃ X, k % 65536 = X := ⟨_, rfl⟩
  rw [k2] at k0 k1
  have HMk : Hid (∀ wx, Calls Try.prog 7 #[.int .i64 k, .int .i64 65536] wx (fun e w' => e = .returned (.int .i64 kx) ∧ w' = wx)) := fun wx => (mod_any k 65536 wx hk.1 hk.2 (by decide) (by decide)).mono fun e w' ⟨h1, h2⟩ => ⟨by rw [h1, k2], h2.symm⟩
  have vk : vld kx := ⟨k0, by omega⟩
  have vk' : vld (kx + 1) := ⟨by omega, by omega⟩
  have ik : in64 kx := ⟨by omega, by omega⟩
  have ik' : in64 (kx + 1) := ⟨by omega, by omega⟩
  have hwk : IntKind.i64.wrap (kx + 1) = kx + 1 := by rw [IntKind.wrap_i64]; omega
  have ea1 : insI nx = _ := need_ok vn vld0 vld0
  have ea2 : insI (nx + 1) = _ := need_ok vn' vld0 vld0
  have ed1 : delI nx = _ := need_ok vn vld0 vld0
  have ej1 : joinI nx mx = _ := need_ok vn vm vld0
  have ej2 : joinI (nx + 1) mx = _ := need_ok vn' vm vld0
  have es1 : splitI nx = _ := need_ok vn vld0 vld0
  have es2 : splitI (nx + 1) = _ := need_ok vn' vld0 vld0
  have eo1 : setI nx mx = _ := need_ok vn vm vld0
  have eo2 : setI nx (mx + 1) = _ := need_ok vn vm' vld0
  have eg1 : mergeI nx mx kx = _ := need_ok vn vm vk
  have eg2 : mergeI nx mx (kx + 1) = _ := need_ok vn vm vk'
  have ep1 : applyI nx mx = _ := need_ok vn vm vld0
  have ep2 : applyI nx (mx + 1) = _ := need_ok vn vm' vld0
  have q1 := xhI_mono (n := nx + 0 + 0 + 1) (m := nx + 1 + 0 + 0 + 1) (by omega) (by omega) (by omega)
  have q2 := xhI_mono (n := nx + 0 + 0 + 0) (m := nx + 0 + 0 + 1) (by omega) (by omega) (by omega)
  have q3 := xhI_38 (n := nx + 0 + 0 + 1) (by omega) (by omega)
  have q4 := xhI_mono (n := nx + mx + 0 + 1) (m := nx + 1 + mx + 0 + 1) (by omega) (by omega) (by omega)
  have q5 := xhI_mono (n := nx + 0 + 0 + 0) (m := nx + 1 + 0 + 0 + 0) (by omega) (by omega) (by omega)
  have q6 := xhI_mono (n := nx + mx + 0 + 0) (m := nx + (mx + 1) + 0 + 0) (by omega) (by omega) (by omega)
  have q7 := xhI_mono (n := nx + mx + kx + 0) (m := nx + mx + (kx + 1) + 0) (by omega) (by omega) (by omega)
  obtain ⟨a1, ha1⟩ : ∃ X, insI nx = X := ⟨_, rfl⟩
  rw [ha1] at ea1
  have HCa1 : Hid (∀ wx, Calls Try.prog 8 #[.int .i64 nx] wx (Calm wx (.int .i64 a1))) := fun wx => ha1 ▸ K.insert nx wx i_n
  obtain ⟨a2, ha2⟩ : ∃ X, insI (nx + 1) = X := ⟨_, rfl⟩
  rw [ha2] at ea2
  have HCa2 : Hid (∀ wx, Calls Try.prog 8 #[.int .i64 (nx + 1)] wx (Calm wx (.int .i64 a2))) := fun wx => ha2 ▸ K.insert (nx + 1) wx i_n'
  obtain ⟨d1, hd1⟩ : ∃ X, delI nx = X := ⟨_, rfl⟩
  rw [hd1] at ed1
  have HCd1 : Hid (∀ wx, Calls Try.prog 9 #[.int .i64 nx] wx (Calm wx (.int .i64 d1))) := fun wx => hd1 ▸ K.delete nx wx i_n
  obtain ⟨j1, hj1⟩ : ∃ X, joinI nx mx = X := ⟨_, rfl⟩
  rw [hj1] at ej1
  have HCj1 : Hid (∀ wx, Calls Try.prog 10 #[.int .i64 nx, .int .i64 mx] wx (Calm wx (.int .i64 j1))) := fun wx => hj1 ▸ K.join nx mx wx i_n im
  obtain ⟨j2, hj2⟩ : ∃ X, joinI (nx + 1) mx = X := ⟨_, rfl⟩
  rw [hj2] at ej2
  have HCj2 : Hid (∀ wx, Calls Try.prog 10 #[.int .i64 (nx + 1), .int .i64 mx] wx (Calm wx (.int .i64 j2))) := fun wx => hj2 ▸ K.join (nx + 1) mx wx i_n' im
  obtain ⟨s1, hs1⟩ : ∃ X, splitI nx = X := ⟨_, rfl⟩
  rw [hs1] at es1
  have HCs1 : Hid (∀ wx, Calls Try.prog 11 #[.int .i64 nx] wx (Calm wx (.int .i64 s1))) := fun wx => hs1 ▸ K.split nx wx i_n
  obtain ⟨s2, hs2⟩ : ∃ X, splitI (nx + 1) = X := ⟨_, rfl⟩
  rw [hs2] at es2
  have HCs2 : Hid (∀ wx, Calls Try.prog 11 #[.int .i64 (nx + 1)] wx (Calm wx (.int .i64 s2))) := fun wx => hs2 ▸ K.split (nx + 1) wx i_n'
  obtain ⟨o1, ho1⟩ : ∃ X, setI nx mx = X := ⟨_, rfl⟩
  rw [ho1] at eo1
  have HCo1 : Hid (∀ wx, Calls Try.prog 12 #[.int .i64 nx, .int .i64 mx] wx (Calm wx (.int .i64 o1))) := fun wx => ho1 ▸ K.setOp nx mx wx i_n im
  obtain ⟨o2, ho2⟩ : ∃ X, setI nx (mx + 1) = X := ⟨_, rfl⟩
  rw [ho2] at eo2
  have HCo2 : Hid (∀ wx, Calls Try.prog 12 #[.int .i64 nx, .int .i64 (mx + 1)] wx (Calm wx (.int .i64 o2))) := fun wx => ho2 ▸ K.setOp nx (mx + 1) wx i_n im'
  obtain ⟨g1, hg1⟩ : ∃ X, mergeI nx mx kx = X := ⟨_, rfl⟩
  rw [hg1] at eg1
  have HCg1 : Hid (∀ wx, Calls Try.prog 13 #[.int .i64 nx, .int .i64 mx, .int .i64 kx] wx (Calm wx (.int .i64 g1))) := fun wx => hg1 ▸ K.merge nx mx kx wx i_n im ik
  obtain ⟨g2, hg2⟩ : ∃ X, mergeI nx mx (kx + 1) = X := ⟨_, rfl⟩
  rw [hg2] at eg2
  have HCg2 : Hid (∀ wx, Calls Try.prog 13 #[.int .i64 nx, .int .i64 mx, .int .i64 (kx + 1)] wx (Calm wx (.int .i64 g2))) := fun wx => hg2 ▸ K.merge nx mx (kx + 1) wx i_n im ik'
  obtain ⟨p1, hp1⟩ : ∃ X, applyI nx mx = X := ⟨_, rfl⟩
  rw [hp1] at ep1
  have HCp1 : Hid (∀ wx, Calls Try.prog 14 #[.int .i64 nx, .int .i64 mx] wx (Calm wx (.int .i64 p1))) := fun wx => hp1 ▸ K.apply nx mx wx i_n im
  obtain ⟨p2, hp2⟩ : ∃ X, applyI nx (mx + 1) = X := ⟨_, rfl⟩
  rw [hp2] at ep2
  have HCp2 : Hid (∀ wx, Calls Try.prog 14 #[.int .i64 nx, .int .i64 (mx + 1)] wx (Calm wx (.int .i64 p2))) := fun wx => hp2 ▸ K.apply nx (mx + 1) wx i_n im'
  have r1 : decide (a1 ≤ a2) = true := decide_eq_true (by omega)
  have r2 : decide (d1 ≤ a1) = true := decide_eq_true (by omega)
  have r3 : decide (a1 ≤ 160) = true := decide_eq_true (by omega)
  have r4 : decide (j1 ≤ j2) = true := decide_eq_true (by omega)
  have r5 : decide (s1 ≤ s2) = true := decide_eq_true (by omega)
  have r6 : decide (o1 < o2) = true := decide_eq_true (by omega)
  have r7 : decide (g1 < g2) = true := decide_eq_true (by omega)
  have r8 : decide (p1 < p2) = true := decide_eq_true (by omega)
  clear K hn hm hk n0 n1 n2 vn vn' i_n i_n' m0 m1 m2 vm vm' im im' k0 k1 k2 vk vk' ik ik' ea1 ha1 ea2 ha2 ed1 hd1 ej1 hj1 ej2 hj2 es1 hs1 es2 hs2 eo1 ho1 eo2 ho2 eg1 hg1 eg2 hg2 ep1 hp1 ep2 hp2 q1 q2 q3 q4 q5 q6 q7
  go_enter Try.func4, Try.ntmps4
  go_wp2_with fail
  refine (HMn.out w).mono ?_
  rintro e wy ⟨rfl, rfl⟩
  go_wp2_with fail
  refine (HMm.out _).mono ?_
  rintro e wy ⟨rfl, rfl⟩
  go_wp2_with fail
  refine (HMk.out _).mono ?_
  rintro e wy ⟨rfl, rfl⟩
  go_wp2_with fail
  refine (awake8_any HK.out _).mono ?_
  rintro e w0 ⟨rfl, hb⟩
  have HB0 := Lib.hid hb
  clear hb
  go_wp2_with fail
  refine (HCa1.out w0).mono ?_
  rintro e w1 ⟨rfl, hb⟩
  have HB1 := Lib.hid (calm_tr HB0.out hb)
  clear hb
  go_wp2_with fail
  refine (HCa2.out w1).mono ?_
  rintro e w2 ⟨rfl, hb⟩
  have HB2 := Lib.hid (calm_tr HB1.out hb)
  clear hb
  go_wp2_with fail
  refine (HCd1.out w2).mono ?_
  rintro e w3 ⟨rfl, hb⟩
  have HB3 := Lib.hid (calm_tr HB2.out hb)
  clear hb
  go_wp2_with fail
  refine (HCa1.out w3).mono ?_
  rintro e w4 ⟨rfl, hb⟩
  have HB4 := Lib.hid (calm_tr HB3.out hb)
  clear hb
  go_wp2_with fail
  refine (HCa1.out w4).mono ?_
  rintro e w5 ⟨rfl, hb⟩
  have HB5 := Lib.hid (calm_tr HB4.out hb)
  clear hb
  go_wp2_with fail
  refine (HCj1.out w5).mono ?_
  rintro e w6 ⟨rfl, hb⟩
  have HB6 := Lib.hid (calm_tr HB5.out hb)
  clear hb
  go_wp2_with fail
  refine (HCj2.out w6).mono ?_
  rintro e w7 ⟨rfl, hb⟩
  have HB7 := Lib.hid (calm_tr HB6.out hb)
  clear hb
  go_wp2_with fail
  refine (HCs1.out w7).mono ?_
  rintro e w8 ⟨rfl, hb⟩
  have HB8 := Lib.hid (calm_tr HB7.out hb)
  clear hb
  go_wp2_with fail
  refine (HCs2.out w8).mono ?_
  rintro e w9 ⟨rfl, hb⟩
  have HB9 := Lib.hid (calm_tr HB8.out hb)
  clear hb
  go_wp2_with fail
  refine (HCo1.out w9).mono ?_
  rintro e w10 ⟨rfl, hb⟩
  have HB10 := Lib.hid (calm_tr HB9.out hb)
  clear hb
  go_wp2_with fail
  refine (HCo2.out w10).mono ?_
  rintro e w11 ⟨rfl, hb⟩
  have HB11 := Lib.hid (calm_tr HB10.out hb)
  clear hb
  go_wp2_with fail
  refine (HCg1.out w11).mono ?_
  rintro e w12 ⟨rfl, hb⟩
  have HB12 := Lib.hid (calm_tr HB11.out hb)
  clear hb
  go_wp2_with fail
  refine (HCg2.out w12).mono ?_
  rintro e w13 ⟨rfl, hb⟩
  have HB13 := Lib.hid (calm_tr HB12.out hb)
  clear hb
  go_wp2_with fail
  refine (HCp1.out w13).mono ?_
  rintro e w14 ⟨rfl, hb⟩
  have HB14 := Lib.hid (calm_tr HB13.out hb)
  clear hb
  go_wp2_with fail
  refine (HCp2.out w14).mono ?_
  rintro e w15 ⟨rfl, hb⟩
  have HB15 := Lib.hid (calm_tr HB14.out hb)
  clear hb
  go_wp2_with fail
  go_ret
  exact ⟨rfl, HB15.out⟩
end Go.Proofs.Ytfchdnaaepaabaa
