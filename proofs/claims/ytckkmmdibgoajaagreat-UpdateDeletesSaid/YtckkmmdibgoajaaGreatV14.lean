/- Of the proofs of UpdateInserts, UpdateDeletes, JoinJoins, JoinConcatenates, JoinSplits: UpOk. -/
import Derived.Test.YtckkmmdibgoajaaGreatV1
import Derived.Test.YtckkmmdibgoajaaGreatV2
import Derived.Test.YtckkmmdibgoajaaGreatV3
import Derived.Test.YtckkmmdibgoajaaGreatV4
import Derived.Test.YtckkmmdibgoajaaGreatV5
import Derived.Test.YtckkmmdibgoajaaGreatV6
import Derived.Test.YtckkmmdibgoajaaGreatV7
import Derived.Test.YtckkmmdibgoajaaGreatV8
import Derived.Test.YtckkmmdibgoajaaGreatV9
import Derived.Test.YtckkmmdibgoajaaGreatV10
import Derived.Test.YtckkmmdibgoajaaGreatV11
import Derived.Test.YtckkmmdibgoajaaGreatV12
import Derived.Test.YtckkmmdibgoajaaGreatV13
set_option linter.unusedVariables false
set_option linter.unusedSimpArgs false
namespace Go.Proofs.YtckkmmdibgoajaaGreat
open Go.RowKit
theorem results_tmp4 {fn : Func} {a b c d : Tmp} (h : fn.results = #[.tmp a, .tmp b, .tmp c, .tmp d]) (tmps : Array Value) (P : Program) (w : World) :
    (results fn tmps).run P w = .ok (.tuple #[tmps.getD a undef, tmps.getD b undef, tmps.getD c undef, tmps.getD d undef]) w := by
  simp [results, h]
theorem insJ {n : Nat} (hn : n ≤ 65536) : insI (n : Int) = 4 * ((xh (n + 1) : Int) + 2) := by
  unfold insI needI
  have hv : vld (n : Int) ∧ vld 0 ∧ vld 0 := by unfold vld; omega
  rw [if_pos hv, show (n : Int) + 0 + 0 + 1 = ((n + 1 : Nat) : Int) by omega, xhI_nat (by omega)]
  omega
theorem delJ {n : Nat} (hn : n ≤ 65536) : delI (n : Int) = 4 * ((xh n : Int) + 2) := by
  unfold delI needI
  have hv : vld (n : Int) ∧ vld 0 ∧ vld 0 := by unfold vld; omega
  rw [if_pos hv, show (n : Int) + 0 + 0 + 0 = (n : Int) by omega, xhI_nat (by omega)]
  omega
theorem getU_key {l : List En} {k : Int} {x : En} (h : getE l k = some x) : x.key = k := (get_some h).2
/-- what Insert answers, and how often it reads -/
def InsS (A : Ar) (rd : Int) (held : Nat → Nat) (i : Nat) (t : Tr) (l : List En) (e : En) (en : Ending) (B : Ar) (rd' : Int) : Prop :=
  InsQ A rd held i t l e en B rd' ∧ rd' ≤ rd + 20 * ((xh (l.length + 1) : Int) + 2)
theorem InsS.of {A B : Ar} {rd rd' : Int} {held : Nat → Nat} {i : Nat} {t : Tr} {l : List En} {e : En} {en : Ending} (h0 : rd ≤ rd') (h1 : rd' ≤ rd + 20 * ((xh (l.length + 1) : Int) + 2)) (h : (getE l e.key = some e ∧ en = .returned (.tuple #[.int .u32 (i : Int), .int .i64 e.val, .bool true, .int .i64 0]) ∧ Got A held B i t l ∧ B.σ.free.length = A.σ.free.length) ∨
  (getE l e.key ≠ some e ∧ (A.σ.free.length : Int) < insI (l.length : Int) ∧ en = .returned (.tuple #[.int .u32 0, .int .i64 0, .bool false, .int .i64 2]) ∧ B = A) ∨
  (getE l e.key ≠ some e ∧ insI (l.length : Int) ≤ (A.σ.free.length : Int) ∧ ∃ (j : Nat) (u : Tr), en = .returned (.tuple #[.int .u32 (j : Int), .int .i64 ((getE l e.key).elim 0 (·.val)), .bool (getE l e.key).isSome, .int .i64 0]) ∧ Got A held B j u (insE l e) ∧ (A.σ.free.length : Int) ≤ (B.σ.free.length : Int) + insI (l.length : Int) ∧ B.σ.free.length ≤ A.σ.free.length)) : InsS A rd held i t l e en B rd' :=
  ⟨⟨h0, by unfold updBd; omega, h⟩, h1⟩
set_option maxHeartbeats 32000000 in
set_option maxRecDepth 100000 in
theorem insertS_any (I : AImpl) {p : Value} {A : Ar} {rd : Int} {F : Nat → Prop} {held : Nat → Nat} {i : Nat} {t : Tr} {l : List En} (e : En) (w : World) (hI : I.Is w p A rd F) (hv : A.Inv [] held) (hm : ∀ j, held j ≤ 1048000) (hT : TreeAt A i t l) (hwl : WfL l) (h0 : 0 ≤ rd) (h1 : rd ≤ 1099510500000) (hk : i64R e.key) (hx : i64R e.val) :
    Calls Tryz.prog 17 #[p, .int .u32 (i : Int), .agg #[.int .i64 e.key, .int .i64 e.val]] w (Mut I p F (InsS A rd held i t l e) w) := by
  obtain ⟨pa, rfl⟩ := I.ptr hI
  have hs0 := (Ins.start hI).box #[Value.int .i64 e.key, .int .i64 e.val] 25
  have HV := Lib.hid hv
  have HM := Lib.hid hm
  have HT := Lib.hid hT
  have HW : Hid (WfL l ∧ (i64R e.key ∧ i64R e.val) ∧ True) := ⟨hwl, ⟨hk, hx⟩, trivial⟩
  have HRD : Hid (0 ≤ rd ∧ rd ≤ 1099510500000) := ⟨h0, h1⟩
  have hn := hT.few
  have HN : Hid (l.length ≤ 65536) := hn
  have HB : Hid (mostI l.length ≤ 4 * ((xh (l.length + 1) : Int) + 2) ∧ 0 ≤ mostI l.length ∧ (xh (l.length + 1) : Int) < 80 ∧ t.ht ≤ xh (l.length + 1) ∧ insI (l.length : Int) = 4 * ((xh (l.length + 1) : Int) + 2)) := by
    have h2 := (xh_spec (n := l.length + 1) (by omega)).2.1
    have h3 := xh_up (m := l.length) (n := l.length + 1) (by omega) (by omega)
    have h4 := hT.ht (by omega)
    refine ⟨?_, ?_, by omega, by omega, insJ hn⟩ <;> (unfold mostI; omega)
  have HZ : Hid (A.sz i = (l.length : Int) ∧ A.Idx i ∧ i < 4294967296 ∧ A.cnt i < 4611686018427387904) := ⟨hT.at_.sz hT.agg, hT.idx', hT.idx, cnt_few hv (fun j => Nat.le_trans (hm j) (by decide)) i⟩
  obtain ⟨P, hP⟩ : ∃ P, pathT A.nd e.key t = P := ⟨_, rfl⟩
  have HPP := Lib.hid hP
  clear hI hv hm hT hwl h0 h1 hk hx hn hP
  go_enter Tryz.func17, Tryz.ntmps17
  go_upto_region 1 with fail
  generalize w.alloc (Obj.cells #[Value.int .i64 e.key, .int .i64 e.val] 25) = w1 at hs0 ⊢
  generalize w.heap.size = ge at hs0 ⊢
  have HS0 := Lib.hid hs0
  clear hs0
  obtain ⟨y0, y1⟩ := two_ofE (HS0.out.boxes (ge, Obj.cells #[Value.int .i64 e.key, .int .i64 e.val] 25 (0, 0)) (by simp)).2
  have HCE : Hid (∀ {wx : World} {C : Ar} {rdx : Int} {rs : List Row}, Ins I w F (.pointer (some pa)) C rdx rs [(ge, Obj.cells #[Value.int .i64 e.key, .int .i64 e.val] 25 (0, 0))] wx → wx.cell? ⟨ge, 0, none⟩ = some (.int .i64 e.key) ∧ wx.cell? ⟨ge, 1, none⟩ = some (.int .i64 e.val)) := fun {wx C rdx rs} hx => two_ofE (hx.boxes (ge, Obj.cells #[Value.int .i64 e.key, .int .i64 e.val] 25 (0, 0)) (by simp)).2
  go_wp2_with fail
  refine (HS0.out.call fun F1 hI1 => (lkImpl I).get e.key w1 hI1 HT.out HRD.out.1 (by have := HRD.out; omega) HW.out.2.1.1).mono ?_
  rintro en w2 ⟨rfl, rd1, hs, r1, r2⟩
  have HR1 : Hid (rd ≤ rd1 ∧ rd1 ≤ rd + mostI l.length) := ⟨r1, r2⟩
  have HS1 := Lib.hid hs
  clear hs HS0 r1 r2 y0 y1
  obtain ⟨y0, y1⟩ := two_ofE (HS1.out.boxes (ge, Obj.cells #[Value.int .i64 e.key, .int .i64 e.val] 25 (0, 0)) (by simp)).2
  obtain ⟨V, hV⟩ : ∃ V, (getE l e.key).elim (0 : Int) (·.val) = V := ⟨_, rfl⟩
  obtain ⟨D, hD⟩ : ∃ D, (getE l e.key).isSome = D := ⟨_, rfl⟩
  rw [hV, hD]
  cases D
  · have HVD : Hid ((getE l e.key).elim (0 : Int) (·.val) = V ∧ (getE l e.key).isSome = false) := ⟨hV, hD⟩
    have HNE : Hid (getE l e.key ≠ some e) := fun q => by rw [q] at hD; cases hD
    clear hV hD
    go_wp2_with fail
    refine HS1.out.free.mono ?_
    rintro en w6 ⟨rfl, hs6⟩
    have HS6 := Lib.hid hs6
    clear hs6 HS1 y0 y1
    go_wp2_with fail
    refine (HS6.out.sz (by have := HRD.out; have := HR1.out; omega) (by have := HRD.out; have := HR1.out; have := HB.out; omega) HZ.out.2.2.1 HZ.out.2.1 HV.out.ok).mono ?_
    rintro en w7 ⟨rfl, hs7⟩
    rw [HZ.out.1]
    obtain ⟨rd3, hrd3⟩ : ∃ r, (rd1 + if i = 0 then 0 else 1) = r := ⟨_, rfl⟩
    have HR3 : Hid (rd ≤ rd3 ∧ rd3 ≤ rd + mostI l.length + 1) := by
      have := HR1.out
      show rd ≤ rd3 ∧ rd3 ≤ rd + mostI l.length + 1
      rw [← hrd3]
      (repeat' split) <;> omega
    rw [hrd3] at hs7
    have HS7 := Lib.hid hs7
    clear hs7 hrd3 HS6
    go_wp2_with fail
    refine (rsInsert_any (l.length : Int) w7 (by have := HN.out; unfold in64; omega)).mono ?_
    rintro en w8 ⟨rfl, hb8⟩
    have HS8 := Lib.hid (HS7.out.calm hb8)
    clear hb8 HS7
    by_cases hfr : (A.σ.free.length : Int) < insI (l.length : Int)
    · have d9 : decide ((A.σ.free.length : Int) < insI (l.length : Int)) = true := decide_eq_true hfr
      have HQ : Hid (InsS A rd held i t l e (.returned (.tuple #[.int .u32 0, .int .i64 0, .bool false, .int .i64 2])) A rd3) := InsS.of HR3.out.1 (by have := HR3.out; have := HB.out; omega) (.inr (.inl ⟨HNE.out, hfr, rfl, rfl⟩))
      have HE := Lib.hid HS8.out.ends
      go_wp2_with fail
      refine bodyPost_ret (results_tmp4 rfl _ _ _) rfl ?_
      obtain ⟨F', hal, hI⟩ := HE.out
      exact ⟨F', A, rd3, hal, hI, HQ.out⟩
    have d9 : decide ((A.σ.free.length : Int) < insI (l.length : Int)) = false := decide_eq_false hfr
    have HFR : Hid (insI (l.length : Int) ≤ (A.σ.free.length : Int)) := by show _ ≤ _; omega
    go_upto_region 6 with fail
    have hsd := HS8.out.calm (Below.refl _ _).drew
    clear HS8
    refine anyG_begin (S := (fun w' => w'.cell? ⟨ge, 0, none⟩ = some (.int .i64 e.key) ∧ w'.cell? ⟨ge, 1, none⟩ = some (.int .i64 e.val))) (z := 9999) (by kernel_rfl) (HCE.out hsd) (fun hHeld => ?_)
    refine anyG_take (k := 0) (o := _) (v := ?_) (some 42) rfl (by kernel_rfl) (by kernel_rfl) (by kernel_rfl) (by kernel_rfl) (fun _ _ _ h => h) (Or.inl ⟨by rfl, ?_⟩) (by assumption) (by kernel_rfl) ?_
    rotate_left
    · intro w hSw; (try dsimp only at hSw); go_simp; try with_reducible rfl
    (try simp only [Act.put, List.setIfInBounds_toArray, List.set_cons_zero, List.set_cons_succ])
    refine anyG_take (k := 1) (o := _) (v := ?_) (some 43) rfl (by kernel_rfl) (by kernel_rfl) (by kernel_rfl) (by kernel_rfl) (fun _ _ _ h => h) (Or.inl ⟨by rfl, ?_⟩) (by assumption) (by kernel_rfl) ?_
    rotate_left
    · intro w hSw; (try dsimp only at hSw); go_simp; try with_reducible rfl
    (try simp only [Act.put, List.setIfInBounds_toArray, List.set_cons_zero, List.set_cons_succ])
    refine anyG_take (k := 2) (o := _) (v := ?_) (some 44) rfl (by kernel_rfl) (by kernel_rfl) (by kernel_rfl) (by kernel_rfl) (fun _ _ _ h => h) (Or.inl ⟨by rfl, ?_⟩) (by assumption) (by kernel_rfl) ?_
    rotate_left
    · intro w hSw; (try dsimp only at hSw); go_simp; try with_reducible rfl
    (try simp only [Act.put, List.setIfInBounds_toArray, List.set_cons_zero, List.set_cons_succ])
    refine anyG_take (k := 3) (o := _) (v := ?_) (some 45) rfl (by kernel_rfl) (by kernel_rfl) (by kernel_rfl) (by kernel_rfl) (fun _ _ _ h => h) (Or.inl ⟨by rfl, ?_⟩) (by assumption) (by kernel_rfl) ?_
    rotate_left
    · intro w hSw; (try dsimp only at hSw); go_simp; try with_reducible rfl
    (try simp only [Act.put, List.setIfInBounds_toArray, List.set_cons_zero, List.set_cons_succ])
    refine anyG_take (k := 4) (o := _) (v := ?_) (some 46) rfl (by kernel_rfl) (by kernel_rfl) (by kernel_rfl) (by kernel_rfl) (fun _ _ _ h => h) (Or.inl ⟨by rfl, ?_⟩) (by assumption) (by kernel_rfl) ?_
    rotate_left
    · intro w hSw; (try dsimp only at hSw); go_simp; try with_reducible rfl
    (try simp only [Act.put, List.setIfInBounds_toArray, List.set_cons_zero, List.set_cons_succ])
    refine anyG_take (k := 6) (o := _) (v := ?_) (some 48) rfl (by kernel_rfl) (by kernel_rfl) (by kernel_rfl) (by kernel_rfl) (fun _ _ _ h => h) (Or.inl ⟨by rfl, ?_⟩) (by assumption) (by kernel_rfl) ?_
    rotate_left
    · intro w hSw; (try dsimp only at hSw); go_simp; try with_reducible rfl
    (try simp only [Act.put, List.setIfInBounds_toArray, List.set_cons_zero, List.set_cons_succ])
    refine anyG_one (k := 5) (o := _) (by kernel_rfl) rfl (fun KT hKT => ?_)
    go_simp
    go_at_call 54
    refine (hsd.path (P := P) fun F1 hI1 => (by have h := (lkImpl I).path e.key _ hI1 HT.out (by have := HRD.out; have := HR3.out; omega) (by have := HRD.out; have := HR3.out; have := HB.out; omega) HW.out.2.1.1; rw [HPP.out] at h; exact h)).mono ?_
    rintro eA wA ⟨rdA, aa, ac, rfl, hsA, a1, a2⟩
    try go_wp2_with fail
    refine hKT.out _ _ (HCE.out hsA) (fun hHeld => ?_)
    clear hKT KT
    (try simp only [Act.put, List.setIfInBounds_toArray, List.set_cons_zero, List.set_cons_succ])
    refine anyG_one (k := 7) (o := _) (by kernel_rfl) rfl (fun KT hKT => ?_)
    go_simp
    go_at_call 53
    refine (hsA.mutO fun F1 hI1 hF1 => put_all I (rotImpl I) numJ t e _ ⟨hI1, HV.out, HT.out.agg, fun j => Nat.le_trans (HM.out j) (by decide), HT.out.at_, HT.out.up, HW.out.1, HW.out.2.1, by have := HN.out; omega, by have := HRD.out; have := HR3.out; omega, by have := HRD.out; have := HR3.out; have := HB.out; omega, by have := HFR.out; have := HB.out; omega, by rw [HPP.out]; exact PathAt.ofRow (hsA.rows _ (List.Mem.head _)) fun g hg => hF1 g (.inr (.inl ⟨_, List.Mem.head _, hg⟩)), by rw [HPP.out]⟩).mono ?_
    rintro eB wB ⟨B, rdB, ⟨q0, q1, j, u, rfl, q2, q3, q4⟩, hsB⟩
    try go_wp2_with fail
    refine hKT.out _ _ (HCE.out hsB) (fun hHeld => ?_)
    clear hKT KT
    (try simp only [Act.put, List.setIfInBounds_toArray, List.set_cons_zero, List.set_cons_succ])
    refine anyG_take (k := 8) (o := _) (v := ?_) (some 41) rfl (by kernel_rfl) (by kernel_rfl) (by kernel_rfl) (by kernel_rfl) (fun _ _ _ h => h) (Or.inl ⟨by rfl, ?_⟩) (by assumption) (by kernel_rfl) ?_
    rotate_left
    · intro w hSw; (try dsimp only at hSw); go_simp; try with_reducible rfl
    (try simp only [Act.put, List.setIfInBounds_toArray, List.set_cons_zero, List.set_cons_succ])
    refine anyG_take (k := 9) (o := _) (v := ?_) (some 50) rfl (by kernel_rfl) (by kernel_rfl) (by kernel_rfl) (by kernel_rfl) (fun _ _ _ h => h) (Or.inl ⟨by rfl, ?_⟩) (by assumption) (by kernel_rfl) ?_
    rotate_left
    · intro w hSw; (try dsimp only at hSw); go_simp; try with_reducible rfl
    (try simp only [Act.put, List.setIfInBounds_toArray, List.set_cons_zero, List.set_cons_succ])
    refine anyG_take (k := 10) (o := _) (v := ?_) (some 51) rfl (by kernel_rfl) (by kernel_rfl) (by kernel_rfl) (by kernel_rfl) (fun _ _ _ h => h) (Or.inl ⟨by rfl, ?_⟩) (by assumption) (by kernel_rfl) ?_
    rotate_left
    · intro w hSw; (try dsimp only at hSw); go_simp; try with_reducible rfl
    (try simp only [Act.put, List.setIfInBounds_toArray, List.set_cons_zero, List.set_cons_succ])
    refine anyG_take (k := 11) (o := _) (v := ?_) (some 12) rfl (by kernel_rfl) (by kernel_rfl) (by kernel_rfl) (by kernel_rfl) (fun _ _ _ h => h) (Or.inl ⟨by rfl, ?_⟩) (by assumption) (by kernel_rfl) ?_
    rotate_left
    · intro w hSw; (try dsimp only at hSw); go_simp; try with_reducible rfl
    (try simp only [Act.put, List.setIfInBounds_toArray, List.set_cons_zero, List.set_cons_succ])
    refine anyG_take (k := 12) (o := _) (v := ?_) (some 13) rfl (by kernel_rfl) (by kernel_rfl) (by kernel_rfl) (by kernel_rfl) (fun _ _ _ h => h) (Or.inl ⟨by rfl, ?_⟩) (by assumption) (by kernel_rfl) ?_
    rotate_left
    · intro w hSw; (try dsimp only at hSw); go_simp; try with_reducible rfl
    (try simp only [Act.put, List.setIfInBounds_toArray, List.set_cons_zero, List.set_cons_succ])
    refine anyG_done (by kernel_rfl) ?_ _
    have HSB := Lib.hid hsB.ends
    have HQ : Hid (InsS A rd held i t l e (.returned (.tuple #[.int .u32 (j : Int), .int .i64 V, .bool false, .int .i64 0])) B rdB) :=
      InsS.of (by have := HR3.out; omega) (by have := HR3.out; have := HB.out; omega) (.inr (.inr ⟨HNE.out, HFR.out, j, u, by rw [HVD.out.1, HVD.out.2], q2.got q3, by have := HB.out; omega, kept_free HV.out.ok q2.inv.ok q2.kept⟩))
    clear hsB hsA hsd hHeld HCE q0 q1 q2 q3 q4 a1 a2
    go_wp2_with fail
    refine bodyPost_ret (results_tmp4 rfl _ _ _) rfl ?_
    obtain ⟨F', hal, hI⟩ := HSB.out
    exact ⟨F', _, _, hal, hI, HQ.out⟩
  have HVD : Hid ((getE l e.key).elim (0 : Int) (·.val) = V ∧ (getE l e.key).isSome = true) := ⟨hV, hD⟩
  by_cases hve : V = e.val
  · have hge : getE l e.key = some e := by
      cases hq : getE l e.key with
      | none => rw [hq] at hD; cases hD
      | some x =>
        rw [hq] at hV
        have h1 := getU_key hq
        have h2 : x.val = V := hV
        cases x
        cases e
        simp at h1 h2 hve ⊢
        exact ⟨h1, h2.trans hve⟩
    have HQ : Hid (InsS A rd held i t l e (.returned (.tuple #[.int .u32 (i : Int), .int .i64 e.val, .bool true, .int .i64 0])) (A.ret i) rd1) := by
      obtain ⟨m1, m2, m3, m4⟩ := (Mid.start HV.out HT.out.agg).ret HZ.out.2.1
      exact InsS.of HR1.out.1 (by have := HR1.out; have := HB.out; omega) (.inl ⟨hge, rfl, m1.got (HT.out.at_.kept m2), by rw [m3]⟩)
    have d3 : decide (V = e.val) = true := decide_eq_true hve
    subst hve
    clear hV hD hge
    go_wp2_with fail
    refine (HS1.out.retain HZ.out.2.2.1 HZ.out.2.1 HZ.out.2.2.2).mono ?_
    rintro en w4 ⟨rfl, hs4⟩
    have HE := Lib.hid hs4.ends
    clear hs4 HS1 y0 y1
    go_wp2_with fail
    refine bodyPost_ret (results_tmp4 rfl _ _ _) rfl ?_
    obtain ⟨F', hal, hI⟩ := HE.out
    exact ⟨F', _, _, hal, hI, HQ.out⟩
  have HNE : Hid (getE l e.key ≠ some e) := fun q => by rw [q] at hV; exact hve hV.symm
  have d3 : decide (V = e.val) = false := decide_eq_false hve
  clear hV hD
  go_wp2_with fail
  refine HS1.out.free.mono ?_
  rintro en w6 ⟨rfl, hs6⟩
  have HS6 := Lib.hid hs6
  clear hs6 HS1 y0 y1
  go_wp2_with fail
  refine (HS6.out.sz (by have := HRD.out; have := HR1.out; omega) (by have := HRD.out; have := HR1.out; have := HB.out; omega) HZ.out.2.2.1 HZ.out.2.1 HV.out.ok).mono ?_
  rintro en w7 ⟨rfl, hs7⟩
  rw [HZ.out.1]
  obtain ⟨rd3, hrd3⟩ : ∃ r, (rd1 + if i = 0 then 0 else 1) = r := ⟨_, rfl⟩
  have HR3 : Hid (rd ≤ rd3 ∧ rd3 ≤ rd + mostI l.length + 1) := by
    have := HR1.out
    show rd ≤ rd3 ∧ rd3 ≤ rd + mostI l.length + 1
    rw [← hrd3]
    (repeat' split) <;> omega
  rw [hrd3] at hs7
  have HS7 := Lib.hid hs7
  clear hs7 hrd3 HS6
  go_wp2_with fail
  refine (rsInsert_any (l.length : Int) w7 (by have := HN.out; unfold in64; omega)).mono ?_
  rintro en w8 ⟨rfl, hb8⟩
  have HS8 := Lib.hid (HS7.out.calm hb8)
  clear hb8 HS7
  by_cases hfr : (A.σ.free.length : Int) < insI (l.length : Int)
  · have d9 : decide ((A.σ.free.length : Int) < insI (l.length : Int)) = true := decide_eq_true hfr
    have HQ : Hid (InsS A rd held i t l e (.returned (.tuple #[.int .u32 0, .int .i64 0, .bool false, .int .i64 2])) A rd3) := InsS.of HR3.out.1 (by have := HR3.out; have := HB.out; omega) (.inr (.inl ⟨HNE.out, hfr, rfl, rfl⟩))
    have HE := Lib.hid HS8.out.ends
    go_wp2_with fail
    refine bodyPost_ret (results_tmp4 rfl _ _ _) rfl ?_
    obtain ⟨F', hal, hI⟩ := HE.out
    exact ⟨F', A, rd3, hal, hI, HQ.out⟩
  have d9 : decide ((A.σ.free.length : Int) < insI (l.length : Int)) = false := decide_eq_false hfr
  have HFR : Hid (insI (l.length : Int) ≤ (A.σ.free.length : Int)) := by show _ ≤ _; omega
  go_upto_region 6 with fail
  have hsd := HS8.out.calm (Below.refl _ _).drew
  clear HS8
  refine anyG_begin (S := (fun w' => w'.cell? ⟨ge, 0, none⟩ = some (.int .i64 e.key) ∧ w'.cell? ⟨ge, 1, none⟩ = some (.int .i64 e.val))) (z := 9999) (by kernel_rfl) (HCE.out hsd) (fun hHeld => ?_)
  refine anyG_take (k := 0) (o := _) (v := ?_) (some 42) rfl (by kernel_rfl) (by kernel_rfl) (by kernel_rfl) (by kernel_rfl) (fun _ _ _ h => h) (Or.inl ⟨by rfl, ?_⟩) (by assumption) (by kernel_rfl) ?_
  rotate_left
  · intro w hSw; (try dsimp only at hSw); go_simp; try with_reducible rfl
  (try simp only [Act.put, List.setIfInBounds_toArray, List.set_cons_zero, List.set_cons_succ])
  refine anyG_take (k := 1) (o := _) (v := ?_) (some 43) rfl (by kernel_rfl) (by kernel_rfl) (by kernel_rfl) (by kernel_rfl) (fun _ _ _ h => h) (Or.inl ⟨by rfl, ?_⟩) (by assumption) (by kernel_rfl) ?_
  rotate_left
  · intro w hSw; (try dsimp only at hSw); go_simp; try with_reducible rfl
  (try simp only [Act.put, List.setIfInBounds_toArray, List.set_cons_zero, List.set_cons_succ])
  refine anyG_take (k := 2) (o := _) (v := ?_) (some 44) rfl (by kernel_rfl) (by kernel_rfl) (by kernel_rfl) (by kernel_rfl) (fun _ _ _ h => h) (Or.inl ⟨by rfl, ?_⟩) (by assumption) (by kernel_rfl) ?_
  rotate_left
  · intro w hSw; (try dsimp only at hSw); go_simp; try with_reducible rfl
  (try simp only [Act.put, List.setIfInBounds_toArray, List.set_cons_zero, List.set_cons_succ])
  refine anyG_take (k := 3) (o := _) (v := ?_) (some 45) rfl (by kernel_rfl) (by kernel_rfl) (by kernel_rfl) (by kernel_rfl) (fun _ _ _ h => h) (Or.inl ⟨by rfl, ?_⟩) (by assumption) (by kernel_rfl) ?_
  rotate_left
  · intro w hSw; (try dsimp only at hSw); go_simp; try with_reducible rfl
  (try simp only [Act.put, List.setIfInBounds_toArray, List.set_cons_zero, List.set_cons_succ])
  refine anyG_take (k := 4) (o := _) (v := ?_) (some 46) rfl (by kernel_rfl) (by kernel_rfl) (by kernel_rfl) (by kernel_rfl) (fun _ _ _ h => h) (Or.inl ⟨by rfl, ?_⟩) (by assumption) (by kernel_rfl) ?_
  rotate_left
  · intro w hSw; (try dsimp only at hSw); go_simp; try with_reducible rfl
  (try simp only [Act.put, List.setIfInBounds_toArray, List.set_cons_zero, List.set_cons_succ])
  refine anyG_take (k := 6) (o := _) (v := ?_) (some 48) rfl (by kernel_rfl) (by kernel_rfl) (by kernel_rfl) (by kernel_rfl) (fun _ _ _ h => h) (Or.inl ⟨by rfl, ?_⟩) (by assumption) (by kernel_rfl) ?_
  rotate_left
  · intro w hSw; (try dsimp only at hSw); go_simp; try with_reducible rfl
  (try simp only [Act.put, List.setIfInBounds_toArray, List.set_cons_zero, List.set_cons_succ])
  refine anyG_one (k := 5) (o := _) (by kernel_rfl) rfl (fun KT hKT => ?_)
  go_simp
  go_at_call 54
  refine (hsd.path (P := P) fun F1 hI1 => (by have h := (lkImpl I).path e.key _ hI1 HT.out (by have := HRD.out; have := HR3.out; omega) (by have := HRD.out; have := HR3.out; have := HB.out; omega) HW.out.2.1.1; rw [HPP.out] at h; exact h)).mono ?_
  rintro eA wA ⟨rdA, aa, ac, rfl, hsA, a1, a2⟩
  try go_wp2_with fail
  refine hKT.out _ _ (HCE.out hsA) (fun hHeld => ?_)
  clear hKT KT
  (try simp only [Act.put, List.setIfInBounds_toArray, List.set_cons_zero, List.set_cons_succ])
  refine anyG_one (k := 7) (o := _) (by kernel_rfl) rfl (fun KT hKT => ?_)
  go_simp
  go_at_call 53
  refine (hsA.mutO fun F1 hI1 hF1 => put_all I (rotImpl I) numJ t e _ ⟨hI1, HV.out, HT.out.agg, fun j => Nat.le_trans (HM.out j) (by decide), HT.out.at_, HT.out.up, HW.out.1, HW.out.2.1, by have := HN.out; omega, by have := HRD.out; have := HR3.out; omega, by have := HRD.out; have := HR3.out; have := HB.out; omega, by have := HFR.out; have := HB.out; omega, by rw [HPP.out]; exact PathAt.ofRow (hsA.rows _ (List.Mem.head _)) fun g hg => hF1 g (.inr (.inl ⟨_, List.Mem.head _, hg⟩)), by rw [HPP.out]⟩).mono ?_
  rintro eB wB ⟨B, rdB, ⟨q0, q1, j, u, rfl, q2, q3, q4⟩, hsB⟩
  try go_wp2_with fail
  refine hKT.out _ _ (HCE.out hsB) (fun hHeld => ?_)
  clear hKT KT
  (try simp only [Act.put, List.setIfInBounds_toArray, List.set_cons_zero, List.set_cons_succ])
  refine anyG_take (k := 8) (o := _) (v := ?_) (some 41) rfl (by kernel_rfl) (by kernel_rfl) (by kernel_rfl) (by kernel_rfl) (fun _ _ _ h => h) (Or.inl ⟨by rfl, ?_⟩) (by assumption) (by kernel_rfl) ?_
  rotate_left
  · intro w hSw; (try dsimp only at hSw); go_simp; try with_reducible rfl
  (try simp only [Act.put, List.setIfInBounds_toArray, List.set_cons_zero, List.set_cons_succ])
  refine anyG_take (k := 9) (o := _) (v := ?_) (some 50) rfl (by kernel_rfl) (by kernel_rfl) (by kernel_rfl) (by kernel_rfl) (fun _ _ _ h => h) (Or.inl ⟨by rfl, ?_⟩) (by assumption) (by kernel_rfl) ?_
  rotate_left
  · intro w hSw; (try dsimp only at hSw); go_simp; try with_reducible rfl
  (try simp only [Act.put, List.setIfInBounds_toArray, List.set_cons_zero, List.set_cons_succ])
  refine anyG_take (k := 10) (o := _) (v := ?_) (some 51) rfl (by kernel_rfl) (by kernel_rfl) (by kernel_rfl) (by kernel_rfl) (fun _ _ _ h => h) (Or.inl ⟨by rfl, ?_⟩) (by assumption) (by kernel_rfl) ?_
  rotate_left
  · intro w hSw; (try dsimp only at hSw); go_simp; try with_reducible rfl
  (try simp only [Act.put, List.setIfInBounds_toArray, List.set_cons_zero, List.set_cons_succ])
  refine anyG_take (k := 11) (o := _) (v := ?_) (some 12) rfl (by kernel_rfl) (by kernel_rfl) (by kernel_rfl) (by kernel_rfl) (fun _ _ _ h => h) (Or.inl ⟨by rfl, ?_⟩) (by assumption) (by kernel_rfl) ?_
  rotate_left
  · intro w hSw; (try dsimp only at hSw); go_simp; try with_reducible rfl
  (try simp only [Act.put, List.setIfInBounds_toArray, List.set_cons_zero, List.set_cons_succ])
  refine anyG_take (k := 12) (o := _) (v := ?_) (some 13) rfl (by kernel_rfl) (by kernel_rfl) (by kernel_rfl) (by kernel_rfl) (fun _ _ _ h => h) (Or.inl ⟨by rfl, ?_⟩) (by assumption) (by kernel_rfl) ?_
  rotate_left
  · intro w hSw; (try dsimp only at hSw); go_simp; try with_reducible rfl
  (try simp only [Act.put, List.setIfInBounds_toArray, List.set_cons_zero, List.set_cons_succ])
  refine anyG_done (by kernel_rfl) ?_ _
  have HSB := Lib.hid hsB.ends
  have HQ : Hid (InsS A rd held i t l e (.returned (.tuple #[.int .u32 (j : Int), .int .i64 V, .bool true, .int .i64 0])) B rdB) :=
    InsS.of (by have := HR3.out; omega) (by have := HR3.out; have := HB.out; omega) (.inr (.inr ⟨HNE.out, HFR.out, j, u, by rw [HVD.out.1, HVD.out.2], q2.got q3, by have := HB.out; omega, kept_free HV.out.ok q2.inv.ok q2.kept⟩))
  clear hsB hsA hsd hHeld HCE q0 q1 q2 q3 q4 a1 a2
  go_wp2_with fail
  refine bodyPost_ret (results_tmp4 rfl _ _ _) rfl ?_
  obtain ⟨F', hal, hI⟩ := HSB.out
  exact ⟨F', _, _, hal, hI, HQ.out⟩
theorem insertP_any (I : AImpl) {p : Value} {A : Ar} {rd : Int} {F : Nat → Prop} {held : Nat → Nat} {i : Nat} {t : Tr} {l : List En} (e : En) (w : World) (hI : I.Is w p A rd F) (hv : A.Inv [] held) (hm : ∀ j, held j ≤ 1048000) (hT : TreeAt A i t l) (hwl : WfL l) (h0 : 0 ≤ rd) (h1 : rd ≤ 1099510000000) (hk : i64R e.key) (hx : i64R e.val) :
    Calls Tryz.prog 17 #[p, .int .u32 (i : Int), .agg #[.int .i64 e.key, .int .i64 e.val]] w (Mut I p F (InsQ A rd held i t l e) w) :=
  (insertS_any I e w hI hv hm hT hwl h0 (by omega) hk hx).mono fun en w' ⟨F', B, rd', q1, q2, q3⟩ => ⟨F', B, rd', q1, q2, q3.1⟩
set_option maxHeartbeats 32000000 in
set_option maxRecDepth 100000 in
theorem deleteP_any (I : AImpl) {p : Value} {A : Ar} {rd : Int} {F : Nat → Prop} {held : Nat → Nat} {i : Nat} {t : Tr} {l : List En} (k : Int) (w : World) (hI : I.Is w p A rd F) (hv : A.Inv [] held) (hm : ∀ j, held j ≤ 1048000) (hT : TreeAt A i t l) (hwl : WfL l) (h0 : 0 ≤ rd) (h1 : rd ≤ 1099510000000) (hk : i64R k) :
    Calls Tryz.prog 27 #[p, .int .u32 (i : Int), .int .i64 k] w (Mut I p F (DelQ A rd held l k) w) := by
  obtain ⟨pa, rfl⟩ := I.ptr hI
  have HS0 := Lib.hid (Ins.start hI)
  have HV := Lib.hid hv
  have HM := Lib.hid hm
  have HT := Lib.hid hT
  have HW : Hid (WfL l ∧ i64R k) := ⟨hwl, hk⟩
  have HRD : Hid (0 ≤ rd ∧ rd ≤ 1099510000000) := ⟨h0, h1⟩
  have hn := hT.few
  have HN : Hid (l.length ≤ 65536) := hn
  have HB : Hid (mostI l.length = 4 * ((xh l.length : Int) + 2) ∧ xh l.length ≤ xh (l.length + 1) ∧ (xh l.length : Int) < 80 ∧ delI (l.length : Int) = 4 * ((xh l.length : Int) + 2) ∧ updBd l.length = 60 * ((xh (l.length + 1) : Int) + 2)) := by
    have h2 := (xh_spec (n := l.length) (by omega)).2.1
    have h3 := xh_up (m := l.length) (n := l.length + 1) (by omega) (by omega)
    exact ⟨rfl, h3, by omega, delJ hn, rfl⟩
  have HZ : Hid (A.sz i = (l.length : Int) ∧ A.Idx i ∧ i < 4294967296) := ⟨hT.at_.sz hT.agg, hT.idx', hT.idx⟩
  obtain ⟨P, hP⟩ : ∃ P, pathT A.nd k t = P := ⟨_, rfl⟩
  have HPP := Lib.hid hP
  clear hI hv hm hT hwl h0 h1 hk hn hP
  go_enter Tryz.func27, Tryz.ntmps27
  go_wp2_with fail
  refine (HS0.out.call fun F1 hI1 => (lkImpl I).get k w hI1 HT.out HRD.out.1 (by have := HRD.out; omega) HW.out.2).mono ?_
  rintro en w2 ⟨rfl, rd1, hs, r1, r2⟩
  have HR1 : Hid (rd ≤ rd1 ∧ rd1 ≤ rd + mostI l.length) := ⟨r1, r2⟩
  have HS1 := Lib.hid hs
  clear hs HS0 r1 r2
  obtain ⟨V, hV⟩ : ∃ V, (getE l k).elim (0 : Int) (·.val) = V := ⟨_, rfl⟩
  obtain ⟨D, hD⟩ : ∃ D, (getE l k).isSome = D := ⟨_, rfl⟩
  rw [hV, hD]
  cases D
  · have HQ : Hid (DelQ A rd held l k (.returned (.tuple #[.int .u32 0, .int .i64 0, .int .i64 4])) A rd1) :=
      ⟨HR1.out.1, by have := HR1.out; have := HB.out; omega, .inl ⟨by rw [← Option.not_isSome_iff_eq_none, hD]; simp, rfl, rfl⟩⟩
    have HE := Lib.hid HS1.out.ends
    clear hV hD
    go_wp2_with fail
    go_ret3
    obtain ⟨F', hal, hI⟩ := HE.out
    exact ⟨F', A, rd1, hal, hI, HQ.out⟩
  have HVD : Hid ((getE l k).elim (0 : Int) (·.val) = V ∧ getE l k ≠ none) := ⟨hV, fun q => by rw [q] at hD; cases hD⟩
  clear hV hD
  go_wp2_with fail
  refine HS1.out.free.mono ?_
  rintro en w6 ⟨rfl, hs6⟩
  have HS6 := Lib.hid hs6
  clear hs6 HS1
  go_wp2_with fail
  refine (HS6.out.sz (by have := HRD.out; have := HR1.out; omega) (by have := HRD.out; have := HR1.out; have := HB.out; omega) HZ.out.2.2 HZ.out.2.1 HV.out.ok).mono ?_
  rintro en w7 ⟨rfl, hs7⟩
  rw [HZ.out.1]
  obtain ⟨rd3, hrd3⟩ : ∃ r, (rd1 + if i = 0 then 0 else 1) = r := ⟨_, rfl⟩
  have HR3 : Hid (rd ≤ rd3 ∧ rd3 ≤ rd + mostI l.length + 1) := by
    have := HR1.out
    show rd ≤ rd3 ∧ rd3 ≤ rd + mostI l.length + 1
    rw [← hrd3]
    (repeat' split) <;> omega
  rw [hrd3] at hs7
  have HS7 := Lib.hid hs7
  clear hs7 hrd3 HS6
  go_wp2_with fail
  refine (rsDelete_any (l.length : Int) w7 (by have := HN.out; unfold in64; omega)).mono ?_
  rintro en w8 ⟨rfl, hb8⟩
  have HS8 := Lib.hid (HS7.out.calm hb8)
  clear hb8 HS7
  by_cases hfr : (A.σ.free.length : Int) < delI (l.length : Int)
  · have d9 : decide ((A.σ.free.length : Int) < delI (l.length : Int)) = true := decide_eq_true hfr
    have HQ : Hid (DelQ A rd held l k (.returned (.tuple #[.int .u32 0, .int .i64 0, .int .i64 2])) A rd3) := ⟨HR3.out.1, by have := HR3.out; have := HB.out; omega, .inr (.inl ⟨HVD.out.2, hfr, rfl, rfl⟩)⟩
    have HE := Lib.hid HS8.out.ends
    go_wp2_with fail
    go_ret3
    obtain ⟨F', hal, hI⟩ := HE.out
    exact ⟨F', A, rd3, hal, hI, HQ.out⟩
  have d9 : decide ((A.σ.free.length : Int) < delI (l.length : Int)) = false := decide_eq_false hfr
  have HFR : Hid (delI (l.length : Int) ≤ (A.σ.free.length : Int)) := by show _ ≤ _; omega
  go_wp2_with fail
  refine (HS8.out.path (P := P) fun F1 hI1 => (by have h := (lkImpl I).path k w8 hI1 HT.out (by have := HRD.out; have := HR3.out; omega) (by have := HRD.out; have := HR3.out; have := HB.out; omega) HW.out.2; rw [HPP.out] at h; exact h)).mono ?_
  rintro eA wA ⟨rdA, aa, ac, rfl, hsA, a1, a2⟩
  have HSA := Lib.hid hsA
  have HRA : Hid (rd3 ≤ rdA ∧ rdA ≤ rd3 + mostI l.length) := ⟨a1, a2⟩
  clear hsA a1 a2 HS8
  go_wp2_with fail
  refine (HSA.out.mutO fun F1 hI1 hF1 => rem_all I (rotImpl I) numJ t k wA ⟨hI1, HV.out, HT.out.agg, HM.out, HT.out.at_, HT.out.up, HW.out.1, HVD.out.2, HN.out, by have := HRD.out; have := HR3.out; have := HRA.out; omega, by have := HRD.out; have := HR3.out; have := HRA.out; have := HB.out; omega, by have := HFR.out; have := HB.out; omega, by rw [HPP.out]; exact PathAt.ofRow (HSA.out.rows _ (List.Mem.head _)) fun g hg => hF1 g (.inr (.inl ⟨_, List.Mem.head _, hg⟩)), by rw [HPP.out]⟩).mono ?_
  rintro eB wB ⟨B, rdB, ⟨q0, q1, j, u, rfl, q2, q3, q4⟩, hsB⟩
  have HE := Lib.hid hsB.ends
  have HQ : Hid (DelQ A rd held l k (.returned (.tuple #[.int .u32 (j : Int), .int .i64 V, .int .i64 0])) B rdB) :=
    ⟨by have := HR3.out; have := HRA.out; omega, by have := HR3.out; have := HRA.out; have := HB.out; omega, .inr (.inr ⟨HVD.out.2, HFR.out, j, u, by rw [HVD.out.1], q2.got q3, by have := HB.out; omega, kept_free HV.out.ok q2.inv.ok q2.kept⟩)⟩
  clear hsB HSA q0 q1 q2 q3 q4
  go_wp2_with fail
  go_ret3
  obtain ⟨F', hal, hI⟩ := HE.out
  exact ⟨F', _, _, hal, hI, HQ.out⟩
theorem updImpl (I : AImpl) : UpdImpl I where
  insert := fun e w hI hv hm hT hwl h0 h1 hk hx => insertP_any I e w hI hv hm hT hwl h0 h1 hk hx
  delete := fun k w hI hv hm hT hwl h0 h1 hk => deleteP_any I k w hI hv hm hT hwl h0 h1 hk
end Go.Proofs.YtckkmmdibgoajaaGreat
