/- The program's arena: Make. -/
import Derived.Test.YticfihklfnjeoaaArOk4
import Derived.Test.YticfihklfnjeoaaPlayPure
set_option linter.unusedVariables false
namespace Go.Proofs.Yticfihklfnjeoaa
open Go.RowKit
/-- slot i is taken, with a node and one reference -/
def Ar.took (A : Ar) (i : Nat) (t : List Nat) (x : Nd) : Ar := ⟨A.σ.take i t, fun j => if j = i then x else A.nd j, fun j => if j = i then 1 else A.cnt j⟩
theorem cels_patch (A A' : Ar) {j : Nat} (hc : A'.σ.cap = A.σ.cap) (hj : j < A.σ.cap) (hn : ∀ i, i ≠ j + 1 → A'.nd i = A.nd i) (hcn : ∀ i, i ≠ j + 1 → A'.cnt i = A.cnt i) : patch (celsV A) (j * 9) (celV A' (j + 1)) = celsV A' := by
  refine cels_ext (by rw [patch_len, cels_len, hc]) fun i k hi hk => ?_
  rw [hc] at hi
  rw [patch_at, cel_len, cels_len]
  by_cases e : i = j
  · subst e
    rw [if_pos (by omega), show i * 9 + k - i * 9 = k by omega]
  · rw [if_neg (by omega), cels_at A hi hk]
    unfold celV
    rw [hn (i + 1) (by omega), hcn (i + 1) (by omega)]
theorem ret_σ (A : Ar) (l : Nat) : (A.ret l).σ = A.σ := by unfold Ar.ret; split <;> rfl
theorem ret_nd (A : Ar) (l : Nat) : (A.ret l).nd = A.nd := by unfold Ar.ret; split <;> rfl
theorem ret_cnt (A : Ar) (l m : Nat) : (A.ret l).cnt m = A.cnt m + (if l ≠ 0 ∧ m = l then 1 else 0) := by
  unfold Ar.ret Ar.inc
  by_cases h : l = 0
  · subst h; simp
  · rw [if_neg h]
    show (if m = l then A.cnt l + 1 else A.cnt m) = _
    by_cases e : m = l
    · subst e; simp [h]
    · simp [e]
theorem ar_ext {A B : Ar} (h1 : A.σ = B.σ) (h2 : A.nd = B.nd) (h3 : ∀ m, A.cnt m = B.cnt m) : A = B := by
  cases A; cases B
  have h4 := funext h3
  simp only at h1 h2 h4
  subst h1 h2 h4
  rfl
theorem made_took (A : Ar) {i l r : Nat} (t : List Nat) (key val : Int) (hl : l ≠ i) (hr : r ≠ i) (hi : i ≠ 0) : ((A.took i t (A.node key val l r)).ret l).ret r = A.made i t (A.node key val l r) := by
  refine ar_ext (by rw [ret_σ, ret_σ]; rfl) (by rw [ret_nd, ret_nd]; rfl) fun m => ?_
  rw [ret_cnt, ret_cnt]
  show (if m = i then (1 : Int) else A.cnt m) + _ + _ = if m = i then 1 else if m = 0 then A.cnt 0 else A.cnt m + (hit l m : Int) + (hit r m : Int)
  unfold hit
  by_cases e : m = i
  · subst e
    rw [if_pos rfl, if_pos rfl, if_neg (fun h => hl h.2.symm), if_neg (fun h => hr h.2.symm)]; rfl
  · rw [if_neg e, if_neg e]
    by_cases e0 : m = 0
    · subst e0
      rw [if_pos rfl, if_neg (fun h => h.1 h.2.symm), if_neg (fun h => h.1 h.2.symm)]; omega
    · rw [if_neg e0]
      have k1 : (if l ≠ 0 ∧ m = l then (1 : Int) else 0) = ((if l = m then 1 else 0 : Nat) : Int) := by
        by_cases e1 : l = m
        · subst e1; simp [e0]
        · simp [e1]; exact fun _ h => e1 h.symm
      have k2 : (if r ≠ 0 ∧ m = r then (1 : Int) else 0) = ((if r = m then 1 else 0 : Nat) : Int) := by
        by_cases e1 : r = m
        · subst e1; simp [e0]
        · simp [e1]; exact fun _ h => e1 h.symm
      rw [k1, k2]
theorem cnt_le {A : Ar} {held : Nat → Nat} (h : A.Inv [] held) (hm : ∀ j, held j ≤ 1048576) {i : Nat} (hi : A.σ.on i = true) : 1 ≤ A.cnt i ∧ A.cnt i ≤ 1179648 := by
  have h1 := h.cnt i hi
  have h2 := refs_le A i
  have h3 := hm i
  have h4 := h.ok.cap2
  have h5 := h.pos i hi
  simp at h1
  omega
theorem sets9 (w : World) (g o : Nat) (v0 v1 v2 v3 v4 v5 v6 v7 v8 : Value) : ((((((((w.setCell ⟨g, o, none⟩ v0).setCell ⟨g, o + 1, none⟩ v1).setCell ⟨g, o + 2, none⟩ v2).setCell ⟨g, o + 3, none⟩ v3).setCell ⟨g, o + 4, none⟩ v4).setCell ⟨g, o + 5, none⟩ v5).setCell ⟨g, o + 6, none⟩ v6).setCell ⟨g, o + 7, none⟩ v7).setCell ⟨g, o + 8, none⟩ v8 = w.setCells g o [v0, v1, v2, v3, v4, v5, v6, v7, v8] := rfl
section
variable {I : Impl} {w w' : World} {ab : Nat} {sp : Addr} {A A' : Ar} {rd : Int} {ca : Option Addr} {cc g : Nat} {Fs Fs' : Nat → Prop}
def ARef (I : Impl) (w : World) (ab : Nat) (sp : Addr) (A : Ar) (rd : Int) (g cc : Nat) (Fs : Nat → Prop) (e : Ending) (w' : World) : Prop :=
  (∃ v, e = .returned v) ∧ LieA I w' ab sp A rd (some ⟨g, 0, none⟩) cc Fs ∧ Alters (FootA ab (some ⟨g, 0, none⟩) Fs) (FootA ab (some ⟨g, 0, none⟩) Fs) w w'
theorem a_addRefI (h : LieA I w ab sp A rd (some ⟨g, 0, none⟩) cc Fs) (i : Nat) (hi : A.Idx i) (hc : A.σ.on i = true → A.cnt i < 4611686018427387904) :
    Calls Try.prog 54 #[.pointer (some ⟨ab, 0, none⟩), .int .u32 (i : Int)] w (ARef I w ab sp (A.ret i) rd g cc Fs) := by
  by_cases h0 : i = 0
  · subst h0
    have ho : A.σ.on 0 = false := by
      cases hq : A.σ.on 0 with
      | false => rfl
      | true => have := h.ok.on 0 hq; omega
    refine (a_addRef_off h 0 (by omega) ho).mono fun e w1 ⟨h1, hb⟩ => ⟨h1, ?_, .of_below hb⟩
    unfold Ar.ret
    rw [if_pos rfl]
    exact h.below hb
  · have hon : A.σ.on i = true := by rcases hi with e | e; exact absurd e h0; exact e
    have hle := h.ok.on i hon
    obtain ⟨j, rfl⟩ : ∃ j, i = j + 1 := ⟨i - 1, by omega⟩
    refine (a_addRef h j hon (hc hon)).mono fun e w1 ⟨h1, h2, h3⟩ => ⟨h1, ?_, h3⟩
    unfold Ar.ret
    rw [if_neg h0]
    exact h2
def AMake (I : Impl) (w : World) (ab : Nat) (sp : Addr) (A : Ar) (rd : Int) (g cc : Nat) (Fs : Nat → Prop) (key val : Int) (l r : Nat) (e : Ending) (w' : World) : Prop :=
  ∃ Fs', Alters (FootA ab (some ⟨g, 0, none⟩) Fs) (FootA ab (some ⟨g, 0, none⟩) Fs') w w' ∧
    (¬ (A.Idx l ∧ A.Idx r ∧ (A.node key val l r).size ≤ 2147483647) → e = .returned (.tuple #[.int .u32 0, .int .i64 1]) ∧ LieA I w' ab sp A rd (some ⟨g, 0, none⟩) cc Fs') ∧
    (A.Idx l ∧ A.Idx r ∧ (A.node key val l r).size ≤ 2147483647 → A.σ.free = [] → e = .returned (.tuple #[.int .u32 0, .int .i64 2]) ∧ LieA I w' ab sp A rd (some ⟨g, 0, none⟩) cc Fs') ∧
    (A.Idx l ∧ A.Idx r ∧ (A.node key val l r).size ≤ 2147483647 → ∀ i t, A.σ.free = i :: t → e = .returned (.tuple #[.int .u32 (i : Int), .int .i64 0]) ∧ LieA I w' ab sp (A.made i t (A.node key val l r)) rd (some ⟨g, 0, none⟩) cc Fs')
set_option maxHeartbeats 4000000 in
set_option maxRecDepth 100000 in
theorem a_make (h : LieA I w ab sp A rd (some ⟨g, 0, none⟩) cc Fs) (ha : A.Agg) (key val : Int) (l r : Nat) (hl : l < 4294967296) (hr : r < 4294967296) (hv1 : -9223372036854775808 ≤ val) (hv2 : val ≤ 9223372036854775807) (hcnt : ∀ i, A.σ.on i = true → 1 ≤ A.cnt i ∧ A.cnt i ≤ 1179648) :
    Calls Try.prog 34 #[.pointer (some ⟨ab, 0, none⟩), .int .i64 key, .int .i64 val, .int .u32 (l : Int), .int .u32 (r : Int)] w (AMake I w ab sp A rd g cc Fs key val l r) := by
  have HASM := Lib.hid (a_assemble h ha key val l r hl hr hv1 hv2)
  have HH := Lib.hid h
  have HCNT := Lib.hid hcnt
  clear h ha hcnt
  go_enter Try.func34, Try.ntmps34
  go_wp2_with fail
  refine HASM.out.mono ?_
  rintro e w1 ⟨hor, hb1⟩
  have HB1 := Lib.hid hb1
  have H1 := Lib.hid (HH.out.below hb1)
  clear HASM hb1
  rcases hor with ⟨hok, rfl⟩ | ⟨hno, rfl⟩
  · have HOK := Lib.hid hok
    clear hok
    have hal2 := below_al w1 (Obj.cells (nodA (A.node key val l r)) 47)
    have hx2 := heap_alloc_new w1 (Obj.cells (nodA (A.node key val l r)) 47)
    have H2 := Lib.hid (H1.out.below hal2)
    have HB2 := Lib.hid (trans_of' HB1.out hal2)
    have HX2 := Lib.hid hx2
    have HF1 : Hid (∀ k, Fs k → k < w1.heap.size) := I.dom H1.out.slots
    have HG1 : Hid (g < w1.heap.size) := H1.out.raw.glt
    clear hal2 hx2
    unfold nodA
    go_upto_region 4 with fail
    unfold nodA at HX2 H2 HB2
    generalize w1.alloc _ = w2 at HX2 H2 HB2 ⊢
    obtain ⟨p, hp⟩ : ∃ p, w1.heap.size = p := ⟨_, rfl⟩
    rw [hp] at HX2 HF1 HG1 ⊢
    clear hp
    obtain ⟨c0, c1, c2⟩ := H2.out.cells
    go_wp2_with fail
    refine (I.alloc _ _ _ _ H2.out.slots).mono ?_
    rintro e w3 ⟨Fs', ha3, hfull, htake⟩
    have HX3 := Lib.hid ((ha3.block p (Array.getElem?_eq_some_iff.1 HX2.out).1 (fun hf => by have := HF1.out p hf; omega)).trans HX2.out)
    clear c0 c1 c2
    rcases (show A.σ.free = [] ∨ ∃ i t, A.σ.free = i :: t by cases A.σ.free with | nil => exact .inl rfl | cons i t => exact .inr ⟨i, t, rfl⟩) with hf | ⟨i, t, hf⟩
    · obtain ⟨rfl, h3⟩ := hfull hf
      obtain ⟨h4, ha4⟩ := H2.out.raw.step ha3 h3 rfl
      have H4 := Lib.hid (h4.lie rfl rfl H2.out.off H2.out.fit)
      have HA4 := Lib.hid ((Alters.of_below HB2.out).trans ha4)
      have HF := Lib.hid hf
      clear hfull htake ha3 h3 h4 ha4 hf
      go_wp2_with fail
      go_ret2
      exact ⟨Fs', HA4.out, fun h => absurd HOK.out h, fun _ _ => ⟨rfl, H4.out⟩, fun _ i t h => by rw [HF.out] at h; cases h⟩
    · obtain ⟨rfl, h3⟩ := htake i t hf
      have him := (H2.out.ok.free i).1 (by rw [hf]; simp)
      have hcap := H2.out.ok.cap2
      obtain ⟨j, rfl⟩ : ∃ j, i = j + 1 := ⟨i - 1, by omega⟩
      obtain ⟨h4, ha4⟩ := H2.out.raw.step ha3 h3 rfl
      have H4 := Lib.hid h4
      have HA4 := Lib.hid ((Alters.of_below HB2.out).trans ha4)
      have HF := Lib.hid hf
      have HIM := Lib.hid him
      have hji : (j : Int) < (A.σ.cap : Int) := by omega
      have hj0 : (0 : Int) ≤ (j : Int) := by omega
      have hj4 : (j : Int) + 1 < 4294967296 := by omega
      have hjc : j < A.σ.cap := by omega
      have hce : (A.σ.take (j + 1) t).cap = A.σ.cap := rfl
      obtain ⟨c0, c1, c2⟩ := h4.cells
      rw [hce] at c1
      obtain ⟨x0, x1, x2, x3, x4, x5, x6, x7⟩ := row8v (x := A.node key val l r) HX3.out
      have hn1 : ¬ g = p := by have := HG1.out; omega
      have hn2 : ¬ p = g := by have := HG1.out; omega
      have hcel : ∀ k, k < 9 → ∃ v, w3.cell? ⟨g, j * 9 + k, none⟩ = some v := fun k hk => by
        rw [h4.cels.cellAt (j * 9 + k) (by rw [hce]; omega), List.getElem?_eq_getElem (by rw [cels_len]; omega)]
        exact ⟨_, rfl⟩
      obtain ⟨u0, k0⟩ := hcel 0 (by decide)
      obtain ⟨u1, k1⟩ := hcel 1 (by decide)
      obtain ⟨u2, k2⟩ := hcel 2 (by decide)
      obtain ⟨u3, k3⟩ := hcel 3 (by decide)
      obtain ⟨u4, k4⟩ := hcel 4 (by decide)
      obtain ⟨u5, k5⟩ := hcel 5 (by decide)
      obtain ⟨u6, k6⟩ := hcel 6 (by decide)
      obtain ⟨u7, k7⟩ := hcel 7 (by decide)
      obtain ⟨u8, k8⟩ := hcel 8 (by decide)
      rw [Nat.add_zero] at k0
      have f0 := h4.cels.frozenAt (j * 9)
      have f1 := h4.cels.frozenAt (j * 9 + 1)
      have f2 := h4.cels.frozenAt (j * 9 + 2)
      have f3 := h4.cels.frozenAt (j * 9 + 3)
      have f4 := h4.cels.frozenAt (j * 9 + 4)
      have f5 := h4.cels.frozenAt (j * 9 + 5)
      have f6 := h4.cels.frozenAt (j * 9 + 6)
      have f7 := h4.cels.frozenAt (j * 9 + 7)
      have f8 := h4.cels.frozenAt (j * 9 + 8)
      clear hfull htake ha3 h3 h4 ha4 hf him hcap hcel hce hjc
      go_upto_region 7 with fail
      go_region
      rw [sets9]
      have hne : ∀ y, A.Idx y → y ≠ j + 1 := fun y hy e => by
        rcases hy with hy | hy
        · omega
        · rw [e, HIM.out.2.2] at hy; cases hy
      obtain ⟨h5, ha5⟩ := RawA.sets (ndV (A.node key val l r) ++ [.int .i64 1]) (j * 9) H4.out
      have hcv : celV (A.took (j + 1) t (A.node key val l r)) (j + 1) = ndV (A.node key val l r) ++ [.int .i64 1] := by
        unfold celV Ar.took
        show ndV (if j + 1 = j + 1 then _ else _) ++ [Value.int IntKind.i64 (if j + 1 = j + 1 then _ else _)] = _
        rw [if_pos rfl, if_pos rfl]
      have h6 := h5.lie (A := A.took (j + 1) t (A.node key val l r)) rfl (by
        rw [← hcv]
        exact cels_patch A _ rfl (by have := HIM.out; omega) (fun i hi => if_neg hi) (fun i hi => if_neg hi)) (fun i hi => by
          have hi' : (A.σ.take (j + 1) t).on i = false := hi
          have hne2 : i ≠ j + 1 := fun e => by rw [e, take_same] at hi'; cases hi'
          rw [take_other _ _ hne2] at hi'
          show (if i = j + 1 then (1 : Int) else A.cnt i) = 0 ∧ (if i = j + 1 then _ else A.nd i) = _
          rw [if_neg hne2, if_neg hne2]
          exact H2.out.off i hi') (fun i => by
          show 0 ≤ (if i = j + 1 then (1 : Int) else A.cnt i) ∧ (if i = j + 1 then (1 : Int) else A.cnt i) ≤ 9223372036854775807
          split
          · exact ⟨by decide, by decide⟩
          · exact H2.out.fit i)
      have hbd : Below (w3.setCells g (j * 9) (ndV (A.node key val l r) ++ [.int .i64 1])).heap.size (w3.setCells g (j * 9) (ndV (A.node key val l r) ++ [.int .i64 1])) (w3.setCells g (j * 9) (ndV (A.node key val l r) ++ [.int .i64 1])).drew := (Below.refl _ _).drew
      have H7 := Lib.hid (h6.below hbd)
      have HA7 := Lib.hid (HA4.out.trans (ha5.trans (.of_below hbd)))
      have HNE := Lib.hid hne
      have hid1 : ∀ y, A.Idx y → (A.took (j + 1) t (A.node key val l r)).Idx y := fun y hy => by
        rcases hy with e | e
        · exact .inl e
        · exact .inr (by show (A.σ.take (j + 1) t).on y = true; rw [take_other _ _ (HNE.out y (.inr e))]; exact e)
      have hbn1 : ∀ y, (A.took (j + 1) t (A.node key val l r)).σ.on y = true → 1 ≤ (A.took (j + 1) t (A.node key val l r)).cnt y ∧ (A.took (j + 1) t (A.node key val l r)).cnt y ≤ 1179648 := fun y hy => by
        show 1 ≤ (if y = j + 1 then (1 : Int) else A.cnt y) ∧ (if y = j + 1 then (1 : Int) else A.cnt y) ≤ 1179648
        split
        · exact ⟨Int.le_refl 1, by decide⟩
        · exact HCNT.out y (take_is hy (by assumption))
      have HID1 := Lib.hid hid1
      have HBN1 := Lib.hid hbn1
      rw [show [Value.int .i64 (A.node key val l r).key, .int .i64 (A.node key val l r).val, .int .u32 ((A.node key val l r).left : Int), .int .u32 ((A.node key val l r).right : Int), .int .i64 (A.node key val l r).size, .int .i64 (A.node key val l r).sum, .int .i64 (A.node key val l r).mn, .int .i64 (A.node key val l r).mx, .int .i64 1] = ndV (A.node key val l r) ++ [.int .i64 1] from rfl]
      clear h5 ha5 hcv h6 hbd hne hid1 hbn1 c0 c1 c2 x0 x1 x2 x3 x4 x5 x6 x7 k0 k1 k2 k3 k4 k5 k6 k7 k8 f0 f1 f2 f3 f4 f5 f6 f7 f8
      generalize (w3.setCells g (j * 9) (ndV (A.node key val l r) ++ [.int .i64 1])).drew = w5 at H7 HA7 ⊢
      go_wp2_with fail
      refine (a_addRefI H7.out l (HID1.out l HOK.out.1) (fun h => by have := HBN1.out l h; omega)).mono ?_
      rintro e w6 ⟨⟨v6, rfl⟩, h8, ha8⟩
      have H8 := Lib.hid h8
      have HA8 := Lib.hid (HA7.out.trans ha8)
      clear h8 ha8
      have hbn2 : ∀ y, ((A.took (j + 1) t (A.node key val l r)).ret l).σ.on y = true → 1 ≤ ((A.took (j + 1) t (A.node key val l r)).ret l).cnt y ∧ ((A.took (j + 1) t (A.node key val l r)).ret l).cnt y ≤ 1179649 := fun y hy => by
        rw [ret_σ] at hy
        have := HBN1.out y hy
        rw [ret_cnt]
        split <;> omega
      have HBN2 := Lib.hid hbn2
      clear hbn2
      go_wp2_with fail
      refine (a_addRefI H8.out r (by
        rcases HID1.out r HOK.out.2.1 with e | e
        · exact .inl e
        · exact .inr (by rw [ret_σ]; exact e)) (fun h => by have := HBN2.out r h; omega)).mono ?_
      rintro e w7 ⟨⟨v7, rfl⟩, h9, ha9⟩
      rw [made_took A t key val (HNE.out l HOK.out.1) (HNE.out r HOK.out.2.1) (by omega)] at h9
      have H9 := Lib.hid h9
      have HA9 := Lib.hid (HA8.out.trans ha9)
      clear h9 ha9
      go_wp2_with fail
      go_ret2
      refine ⟨Fs', HA9.out, fun h => absurd HOK.out h, fun _ h => (by rw [HF.out] at h; cases h), fun _ i' t' h => ?_⟩
      rw [HF.out] at h
      simp only [List.cons.injEq] at h
      obtain ⟨rfl, rfl⟩ := h
      exact ⟨rfl, H9.out⟩
  · have HNO := Lib.hid hno
    clear hno
    have hal2 := below_al w1 (Obj.cells (nodA Nd.zero) 47)
    have H2 := Lib.hid (H1.out.below hal2)
    have HB2 := Lib.hid (trans_of' HB1.out hal2)
    clear hal2
    unfold nodA
    go_wp2_with fail
    unfold nodA at H2 HB2
    go_ret2
    exact ⟨Fs, .of_below HB2.out, fun _ => ⟨rfl, H2.out⟩, fun h => absurd h HNO.out, fun h => absurd h HNO.out⟩
end
end Go.Proofs.Yticfihklfnjeoaa
