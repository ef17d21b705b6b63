/- The aggregates in a node are the summary of the entries below it; the program reads them. -/
import Derived.Test.YtbjmblfifnjafaaSmBox
set_option linter.unusedVariables false
set_option linter.unusedSimpArgs false
namespace Go.Proofs.Ytbjmblfifnjafaa
open Go.RowKit
theorem sumV_nil : sumV [] = 0 := by show wrap64 0 = 0; unfold wrap64; omega
theorem sumE_nil : sumE [] = .z := by unfold sumE; rw [sumV_nil]; rfl
theorem sumE_len (l : List En) : (sumE l).n = (l.length : Int) := rfl
theorem sumV_node (L : List En) (e : En) (R : List En) : sumV (L ++ e :: R) = wrap64 (wrap64 (e.val + sumV L) + sumV R) := by
  rw [show L ++ e :: R = (L ++ [e]) ++ R by simp, sumV_app, sumV_snoc, Int.add_comm e.val]
theorem mnV_cons (e : En) (R : List En) : mnV (e :: R) = if R = [] then e.val else min e.val (mnV R) := by
  by_cases h : R = []
  · subst h; rfl
  · rw [if_neg h, show e :: R = [e] ++ R from rfl, mnV_app (by simp) h]; rfl
theorem mxV_cons (e : En) (R : List En) : mxV (e :: R) = if R = [] then e.val else max e.val (mxV R) := by
  by_cases h : R = []
  · subst h; rfl
  · rw [if_neg h, show e :: R = [e] ++ R from rfl, mxV_app (by simp) h]; rfl
theorem mnV_node (L : List En) (e : En) (R : List En) : mnV (L ++ e :: R) = if R = [] then (if L = [] then e.val else min e.val (mnV L)) else min (if L = [] then e.val else min e.val (mnV L)) (mnV R) := by
  by_cases h : L = []
  · subst h; rw [if_pos rfl, List.nil_append, mnV_cons]
  · rw [mnV_app h (by simp), mnV_cons, if_neg h]; split <;> omega
theorem mxV_node (L : List En) (e : En) (R : List En) : mxV (L ++ e :: R) = if R = [] then (if L = [] then e.val else max e.val (mxV L)) else max (if L = [] then e.val else max e.val (mxV L)) (mxV R) := by
  by_cases h : L = []
  · subst h; rw [if_pos rfl, List.nil_append, mxV_cons]
  · rw [mxV_app h (by simp), mxV_cons, if_neg h]; split <;> omega
/-- the summary that a subtree's index shows -/
structure Shows (A : Ar) (i : Nat) (l : List En) : Prop where
  sz : A.sz i = (l.length : Int)
  sm : A.sm i = sumV l
  low : ∀ v, A.low v i = if l = [] then v else min v (mnV l)
  high : ∀ v, A.high v i = if l = [] then v else max v (mxV l)
def Nd.tot (x : Nd) : Sm := ⟨x.size, x.sum, x.mn, x.mx⟩
theorem sub_shows {A : Ar} (ha : A.Agg) {i : Nat} {u : Tr} (h : Sub A i u) : Shows A i (u.ents A.nd) ∧ (i ≠ 0 → (A.nd i).tot = sumE (u.ents A.nd)) := by
  induction h with
  | nil => exact ⟨⟨rfl, sumV_nil.symm, fun v => rfl, fun v => rfl⟩, fun h => absurd rfl h⟩
  | node i l r h0 hon hl hr ihl ihr =>
    obtain ⟨⟨l1, l2, l3, l4⟩, -⟩ := ihl
    obtain ⟨⟨r1, r2, r3, r4⟩, -⟩ := ihr
    have hn := ha.node i hon
    rw [Tr.ents_node]
    generalize l.ents A.nd = L at l1 l2 l3 l4 ⊢
    generalize r.ents A.nd = R at r1 r2 r3 r4 ⊢
    obtain ⟨key, hkey⟩ : ∃ x, (A.nd i).key = x := ⟨_, rfl⟩
    obtain ⟨val, hval⟩ : ∃ x, (A.nd i).val = x := ⟨_, rfl⟩
    obtain ⟨lf, hlf⟩ : ∃ x, (A.nd i).left = x := ⟨_, rfl⟩
    obtain ⟨rt, hrt⟩ : ∃ x, (A.nd i).right = x := ⟨_, rfl⟩
    rw [hkey, hval] at hn ⊢
    rw [hlf] at hn l1 l2 l3 l4
    rw [hrt] at hn r1 r2 r3 r4
    have hne : L ++ (⟨key, val⟩ : En) :: R ≠ [] := by simp
    have e1 : (A.nd i).size = ((L ++ (⟨key, val⟩ : En) :: R).length : Int) := by
      rw [hn]
      show 1 + A.sz lf + A.sz rt = _
      rw [l1, r1, List.length_append, List.length_cons]
      omega
    have e2 : (A.nd i).sum = sumV (L ++ (⟨key, val⟩ : En) :: R) := by
      rw [hn, sumV_node]
      show IntKind.i64.wrap (IntKind.i64.wrap (val + A.sm lf) + A.sm rt) = _
      rw [l2, r2, IntKind.wrap_i64, IntKind.wrap_i64]
      show _ = wrap64 (wrap64 (val + sumV L) + sumV R)
      unfold wrap64
      rfl
    have e3 : (A.nd i).mn = mnV (L ++ (⟨key, val⟩ : En) :: R) := by
      rw [hn, mnV_node]
      show A.low (A.low val lf) rt = _
      rw [r3, l3]
    have e4 : (A.nd i).mx = mxV (L ++ (⟨key, val⟩ : En) :: R) := by
      rw [hn, mxV_node]
      show A.high (A.high val lf) rt = _
      rw [r4, l4]
    refine ⟨⟨?_, ?_, fun v => ?_, fun v => ?_⟩, fun _ => ?_⟩
    · unfold Ar.sz; rw [if_neg h0, e1]
    · unfold Ar.sm; rw [if_neg h0, e2]
    · unfold Ar.low; rw [if_neg h0, if_neg hne, e3]
    · unfold Ar.high; rw [if_neg h0, if_neg hne, e4]
    · unfold Nd.tot sumE; rw [e1, e2, e3, e4]
set_option maxHeartbeats 2000000 in
set_option maxRecDepth 100000 in
theorem ofTree_any (I : AImpl) {p : Value} {A : Ar} {rd : Int} {F : Nat → Prop} {i : Nat} {u : Tr} (w : World) (hI : I.Is w p A rd F) (ha : A.Agg) (hu : Sub A i u) (hi : i < 4294967296) (h0 : 0 ≤ rd) (h1 : rd ≤ 4398046511104) :
    Calls Try.prog 41 #[p, .int .u32 (i : Int)] w (ReadsTo I p A rd F 1 (.agg (smA (sumE (u.ents A.nd)))) w) := by
  obtain ⟨pa, rfl⟩ := I.ptr hI
  have hin : (Try.prog.info? 25).map (·.size) = some 4 := by kernel_rfl
  have HINF := Lib.hid hin
  have HU : Hid _ := Lib.hid Try.underlying25
  obtain ⟨X, b, rd2, hn, hX, hr0, hr1⟩ : ∃ (X : Nd) (b : Bool) (rd2 : Int), (∀ wx bs, Ins I w F (.pointer (some pa)) A rd [] bs wx → Calls Try.prog 40 #[.pointer (some pa), .int .u32 (i : Int)] wx fun e w' => e = .returned (.tuple #[.agg (ndRow X), .bool b]) ∧ Ins I w F (.pointer (some pa)) A rd2 [] bs w') ∧ X.tot = sumE (u.ents A.nd) ∧ rd ≤ rd2 ∧ rd2 ≤ rd + 1 := by
    cases hu with
    | nil => exact ⟨Nd.zero, false, rd, fun wx bs h => h.node_no h0 h1 hi (by
        cases hc : A.σ.on 0 with
        | false => rfl
        | true => have := (I.ok hI).on 0 hc; omega), sumE_nil.symm, by omega, by omega⟩
    | node i l r hi0 hon hl hr => exact ⟨A.nd i, true, rd + 1, fun wx bs h => h.node h0 h1 hi hon, (sub_shows ha (.node i l r hi0 hon hl hr)).2 hi0, by omega, by omega⟩
  have HS0 := Lib.hid (Ins.start hI)
  have HN := Lib.hid hn
  have HX := Lib.hid hX
  have HR : Hid (rd ≤ rd2 ∧ rd2 ≤ rd + 1) := ⟨hr0, hr1⟩
  clear hI ha hu hi h0 h1 hin hn hX hr0 hr1
  have HS1 := Lib.hid (HS0.out.box #[.int .i64 0, .int .i64 0, .int .i64 0, .int .i64 0] 25)
  clear HS0
  go_enter Try.func41, Try.ntmps41
  go_upto_region 1 with fail
  generalize w.alloc (Obj.cells #[.int .i64 0, .int .i64 0, .int .i64 0, .int .i64 0] 25) = w1 at HS1 ⊢
  generalize hq : w.heap.size = q at HS1 ⊢
  clear hq
  go_wp2_with fail
  refine (HN.out _ _ HS1.out).mono ?_
  rintro e w2 ⟨rfl, hs2⟩
  have HS2 := Lib.hid (hs2.box (ndRow X) 68)
  clear hs2 HS1 HN
  unfold ndRow
  go_upto_region 2 with fail
  rw [show #[Value.int .i64 X.key, .int .i64 X.val, .int .u32 (X.left : Int), .int .u32 (X.right : Int), .int .i64 X.size, .int .i64 X.sum, .int .i64 X.mn, .int .i64 X.mx] = ndRow X from rfl]
  generalize w2.alloc (Obj.cells (ndRow X) 68) = w3 at HS2 ⊢
  generalize w2.heap.size = g at HS2 ⊢
  obtain ⟨⟨-, -, -, -, x4, x5, x6, x7⟩, -⟩ := row8_of (HS2.out.boxes _ (List.Mem.head _)).2
  obtain ⟨⟨z0, z1, z2, z3⟩, f0, f1, f2, f3⟩ := row4_z (HS2.out.boxes _ (List.Mem.tail _ (List.Mem.head _))).2
  have hs4 := Ins.put4 (X := .z) (Y := X.tot) (HS2.out.perm (List.Perm.swap _ _ _))
  have HE := Lib.hid (put4_same (X := .z) (Y := X.tot) (HS2.out.boxes _ (List.Mem.tail _ (List.Mem.head _))).2)
  have HS4 := Lib.hid hs4
  clear hs4 HS2
  go_wp2_with fail
  refine bodyPost_ret (results_cell_row rfl _ _ q 25 (smA X.tot) (0, 0) _ rfl HE.out HU.out rfl HINF.out) rfl ?_
  rw [← HX.out]
  obtain ⟨F', hal, hI⟩ := HS4.out.ends
  exact ⟨F', rd2, rfl, hal, hI, HR.out.1, HR.out.2⟩
end Go.Proofs.Ytbjmblfifnjafaa
