/- The program's summaries keep their contracts. -/
import Derived.Test.YtbjmblfifnjafaaSmOk2
set_option linter.unusedVariables false
set_option linter.unusedSimpArgs false
namespace Go.Proofs.Ytbjmblfifnjafaa
open Go.RowKit
theorem take_node (L R : List En) (e : En) (j : Int) : (L ++ e :: R).take j.toNat = if j ≤ (L.length : Int) then L.take j.toNat else L ++ e :: R.take (j - ((L.length : Int) + 1)).toNat := by
  rw [List.take_append]
  by_cases h : j ≤ (L.length : Int)
  · rw [if_pos h, show j.toNat - L.length = 0 by omega, List.take_zero, List.append_nil]
  · rw [if_neg h, List.take_of_length_le (by omega), show j.toNat - L.length = (j - ((L.length : Int) + 1)).toNat + 1 by omega, List.take_succ_cons]
def WayP (I : AImpl) (w : World) (F : Nat → Prop) (p : Value) (A : Ar) (rd0 : Int) (R : List En) (top : Int) (U g0 g1 : Nat) (y x c : Value) (wr : World) : Prop :=
  ∃ (i n : Nat) (u : Tr) (acc : List En) (rd j : Int), y = .int .i64 j ∧ i64R j ∧ x = .int .u32 (i : Int) ∧ c = .int .i64 (n : Int) ∧ Sub A i u ∧ Few (u.ents A.nd) ∧ acc ++ (u.ents A.nd).take j.toNat = R ∧ rd0 ≤ rd ∧ rd + 2 * (u.ht : Int) ≤ top ∧ n + u.size ≤ U ∧
    Ins I w F p A rd [] [(g1, Obj.cells (smA (sumE acc)) 25 (0, 0)), (g0, Obj.cells (smA .z) 25 (0, 0))] wr
set_option maxHeartbeats 8000000 in
set_option maxRecDepth 100000 in
theorem prefix_any (I : AImpl) {p : Value} {A : Ar} {rd : Int} {F : Nat → Prop} {i : Nat} {t : Tr} {l : List En} (k : Int) (w : World) (hI : I.Is w p A rd F) (hT : TreeAt A i t l) (h0 : 0 ≤ rd) (h1 : rd ≤ 1099511627776) (hk : i64R k) (hv : ∀ e ∈ l, i64R e.val) :
    Calls Try.prog 23 #[p, .int .u32 (i : Int), .int .i64 k] w (ReadsTo I p A rd F (2 * (t.ht : Int)) (.agg (smA (sumE (l.take k.toNat)))) w) := by
  obtain ⟨pa, rfl⟩ := I.ptr hI
  have hin : (Try.prog.info? 25).map (·.size) = some 4 := by kernel_rfl
  have HINF := Lib.hid hin
  have HUN : Hid _ := Lib.hid Try.underlying25
  have hLL := hT.len
  have hb := hT.bound
  have hfew := hT.few hv
  obtain ⟨R, hR⟩ : ∃ R, l.take k.toNat = R := ⟨_, rfl⟩
  have HFW : Hid (Few R) := by rw [← hR]; exact hfew.sub (fun e he => List.mem_of_mem_take he) (List.length_take_le' _ _)
  rw [hR]
  obtain ⟨held, hiv⟩ := hT.inv
  have hcap := hiv.ok.cap2
  have hhd := hT.held
  obtain ⟨U, hU⟩ : ∃ U, U + A.σ.free.length = A.σ.cap := ⟨A.σ.cap - A.σ.free.length, by omega⟩
  have HLP := fun (wx : World) (F1 : Nat → Prop) (hx : I.Is wx (.pointer (some pa)) A rd F1) => longestS_any I wx hx hU
  have HLP := Lib.hid HLP
  have HU : Hid (U ≤ 65536 ∧ t.size ≤ U) := ⟨by omega, by omega⟩
  have HAG := Lib.hid hT.agg
  have HOK := Lib.hid hiv.ok
  have HRD : Hid (0 ≤ rd ∧ rd ≤ 1099511627776 ∧ t.ht ≤ 65536) := ⟨h0, h1, hb.2⟩
  have HS0 := Lib.hid (((Ins.start hI).box #[.int .i64 0, .int .i64 0, .int .i64 0, .int .i64 0] 25).box #[.int .i64 0, .int .i64 0, .int .i64 0, .int .i64 0] 25)
  have HW0 : Hid (∀ g0 g1 w', Ins I w F (.pointer (some pa)) A rd [] [(g1, Obj.cells #[.int .i64 0, .int .i64 0, .int .i64 0, .int .i64 0] 25 (0, 0)), (g0, Obj.cells #[.int .i64 0, .int .i64 0, .int .i64 0, .int .i64 0] 25 (0, 0))] w' → WayP I w F (.pointer (some pa)) A rd R (rd + 2 * (t.ht : Int)) U g0 g1 (.int .i64 k) (.int .u32 (i : Int)) (.int .i64 0) w') := fun g0 g1 w' hs => ⟨i, 0, t, [], rd, k, rfl, hk, rfl, rfl, hT.sub, by rw [hT.ents]; exact hfew, by rw [hT.ents, ← hR]; rfl, Int.le_refl _, Int.le_refl _, by omega, by rw [sumE_nil]; exact hs⟩
  clear hI hT h0 h1 hb hR hiv hcap hhd hU hLL hfew hin hv hk
  go_enter Try.func23, Try.ntmps23
  go_upto_region 2 with fail
  rw [show (w.alloc (Obj.cells #[.int .i64 0, .int .i64 0, .int .i64 0, .int .i64 0] 25)).heap.size = w.heap.size + 1 by simp] at HS0
  generalize (w.alloc (Obj.cells #[.int .i64 0, .int .i64 0, .int .i64 0, .int .i64 0] 25)).alloc (Obj.cells #[.int .i64 0, .int .i64 0, .int .i64 0, .int .i64 0] 25) = w2 at HS0 ⊢
  obtain ⟨g0, hg0⟩ : ∃ g, w.heap.size = g := ⟨_, rfl⟩
  obtain ⟨g1, hg1⟩ : ∃ g, w.heap.size + 1 = g := ⟨_, rfl⟩
  rw [hg1, hg0] at HS0
  rw [hg1, hg0]
  clear hg0 hg1
  go_wp2_with fail
  obtain ⟨F1, f1, -, -⟩ := HS0.out.mr.has
  refine (HLP.out w2 F1 f1).mono ?_
  rintro e w3 ⟨rfl, hb3⟩
  have HW1 := Lib.hid (HW0.out g0 g1 w3 (HS0.out.calm hb3))
  clear hb3 HW0 HS0 HLP f1 F1
  go_wp2_with fail
  go_loopw [2, 8, 15] (fun y x c wr => WayP I w F (.pointer (some pa)) A rd R (rd + 2 * (t.ht : Int)) U g0 g1 y x c wr) (fun _ _ c _ => U - (intOf c).toNat)
  case atStart => exact HW1.out
  case round =>
    clear HW1
    obtain ⟨i, n, u, acc, rd1, j, rfl, hj, rfl, rfl, hu, hfu, hg, hr0, hr1, hn, hs⟩ := hrel
    rcases Nat.lt_or_ge n U with hnu | hnu
    rotate_left
    · have hnu2 : decide ((n : Int) < (U : Int)) = false := decide_eq_false (by omega)
      have hu0 : u = .nil := by
        cases u with
        | nil => rfl
        | node i l r =>
          have : (Tr.node i l r).size = l.size + r.size + 1 := rfl
          omega
      subst hu0
      obtain rfl : acc = R := by rw [← hg]; simp [Tr.ents, Tr.idx]
      have hUn : ¬ n < U := Nat.not_lt.2 hnu
      obtain ⟨⟨a0, a1, a2, a3⟩, -⟩ := row4_of (hs.boxes _ (List.Mem.head _)).2
      obtain ⟨⟨z0, z1, z2, z3⟩, f0, f1, f2, f3⟩ := row4_of (hs.boxes _ (List.Mem.tail _ (List.Mem.head _))).2
      have HE := Lib.hid (put4_same (X := .z) (Y := sumE acc) (hs.boxes _ (List.Mem.tail _ (List.Mem.head _))).2)
      have HS4 := Lib.hid (Ins.put4 (X := .z) (Y := sumE acc) (hs.perm (List.Perm.swap _ _ _)))
      have HR1 : Hid (rd ≤ rd1 ∧ rd1 ≤ rd + 2 * (t.ht : Int)) := ⟨hr0, by have : (Tr.nil.ht : Nat) = 0 := rfl; omega⟩
      clear hu hfu hg hr0 hr1 hs hn hnu hj
      go_wp2_with fail
      refine bodyPost_ret (results_cell_row rfl _ _ g0 25 (smA (sumE acc)) (0, 0) _ rfl HE.out HUN.out rfl HINF.out) rfl ?_
      obtain ⟨F', hal, hI⟩ := HS4.out.ends
      exact ⟨F', rd1, rfl, hal, hI, HR1.out.1, HR1.out.2⟩
    have hnu2 : decide ((n : Int) < (U : Int)) = true := decide_eq_true (by omega)
    have hnu3 : (n : Int) < (U : Int) := by omega
    have hU4 : (U : Int) ≤ 65536 := by have := HU.out.1; omega
    have hn0 : (0 : Int) ≤ (n : Int) := by omega
    cases u with
    | nil =>
      obtain rfl : i = 0 := by
        cases hu with
        | nil => rfl
      obtain rfl : acc = R := by rw [← hg]; simp [Tr.ents, Tr.idx]
      have HR1 : Hid (rd ≤ rd1 ∧ rd1 ≤ rd + 2 * (t.ht : Int)) := ⟨hr0, by have : (Tr.nil.ht : Nat) = 0 := rfl; omega⟩
      have HS := Lib.hid hs
      have hoff : A.σ.on 0 = false := by
        cases hc : A.σ.on 0 with
        | false => rfl
        | true => have := HOK.out.on 0 hc; omega
      have HOFF := Lib.hid hoff
      clear hu hfu hg hr0 hr1 hs hn hoff hj
      go_wp2_with fail
      refine (HS.out.node_no (by have := HR1.out; have := HRD.out; omega) (by have := HR1.out; have := HRD.out; omega) (by omega) HOFF.out).mono ?_
      rintro e w1 ⟨rfl, hs1⟩
      have hs2 := hs1.calm (below_new7 w1 (Obj.cells (ndRow Nd.zero) 68))
      clear hs1 HS
      unfold ndRow at hs2 ⊢
      go_upto_region 6 with fail
      generalize w1.alloc (Obj.cells #[Value.int .i64 Nd.zero.key, .int .i64 Nd.zero.val, .int .u32 (Nd.zero.left : Int), .int .u32 (Nd.zero.right : Int), .int .i64 Nd.zero.size, .int .i64 Nd.zero.sum, .int .i64 Nd.zero.mn, .int .i64 Nd.zero.mx] 68) = w2 at hs2 ⊢
      obtain ⟨⟨a0, a1, a2, a3⟩, -⟩ := row4_of (hs2.boxes _ (List.Mem.head _)).2
      obtain ⟨⟨z0, z1, z2, z3⟩, f0, f1, f2, f3⟩ := row4_of (hs2.boxes _ (List.Mem.tail _ (List.Mem.head _))).2
      have HE := Lib.hid (put4_same (X := .z) (Y := sumE acc) (hs2.boxes _ (List.Mem.tail _ (List.Mem.head _))).2)
      have HS4 := Lib.hid (Ins.put4 (X := .z) (Y := sumE acc) (hs2.perm (List.Perm.swap _ _ _)))
      clear hs2
      go_wp2_with fail
      refine bodyPost_ret (results_cell_row rfl _ _ g0 25 (smA (sumE acc)) (0, 0) _ rfl HE.out HUN.out rfl HINF.out) rfl ?_
      obtain ⟨F', hal, hI⟩ := HS4.out.ends
      exact ⟨F', rd1, rfl, hal, hI, HR1.out.1, HR1.out.2⟩
    | node i2 l2 r2 =>
      obtain ⟨rfl, h0, hon, hsl, hsr⟩ : i2 = i ∧ i ≠ 0 ∧ A.σ.on i = true ∧ Sub A (A.nd i).left l2 ∧ Sub A (A.nd i).right r2 := by
        cases hu with
        | node _ _ _ h1 h2 h3 h4 => exact ⟨rfl, h1, h2, h3, h4⟩
      have hi4 : i2 < 4294967296 := by have := HOK.out.on i2 hon; have := HOK.out.cap2; omega
      have hl4 : (A.nd i2).left < 4294967296 := by rcases hsl.idx with h9 | h9; omega; have := HOK.out.on _ h9; have := HOK.out.cap2; omega
      have hht : (Tr.node i2 l2 r2).ht = 1 + max l2.ht r2.ht := rfl
      rw [show (Tr.node i2 l2 r2).size = l2.size + r2.size + 1 from rfl] at hn
      rw [Tr.ents_node] at hg hfu
      rw [take_node] at hg
      have hLs := Tr.ents_len A.nd l2
      obtain ⟨L, hL⟩ : ∃ L, l2.ents A.nd = L := ⟨_, rfl⟩
      obtain ⟨Q, hQ⟩ : ∃ Q, r2.ents A.nd = Q := ⟨_, rfl⟩
      rw [hL] at hLs
      rw [hL, hQ] at hg hfu
      obtain ⟨S, hS⟩ : ∃ S : Int, (sumE L).n = S := ⟨_, rfl⟩
      have hSL : S = (L.length : Int) := hS.symm
      rw [← hSL] at hg
      have HUL : Hid (Few L ∧ Few Q ∧ l2.ents A.nd = L ∧ r2.ents A.nd = Q ∧ (sumE L).n = S) := ⟨hfu.left, (show Few ((L ++ [_]) ++ Q) by simpa using hfu).right, hL, hQ, hS⟩
      have HFE : Hid (Few [(⟨(A.nd i2).key, (A.nd i2).val⟩ : En)]) := hfu.sub (fun e he => by simp at he; simp [he]) (by simp; omega)
      have HSL := Lib.hid hsl
      have HSR := Lib.hid hsr
      have HON := Lib.hid hon
      have HJ : Hid (i64R j ∧ 0 ≤ S ∧ S ≤ 65536) := ⟨hj, by omega, by have := HU.out; omega⟩
      have HI4 : Hid (i2 < 4294967296 ∧ (A.nd i2).left < 4294967296) := ⟨hi4, hl4⟩
      have HNN : Hid (n + 1 + l2.size ≤ U ∧ n + 1 + r2.size ≤ U) := ⟨by omega, by omega⟩
      have HR1 : Hid (rd ≤ rd1 ∧ rd1 + 2 + 2 * (l2.ht : Int) ≤ rd + 2 * (t.ht : Int) ∧ rd1 + 2 + 2 * (r2.ht : Int) ≤ rd + 2 * (t.ht : Int)) := ⟨hr0, by omega, by omega⟩
      have HS := Lib.hid hs
      have HG := Lib.hid hg
      clear hu hfu hg hr0 hr1 hs h0 hon hsl hsr hi4 hl4 hht hn hL hQ hLs hS hSL hj
      go_wp2_with fail
      refine (HS.out.node (by have := HR1.out; have := HRD.out; omega) (by have := HR1.out; have := HRD.out; omega) HI4.out.1 HON.out).mono ?_
      rintro e w1 ⟨rfl, hs1⟩
      have hs2 := hs1.box (ndRow (A.nd i2)) 68
      clear hs1 HS
      unfold ndRow
      go_upto_region 6 with fail
      rw [show #[Value.int .i64 (A.nd i2).key, .int .i64 (A.nd i2).val, .int .u32 ((A.nd i2).left : Int), .int .u32 ((A.nd i2).right : Int), .int .i64 (A.nd i2).size, .int .i64 (A.nd i2).sum, .int .i64 (A.nd i2).mn, .int .i64 (A.nd i2).mx] = ndRow (A.nd i2) from rfl]
      generalize w1.alloc (Obj.cells (ndRow (A.nd i2)) 68) = w2 at hs2 ⊢
      generalize w1.heap.size = g at hs2 ⊢
      obtain ⟨K, hK⟩ : ∃ K, (A.nd i2).key = K := ⟨_, rfl⟩
      obtain ⟨V, hV⟩ : ∃ V, (A.nd i2).val = V := ⟨_, rfl⟩
      obtain ⟨lf, hlf⟩ : ∃ x, (A.nd i2).left = x := ⟨_, rfl⟩
      obtain ⟨rt, hrt⟩ : ∃ x, (A.nd i2).right = x := ⟨_, rfl⟩
      obtain ⟨⟨-, x1, x2, x3, -⟩, -⟩ := row8_of (hs2.boxes _ (List.Mem.head _)).2
      rw [hV] at x1
      rw [hlf] at x2
      rw [hrt] at x3
      have hg := HG.out
      rw [hK, hV] at hg
      rw [hK, hV] at HFE
      have HC8 : Hid (∀ (wx : World) (rdx : Int) (b : Nat × Obj) (bs : List (Nat × Obj)), Ins I w F (.pointer (some pa)) A rdx [] (b :: (g, Obj.cells (ndRow (A.nd i2)) 68 (0, 0)) :: bs) wx → wx.cell? ⟨g, 1, none⟩ = some (.int .i64 V) ∧ wx.cell? ⟨g, 2, none⟩ = some (.int .u32 (lf : Int)) ∧ wx.cell? ⟨g, 3, none⟩ = some (.int .u32 (rt : Int))) := fun wx rdx b bs hx => by
        obtain ⟨⟨-, x1, x2, x3, -⟩, -⟩ := row8_of (hx.boxes _ (List.Mem.tail _ (List.Mem.head _))).2
        exact ⟨hV ▸ x1, hlf ▸ x2, hrt ▸ x3⟩
      have HOT : Hid (∀ (wx : World) (F1 : Nat → Prop), I.Is wx (.pointer (some pa)) A (rd1 + 1) F1 → Calls Try.prog 41 #[.pointer (some pa), .int .u32 (lf : Int)] wx (ReadsTo I (.pointer (some pa)) A (rd1 + 1) F1 1 (.agg (smA (sumE L))) wx)) := fun wx F1 hx => by
        have h7 := ofTree_any I wx hx HAG.out HSL.out HI4.out.2 (by have := HR1.out; have := HRD.out; omega) (by have := HR1.out; have := HRD.out; omega)
        rw [HUL.out.2.2.1, hlf] at h7
        exact h7
      have HNF : Hid ((A.nd i2).left = lf ∧ (A.nd i2).right = rt) := ⟨hlf, hrt⟩
      have HS2 := Lib.hid hs2
      have HG2 := Lib.hid hg
      clear hg hK hV hlf hrt hs2 HG
      go_wp2_with fail
      refine (HS2.out.call fun F1 hx => HOT.out w2 F1 hx).mono ?_
      rintro e w3 ⟨rfl, rd3, hs3, h31, h32⟩
      have hs4 := hs3.box (smA (sumE L)) 25
      have HR3 : Hid (rd1 ≤ rd3 ∧ rd3 ≤ rd1 + 2) := ⟨by omega, by omega⟩
      clear x1 x2 x3 hs3 HS2 h31 h32 HOT
      unfold smA
      go_upto_region 8 with fail
      rw [show #[Value.int .i64 (sumE L).n, .int .i64 (sumE L).s, .int .i64 (sumE L).mn, .int .i64 (sumE L).mx] = smA (sumE L) from rfl]
      generalize w3.alloc (Obj.cells (smA (sumE L)) 25) = w4 at hs4 ⊢
      generalize w3.heap.size = gl at hs4 ⊢
      obtain ⟨x1, x2, x3⟩ := HC8.out _ _ _ _ hs4
      obtain ⟨⟨y0, y1, y2, y3⟩, -⟩ := row4_of (hs4.boxes _ (List.Mem.head _)).2
      rw [HUL.out.2.2.2.2] at y0
      have HS4 := Lib.hid hs4
      have hg := HG2.out
      have hlt : j ≤ S ∨ ¬ j ≤ S := Decidable.em _
      rcases hlt with hlt | hlt
      · rw [if_pos hlt] at hg
        have hqq : decide (j ≤ S) = true := decide_eq_true hlt
        have HEND : Hid (WayP I w F (.pointer (some pa)) A rd R (rd + 2 * (t.ht : Int)) U g0 g1 (.int .i64 j) (.int .u32 (lf : Int)) (.int .i64 ((n + 1 : Nat) : Int)) w4) :=
          ⟨_, n + 1, l2, acc, rd3, j, rfl, HJ.out.1, rfl, rfl, by rw [← HNF.out.1]; exact HSL.out, by rw [HUL.out.2.2.1]; exact HUL.out.1, by rw [HUL.out.2.2.1]; exact hg, by have := HR1.out; have := HR3.out; omega, by have := HR1.out; have := HR3.out; omega, HNN.out.1, HS4.out.less (List.Sublist.refl _) ((List.sublist_cons_self _ _).trans (List.sublist_cons_self _ _))⟩
        clear hlt hg hs4 HC8
        go_wp2_with fail
        exact ⟨by rw [show ((n : Int) + 1) = ((n + 1 : Nat) : Int) by omega]; exact HEND.out, by simp [intOf]; omega⟩
      · rw [if_neg hlt] at hg
        have hqq : decide (j ≤ S) = false := decide_eq_false hlt
        have hw1 : IntKind.i64.wrap (S + 1) = S + 1 := by rw [IntKind.wrap_i64]; have := HJ.out; omega
        have hw2 : IntKind.i64.wrap (j - (S + 1)) = j - (S + 1) := by rw [IntKind.wrap_i64]; have := HJ.out.1.1; have := HJ.out.1.2; have := HJ.out; omega
        have HJ2 : Hid (i64R (j - (S + 1))) := ⟨by have := HJ.out; omega, by have := HJ.out.1.2; have := HJ.out; omega⟩
        have HFA : Hid (Few acc ∧ Few (L ++ [(⟨K, V⟩ : En)]) ∧ Few (acc ++ (L ++ [(⟨K, V⟩ : En)]))) := by
          have h9 := HFW.out
          rw [← hg, show ∀ Z, acc ++ (L ++ (⟨K, V⟩ : En) :: Z) = (acc ++ (L ++ [(⟨K, V⟩ : En)])) ++ Z from fun Z => by simp] at h9
          exact ⟨h9.left.left, h9.left.right, h9.left⟩
        obtain ⟨T, hTT⟩ : ∃ T, sumE (acc ++ (L ++ [(⟨K, V⟩ : En)])) = T := ⟨_, rfl⟩
        have HTT := Lib.hid hTT
        have HSUM : Hid (addS (sumE L) (oneS V) = sumE (L ++ [(⟨K, V⟩ : En)]) ∧ addS (sumE acc) (sumE (L ++ [(⟨K, V⟩ : En)])) = T ∧ (oneS V).wf) := by
          have h8 := oneS_sum (e := (⟨K, V⟩ : En)) (HFE.out.1 _ (by simp))
          rw [show (⟨K, V⟩ : En).val = V from rfl] at h8
          rw [← h8, ← hTT]
          exact ⟨HFA.out.2.1.app, HFA.out.2.2.app, HFE.out.wf⟩
        have HG3 := Lib.hid hg
        clear hTT hlt hg
        have HCEL : Hid (∀ (wx : World) (rdx : Int), Ins I w F (.pointer (some pa)) A rdx [] [(gl, Obj.cells (smA (sumE L)) 25 (0, 0)), (g, Obj.cells (ndRow (A.nd i2)) 68 (0, 0)), (g1, Obj.cells (smA (sumE acc)) 25 (0, 0)), (g0, Obj.cells (smA .z) 25 (0, 0))] wx →
            ((wx.cell? ⟨g1, 0, none⟩ = some (.int .i64 (sumE acc).n) ∧ wx.cell? ⟨g1, 1, none⟩ = some (.int .i64 (sumE acc).s) ∧ wx.cell? ⟨g1, 2, none⟩ = some (.int .i64 (sumE acc).mn) ∧ wx.cell? ⟨g1, 3, none⟩ = some (.int .i64 (sumE acc).mx)) ∧ (wx.cell? ⟨gl, 0, none⟩ = some (.int .i64 (sumE L).n) ∧ wx.cell? ⟨gl, 1, none⟩ = some (.int .i64 (sumE L).s) ∧ wx.cell? ⟨gl, 2, none⟩ = some (.int .i64 (sumE L).mn) ∧ wx.cell? ⟨gl, 3, none⟩ = some (.int .i64 (sumE L).mx)) ∧ wx.cell? ⟨g, 1, none⟩ = some (.int .i64 V))) := fun wx rdx hx =>
          ⟨(row4_of (hx.boxes _ (List.Mem.tail _ (List.Mem.tail _ (List.Mem.head _)))).2).1, (row4_of (hx.boxes _ (List.Mem.head _)).2).1, (HC8.out _ _ _ _ hx).1⟩
        go_upto_region 10 with fail
        have hsd := hs4.calm (Below.refl _ _).drew
        refine anyG_begin (S := (fun w' => (w'.cell? ⟨g1, 0, none⟩ = some (.int .i64 (sumE acc).n) ∧ w'.cell? ⟨g1, 1, none⟩ = some (.int .i64 (sumE acc).s) ∧ w'.cell? ⟨g1, 2, none⟩ = some (.int .i64 (sumE acc).mn) ∧ w'.cell? ⟨g1, 3, none⟩ = some (.int .i64 (sumE acc).mx)) ∧ (w'.cell? ⟨gl, 0, none⟩ = some (.int .i64 (sumE L).n) ∧ w'.cell? ⟨gl, 1, none⟩ = some (.int .i64 (sumE L).s) ∧ w'.cell? ⟨gl, 2, none⟩ = some (.int .i64 (sumE L).mn) ∧ w'.cell? ⟨gl, 3, none⟩ = some (.int .i64 (sumE L).mx)) ∧ w'.cell? ⟨g, 1, none⟩ = some (.int .i64 V))) (z := 7) (by kernel_rfl) (HCEL.out _ _ hsd) (fun hHeld => ?_)
        clear y0 y1 y2 y3 x1 x2 x3
        refine anyG_take (k := 0) (o := _) (v := ?_) (some 35) rfl (by kernel_rfl) (by kernel_rfl) (by kernel_rfl) (by kernel_rfl) (fun _ _ _ h => h) (Or.inl ⟨by rfl, ?_⟩) (by assumption) (by kernel_rfl) ?_
        rotate_left
        · intro w hSw; (try dsimp only at hSw); go_simp; try with_reducible rfl
        (try simp only [Act.put, List.setIfInBounds_toArray, List.set_cons_zero, List.set_cons_succ])
        refine anyG_take (k := 1) (o := _) (v := ?_) (some 36) rfl (by kernel_rfl) (by kernel_rfl) (by kernel_rfl) (by kernel_rfl) (fun _ _ _ h => h) (Or.inl ⟨by rfl, ?_⟩) (by assumption) (by kernel_rfl) ?_
        rotate_left
        · intro w hSw; (try dsimp only at hSw); go_simp; try with_reducible rfl
        (try simp only [Act.put, List.setIfInBounds_toArray, List.set_cons_zero, List.set_cons_succ])
        refine anyG_take (k := 2) (o := _) (v := ?_) (some 37) rfl (by kernel_rfl) (by kernel_rfl) (by kernel_rfl) (by kernel_rfl) (fun _ _ _ h => h) (Or.inl ⟨by rfl, ?_⟩) (by assumption) (by kernel_rfl) ?_
        rotate_left
        · intro w hSw; (try dsimp only at hSw); go_simp; try with_reducible rfl
        (try simp only [Act.put, List.setIfInBounds_toArray, List.set_cons_zero, List.set_cons_succ])
        refine anyG_take (k := 3) (o := _) (v := ?_) (some 38) rfl (by kernel_rfl) (by kernel_rfl) (by kernel_rfl) (by kernel_rfl) (fun _ _ _ h => h) (Or.inl ⟨by rfl, ?_⟩) (by assumption) (by kernel_rfl) ?_
        rotate_left
        · intro w hSw; (try dsimp only at hSw); go_simp; try with_reducible rfl
        (try simp only [Act.put, List.setIfInBounds_toArray, List.set_cons_zero, List.set_cons_succ])
        refine anyG_one (k := 4) (o := _) (by kernel_rfl) rfl (fun KT hKT => ?_)
        go_simp
        go_at_call 26
        refine (ofValue_any V _).mono ?_
        rintro eB wB ⟨rfl, hbB⟩
        have hsB := hsd.calm hbB
        try go_wp2_with fail
        refine hKT.out _ _ (HCEL.out _ _ hsB) (fun hHeld => ?_)
        clear hKT KT
        (try simp only [Act.put, List.setIfInBounds_toArray, List.set_cons_zero, List.set_cons_succ])
        refine anyG_one (k := 5) (o := _) (by kernel_rfl) rfl (fun KT hKT => ?_)
        go_simp
        go_at_call 12
        refine (addP_any (sumE L) (oneS V) _ HUL.out.1.wf HSUM.out.2.2).mono ?_
        rintro eC wC ⟨rfl, hbC⟩
        rw [HSUM.out.1]
        have hsC := hsB.calm hbC
        try go_wp2_with fail
        refine hKT.out _ _ (HCEL.out _ _ hsC) (fun hHeld => ?_)
        clear hKT KT
        (try simp only [Act.put, List.setIfInBounds_toArray, List.set_cons_zero, List.set_cons_succ])
        refine anyG_one (k := 6) (o := _) (by kernel_rfl) rfl (fun KT hKT => ?_)
        go_simp
        go_at_call 12
        refine (addP_any (sumE acc) (sumE (L ++ [(⟨K, V⟩ : En)])) _ HFA.out.1.wf HFA.out.2.1.wf).mono ?_
        rintro eD wD ⟨rfl, hbD⟩
        rw [HSUM.out.2.1, smA_at]
        have hsD := hsC.calm hbD
        try go_wp2_with fail
        refine hKT.out _ _ (HCEL.out _ _ hsD) (fun hHeld => ?_)
        clear hKT KT
        (try simp only [Act.put, List.setIfInBounds_toArray, List.set_cons_zero, List.set_cons_succ])
        refine anyG_last (o := _) (by kernel_rfl) (by kernel_rfl) rfl (fun KT hKT => ?_)
        obtain ⟨⟨q0, q1, q2, q3⟩, p0, p1, p2, p3⟩ := row4_of (hsD.boxes _ (List.Mem.tail _ (List.Mem.tail _ (List.Mem.head _)))).2
        go_simp
        refine hKT.out _ _ ?_
        clear hKT KT
        (try simp only [Act.put, List.setIfInBounds_toArray, List.set_cons_zero, List.set_cons_succ])
        change Exit.then _ _ _ _ (put4 wD g1 T)
        have hsE : Ins I w F (.pointer (some pa)) A rd3 [] [(gl, Obj.cells (smA (sumE L)) 25 (0, 0)), (g, Obj.cells (ndRow (A.nd i2)) 68 (0, 0)), (g1, Obj.cells (smA T) 25 (0, 0)), (g0, Obj.cells (smA .z) 25 (0, 0))] (put4 wD g1 T) :=
          (Ins.put4 (X := sumE acc) (Y := T) (hsD.perm ((List.Perm.cons _ (List.Perm.swap _ _ _)).trans (List.Perm.swap _ _ _)))).perm (((List.Perm.cons _ (List.Perm.swap _ _ _)).trans (List.Perm.swap _ _ _)).symm)
        generalize put4 wD g1 T = wE at hsE ⊢
        obtain ⟨x1, x2, x3⟩ := HC8.out _ _ _ _ hsE
        obtain ⟨⟨y0, y1, y2, y3⟩, -⟩ := row4_of (hsE.boxes _ (List.Mem.head _)).2
        rw [HUL.out.2.2.2.2] at y0
        have HEND : Hid (WayP I w F (.pointer (some pa)) A rd R (rd + 2 * (t.ht : Int)) U g0 g1 (.int .i64 (j - (S + 1))) (.int .u32 (rt : Int)) (.int .i64 ((n + 1 : Nat) : Int)) wE) :=
          ⟨_, n + 1, r2, acc ++ (L ++ [(⟨K, V⟩ : En)]), rd3, j - (S + 1), rfl, HJ2.out, rfl, rfl, by rw [← HNF.out.2]; exact HSR.out, by rw [HUL.out.2.2.2.1]; exact HUL.out.2.1, by rw [HUL.out.2.2.2.1, ← HG3.out]; simp, by have := HR1.out; have := HR3.out; omega, by have := HR1.out; have := HR3.out; omega, HNN.out.2, by rw [HTT.out]; exact hsE.less (List.Sublist.refl _) ((List.sublist_cons_self _ _).trans (List.sublist_cons_self _ _))⟩
        clear hsE hsD hsC hsB hsd hHeld HS4 HC8 HCEL hbB hbC hbD hs4
        go_wp2_with fail
        exact ⟨by rw [show ((n : Int) + 1) = ((n + 1 : Nat) : Int) by omega]; exact HEND.out, by simp [intOf]; omega⟩
theorem SB.calm {w wr wx : World} {g0 g1 : Nat} {x : Sm} (h : SB w g0 g1 x wr) (hb : Below wr.heap.size wr wx) : SB w g0 g1 x wx :=
  ⟨(hb.block _ (Array.getElem?_eq_some_iff.1 h.b0).1).trans h.b0, (hb.block _ (Array.getElem?_eq_some_iff.1 h.b1).1).trans h.b1, h.ne, h.h0, h.h1, h.below.trans (hb.mono h.below.size)⟩
theorem SB.put4 {w wr : World} {g0 g1 : Nat} {x : Sm} (h : SB w g0 g1 x wr) (y : Sm) : SB w g0 g1 y (Proofs.Ytbjmblfifnjafaa.put4 wr g1 y) :=
  ⟨(put4_other _ _ _ h.ne).trans h.b0, put4_same h.b1, h.ne, h.h0, h.h1, h.below.trans (put4_below h.h1)⟩
set_option maxHeartbeats 8000000 in
set_option maxRecDepth 100000 in
theorem ofP_any {w : World} {a : Option Addr} {n c : Nat} {l : List En} (h : EnsAt w a l) (hn : l.length = n) (hl : n ≤ 1000000) :
    Calls Try.prog 10 #[.slice a n c] w (Calm w (.agg (smA (sumE l)))) := by
  have HUN : Hid _ := Lib.hid Try.underlying25
  have hin : (Try.prog.info? 25).map (·.size) = some 4 := by kernel_rfl
  have HINF := Lib.hid hin
  have HE := Lib.hid h
  have HN := Lib.hid hn
  have hni : (n : Int) ≤ 1000000 := by omega
  clear h hn hin
  go_enter Try.func10, Try.ntmps10
  go_upto_region 1 with fail
  rw [show #[.int .i64 0, .int .i64 0, .int .i64 0, .int .i64 0] = smA Sm.z from rfl]
  have hb1 := below_newL w (Obj.cells (smA Sm.z) 25)
  have hr1 := heap_alloc_new w (Obj.cells (smA Sm.z) 25)
  have hz1 : Hid ((w.alloc (Obj.cells (smA Sm.z) 25)).heap.size = w.heap.size + 1) := by show _ = _; simp
  generalize w.alloc (Obj.cells (smA Sm.z) 25) = w1 at hb1 hr1 hz1 ⊢
  go_upto_region 2 with fail
  have hsb : SB w w.heap.size w1.heap.size (sumE (l.take 0)) (w1.alloc (Obj.cells #[.int .i64 0, .int .i64 0, .int .i64 0, .int .i64 0] 25)) := by
    have hb2 := below_newL w1 (Obj.cells #[.int .i64 0, .int .i64 0, .int .i64 0, .int .i64 0] 25)
    have hz := hz1.out
    refine ⟨(hb2.block _ (by omega)).trans hr1, ?_, by omega, Nat.le_refl _, by omega, hb1.trans (hb2.mono (by omega))⟩
    rw [heap_alloc_new w1, List.take_zero, sumE_nil]
    rfl
  generalize w1.alloc (Obj.cells #[.int .i64 0, .int .i64 0, .int .i64 0, .int .i64 0] 25) = w2 at hsb ⊢
  generalize w1.heap.size = g1 at hsb ⊢
  generalize hg0 : w.heap.size = g0 at hsb ⊢
  have HG0 := Lib.hid hg0
  have HSB := Lib.hid hsb
  clear hb1 hr1 hz1 hsb hg0
  go_wp2_with fail
  go_loopw [8] (fun i wr => ∃ j : Nat, i = .int .i64 (j : Int) ∧ j ≤ n ∧ SB w g0 g1 (sumE (l.take j)) wr) (fun i _ => n - (intOf i).toNat)
  case atStart => exact ⟨0, rfl, Nat.zero_le _, HSB.out⟩
  case round =>
    clear HSB
    obtain ⟨j, rfl, hj, hsb⟩ := hrel
    have HS := Lib.hid hsb
    have hj0 : (0 : Int) ≤ (j : Int) := by omega
    clear hsb
    by_cases hlt : j < n
    · have hji : (j : Int) < (n : Int) := by omega
      obtain ⟨e, he⟩ : ∃ e, l[j]? = some e := ⟨_, List.getElem?_eq_getElem (by have := HN.out; omega)⟩
      obtain ⟨b, off, hab, hbw, c0, c1⟩ := (HE.out.below HS.out.below).at he
      have hwf : i64R e.key ∧ i64R e.val := HE.out.wf e (List.mem_of_getElem? he)
      have ht : l.take (j + 1) = l.take j ++ [e] := by
        obtain ⟨h1, h2⟩ := List.getElem?_eq_some_iff.1 he
        rw [List.take_succ_eq_append_getElem h1, h2]
      obtain ⟨X, hX⟩ : ∃ X, sumE (l.take j) = X := ⟨_, rfl⟩
      obtain ⟨Y, hY⟩ : ∃ Y, sumE (l.take (j + 1)) = Y := ⟨_, rfl⟩
      have hlj : (l.take j).length ≤ 1000000 := by have := List.length_take_le' j l; have := HN.out; omega
      have HADD : Hid (addS X (oneS e.val) = Y ∧ X.wf ∧ (oneS e.val).wf) := by
        have hv : ∀ x ∈ l.take j, i64R x.val := fun x hx => (HE.out.wf x (List.mem_of_mem_take hx)).2
        refine ⟨?_, by rw [← hX]; exact sumE_wf hv (by omega), by rw [← oneS_sum hwf.2]; exact sumE_wf (fun x hx => by simp at hx; rw [hx]; exact hwf.2) (by simp)⟩
        rw [← hX, ← hY, ht, ← oneS_sum hwf.2]
        exact sum_app _ _ (by simp; omega)
      have hs0 := HS.out
      rw [hX] at hs0
      have HY := Lib.hid hY
      subst hab
      clear ht hY hX hlj hwf
      have hjw : IntKind.i64.wrap ((j : Int) + 1) = (j : Int) + 1 := by rw [IntKind.wrap_i64]; omega
      have hJN : Hid (j + 1 ≤ n) := hlt
      obtain ⟨V, hV⟩ : ∃ V, e.val = V := ⟨_, rfl⟩
      rw [hV] at c1 HADD
      clear hV he hj
      go_upto_region 5 with fail
      have hb3 := below_newL wr (Obj.cells #[Value.int .i64 e.key, .int .i64 V] 49)
      have hr3 := heap_alloc_new wr (Obj.cells #[Value.int .i64 e.key, .int .i64 V] 49)
      have hs3 := hs0.calm hb3
      generalize wr.alloc (Obj.cells #[Value.int .i64 e.key, .int .i64 V] 49) = w3 at hb3 hr3 hs3 ⊢
      generalize wr.heap.size = ge at hr3 ⊢
      have hlt3 := (Array.getElem?_eq_some_iff.1 hr3).1
      have HCEL : Hid (∀ wx, Below w3.heap.size w3 wx → (wx.cell? ⟨g1, 0, none⟩ = some (.int .i64 X.n) ∧ wx.cell? ⟨g1, 1, none⟩ = some (.int .i64 X.s) ∧ wx.cell? ⟨g1, 2, none⟩ = some (.int .i64 X.mn) ∧ wx.cell? ⟨g1, 3, none⟩ = some (.int .i64 X.mx)) ∧ wx.cell? ⟨ge, 1, none⟩ = some (.int .i64 V)) := fun wx hb =>
        ⟨(row4_of (hs3.calm hb).b1).1, by rw [cell_of_row _ _ _ _ _ _ ((hb.block _ hlt3).trans hr3)]; rfl⟩
      have hbd : Below w3.heap.size w3 w3.drew := (Below.refl _ _).drew
      have HS3 := Lib.hid hs3
      clear hs0 hb3 hr3 hs3 hlt3 c0 c1
      refine anyG_begin (S := (fun w' => (w'.cell? ⟨g1, 0, none⟩ = some (.int .i64 X.n) ∧ w'.cell? ⟨g1, 1, none⟩ = some (.int .i64 X.s) ∧ w'.cell? ⟨g1, 2, none⟩ = some (.int .i64 X.mn) ∧ w'.cell? ⟨g1, 3, none⟩ = some (.int .i64 X.mx)) ∧ w'.cell? ⟨ge, 1, none⟩ = some (.int .i64 V))) (z := 5) (by kernel_rfl) (HCEL.out _ hbd) (fun hHeld => ?_)
      refine anyG_take (k := 0) (o := _) (v := ?_) (some 12) rfl (by kernel_rfl) (by kernel_rfl) (by kernel_rfl) (by kernel_rfl) (fun _ _ _ h => h) (Or.inl ⟨by rfl, ?_⟩) (by assumption) (by kernel_rfl) ?_
      rotate_left
      · intro w hSw; (try dsimp only at hSw); go_simp; try with_reducible rfl
      (try simp only [Act.put, List.setIfInBounds_toArray, List.set_cons_zero, List.set_cons_succ])
      refine anyG_take (k := 1) (o := _) (v := ?_) (some 13) rfl (by kernel_rfl) (by kernel_rfl) (by kernel_rfl) (by kernel_rfl) (fun _ _ _ h => h) (Or.inl ⟨by rfl, ?_⟩) (by assumption) (by kernel_rfl) ?_
      rotate_left
      · intro w hSw; (try dsimp only at hSw); go_simp; try with_reducible rfl
      (try simp only [Act.put, List.setIfInBounds_toArray, List.set_cons_zero, List.set_cons_succ])
      refine anyG_take (k := 2) (o := _) (v := ?_) (some 14) rfl (by kernel_rfl) (by kernel_rfl) (by kernel_rfl) (by kernel_rfl) (fun _ _ _ h => h) (Or.inl ⟨by rfl, ?_⟩) (by assumption) (by kernel_rfl) ?_
      rotate_left
      · intro w hSw; (try dsimp only at hSw); go_simp; try with_reducible rfl
      (try simp only [Act.put, List.setIfInBounds_toArray, List.set_cons_zero, List.set_cons_succ])
      refine anyG_one (k := 3) (o := _) (by kernel_rfl) rfl (fun KT hKT => ?_)
      go_simp
      go_at_call 26
      refine (ofValue_any V _).mono ?_
      rintro eB wB ⟨rfl, hbB⟩
      have hbB2 := hbd.trans (hbB.mono hbd.size)
      try go_wp2_with fail
      refine hKT.out _ _ (HCEL.out _ hbB2) (fun hHeld => ?_)
      clear hKT KT
      (try simp only [Act.put, List.setIfInBounds_toArray, List.set_cons_zero, List.set_cons_succ])
      refine anyG_one (k := 4) (o := _) (by kernel_rfl) rfl (fun KT hKT => ?_)
      go_simp
      go_at_call 12
      refine (addP_any X (oneS V) _ HADD.out.2.1 HADD.out.2.2).mono ?_
      rintro eC wC ⟨rfl, hbC⟩
      rw [HADD.out.1, smA_at]
      have hbC2 := hbB2.trans (hbC.mono hbB2.size)
      have hsC := HS3.out.calm hbC2
      try go_wp2_with fail
      refine hKT.out _ _ (HCEL.out _ hbC2) (fun hHeld => ?_)
      clear hKT KT
      (try simp only [Act.put, List.setIfInBounds_toArray, List.set_cons_zero, List.set_cons_succ])
      refine anyG_last (o := _) (by kernel_rfl) (by kernel_rfl) rfl (fun KT hKT => ?_)
      obtain ⟨⟨q0, q1, q2, q3⟩, p0, p1, p2, p3⟩ := row4_of hsC.b1
      go_simp
      refine hKT.out _ _ ?_
      clear hKT KT
      (try simp only [Act.put, List.setIfInBounds_toArray, List.set_cons_zero, List.set_cons_succ])
      have HEND : Hid (SB w g0 g1 (sumE (l.take (j + 1))) (put4 wC g1 Y)) := by rw [HY.out]; exact hsC.put4 Y
      clear hsC hbC2 hbB2 hbd hbB hbC HS3 HCEL hHeld
      change Exit.inBlock _ _ _ _ (put4 wC g1 Y)
      generalize put4 wC g1 Y = wE at HEND ⊢
      go_wp2_with fail
      exact ⟨⟨j + 1, by go_num, hJN.out, HEND.out⟩, by have := hJN.out; simp [intOf]; omega⟩
    · have hji : ¬ (j : Int) < (n : Int) := by omega
      have hjn : j = n := by omega
      obtain ⟨X, hX⟩ : ∃ X, sumE l = X := ⟨_, rfl⟩
      have hs0 := HS.out
      rw [List.take_of_length_le (by have := HN.out; omega), hX] at hs0
      obtain ⟨⟨a0, a1, a2, a3⟩, -⟩ := row4_of hs0.b1
      obtain ⟨⟨z0, z1, z2, z3⟩, f0, f1, f2, f3⟩ := row4_of hs0.b0
      have HE2 := Lib.hid (put4_same (X := .z) (Y := X) hs0.b0)
      have HB2 : Hid (Below w.heap.size w (put4 wr g0 X)) := hs0.below.trans (put4_below hs0.h0)
      have HX := Lib.hid hX
      clear hs0 HS hX hjn
      go_wp2_with fail
      refine bodyPost_ret (results_cell_row rfl _ _ g0 25 (smA X) (0, 0) _ rfl HE2.out HUN.out rfl HINF.out) rfl ?_
      rw [HX.out]
      exact ⟨rfl, HB2.out⟩
theorem xht_most {A : Ar} {i : Nat} {t : Tr} {l : List En} (hT : TreeAt A i t l) : 5 * (t.ht : Int) ≤ 2 * mostJ l.length ∧ 2 * (t.ht : Int) ≤ mostJ l.length := by
  unfold mostJ
  have h7 := hT.len
  have h8 := hT.ht (by omega)
  omega
theorem wideS {I : AImpl} {p : Value} {A : Ar} {rd bd bd2 : Int} {F : Nat → Prop} {v : Value} {w : World} {e : Ending} {w' : World} (h : ReadsTo I p A rd F bd v w e w') (hb : bd ≤ bd2) : ReadsTo I p A rd F bd2 v w e w' := by
  obtain ⟨F', rd', h1, h2, h3, h4, h5⟩ := h
  exact ⟨F', rd', h1, h2, h3, h4, by omega⟩
theorem smFn : SmFn where
  of := fun w h hn hl => ofP_any h hn hl
  add := fun x y w hx hy => addP_any x y w hx hy
  any := trivial
theorem smImpl (I : AImpl) : SmImpl I where
  range := fun lo hi w hI hT h0 h1 _ _ hv => (rangeP_any I lo hi w hI hT h0 h1 hv).mono fun e w' h => wideS h (xht_most hT).1
  pre := fun j w hI hT h0 h1 hj hv => (prefix_any I j w hI hT h0 h1 hj hv).mono fun e w' h => wideS h (xht_most hT).2
  any := trivial
end Go.Proofs.Ytbjmblfifnjafaa
