/- The walk of ArenaAggregates. Condition: the program's functions keep their contracts. -/
import Derived.Test.YtnmookemeibioaaArAgg1
import Derived.Test.YtnmookemeibioaaPlay3
import Derived.BigQuiet
import Derived.Laws.NewBlocks
import Derived.Deep.CutRange
import Derived.Deep.RegionHeld3
set_option linter.unusedVariables false
namespace Go.Proofs.Ytnmookemeibioaa
open Go.RowKit
def NodeCut (I : AImpl) (B q : Nat) (w0 : World) (p x : Value) (A : Ar) (rd : Int) (l : List Nat) (i : Nat) (s8 s9 : Value) (wx : World) : Prop :=
  ∃ (g : Nat) (rd' : Int), s8 = .pointer (some ⟨g, 0, none⟩) ∧ s9 = .bool (A.σ.on i) ∧ rd ≤ rd' ∧ rd' ≤ rd + 1 ∧ PB I B w0 wx q p x A rd' l [(g, A.nd i)]
set_option maxHeartbeats 40000000 in
set_option maxRecDepth 100000 in
theorem agg_walk (I : AImpl) (c : Int) (a : Option Addr) (m cap : Nat) (w : World) (hv1 : -9223372036854775808 ≤ c) (hv2 : c ≤ 9223372036854775807) (hl : StepsIn w a m) (hc : m ≤ cap) (hm : cap ≤ maxLen) :
    Calls Try.prog 7 #[.int .i64 c, .slice a m cap] w fun e w' => e = .returned (.bool true) ∧ Below w.heap.size w w' := by
  have hr := Int.emod_nonneg c (b := 14) (by omega)
  have hr2 := Int.emod_lt_of_pos c (b := 14) (by omega)
  obtain ⟨r, hr3⟩ := Int.eq_ofNat_of_zero_le hr
  rw [hr3] at hr2
  have hr4 : r < 14 := by omega
  have HR := Lib.hid hr3
  obtain ⟨n, hn⟩ : ∃ n : Nat, n = r + 1 := ⟨_, rfl⟩
  have HN : Hid ((1 : Int) + (r : Int) = (n : Int)) := by show (1 : Int) + (r : Int) = (n : Int); omega
  have hn1 : 1 ≤ n := by omega
  have hn2 : n ≤ 30 := by omega
  have HLI := Lib.hid hl
  clear hr hr2 hr3 hn hl
  go_enter Try.func7, Try.ntmps7
  go_wp2_with fail
  refine (mod_any c 14 _ hv1 hv2 (by decide) (by decide)).mono ?_
  rintro e w2 ⟨rfl, rfl⟩
  rw [HR.out]
  go_wp2_with fail
  rw [HN.out]
  refine (play_any I a n m cap _ HLI.out hc hm hn1 hn2).mono ?_
  rintro e w1 ⟨q, pa, A, xa, xc, l, rfl, hcap, hl80, hT⟩
  have HT := Lib.hid hT
  obtain ⟨L, hL⟩ : ∃ L, l.length = L := ⟨_, rfl⟩
  have HL := Lib.hid hL
  have HCAP := Lib.hid hcap
  have hli : L ≤ 80 := by omega
  have HLI80 := Lib.hid hli
  clear hT hcap hl80 hL hli
  go_wp2_with fail
  refine (awake_any I _).mono ?_
  rintro e w3 ⟨rfl, hb3⟩
  have HT3 := Lib.hid (HT.out.calm hb3)
  clear hb3 HT hn1 hn2
  go_wp2_with fail
  go_loopw [7] (fun i wr => ∃ (k : Nat) (rd : Int), k ≤ L ∧ k ≤ 20 ∧ i = .int .i64 (k : Int) ∧ 0 ≤ rd ∧ rd ≤ 4 * (k : Int) ∧ TC I w.heap.size w wr q (.pointer (some pa)) (.slice xa l.length xc) A rd (hof l) l) (fun i _ => 20 - (intOf i).toNat)
  case atStart => exact ⟨0, 0, Nat.zero_le _, by omega, rfl, Int.le_refl 0, by omega, HT3.out⟩
  case round =>
    obtain ⟨k, rd, hk, hk20, rfl, hrd0, hrd1, hT⟩ := hrel
    obtain ⟨hc0, hc1⟩ := hT.cells
    rw [HL.out] at hc1
    have HT := Lib.hid hT
    have HRD0 := Lib.hid hrd0
    have HRD1 := Lib.hid hrd1
    have HK20 := Lib.hid hk20
    clear HT3
    by_cases hlt : k < L
    · have hki : (k : Int) < (L : Int) := by omega
      by_cases h20 : k < 20
      · have hki8 : (k : Int) < 20 := by omega
        have hki0 : (0 : Int) ≤ (k : Int) := by omega
        have hLi : (L : Int) ≤ 80 := by have := HLI80.out; omega
        have hkl : k < l.length := by rw [HL.out]; exact hlt
        have hmem := getD_in hkl
        have hidx := held_idx hT.inv (.inr hmem)
        have hrow := hT.row
        rw [HL.out] at hrow
        obtain ⟨gr, hgr⟩ := row_head hrow (by omega)
        subst hgr
        have hcell := (hrow.cellAt k (by omega)).trans (held_get hkl)
        obtain ⟨i, hi⟩ : ∃ i, l.getD k 0 = i := ⟨_, rfl⟩
        rw [hi] at hcell hmem hidx
        have hi4 : i < 4294967296 := by
          rcases hidx with h5 | h5
          · omega
          · have := hT.inv.ok.on i h5; have := hT.inv.ok.cap2; omega
        have HI4 := Lib.hid hi4
        have HIX := Lib.hid hidx
        have HII := Lib.hid hi
        have HKL := Lib.hid hkl
        have HP := Lib.hid (pb_start hT)
        have HLT := Lib.hid hlt
        have H20 := Lib.hid h20
        have hrdb : rd < 4611686018427387904 := by omega
        have HRDB := Lib.hid hrdb
        have hql : q < wr.heap.size := hT.lt
        have hgl : gr < wr.heap.size := (row_lt hT.row gr rfl).2
        have hn1 : ¬ q = wr.heap.size := by omega
        have hn2 : ¬ wr.heap.size = q := by omega
        have hn3 : ¬ gr = wr.heap.size := by omega
        have hn4 : ¬ wr.heap.size = gr := by omega
        have HQL := Lib.hid hql
        have HGL := Lib.hid hgl
        clear hql hgl
        have hall : ∀ (wx : World) (rd' : Int) (D : List (Nat × Nd)), PB I w.heap.size w wx q (.pointer (some pa)) (.slice (some ⟨gr, 0, none⟩) l.length xc) A rd' l D → wx.cell? ⟨q, 0, none⟩ = some (.pointer (some pa)) ∧ wx.cell? ⟨q, 1, none⟩ = some (.slice (some ⟨gr, 0, none⟩) L xc) ∧ wx.cell? ⟨gr, k, none⟩ = some (.int .u32 (i : Int)) := fun wx rd' D h => by
          obtain ⟨e0, e1⟩ := h.tc.cells
          rw [HL.out] at e1
          have hr := h.tc.row
          refine ⟨e0, e1, ?_⟩
          rw [← HII.out]
          exact (hr.cellAt k (by rw [HL.out]; have := HLT.out; omega)).trans (held_get HKL.out)
        have HALL := Lib.hid hall
        clear hT hrd0 hrd1 hk hk20 hkl hmem hidx hrow hi hi4 hlt h20 hrdb hall
        go_upto_region 7 with fail
        go_cut [8, 9] from 30 to 156 (fun s8 s9 wx => NodeCut I w.heap.size q w (.pointer (some pa)) (.slice (some ⟨gr, 0, none⟩) l.length xc) A rd l i s8 s9 wx)
        case first =>
          have hpB := HP.out.drew
          have hpA := HP.out.alloc0.drew
          go_region_held3 (fun w' => w'.cell? ⟨q, 0, none⟩ = some (.pointer (some pa)) ∧ w'.cell? ⟨q, 1, none⟩ = some (.slice (some ⟨gr, 0, none⟩) L xc) ∧ w'.cell? ⟨gr, k, none⟩ = some (.int .u32 (i : Int))) (go_keep) ((go_at_call 27; refine (pb_node (by assumption) HI4.out HRD0.out HRDB.out).mono ?_; rintro e w7 ⟨rd', rfl, hr1, hr2, h7⟩; obtain ⟨e0, e1, e2⟩ := HALL.out _ _ _ h7; (try (have hz := (h7.boxes (wr.heap.size, Nd.zero) (List.mem_append_right [] (List.Mem.head []))).1; obtain ⟨z0, z1, z2, z3, z4, z5, z6, z7⟩ := row8 hz; obtain ⟨f0, f1, f2, f3, f4, f5, f6, f7⟩ := frozen8 hz; have HZ := Lib.hid hz; clear hz)); have H7 := Lib.hid h7; have HR7 := Lib.hid (And.intro hr1 hr2); clear h7 hr1 hr2; unfold ndA))
          · go_wp2_with fail
            go_meet
            exact ⟨w7.heap.size, rd', rfl, rfl, HR7.out.1, HR7.out.2, H7.out.alloc (A.nd i)⟩
          · go_wp2_with fail
            go_meet
            exact ⟨wr.heap.size, rd', rfl, rfl, HR7.out.1, HR7.out.2, H7.out.put8 (X := Nd.zero) (Y := A.nd i) (List.mem_append_right [] (List.Mem.head [])) (fun d hd => .inl (by simpa using hd))⟩
        case' rest =>
          rename World => w8
          obtain ⟨g, rd', rfl, rfl, hr1, hr2, hP8⟩ := hcut
          have HP8 := Lib.hid hP8
          have HR8 := Lib.hid (And.intro hr1 hr2)
          clear HP hn1 hn2 hn3 hn4 hcell hc0 hc1 hr1 hr2 hP8
          obtain ⟨hc0, hc1, hcell⟩ := HALL.out _ _ _ HP8.out
          by_cases h0 : i = 0
          · have hoff : A.σ.on i = false := by
              rw [h0]
              cases hq : A.σ.on 0 with
              | false => rfl
              | true => have := HP8.out.tc.inv.ok.on 0 hq; omega
            rw [hoff]
            have hi0 : ((i : Int) == 0) = true := by rw [h0]; rfl
            clear hoff h0
            go_wp2_with fail
            refine ⟨⟨k + 1, rd', by have := HLT.out; omega, by have := H20.out; omega, by go_num, by have := HR8.out; have := HRD0.out; omega, by have := HR8.out; have := HRD1.out; omega, HP8.out.tc⟩, by have := H20.out; simp [intOf]; omega⟩
          · have hon : A.σ.on i = true := by
              rcases HIX.out with e | e
              · exact absurd e h0
              · exact e
            rw [hon]
            have hi0 : ((i : Int) == 0) = false := beq_eq_false_iff_ne.2 (by omega)
            have HON := Lib.hid hon
            clear hon h0
            obtain ⟨X, hX⟩ : ∃ X, A.nd i = X := ⟨_, rfl⟩
            rw [hX] at HP8
            obtain ⟨Lf, hLf⟩ : ∃ Lf, X.left = Lf := ⟨_, rfl⟩
            obtain ⟨Rg, hRg⟩ : ∃ Rg, X.right = Rg := ⟨_, rfl⟩
            have hch := HP8.out.tc.inv.child i HON.out
            rw [hX, hLf, hRg] at hch
            have hok := HP8.out.tc.inv.ok
            have HLf : Hid (Lf < 4294967296) := by
              show Lf < 4294967296
              rcases hch.1 with h | h
              · omega
              · have := hok.on Lf h; have := hok.cap2; omega
            have HRg : Hid (Rg < 4294967296) := by
              show Rg < 4294967296
              rcases hch.2 with h | h
              · omega
              · have := hok.on Rg h; have := hok.cap2; omega
            have HCH := Lib.hid hch
            have HX := Lib.hid hX
            have HLE := Lib.hid hLf
            have HRE := Lib.hid hRg
            have hx8 := (HP8.out.boxes (g, X) (List.Mem.head _)).1
            obtain ⟨-, -, c2, c3, -⟩ := row8 hx8
            rw [hLf] at c2
            rw [hRg] at c3
            have hgl := (Array.getElem?_eq_some_iff.1 hx8).1
            have nga : ¬ g = w8.heap.size := by omega
            have ngb : ¬ w8.heap.size = g := by omega
            have ngc : ¬ g = w8.heap.size + 1 := by omega
            have ngd : ¬ w8.heap.size + 1 = g := by omega
            have hall2 : ∀ (wx : World) (rd2 : Int) (D : List (Nat × Nd)), PB I w.heap.size w wx q (.pointer (some pa)) (.slice (some ⟨gr, 0, none⟩) l.length xc) A rd2 l D → (g, X) ∈ D → wx.cell? ⟨g, 2, none⟩ = some (.int .u32 (Lf : Int)) ∧ wx.cell? ⟨g, 3, none⟩ = some (.int .u32 (Rg : Int)) ∧ g < wx.heap.size := fun wx rd2 D h hd => by
              have h1 : wx.heap[g]? = some (.cells (ndA X) 50 (0, 0)) := (h.boxes (g, X) hd).1
              obtain ⟨-, -, c2, c3, -⟩ := row8 h1
              rw [HLE.out] at c2
              rw [HRE.out] at c3
              exact ⟨c2, c3, (Array.getElem?_eq_some_iff.1 h1).1⟩
            have HALL2 := Lib.hid hall2
            clear hall2
            have hb0 : 0 ≤ rd' := by have := HR8.out; have := HRD0.out; omega
            have hb1 : rd' ≤ 1000 := by have := HR8.out; have := HRD1.out; have := H20.out; omega
            clear hX hLf hRg hch hok hx8 hgl
            go_upto_region 11 with fail
            clear hc0 hc1 hcell
            go_cut [10, 11] from 30 to 156 (fun s10 s11 wx => BelowCut I w.heap.size q w (.pointer (some pa)) (.slice (some ⟨gr, 0, none⟩) l.length xc) A rd' l g X s10 s11 wx)
            case first =>
              have hp0 := HP8.out.drew
              have hp1 := HP8.out.alloc0.drew
              have hp2 := HP8.out.alloc0.alloc0.drew
              go_region_held3 (fun w' => w'.cell? ⟨g, 2, none⟩ = some (.int .u32 (Lf : Int)) ∧ w'.cell? ⟨g, 3, none⟩ = some (.int .u32 (Rg : Int))) (go_keep) (first
                | (go_at_call_of 39 (Value.int .u32 (Lf : Int)); refine (pb_below (by assumption) HLf.out (by first | exact hb0 | exact Int.le_trans hb0 (by assumption)) (by first | exact Int.lt_of_le_of_lt hb1 (by decide) | (refine Int.lt_of_le_of_lt (by assumption) (Int.lt_of_le_of_lt (Int.add_le_add_right hb1 1) (by decide))))).mono ?_; rintro e wL ⟨rdL, rfl, hrL1, hrL2, hL⟩; obtain ⟨e2, e3, hgL⟩ := HALL2.out _ _ _ hL (by first | exact List.Mem.head _ | exact List.mem_append_left _ (List.Mem.head _) | exact List.mem_append_left _ (List.mem_append_left _ (List.Mem.head _))); have nLa : ¬ g = wL.heap.size := Nat.ne_of_lt hgL; have nLb : ¬ wL.heap.size = g := (Nat.ne_of_lt hgL).symm; have nLc : ¬ g = wL.heap.size + 1 := Nat.ne_of_lt (Nat.lt_succ_of_lt hgL); have nLd : ¬ wL.heap.size + 1 = g := (Nat.ne_of_lt (Nat.lt_succ_of_lt hgL)).symm; (try (obtain ⟨hz, hzl⟩ := hL.last; (try simp only [size_alloc1] at hz hzl); obtain ⟨qLa, qLb, qLc, qLd, qLe, qLf⟩ := apart4 hzl; clear hzl; obtain ⟨z0, z1, z2, z3, z4, z5, z6, z7⟩ := row8 hz; obtain ⟨f0, f1, f2, f3, f4, f5, f6, f7⟩ := frozen8 hz; clear hz)); (try (obtain ⟨hy, hyl⟩ := hL.last2; (try simp only [size_alloc1] at hy hyl); obtain ⟨rLa, rLb, rLc, rLd, rLe, rLf⟩ := apart4 hyl; clear hyl; obtain ⟨y0, y1, y2, y3, y4, y5, y6, y7⟩ := row8 hy; obtain ⟨k0, k1, k2, k3, k4, k5, k6, k7⟩ := frozen8 hy; clear hy)); have hLa := hL.alloc0; have hLb := hLa.alloc0; clear hgL; unfold ndA)
                | (go_at_call_of 39 (Value.int .u32 (Rg : Int)); refine (pb_below (by assumption) HRg.out (by first | exact hb0 | exact Int.le_trans hb0 (by assumption)) (by first | exact Int.lt_of_le_of_lt hb1 (by decide) | (refine Int.lt_of_le_of_lt (by assumption) (Int.lt_of_le_of_lt (Int.add_le_add_right hb1 1) (by decide))))).mono ?_; rintro e wR ⟨rdR, rfl, hrR1, hrR2, hR⟩; obtain ⟨e2, e3, hgR⟩ := HALL2.out _ _ _ hR (by first | exact List.Mem.head _ | exact List.mem_append_left _ (List.Mem.head _) | exact List.mem_append_left _ (List.mem_append_left _ (List.Mem.head _))); have nRa : ¬ g = wR.heap.size := Nat.ne_of_lt hgR; have nRb : ¬ wR.heap.size = g := (Nat.ne_of_lt hgR).symm; have nRc : ¬ g = wR.heap.size + 1 := Nat.ne_of_lt (Nat.lt_succ_of_lt hgR); have nRd : ¬ wR.heap.size + 1 = g := (Nat.ne_of_lt (Nat.lt_succ_of_lt hgR)).symm; (try (obtain ⟨hz, hzl⟩ := hR.last; (try simp only [size_alloc1] at hz hzl); obtain ⟨qRa, qRb, qRc, qRd, qRe, qRf⟩ := apart4 hzl; clear hzl; obtain ⟨z0, z1, z2, z3, z4, z5, z6, z7⟩ := row8 hz; obtain ⟨f0, f1, f2, f3, f4, f5, f6, f7⟩ := frozen8 hz; clear hz)); (try (obtain ⟨hy, hyl⟩ := hR.last2; (try simp only [size_alloc1] at hy hyl); obtain ⟨rRa, rRb, rRc, rRd, rRe, rRf⟩ := apart4 hyl; clear hyl; obtain ⟨y0, y1, y2, y3, y4, y5, y6, y7⟩ := row8 hy; obtain ⟨k0, k1, k2, k3, k4, k5, k6, k7⟩ := frozen8 hy; clear hy)); have hRa := hR.alloc0; have hRb := hRa.alloc0; clear hgR; unfold ndA))
              all_goals
                have hle : rd' ≤ rdR := Int.le_trans hrL1 hrR1
                have hle2 : rdR ≤ rd' + 2 := by have h5 := Int.add_le_add_right hrL2 1; have h6 := Int.le_trans hrR2 h5; rw [Int.add_assoc] at h6; exact h6
                have HLE2 := Lib.hid hle
                have HLE3 := Lib.hid hle2
                have HRR := Lib.hid hR
                go_wp2_with fail
                go_meet
                unfold BelowCut
                rw [HLE.out, HRE.out]
                have hRR := HRR.out
                (try simp only [size_alloc1] at hRR)
                (try simp only [List.cons_append, List.nil_append] at hRR)
                refine ⟨_, _, rdR, rfl, rfl, HLE2.out, HLE3.out, ?_⟩
                first
                  | (with_reducible exact cl12 hRR)
                  | (with_reducible exact cl21 hRR)
                  | (with_reducible exact cl3 hRR (by assumption))
                  | (with_reducible exact cl5 hRR (by assumption) (by assumption) (by first | assumption | exact Nat.ne_of_lt (Nat.lt_succ_self _)))
                  | (with_reducible exact cl6 hRR (by assumption) (by assumption) (by first | assumption | exact Nat.ne_of_lt (Nat.lt_succ_self _)))
                  | (with_reducible exact cl4 hRR (by assumption))
            case' rest => as_aux_lemma =>
              rename World => w9
              obtain ⟨g1, g2, rd2, rfl, rfl, hr1, hr2, hP9⟩ := hcut
              have HP9 := Lib.hid hP9
              have HR9 := Lib.hid (And.intro hr1 hr2)
              clear nga ngb ngc ngd hr1 hr2 hP9 c2 c3
              obtain ⟨hc0, hc1, hcell⟩ := HALL.out _ _ _ HP9.out
              have hfac := agg_facts HP9.out.tc.inv HP9.out.tc.agg HON.out
              rw [HX.out] at hfac
              generalize hY : A.nd X.left = Y at HP9 hfac
              generalize hZ : A.nd X.right = Z at HP9 hfac
              obtain ⟨⟨ys1, ys2⟩, ⟨zs1, zs2⟩, f1, f2, f3, f4⟩ := hfac
              have F1 := Lib.hid f1
              have F2 := Lib.hid f2
              have F3 := Lib.hid f3
              have F4 := Lib.hid f4
              have HII2 := Lib.hid hb1
              have HII3 := Lib.hid hb0
              clear f1 f2 f3 f4 hY hZ hc0 hc1 hcell hb0 hb1
              have hgx : w9.heap[g]? = some (.cells (ndA X) 50 (0, 0)) := (HP9.out.boxes (g, X) (by simp)).1
              have hgy : w9.heap[g1]? = some (.cells (ndA Y) 50 (0, 0)) := (HP9.out.boxes (g1, Y) (by simp)).1
              have hgz : w9.heap[g2]? = some (.cells (ndA Z) 50 (0, 0)) := (HP9.out.boxes (g2, Z) (by simp)).1
              obtain ⟨x0, x1, x2, x3, x4, x5, x6, x7⟩ := row8 hgx
              obtain ⟨-, -, -, -, y4, y5, y6, y7⟩ := row8 hgy
              obtain ⟨-, -, -, -, z4, z5, z6, z7⟩ := row8 hgz
              clear hgx hgy hgz
              go_upto_region 12 with fail
              go_quiet (fail)
              have HPA := Lib.hid (HP9.out.calm (below_drewN (Below.refl _ _) nq))
              generalize w9.drewN nq = wa at HPA ⊢
              clear x0 x1 x2 x3 x4 x5 x6 x7 y4 y5 y6 y7 z4 z5 z6 z7
              have hgx : wa.heap[g]? = some (.cells (ndA X) 50 (0, 0)) := (HPA.out.boxes (g, X) (by simp)).1
              have hgy : wa.heap[g1]? = some (.cells (ndA Y) 50 (0, 0)) := (HPA.out.boxes (g1, Y) (by simp)).1
              have hgz : wa.heap[g2]? = some (.cells (ndA Z) 50 (0, 0)) := (HPA.out.boxes (g2, Z) (by simp)).1
              obtain ⟨x0, x1, x2, x3, x4, x5, x6, x7⟩ := row8 hgx
              obtain ⟨-, -, -, -, y4, y5, y6, y7⟩ := row8 hgy
              obtain ⟨-, -, -, -, z4, z5, z6, z7⟩ := row8 hgz
              clear hgx hgy hgz
              go_upto_region 13 with fail
              go_quiet (fail)
              have HPB := Lib.hid (HPA.out.calm (below_drewN (Below.refl _ _) nq))
              generalize wa.drewN nq = wb at HPB ⊢
              clear x0 x1 x2 x3 x4 x5 x6 x7 y4 y5 y6 y7 z4 z5 z6 z7
              have hgx : wb.heap[g]? = some (.cells (ndA X) 50 (0, 0)) := (HPB.out.boxes (g, X) (by simp)).1
              have hgy : wb.heap[g1]? = some (.cells (ndA Y) 50 (0, 0)) := (HPB.out.boxes (g1, Y) (by simp)).1
              have hgz : wb.heap[g2]? = some (.cells (ndA Z) 50 (0, 0)) := (HPB.out.boxes (g2, Z) (by simp)).1
              obtain ⟨x0, x1, x2, x3, x4, x5, x6, x7⟩ := row8 hgx
              obtain ⟨-, -, -, -, y4, y5, y6, y7⟩ := row8 hgy
              obtain ⟨-, -, -, -, z4, z5, z6, z7⟩ := row8 hgz
              clear hgx hgy hgz
              rw [← F1.out, ← F2.out]
              obtain ⟨hc0, hc1, hcell⟩ := HALL.out _ _ _ HPB.out
              have HNE : Hid (∀ v : Int, (v != v) = false) := fun v => by simp
              have e1 := HNE.out X.size
              have e2 := HNE.out X.sum
              have e3 := HNE.out X.mn
              have e4 := HNE.out X.mx
              have hrdx : 0 ≤ rd2 ∧ rd2 < 4611686018427387904 := by
                have h1 := HR9.out; have h2 := HII2.out; have h3 := HII3.out
                constructor <;> omega
              have HRX := Lib.hid hrdx
              clear hrdx
              have f3 := F3.out
              have f4 := F4.out
              obtain ⟨lo, hlo⟩ : ∃ lo, (if X.left = 0 then X.val else min X.val Y.mn) = lo := ⟨_, rfl⟩
              obtain ⟨hi, hhi⟩ : ∃ hi, (if X.left = 0 then X.val else max X.val Y.mx) = hi := ⟨_, rfl⟩
              rw [hlo] at f3
              rw [hhi] at f4
              have G3 := Lib.hid f3
              have G4 := Lib.hid f4
              have HLO := Lib.hid hlo
              have HHI := Lib.hid hhi
              clear f3 f4 hlo hhi F3 F4
              go_upto_if 95 with fail
              go_cut [14, 15] from 30 to 156 (fun s14 s15 wx => s14 = .int .i64 lo ∧ s15 = .int .i64 hi ∧ PB I w.heap.size w wx q (.pointer (some pa)) (.slice (some ⟨gr, 0, none⟩) l.length xc) A rd2 l [(g, X), (g1, Y), (g2, Z)])
              case first =>
                have hlo := HLO.out
                have hhi := HHI.out
                by_cases hl0 : X.left = 0
                · have hlb : ((X.left : Int) != 0) = false := by rw [hl0]; rfl
                  rw [if_pos hl0] at hlo hhi
                  have HL1 := Lib.hid hlo
                  have HL2 := Lib.hid hhi
                  clear hl0 hlo hhi
                  go_wp2_with fail
                  go_meet
                  exact ⟨by rw [HL1.out], by rw [HL2.out], HPB.out⟩
                · have hlb : ((X.left : Int) != 0) = true := bne_iff_ne.2 (fun e => hl0 (by omega))
                  rw [if_neg hl0] at hlo hhi
                  have HL1 := Lib.hid hlo
                  have HL2 := Lib.hid hhi
                  have m1 := min_run X.val Y.mn
                  have m2 := max_run X.val Y.mx
                  clear hl0 hlo hhi
                  go_upto_region 15 with fail
                  go_region
                  go_wp2_with fail
                  go_meet
                  exact ⟨by rw [HL1.out], by rw [HL2.out], HPB.out.drew⟩
              case' rest =>
              rename World => wc
              obtain ⟨rfl, rfl, hPC⟩ := hcut
              have HPC := Lib.hid hPC
              clear hPC hc0 hc1 hcell
              clear x0 x1 x2 x3 x4 x5 x6 x7 y4 y5 y6 y7 z4 z5 z6 z7
              have hgx : wc.heap[g]? = some (.cells (ndA X) 50 (0, 0)) := (HPC.out.boxes (g, X) (by simp)).1
              have hgy : wc.heap[g1]? = some (.cells (ndA Y) 50 (0, 0)) := (HPC.out.boxes (g1, Y) (by simp)).1
              have hgz : wc.heap[g2]? = some (.cells (ndA Z) 50 (0, 0)) := (HPC.out.boxes (g2, Z) (by simp)).1
              obtain ⟨x0, x1, x2, x3, x4, x5, x6, x7⟩ := row8 hgx
              obtain ⟨-, -, -, -, y4, y5, y6, y7⟩ := row8 hgy
              obtain ⟨-, -, -, -, z4, z5, z6, z7⟩ := row8 hgz
              clear hgx hgy hgz
              go_upto_if 106 with fail
              go_cut [14, 15] from 30 to 156 (fun s14 s15 wx => s14 = .int .i64 X.mn ∧ s15 = .int .i64 X.mx ∧ PB I w.heap.size w wx q (.pointer (some pa)) (.slice (some ⟨gr, 0, none⟩) l.length xc) A rd2 l [(g, X), (g1, Y), (g2, Z)])
              case first =>
                have hlo := G3.out
                have hhi := G4.out
                by_cases hr0 : X.right = 0
                · have hrb : ((X.right : Int) != 0) = false := by rw [hr0]; rfl
                  rw [if_pos hr0] at hlo hhi
                  have HL1 := Lib.hid hlo
                  have HL2 := Lib.hid hhi
                  clear hr0 hlo hhi
                  go_wp2_with fail
                  go_meet
                  exact ⟨by rw [HL1.out], by rw [HL2.out], HPC.out⟩
                · have hrb : ((X.right : Int) != 0) = true := bne_iff_ne.2 (fun e => hr0 (by omega))
                  rw [if_neg hr0] at hlo hhi
                  have HL1 := Lib.hid hlo
                  have HL2 := Lib.hid hhi
                  have m1 := min_run lo Z.mn
                  have m2 := max_run hi Z.mx
                  clear hr0 hlo hhi
                  go_upto_region 17 with fail
                  go_region
                  go_wp2_with fail
                  go_meet
                  exact ⟨by rw [HL1.out], by rw [HL2.out], HPC.out.drew⟩
              case' rest =>
              rename World => wd
              obtain ⟨rfl, rfl, hPD⟩ := hcut
              have HPD := Lib.hid hPD
              clear hPD
              clear x0 x1 x2 x3 x4 x5 x6 x7 y4 y5 y6 y7 z4 z5 z6 z7
              have hgx : wd.heap[g]? = some (.cells (ndA X) 50 (0, 0)) := (HPD.out.boxes (g, X) (by simp)).1
              have hgy : wd.heap[g1]? = some (.cells (ndA Y) 50 (0, 0)) := (HPD.out.boxes (g1, Y) (by simp)).1
              have hgz : wd.heap[g2]? = some (.cells (ndA Z) 50 (0, 0)) := (HPD.out.boxes (g2, Z) (by simp)).1
              obtain ⟨x0, x1, x2, x3, x4, x5, x6, x7⟩ := row8 hgx
              obtain ⟨-, -, -, -, y4, y5, y6, y7⟩ := row8 hgy
              obtain ⟨-, -, -, -, z4, z5, z6, z7⟩ := row8 hgz
              clear hgx hgy hgz
              obtain ⟨hc0, hc1, hcell⟩ := HALL.out _ _ _ HPD.out
              clear y4 y5 y6 y7 z4 z5 z6 z7
              go_upto_region 18 with fail
              go_region_held3 (fun w' => w'.cell? ⟨q, 0, none⟩ = some (.pointer (some pa)) ∧ w'.cell? ⟨q, 1, none⟩ = some (.slice (some ⟨gr, 0, none⟩) L xc) ∧ w'.cell? ⟨gr, k, none⟩ = some (.int .u32 (i : Int)) ∧ w'.cell? ⟨g, 4, none⟩ = some (.int .i64 X.size) ∧ w'.cell? ⟨g, 5, none⟩ = some (.int .i64 X.sum) ∧ w'.cell? ⟨g, 6, none⟩ = some (.int .i64 X.mn) ∧ w'.cell? ⟨g, 7, none⟩ = some (.int .i64 X.mx)) (go_keep) ((go_at_call 29; refine (pb_size (HPD.out.calm (by exact ⟨rfl, rfl, rfl, Nat.le_refl _, fun _ _ => rfl⟩)) HI4.out HRX.out.1 HRX.out.2).mono ?_; rw [HX.out]; rintro e wS ⟨rdS, rfl, hrS1, hrS2, hS⟩; obtain ⟨s0, s1, s2⟩ := HALL.out _ _ _ hS; obtain ⟨-, -, -, -, t4, t5, t6, t7⟩ := row8 (show wS.heap[g]? = some (.cells (ndA X) 50 (0, 0)) from (hS.boxes (g, X) (by simp)).1)))
              have HS := Lib.hid hS.tc
              have HRS := Lib.hid (And.intro hrS1 hrS2)
              clear hS hrS1 hrS2 s0 s1 s2 t4 t5 t6 t7 x0 x1 x2 x3 x4 x5 x6 x7 hc0 hc1 hcell
              go_wp2_with fail
              refine ⟨⟨k + 1, rdS, by have := HLT.out; omega, by have := H20.out; omega, by go_num, ?_, ?_, HS.out⟩, by have := H20.out; simp [intOf]; omega⟩
              · exact Int.le_trans HRX.out.1 HRS.out.1
              · have h1 := HRS.out.2
                have h2 := HR9.out.2
                have h3 := HR8.out.2
                have h4 := HRD1.out
                clear e1 e2 e3 e4
                have h5 : (((k + 1 : Nat)) : Int) = (k : Int) + 1 := by omega
                rw [h5]
                omega
      · have h20i : decide ((k : Int) < 20) = false := decide_eq_false (by omega)
        have hki0 : (0 : Int) ≤ (k : Int) := by omega
        clear hlt hk hk20 hrd0 hrd1 h20 hT
        go_wp2_with fail
        go_ret
        exact ⟨rfl, HT.out.below⟩
    · have hki : ¬ (k : Int) < (L : Int) := by omega
      clear hlt hk hk20 hrd0 hrd1 hT
      go_wp2_with fail
      go_ret
      exact ⟨rfl, HT.out.below⟩
end Go.Proofs.Ytnmookemeibioaa
