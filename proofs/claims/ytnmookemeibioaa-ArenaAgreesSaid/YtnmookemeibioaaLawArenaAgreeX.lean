/- The walk of ArenaAgrees. Condition: the program's functions and the reference's Dump keep their contracts. -/
import Derived.Test.YtnmookemeibioaaArAgreeX
import Derived.Deep.RegionHeld3
import Derived.BigQuiet
import Derived.Deep.CutBlock
set_option linter.unusedVariables false
namespace Go.Proofs.Ytnmookemeibioaa
open Go.RowKit
def AgrRel (I : AImpl) (w : World) (p : Value) (q n m : Nat) (i : Value) (wr : World) : Prop :=
  ∃ k : Nat, k ≤ m ∧ i = .int .i64 (k : Int) ∧ EndRel I w p q n k wr
set_option maxHeartbeats 8000000 in
set_option maxRecDepth 100000 in
theorem agree_long (I : AImpl) (c : Int) (a : Option Addr) (m cap : Nat) (w : World) (hm : cap ≤ maxLen) (hc : m ≤ cap) (hlong : 80 < m) :
    Calls Try.prog 4 #[.int .i64 c, .slice a m cap] w fun e w' => e = .returned (.bool true) ∧ Below w.heap.size w w' := by
  have hmi : (80 : Int) < (m : Int) := by omega
  clear hlong hm hc
  go_enter Try.func4, Try.ntmps4
  go_wp2_with fail
  refine (awake_any I _).mono ?_
  rintro e w3 ⟨rfl, hb3⟩
  have HB := Lib.hid hb3
  clear hb3
  go_wp2_with fail
  go_ret
  exact ⟨rfl, HB.out⟩
set_option maxHeartbeats 40000000 in
set_option maxRecDepth 100000 in
theorem agree_walk (hdump : RefDumpSpec) (hmk : RMakeSpec) (I : AImpl) (c : Int) (a : Option Addr) (m cap : Nat) (w : World) (hv1 : -9223372036854775808 ≤ c) (hv2 : c ≤ 9223372036854775807) (hl : StepsIn w a m) (hc : m ≤ cap) (hm : cap ≤ maxLen) :
    Calls Try.prog 4 #[.int .i64 c, .slice a m cap] w fun e w' => e = .returned (.bool true) ∧ Below w.heap.size w w' := by
  by_cases hlong : 80 < m
  · exact agree_long I c a m cap w hm hc hlong
  have hmi : (m : Int) ≤ 80 := by omega
  have hm80 : m ≤ 80 := by omega
  have HM80 := Lib.hid hm80
  have hr := Int.emod_nonneg c (b := 12) (by omega)
  have hr2 := Int.emod_lt_of_pos c (b := 12) (by omega)
  obtain ⟨r, hr3⟩ := Int.eq_ofNat_of_zero_le hr
  rw [hr3] at hr2
  have hr4 : r < 12 := by omega
  have HR := Lib.hid hr3
  obtain ⟨n, hn⟩ : ∃ n : Nat, n = r + 1 := ⟨_, rfl⟩
  have HN : Hid ((1 : Int) + (r : Int) = (n : Int)) := by show (1 : Int) + (r : Int) = (n : Int); omega
  have hn1 : 1 ≤ n := by omega
  have hn2 : n ≤ 12 := by omega
  have HN1 := Lib.hid hn1
  have HN2 := Lib.hid hn2
  have HLI := Lib.hid hl
  unfold maxLen at hm
  clear hr hr2 hr3 hn hl hm80 hlong
  go_enter Try.func4, Try.ntmps4
  go_wp2_with fail
  refine (mod_any c 12 _ hv1 hv2 (by decide) (by decide)).mono ?_
  rintro e w2 ⟨rfl, rfl⟩
  rw [HR.out]
  go_wp2_with fail
  rw [HN.out]
  refine (I.new_ok n w hn1 (by omega)).mono ?_
  rintro e w1 ⟨p, F, rfl, hI, hF, hb1⟩
  obtain ⟨pa, rfl⟩ := I.ptr hI
  have HI := Lib.hid hI
  have HF := Lib.hid hF
  have HB1 := Lib.hid hb1
  clear hI hF hb1
  go_wp2_with fail
  refine (rar_new n w1 hn1 (by omega)).mono ?_
  rintro e w2 ⟨q, r0, rfl, hR, hb2⟩
  have hD := ag_start HI.out HF.out HB1.out hR hb2
  clear hR hb2
  go_wp2_with fail
  refine (awake_any I _).mono ?_
  rintro e w3 ⟨rfl, hb3⟩
  have HD := Lib.hid (hD.calm hb3)
  clear hD hb3 hn1 hn2
  go_wp2_with fail
  go_loopw [9] (fun i wr => AgrRel I w (.pointer (some pa)) q n m i wr) (fun i _ => m - (intOf i).toNat)
  case atStart => exact ⟨0, Nat.zero_le _, rfl, _, _, _, _, rfl, Ar.init_inv HN1.out (by have := HN2.out; omega), Ar.init_agg n, fun _ => Nat.zero_le _, Int.le_refl 0, by omega, HD.out⟩
  case round =>
    clear HD
    obtain ⟨k, hk, rfl, A, rd, r1, held, hcap, hinv, hagg, hheld, hrd0, hrd1, hA⟩ := hrel
    have HCAP := Lib.hid hcap
    have HINV := Lib.hid hinv
    have HAGG := Lib.hid hagg
    have HHELD := Lib.hid hheld
    have HRD0 := Lib.hid hrd0
    have HRD1 := Lib.hid hrd1
    clear hcap hinv hagg hheld hrd0 hrd1
    by_cases hlt : k < m
    · have hki : (k : Int) < (m : Int) := by omega
      have hki0 : (0 : Int) ≤ (k : Int) := by omega
      obtain ⟨b, off, kd, key, val, x, y, hcs, hb1, hb2, hb3, hb4, hb5⟩ := (HLI.out.below hA.below) k hlt
      obtain ⟨rfl, hbl, c0, c1, c2, c3, c4⟩ := hcs
      obtain ⟨i, hi, hsi⟩ := slot_at x n hb4.1 hb4.2 HN1.out HN2.out
      obtain ⟨j, hj, hsj⟩ := slot_at y n hb5.1 hb5.2 HN1.out HN2.out
      have hal := below_new5 wr (Obj.cells #[Value.int .i64 kd, .int .i64 key, .int .i64 val, .int .u32 x, .int .u32 y] 43)
      have hx4 := heap_alloc_new wr (Obj.cells #[Value.int .i64 kd, .int .i64 key, .int .i64 val, .int .u32 x, .int .u32 y] 43)
      have HA4 := Lib.hid (hA.box hal)
      have HI4 := Lib.hid hi
      have HJ4 := Lib.hid hj
      have HB1 := Lib.hid hb1
      have HB2 := Lib.hid hb2
      have HB3 := Lib.hid hb3
      have HSI := Lib.hid hsi
      have HSJ := Lib.hid hsj
      have HLT := Lib.hid hlt
      clear hA hal hi hj hb1 hb2 hb3 hb4 hb5 hbl hsi hsj hlt
      go_upto_region 12 with fail
      clear c0 c1 c2 c3 c4
      have HG : Hid (wr.heap.size < (wr.alloc (Obj.cells #[Value.int .i64 kd, .int .i64 key, .int .i64 val, .int .u32 x, .int .u32 y] 43)).heap.size) := by show _ < _; simp
      generalize wr.alloc (Obj.cells #[Value.int .i64 kd, .int .i64 key, .int .i64 val, .int .u32 x, .int .u32 y] 43) = w4 at hx4 HA4 HG ⊢
      generalize wr.heap.size = g at hx4 HA4 HG ⊢
      obtain ⟨c0, c1, c2, c3, c4⟩ := row5r hx4
      have HX4 := Lib.hid hx4
      clear hx4
      go_quiet (first
        | (go_at_call_of 20 (Value.int .u32 x); exact Calls.quiet_of_same (HSI.out _))
        | (go_at_call_of 20 (Value.int .u32 y); exact Calls.quiet_of_same (HSJ.out _)))
      have hb5 : Below w4.heap.size w4 (w4.drewN nq) := below_drewN (Below.refl _ _) nq
      have HA5 := Lib.hid (HA4.out.calm hb5)
      have HX5 := Lib.hid (keep_blk HX4.out hb5)
      clear hb5 c0 c1 c2 c3 c4 HA4 HX4
      generalize w4.drewN nq = w5 at HA5 HX5 ⊢
      have HGG : Hid ((fun k => False ∨ (g ≤ k ∧ k < w4.heap.size)) g) := Or.inr ⟨Nat.le_refl _, HG.out⟩
      generalize (fun k => False ∨ (g ≤ k ∧ k < w4.heap.size)) = G at HA5 HGG
      clear HG
      obtain ⟨c0, c1, c2, c3, c4⟩ := row5r HX5.out
      have hr0 := Int.emod_nonneg kd (b := 6) (by omega)
      have hr1 := Int.emod_lt_of_pos kd (b := 6) (by omega)
      obtain ⟨rr, hrr⟩ : ∃ rr, kd % 6 = rr := ⟨_, rfl⟩
      have HRR := Lib.hid hrr
      rw [hrr] at hr0 hr1
      have HR01 : Hid (0 ≤ rr ∧ rr < 6) := ⟨hr0, hr1⟩
      clear hrr hr0 hr1
      go_wp2_with fail
      refine (mod_any kd 6 _ HB1.out.1 HB1.out.2 (by decide) (by decide)).mono ?_
      rintro e w6 ⟨rfl, rfl⟩
      rw [HRR.out]
      clear HRR c0 c3 c4
      go_upto_block 2 with fail
      go_cut [13] from 50 to 226 (fun s13 wx => s13 = .bool true ∧ EndRel I w (.pointer (some pa)) q n (k + 1) wx)
      case first =>
        rcases (show rr = 3 ∨ rr = 4 ∨ rr = 5 ∨ (rr ≠ 3 ∧ rr ≠ 4 ∧ rr ≠ 5) by have := HR01.out; omega) with rfl | rfl | rfl | hrn
        · as_aux_lemma =>
          clear c1 c2
          by_cases hx : A.Idx i
          · have HX := Lib.hid hx
            clear hx
            go_wp2_with fail
            refine (ag_retain HA5.out HI4.out HX.out (fun _ => by have := inv_cnt HINV.out (fun j => Nat.le_trans (HHELD.out j) (by have := HM80.out; omega)) i; omega)).mono ?_
            rintro e w7 ⟨r7, rfl, hA7, -⟩
            have HA7 := Lib.hid hA7
            clear hA7
            go_wp2_with fail
            refine (ag_rretain HA7.out HINV.out.ok HI4.out HX.out (by have := inv_cnt HINV.out (fun j => Nat.le_trans (HHELD.out j) (by have := HM80.out; omega)) i; omega)).mono ?_
            rintro e w8 ⟨r8, rfl, hA8, -⟩
            have HA8 := Lib.hid hA8
            clear hA8
            go_wp2_with fail
            go_meet
            obtain ⟨held', h1, h2, h3, h4⟩ := ret_inv HINV.out HAGG.out HHELD.out HX.out
            exact ⟨rfl, A.ret i, rd, r8, held', h3.trans HCAP.out, h1, h2, h4, HRD0.out, by have := HRD1.out; omega, HA8.out.less (fun _ h => h.elim)⟩
          · have HX := Lib.hid hx
            clear hx
            go_wp2_with fail
            refine (ag_retain_bad HA5.out HI4.out HX.out).mono ?_
            rintro e w7 ⟨r7, rfl, hA7, -⟩
            have HA7 := Lib.hid hA7
            clear hA7
            go_wp2_with fail
            refine (ag_rretain_bad HA7.out HINV.out.ok HI4.out HX.out).mono ?_
            rintro e w8 ⟨r8, rfl, hA8, -⟩
            have HA8 := Lib.hid hA8
            clear hA8
            go_wp2_with fail
            go_meet
            exact ⟨rfl, A, rd, r8, held, HCAP.out, HINV.out, HAGG.out, fun j => by have := HHELD.out j; omega, HRD0.out, by have := HRD1.out; omega, HA8.out.less (fun _ h => h.elim)⟩
        · as_aux_lemma =>
          clear c1 c2
          have hbd : ∀ y, held y ≤ 1048576 := fun y => Nat.le_trans (HHELD.out y) (by have := HM80.out; omega)
          have HCN := Lib.hid (inv_cnt HINV.out hbd)
          clear hbd
          have HRC : Hid (∀ wx r', AG I w.heap.size w wx (.pointer (some pa)) q A rd A rd r' G → Calls Try.prog 23 #[.pointer (some ⟨q, 0, none⟩), .int .u32 (i : Int)] wx (fun e w' => e = .returned (.int .i64 (A.cnt i)) ∧ AG I w.heap.size w w' (.pointer (some pa)) q A rd A rd r' G ∧ Below wx.heap.size wx w')) := fun wx r' h => ag_rcnt h HINV.out.ok (fun y hy => (HINV.out.off y hy).1) HI4.out
          cases hon : A.σ.on i with
          | false =>
            have hz : A.cnt i = 0 := (HINV.out.off i hon).1
            rw [hz] at HRC
            have HON := Lib.hid hon
            clear hz hon
            go_wp2_with fail
            refine (HRC.out _ _ HA5.out).mono ?_
            rintro e w7 ⟨rfl, hA7, -⟩
            have HA7 := Lib.hid hA7
            clear hA7
            by_cases h0 : i = 0
            · subst h0
              go_wp2_with fail
              refine (ag_release HA7.out (by decide) (.inl rfl) HINV.out.give0).mono ?_
              rintro e w8 ⟨r8, rfl, hA8, -⟩
              rw [(gone_zero A).1] at hA8
              rw [(gone_zero A).2]
              have HA8 := Lib.hid hA8
              clear hA8
              go_wp2_with fail
              refine (ag_rrelease HA8.out HINV.out.ok (i := 0) (by decide) (.inl rfl) HINV.out.give0 (fun y => by have := HCN.out y; omega)).mono ?_
              rintro e w9 ⟨r9, rfl, hA9, -⟩
              rw [(gone_zero A).1] at hA9
              rw [(gone_zero A).2]
              have HA9 := Lib.hid hA9
              clear hA9
              go_wp2_with fail
              go_meet
              exact ⟨rfl, A, rd, r9, held, HCAP.out, HINV.out, HAGG.out, fun y => by have := HHELD.out y; omega, HRD0.out, by have := HRD1.out; omega, HA9.out.less (fun _ h => h.elim)⟩
            · have hnx : ¬ A.Idx i := fun h => by
                rcases h with h | h
                · exact h0 h
                · rw [HON.out] at h; cases h
              have HNX := Lib.hid hnx
              clear hnx h0
              go_wp2_with fail
              refine (ag_release_bad HA7.out HI4.out HNX.out).mono ?_
              rintro e w8 ⟨r8, rfl, hA8, -⟩
              have HA8 := Lib.hid hA8
              clear hA8
              go_wp2_with fail
              refine (ag_rrelease_bad HA8.out HINV.out.ok HI4.out HNX.out).mono ?_
              rintro e w9 ⟨r9, rfl, hA9, -⟩
              have HA9 := Lib.hid hA9
              clear hA9
              go_wp2_with fail
              go_meet
              exact ⟨rfl, A, rd, r9, held, HCAP.out, HINV.out, HAGG.out, fun y => by have := HHELD.out y; omega, HRD0.out, by have := HRD1.out; omega, HA9.out.less (fun _ h => h.elim)⟩
          | true =>
            have hcc := HINV.out.cnt i hon
            simp only [List.count_nil, Nat.add_zero] at hcc
            have hpos := HINV.out.pos i hon
            have HON := Lib.hid hon
            have HCC := Lib.hid hcc
            clear hon hcc
            generalize hCn : A.cnt i = Cn at HRC hpos HCC
            have HCn := Lib.hid hCn
            clear hCn
            have hpos2 : (0 : Int) < Cn := by omega
            clear hpos
            go_wp2_with fail
            refine (HRC.out _ _ HA5.out).mono ?_
            rintro e w7 ⟨rfl, hA7, -⟩
            have HA7 := Lib.hid hA7
            clear hA7
            go_wp2_with fail
            refine (rar_edges HA7.out.ref HINV.out.ok i HI4.out).mono ?_
            rintro e w8 ⟨rfl, rfl⟩
            go_wp2_with fail
            refine (HRC.out _ _ HA7.out).mono ?_
            rintro e w9 ⟨rfl, hA9, -⟩
            have HA9 := Lib.hid hA9
            clear hA9 HA7
            by_cases hh : held i = 0
            · have heq : (((A.refs i : Nat) : Int) == Cn) = true := by rw [HCC.out, hh]; simp
              clear hh
              go_wp2_with fail
              refine ⟨⟨k + 1, by have := HLT.out; omega, by go_num, A, rd, r1, held, HCAP.out, HINV.out, HAGG.out, fun y => by have := HHELD.out y; omega, HRD0.out, by have := HRD1.out; omega, HA9.out.less (fun _ h => h.elim)⟩, by have := HLT.out; simp [intOf]; omega⟩
            · have heq : (((A.refs i : Nat) : Int) == Cn) = false := beq_eq_false_iff_ne.2 (by rw [HCC.out]; omega)
              have hgv := HINV.out.give (i := i) (by omega)
              have HGV := Lib.hid hgv
              obtain ⟨k1, k2, k3, k4⟩ := gone_cap hgv HAGG.out
              have HK1 := Lib.hid k1
              have HK2 := Lib.hid k2
              have HK3 := Lib.hid k3
              clear hgv hh k1 k2 k3 k4
              go_wp2_with fail
              refine (ag_release HA9.out HI4.out (.inr HON.out) HGV.out).mono ?_
              rintro e w10 ⟨r10, rfl, hA10, -⟩
              have HA10 := Lib.hid hA10
              clear hA10
              go_wp2_with fail
              refine (ag_rrelease HA10.out HINV.out.ok HI4.out (.inr HON.out) HGV.out (fun y => by have := HCN.out y; omega)).mono ?_
              rintro e w11 ⟨r11, rfl, hA11, -⟩
              have HA11 := Lib.hid hA11
              clear hA11
              have hfe : (((A.freed i : Nat) : Int) == ((A.freed i : Nat) : Int)) = true := by simp
              go_wp2_with fail
              go_meet
              exact ⟨rfl, A.gone i, rd, r11, less held i, HK3.out.trans HCAP.out, HK1.out, HK2.out, less_le HHELD.out i, HRD0.out, by have := HRD1.out; omega, HA11.out.less (fun _ h => h.elim)⟩
        · as_aux_lemma =>
          clear c1 c2
          have HOFF := Lib.hid (inv_off HINV.out)
          have HOFC : Hid (∀ y, A.σ.on y = false → A.cnt y = 0) := fun y hy => (HINV.out.off y hy).1
          have hrk := HRD1.out
          have hkk := HM80.out
          have hkl := HLT.out
          have hu := up_le A i rd
          have hu2 := up_le A j (A.up i rd)
          have hr0 := HRD0.out
          have HU : Hid ((0 ≤ A.up i rd ∧ A.up i rd < 4611686018427387904) ∧ (0 ≤ A.up j (A.up i rd) ∧ A.up j (A.up i rd) ≤ 2 * (((k + 1 : Nat)) : Int)) ∧ rd < 4611686018427387904) := by
            refine ⟨⟨?_, ?_⟩, ⟨?_, ?_⟩, ?_⟩ <;> omega
          clear hrk hkk hkl hu hu2 hr0
          go_wp2_with fail
          refine (ag_node HA5.out HOFF.out HI4.out HRD0.out HU.out.2.2).mono ?_
          rintro e w7 ⟨r7, rfl, hA7, -⟩
          have hal8 := below_new5 w7 (Obj.cells (ndA (A.nd i)) 50)
          have HX8 := Lib.hid (heap_alloc_new w7 (Obj.cells (ndA (A.nd i)) 50))
          have HA8 := Lib.hid (hA7.box hal8)
          have HBX : Hid (w7.heap.size < (w7.alloc (Obj.cells (ndA (A.nd i)) 50)).heap.size) := by show _ < _; simp
          clear hA7 hal8
          unfold ndA
          go_upto_region 27 with fail
          rw [show #[Value.int .i64 (A.nd i).key, .int .i64 (A.nd i).val, .int .u32 ((A.nd i).left : Int), .int .u32 ((A.nd i).right : Int), .int .i64 (A.nd i).size, .int .i64 (A.nd i).sum, .int .i64 (A.nd i).mn, .int .i64 (A.nd i).mx] = ndA (A.nd i) from rfl]
          generalize w7.alloc (Obj.cells (ndA (A.nd i)) 50) = w8 at HX8 HA8 HBX ⊢
          generalize w7.heap.size = bx at HX8 HA8 HBX ⊢
          have HGX : Hid ((fun k => G k ∨ (bx ≤ k ∧ k < w8.heap.size)) bx) := Or.inr ⟨Nat.le_refl _, HBX.out⟩
          generalize (fun k => G k ∨ (bx ≤ k ∧ k < w8.heap.size)) = G8 at HA8 HGX
          clear HBX
          go_wp2_with fail
          refine (ag_rnode HA8.out HINV.out.ok HOFF.out HI4.out HRD0.out HU.out.2.2).mono ?_
          rintro e w9 ⟨r9, rfl, hA9, hG9⟩
          have hx9 := (hG9 bx HGX.out).trans HX8.out
          have hal10 := below_new5 w9 (Obj.cells (ndA (A.nd i)) 50)
          have HX10 := Lib.hid (keep_blk hx9 hal10)
          have HY10 := Lib.hid (heap_alloc_new w9 (Obj.cells (ndA (A.nd i)) 50))
          have hbY : Hid (bx < w9.heap.size) := (hA9.gl bx HGX.out).1
          have hA10 := (hA9.box hal10).less (G' := fun k => k = bx ∨ k = w9.heap.size) (fun k h => by
            rcases h with rfl | rfl
            · exact .inl HGX.out
            · exact .inr ⟨Nat.le_refl _, by simp⟩)
          have HA10 := Lib.hid hA10
          clear hA9 hG9 hx9 hal10 hA10
          unfold ndA
          go_upto_region 28 with fail
          rw [show #[Value.int .i64 (A.nd i).key, .int .i64 (A.nd i).val, .int .u32 ((A.nd i).left : Int), .int .u32 ((A.nd i).right : Int), .int .i64 (A.nd i).size, .int .i64 (A.nd i).sum, .int .i64 (A.nd i).mn, .int .i64 (A.nd i).mx] = ndA (A.nd i) from rfl]
          generalize w9.alloc (Obj.cells (ndA (A.nd i)) 50) = w10 at HX10 HY10 HA10 ⊢
          generalize w9.heap.size = bY at HY10 HA10 hbY ⊢
          generalize hN : A.nd i = X at HX10 HY10 ⊢
          clear hN
          have hQ : QS I w.heap.size w w10 (.pointer (some pa)) q A (A.up i rd) (A.up i rd) r9 bx bY X := ⟨HA10.out, HX10.out, HY10.out⟩
          have hQd := hQ.calm (Below.refl _ _).drew
          obtain ⟨d0, d1, d2, d3, d4, -⟩ := hQd.ag.six
          obtain ⟨x0, x1, x2, x3, x4, x5, x6, x7⟩ := ndA_cells hQd.hx
          obtain ⟨y0, y1, y2, y3, y4, y5, y6, y7⟩ := ndA_cells hQd.hy
          clear HX10 HY10 HA10 hQ
          have hbb : (A.σ.on i == A.σ.on i) = true := by simp
          have hss : ((A.nd j).size == (A.nd j).size) = true := by simp
          have hcc : (A.cnt i == A.cnt i) = true := by simp
          have hgg : (A.σ.gen j == A.σ.gen j) = true := by simp
          go_region_held3 (fun w' => w'.cell? ⟨q, 0, none⟩ = some (.int .i64 (A.σ.cap : Int)) ∧ w'.cell? ⟨q, 1, none⟩ = some (.slice r9.sa r9.st.length r9.sc) ∧ w'.cell? ⟨q, 2, none⟩ = some (.int .i64 (r9.fr : Int)) ∧ w'.cell? ⟨q, 3, none⟩ = some (.slice r9.ga A.σ.cap r9.gc) ∧ w'.cell? ⟨q, 4, none⟩ = some (.slice r9.oa A.σ.cap r9.oc) ∧ w'.cell? ⟨bx, 0, none⟩ = some (.int .i64 X.key) ∧ w'.cell? ⟨bx, 1, none⟩ = some (.int .i64 X.val) ∧ w'.cell? ⟨bx, 2, none⟩ = some (.int .u32 (X.left : Int)) ∧ w'.cell? ⟨bx, 3, none⟩ = some (.int .u32 (X.right : Int)) ∧ w'.cell? ⟨bx, 4, none⟩ = some (.int .i64 X.size) ∧ w'.cell? ⟨bx, 5, none⟩ = some (.int .i64 X.sum) ∧ w'.cell? ⟨bx, 6, none⟩ = some (.int .i64 X.mn) ∧ w'.cell? ⟨bx, 7, none⟩ = some (.int .i64 X.mx) ∧ w'.cell? ⟨bY, 0, none⟩ = some (.int .i64 X.key) ∧ w'.cell? ⟨bY, 1, none⟩ = some (.int .i64 X.val) ∧ w'.cell? ⟨bY, 2, none⟩ = some (.int .u32 (X.left : Int)) ∧ w'.cell? ⟨bY, 3, none⟩ = some (.int .u32 (X.right : Int)) ∧ w'.cell? ⟨bY, 4, none⟩ = some (.int .i64 X.size) ∧ w'.cell? ⟨bY, 5, none⟩ = some (.int .i64 X.sum) ∧ w'.cell? ⟨bY, 6, none⟩ = some (.int .i64 X.mn) ∧ w'.cell? ⟨bY, 7, none⟩ = some (.int .i64 X.mx)) (go_keep) (first
            | (go_at_call 29; refine (qs_size (by assumption) HOFF.out HJ4.out HU.out.1.1 HU.out.1.2).mono ?_; rintro e wS ⟨rfl, hQS⟩; obtain ⟨d0, d1, d2, d3, d4, -⟩ := hQS.ag.six; obtain ⟨x0, x1, x2, x3, x4, x5, x6, x7⟩ := ndA_cells hQS.hx; obtain ⟨y0, y1, y2, y3, y4, y5, y6, y7⟩ := ndA_cells hQS.hy)
            | (go_at_call 30; refine (qs_rsize (by assumption) HINV.out.ok HOFF.out HJ4.out HU.out.1.1 HU.out.1.2).mono ?_; rintro e wT ⟨rfl, hQT⟩; obtain ⟨d0, d1, d2, d3, d4, -⟩ := hQT.ag.six; obtain ⟨x0, x1, x2, x3, x4, x5, x6, x7⟩ := ndA_cells hQT.hx; obtain ⟨y0, y1, y2, y3, y4, y5, y6, y7⟩ := ndA_cells hQT.hy)
            | (go_at_call 31; refine (qs_cnt (by assumption) HI4.out).mono ?_; rintro e wC ⟨rfl, hQC⟩; obtain ⟨d0, d1, d2, d3, d4, -⟩ := hQC.ag.six; obtain ⟨x0, x1, x2, x3, x4, x5, x6, x7⟩ := ndA_cells hQC.hx; obtain ⟨y0, y1, y2, y3, y4, y5, y6, y7⟩ := ndA_cells hQC.hy)
            | (go_at_call 23; refine (qs_rcnt (by assumption) HINV.out.ok HOFC.out HI4.out).mono ?_; rintro e wD ⟨rfl, hQD⟩; obtain ⟨d0, d1, d2, d3, d4, -⟩ := hQD.ag.six; obtain ⟨x0, x1, x2, x3, x4, x5, x6, x7⟩ := ndA_cells hQD.hx; obtain ⟨y0, y1, y2, y3, y4, y5, y6, y7⟩ := ndA_cells hQD.hy)
            | (go_at_call 32; refine (qs_gen (by assumption) HJ4.out).mono ?_; rintro e wE ⟨rfl, hQE⟩; obtain ⟨d0, d1, d2, d3, d4, -⟩ := hQE.ag.six; obtain ⟨x0, x1, x2, x3, x4, x5, x6, x7⟩ := ndA_cells hQE.hx; obtain ⟨y0, y1, y2, y3, y4, y5, y6, y7⟩ := ndA_cells hQE.hy)
            | (go_at_call 33; refine (qs_rgen (by assumption) HINV.out.ok HJ4.out).mono ?_; rintro e wH ⟨rfl, hQH⟩; obtain ⟨d0, d1, d2, d3, d4, -⟩ := hQH.ag.six; obtain ⟨x0, x1, x2, x3, x4, x5, x6, x7⟩ := ndA_cells hQH.hx; obtain ⟨y0, y1, y2, y3, y4, y5, y6, y7⟩ := ndA_cells hQH.hy))
          have HQH := Lib.hid hQH
          clear hQS hQT hQC hQD hQE hQH hQd d0 d1 d2 d3 d4 x0 x1 x2 x3 x4 x5 x6 x7 y0 y1 y2 y3 y4 y5 y6 y7
          go_wp2_with fail
          go_meet
          exact ⟨rfl, A, A.up j (A.up i rd), r9, held, HCAP.out, HINV.out, HAGG.out, fun y => by have := HHELD.out y; omega, HU.out.2.1.1, HU.out.2.1.2, HQH.out.ag.less (fun _ h => h.elim)⟩
        · as_aux_lemma =>
          obtain ⟨hn3, hn4, hn5⟩ := hrn
          have e3 : (rr == 3) = false := beq_eq_false_iff_ne.2 hn3
          have e4 : (rr == 4) = false := beq_eq_false_iff_ne.2 hn4
          have e5 : (rr == 5) = false := beq_eq_false_iff_ne.2 hn5
          clear hn3 hn4 hn5
          have hbd : ∀ y, held y ≤ 1048576 := fun y => Nat.le_trans (HHELD.out y) (by have := HM80.out; omega)
          have HBD := Lib.hid hbd
          obtain ⟨A', i', er, hmo⟩ := mk_out A key val i j
          have HMO := Lib.hid hmo
          clear hbd hmo
          go_wp2_with fail
          refine (ag_make HA5.out HINV.out HAGG.out HBD.out HB2.out HB3.out HI4.out HJ4.out HMO.out).mono ?_
          rintro e w7 ⟨r7, rfl, hA7, hG7⟩
          have HA7 := Lib.hid hA7
          have HX7 := Lib.hid ((hG7 g HGG.out).trans HX5.out)
          clear hA7 hG7 c1 c2
          obtain ⟨-, c1, c2, -, -⟩ := row5r HX7.out
          go_wp2_with fail
          refine (ag_rmake hmk HA7.out HINV.out HAGG.out HBD.out HB3.out HI4.out HJ4.out HMO.out).mono ?_
          rintro e w8 ⟨r8, rfl, hA8, -⟩
          have HA8 := Lib.hid hA8
          have hie : (((i' : Nat) : Int) == ((i' : Nat) : Int)) = true := by simp
          have hee : (er == er) = true := by simp
          clear hA8 c1 c2
          go_wp2_with fail
          go_meet
          obtain ⟨held', h1, h2, h3, h4⟩ := mk_inv HINV.out HAGG.out HHELD.out HMO.out
          exact ⟨rfl, A', rd, r8, held', h3.trans HCAP.out, h1, h2, h4, HRD0.out, by have := HRD1.out; omega, HA8.out.less (fun _ h => h.elim)⟩
      case' rest =>
        rename World => w6
        obtain ⟨rfl, A2, rd2, r2, held2, hcap2, hinv2, hagg2, hheld2, hrd2, hrd3, hA2⟩ := hcut
        obtain ⟨d0, d1, d2, d3, d4, d7⟩ := hA2.six
        have HA2 := Lib.hid hA2
        have HINV2 := Lib.hid hinv2
        have HR2 : Hid (A2.σ.cap = n ∧ A2.Agg ∧ (∀ j, held2 j ≤ k + 1) ∧ 0 ≤ rd2 ∧ rd2 ≤ 2 * (((k + 1 : Nat)) : Int)) := ⟨hcap2, hagg2, hheld2, hrd2, hrd3⟩
        have hbd : Below w6.heap.size w6 w6.drew := (Below.refl _ _).drew
        have hff : (((A2.σ.free.length : Nat) : Int) != ((A2.σ.free.length : Nat) : Int)) = false := by simp
        have hqq : (rd2 != rd2) = false := by simp
        have hfl := hinv2.ok.len
        have hfc := hinv2.ok.cap2
        have HFC : Hid (A2.σ.cap ≤ 65536 ∧ A2.σ.free.length ≤ 65536) := ⟨hfc, by omega⟩
        clear hA2 hinv2 hcap2 hagg2 hheld2 hrd2 hrd3 hfl hfc c1 c2 HA5 HX5
        go_upto_region 29 with fail
        go_region_held3 (fun w' => Below w6.heap.size w6 w' ∧ w'.cell? ⟨q, 0, none⟩ = some (.int .i64 (A2.σ.cap : Int)) ∧ w'.cell? ⟨q, 1, none⟩ = some (.slice r2.sa r2.st.length r2.sc) ∧ w'.cell? ⟨q, 2, none⟩ = some (.int .i64 (r2.fr : Int)) ∧ w'.cell? ⟨q, 3, none⟩ = some (.slice r2.ga A2.σ.cap r2.gc) ∧ w'.cell? ⟨q, 4, none⟩ = some (.slice r2.oa A2.σ.cap r2.oc) ∧ w'.cell? ⟨q, 7, none⟩ = some (.int .u64 rd2)) (go_keep) (first
          | (go_at_call 13; refine (ag_free (HA2.out.calm (by assumption))).mono ?_; rintro e wF ⟨rfl, hbF⟩; have hbF2 := below_chain (a := w6) (by assumption) hbF; obtain ⟨p0, p1, p2, p3, p4, p7⟩ := (HA2.out.calm hbF2).six)
          | (go_at_call 36; refine (ag_order (HA2.out.calm (by assumption)) HINV2.out.ok).mono ?_; rintro e wO ⟨oa, oc, rfl, hbO⟩; have hbO2 := below_chain (a := w6) (by assumption) hbO; obtain ⟨p0, p1, p2, p3, p4, p7⟩ := (HA2.out.calm hbO2).six)
          | (go_at_call 15; refine (ag_reads (HA2.out.calm (by assumption))).mono ?_; rintro e wR ⟨rfl, hbR⟩; have hbR2 := below_chain (a := w6) (by assumption) hbR; obtain ⟨p0, p1, p2, p3, p4, p7⟩ := (HA2.out.calm hbR2).six)
          | (go_at_call 17; refine (ag_dump (HA2.out.calm (by assumption)) HINV2.out).mono ?_; rintro e wP ⟨pa1, pc1, pb1, pd1, pB1, rfl, hsP, hfP, hbP⟩; have hbP2 := below_chain (a := w6) (by assumption) hbP; obtain ⟨p0, p1, p2, p3, p4, p7⟩ := (HA2.out.calm hbP2).six; have HSP := Lib.hid hsP; have HFP := Lib.hid hfP; (try have HSRX := Lib.hid (HSR.out.below hbP)); (try have HFRX := Lib.hid (row_below HFR.out hbP)); clear hsP hfP)
          | (go_at_call 19; refine (ag_rdump hdump (HA2.out.calm (by assumption)) HINV2.out).mono ?_; rintro e wQ ⟨qa1, qc1, qb1, qd1, qB1, rfl, hsR, hfR, hbQ⟩; have hbQ2 := below_chain (a := w6) (by assumption) hbQ; obtain ⟨p0, p1, p2, p3, p4, p7⟩ := (HA2.out.calm hbQ2).six; have HSR := Lib.hid hsR; have HFR := Lib.hid hfR; (try have HSPX := Lib.hid (HSP.out.below hbQ)); (try have HFPX := Lib.hid (row_below HFP.out hbQ)); clear hsR hfR)
          | (go_at_call 16; (first | (refine (same_dump A2.σ.free rfl HSPX.out HSR.out HFPX.out HFR.out HFC.out.1 HFC.out.2).mono ?_) | (refine (same_dump A2.σ.free rfl HSP.out HSRX.out HFP.out HFRX.out HFC.out.1 HFC.out.2).mono ?_)); rintro e wZ ⟨rfl, hbZ⟩; have hbZ2 := below_chain (a := w6) (by assumption) hbZ; obtain ⟨p0, p1, p2, p3, p4, p7⟩ := (HA2.out.calm hbZ2).six))
        have HAZ := Lib.hid (HA2.out.calm hbZ2)
        clear hbF hbF2 hbO hbO2 hbR hbR2 hbP hbP2 hbQ hbQ2 hbZ hbZ2 hbd p0 p1 p2 p3 p4 p7 d0 d1 d2 d3 d4 d7
        go_wp2_with fail
        exact ⟨⟨k + 1, by have := HLT.out; omega, by go_num, A2, rd2, r2, held2, HR2.out.1, HINV2.out, HR2.out.2.1, HR2.out.2.2.1, HR2.out.2.2.2.1, HR2.out.2.2.2.2, HAZ.out⟩, by have := HLT.out; simp [intOf]; omega⟩
    · have hki : ¬ (k : Int) < (m : Int) := by omega
      have HB := Lib.hid hA.below
      clear hA
      go_wp2_with fail
      go_ret
      exact ⟨rfl, HB.out⟩
end Go.Proofs.Ytnmookemeibioaa
