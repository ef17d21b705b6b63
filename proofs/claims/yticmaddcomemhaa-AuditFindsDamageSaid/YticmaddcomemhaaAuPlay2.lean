/- The client of layer 6's statements plays the first steps of a list. -/
import Derived.Test.YticmaddcomemhaaAuPlay1
import Derived.Test.YticmaddcomemhaaAuBuilt
import Derived.Test.YticmaddcomemhaaKitMod
import Derived.Test.YticmaddcomemhaaSlotsAid
import Derived.Test.YticmaddcomemhaaSoundP
import Derived.Test.YticmaddcomemhaaChkS
import Derived.Deep.CutRange
import Derived.Deep.RegionHeld3
import Derived.Deep.DeepCutAuto
set_option linter.unusedVariables false
namespace Go.Proofs.Yticmaddcomemhaa
open Go.RowKit
theorem results_cell_tmp2 {fn : Func} {p u v : Tmp} {ty : TypeId} (h : fn.results = #[.cell p ty, .tmp u, .tmp v]) (tmps : Array Value) (P : Program) (w : World) :
    (results fn tmps).run P w =
      ((asAddr (tmps.getD p undef)).run P w).andThen fun a w₁ => ((loadVar ty a).run P w₁).andThen fun x w₂ => .ok (.tuple #[x, tmps.getD u undef, tmps.getD v undef]) w₂ := by
  simp only [results, h]
  simp [Sem.run_bind, Result.andThen]
theorem results_row_tmp2 {P : Program} {fn : Func} {p u v : Tmp} {ty : TypeId} (h : fn.results = #[.cell p ty, .tmp u, .tmp v]) (tmps : Array Value) (w : World) (g : Nat) (t : TypeId) (cs : Array Value) (fr : Nat × Nat) (d : TypeDesc)
    (hp : tmps.getD p undef = .pointer (some ⟨g, 0, none⟩)) (hg : w.heap[g]? = some (.cells cs t fr))
    (hu : P.underlying ty = some d) (hd : (match d with | .struct _ | .array _ _ => true | _ => false) = true) (hi : (P.info? ty).map (·.size) = some cs.size) :
    (results fn tmps).run P w = .ok (.tuple #[.agg cs, tmps.getD u undef, tmps.getD v undef]) w := by
  rw [results_cell_tmp2 h]
  simp [hp, asAddr, Result.andThen, run_loadVar_row w g t ty cs fr d hg hu hd hi]
/-- block q alone was changed -/
structure OnlyQ (q : Nat) (w w' : World) : Prop where
  os : w'.os = w.os
  tape : w'.tape = w.tape
  output : w'.output = w.output
  size : w'.heap.size = w.heap.size
  block : ∀ k, k ≠ q → w'.heap[k]? = w.heap[k]?
theorem only_two (w : World) (q : Nat) (x y : Value) : OnlyQ q w ((w.setCell ⟨q, 0, none⟩ x).setCell ⟨q, 1, none⟩ y) :=
  ⟨rfl, rfl, rfl, by simp [World.setCell], fun k hk => by rw [heap_setCell_other _ _ _ _ hk, heap_setCell_other _ _ _ _ hk]⟩
theorem OnlyQ.below {B q : Nat} {w0 w w' : World} (h : OnlyQ q w w') (hb : Below B w0 w) (hB : B ≤ q) : Below B w0 w' :=
  hb.trans ⟨h.os, h.tape, h.output, Nat.le_of_eq h.size.symm, fun k hk => h.block k (by omega)⟩
theorem OnlyQ.row {q B n s : Nat} {e : TypeId} {v : Value} {xs : List Value} {w w' : World} (h : OnlyQ q w w') (hr : w.ownsRow B e s v n xs) (hB : q < B) : w'.ownsRow B e s v n xs :=
  row_keep hr fun k hk => h.block k (by have := row_from hr k hk; omega)
theorem own_one {w : World} {B g : Nat} {e : TypeId} {v : Value} (hg : w.heap[g]? = some (.cells #[v] e (0, 0))) (hB : B ≤ g) : w.ownsRow B e 1 (.slice (some ⟨g, 0, none⟩) 1 1) 1 [v] :=
  ⟨rfl, .inr ⟨g, 1, #[v], rfl, hB, hg, Nat.le_refl _, by unfold maxLen; omega, rfl, rfl⟩⟩
/-- the arena and what is held, while the steps are played -/
def PlayRel (I : AImpl) (B : Nat) (w0 : World) (p : Value) (n k : Nat) (x : Value) (wr : World) : Prop :=
  ∃ (A : Ar) (xa : Option Addr) (xc : Nat) (l : List Nat), A.σ.cap = n ∧ 0 < l.length ∧ l.length ≤ k + 1 ∧ x = .slice xa l.length xc ∧ TB I B w0 wr p (.slice xa l.length xc) A (hof l) l
set_option maxHeartbeats 8000000 in
set_option maxRecDepth 100000 in
theorem build_any (I : AImpl) (a : Option Addr) (n m cap : Nat) (w : World) (hl : Steps6 w a m) (hc : m ≤ cap) (hm : cap ≤ maxLen) (h1 : 1 ≤ n) (h2 : n ≤ 30) :
    Calls Try.prog 19 #[.int .i64 (n : Int), .slice a m cap] w (BuildRes n w) := by
  obtain ⟨i0, ji, jz0, jz1, jz2⟩ := info_parts uInfo
  have hin : (Try.prog.info? 25).map (·.size) = some 2 := by kernel_rfl
  have HIN := Lib.hid hin
  have HU : Hid _ := Lib.hid Try.underlying25
  unfold maxLen at hm
  have hmi : (m : Int) ≤ 9223372036854775807 := by omega
  have HLI := Lib.hid hl
  have hb1 := below_new w (Obj.cells #[Value.slice none 0 0, .slice none 0 0] 25)
  have HB1 := Lib.hid hb1
  have HBX := Lib.hid (heap_alloc_new w (Obj.cells #[Value.slice none 0 0, .slice none 0 0] 25))
  have HZ : Hid ((w.alloc (Obj.cells #[Value.slice none 0 0, .slice none 0 0] 25)).heap.size = w.heap.size + 1) := by show _ = _; simp
  clear hl hin hb1
  go_enter Try.func19, Try.ntmps19
  go_upto_region 1 with fail
  generalize w.alloc (Obj.cells #[Value.slice none 0 0, .slice none 0 0] 25) = w1 at HB1 HBX HZ ⊢
  have HQQ : Hid (∃ q, q = w.heap.size) := ⟨_, rfl⟩
  go_wp2_with fail
  refine (I.new_ok n w1 h1 (by omega)).mono ?_
  rintro e w2 ⟨p, F, rfl, hI, hF, hb2⟩
  obtain ⟨pa, rfl⟩ := I.ptr hI
  have hTB : TB I w1.heap.size w1 (w2.alloc (Obj.cells #[Value.int .u32 0] 32)) (.pointer (some pa)) (.slice (some ⟨w2.heap.size, 0, none⟩) 1 1) (Ar.init n) (hof [0]) [0] := by
    refine ⟨⟨F, I.below hI (below_new _ _), hF, fun k hk hf => by simp [Value.ownBlock] at hk; have := I.dom hI _ hf; omega⟩, ?_, Ar.init_agg n, hb2.trans ((below_new w2 _).mono hb2.size), by have := hb2.size; simp; omega, own_one (heap_alloc_new w2 _) hb2.size⟩
    have := Ar.init_inv h1 (show n ≤ 65536 by omega)
    rw [show hof [0] = fun _ => 0 by funext i; simp [hof]; intro h; rw [List.count_eq_zero]; simp; exact h]
    exact this
  have HR0 : Hid (PlayRel I w1.heap.size w1 (.pointer (some pa)) n 0 (.slice (some ⟨w2.heap.size, 0, none⟩) 1 1) (w2.alloc (Obj.cells #[Value.int .u32 0] 32))) := ⟨Ar.init n, _, _, [0], rfl, by decide, by decide, rfl, hTB⟩
  clear hTB hI hF hb2
  go_upto_region 5 with fail
  generalize w2.alloc (Obj.cells #[Value.int .u32 0] 32) = w3 at HR0 ⊢
  generalize w2.heap.size = g2 at HR0 ⊢
  obtain ⟨q, hq⟩ : ∃ q, w.heap.size = q := ⟨_, rfl⟩
  rw [hq]
  have HQ := Lib.hid hq
  clear hq
  have HZQ : Hid (w1.heap.size = q + 1) := by show _ = _; rw [HZ.out, HQ.out]
  have HBW : Hid (∀ wx, Below w1.heap.size w1 wx → Below w.heap.size w wx) := fun wx hb => HB1.out.trans (hb.mono HB1.out.size)
  go_wp2_with fail
  go_loopw [9, 10] (fun x i wr => ∃ k : Nat, k ≤ m ∧ k ≤ 60 ∧ i = .int .i64 (k : Int) ∧ PlayRel I w1.heap.size w1 (.pointer (some pa)) n k x wr) (fun x i _ => 60 - (intOf i).toNat)
  case atStart => exact ⟨0, Nat.zero_le _, by decide, rfl, HR0.out⟩
  case round =>
    clear HR0
    obtain ⟨k, hk, hk60, rfl, A, xa, xc, l, hcap, hl0, hlk, rfl, hT⟩ := hrel
    have HT := Lib.hid hT
    have HCAP := Lib.hid hcap
    have HL0 := Lib.hid hl0
    have HLK := Lib.hid hlk
    have hk0 : (0 : Int) ≤ (k : Int) := by omega
    by_cases hlt : k < m
    · have hki : (k : Int) < (m : Int) := by omega
      by_cases h60 : k < 60
      · have hki6 : (k : Int) < 60 := by omega
        obtain ⟨b, off, dr, key, val, x, y, hcs0, hb1, hb2, hb3, hb4⟩ := HLI.out k hlt
        have HS0 : Hid (∀ wx, Below w1.heap.size w1 wx → Step6 wx a k b off dr key val x y) := fun wx hb => hcs0.below (HBW.out _ hb)
        have hcs := HS0.out _ hT.below
        clear hcs0
        obtain ⟨L, hL⟩ : ∃ L, l.length = L := ⟨_, rfl⟩
        have HLL := Lib.hid hL
        have hrow := hT.row
        rw [hL] at hl0 hlk hrow ⊢
        have hLi : (L : Int) ≤ 61 := by omega
        have hL1 : (1 : Int) ≤ (L : Int) := by omega
        have hx6 := Int.emod_nonneg x (b := (L : Int)) (by omega)
        have hx7 := Int.emod_lt_of_pos x (b := (L : Int)) (by omega)
        have hy6 := Int.emod_nonneg y (b := (L : Int)) (by omega)
        have hy7 := Int.emod_lt_of_pos y (b := (L : Int)) (by omega)
        obtain ⟨i, hi⟩ := Int.eq_ofNat_of_zero_le hx6
        obtain ⟨j, hj⟩ := Int.eq_ofNat_of_zero_le hy6
        have hiL : i < L := by omega
        have hjL : j < L := by omega
        have HMX : Hid (∀ wx, Calls Try.prog 20 #[.int .i64 x, .int .i64 (L : Int)] wx (fun e w' => e = .returned (.int .i64 (i : Int)) ∧ w' = wx)) := fun wx => (mod_any x L wx hb3.1 hb3.2 hL1 (by omega)).mono fun e w' ⟨h1, h2⟩ => ⟨by rw [h1, hi], h2.symm⟩
        have HMY : Hid (∀ wx, Calls Try.prog 20 #[.int .i64 y, .int .i64 (L : Int)] wx (fun e w' => e = .returned (.int .i64 (j : Int)) ∧ w' = wx)) := fun wx => (mod_any y L wx hb4.1 hb4.2 hL1 (by omega)).mono fun e w' ⟨h1, h2⟩ => ⟨by rw [h1, hj], h2.symm⟩
        have HCS := Lib.hid hcs
        obtain ⟨rfl, hbl, c0, c1, c2, c3, c4⟩ := hcs
        have hil : i < l.length := by rw [hL]; exact hiL
        have hjl : j < l.length := by rw [hL]; exact hjL
        have HIL := Lib.hid hil
        have HJL := Lib.hid hjl
        have hii : (i : Int) < (L : Int) := by omega
        have hi0 : (0 : Int) ≤ (i : Int) := by omega
        have hjj : (j : Int) < (L : Int) := by omega
        have hj0 : (0 : Int) ≤ (j : Int) := by omega
        clear hT hcap hl0 hx6 hx7 hy6 hy7 hi hj hiL hjL hil hjl hL hb3 hb4 hrow
        go_wp2_with fail
        go_quiet (first
          | (go_at_call_of 20 (Value.int .i64 x); exact Calls.quiet_of_same (HMX.out _))
          | (go_at_call_of 20 (Value.int .i64 y); exact Calls.quiet_of_same (HMY.out _)))
        rename Nat => dq
        have hbq : Below wr.heap.size wr (wr.drewN dq) := below_drewN (Below.refl _ _) dq
        have hT2 := HT.out.calm hbq
        have hcs2 := HCS.out.below hbq
        clear c0 c1 c2 c3 c4 hbl hbq HT HCS
        generalize wr.drewN dq = w4 at hT2 hcs2 ⊢
        have HT := Lib.hid hT2
        have HCS := Lib.hid hcs2
        obtain ⟨_, hbl, c0, c1, c2, c3, c4⟩ := hcs2
        obtain ⟨g, rfl, hg, hci⟩ := row_cell hT2.row HIL.out
        obtain ⟨g', hgg, _, hcj⟩ := row_cell hT2.row HJL.out
        simp only [Option.some.injEq, Addr.mk.injEq, and_true] at hgg
        subst hgg
        rw [held_get HIL.out] at hci
        rw [held_get HJL.out] at hcj
        clear hT2
        cases dr
        · clear c0 c3 c4
          obtain ⟨_, _, c0, _⟩ := HCS.out
          go_upto_region 15 with fail
          clear c0
          have hmi' := getD_in HIL.out
          have hmj' := getD_in HJL.out
          have HMI := Lib.hid hmi'
          have HMJ := Lib.hid hmj'
          clear hmi' hmj'
          go_cut [15, 16] (fun s15 s16 wx => ∃ (A' : Ar) (z : Nat) (er : Int) (l' : List Nat), A'.σ.cap = A.σ.cap ∧ s15 = .int .u32 (z : Int) ∧ s16 = .int .i64 er ∧ TB I w1.heap.size w1 wx (.pointer (some pa)) (.slice (some ⟨g, 0, none⟩) l.length xc) A' (hof l') l ∧ z < 4294967296 ∧ ((er = 0 ∧ l' = l ++ [z]) ∨ (er = 2 ∧ l' = l)))
          case first =>
            go_region_held3 (fun w' => w'.cell? ⟨b, off + k * 5 + 1, none⟩ = some (.int .i64 key) ∧ w'.cell? ⟨b, off + k * 5 + 2, none⟩ = some (.int .i64 val) ∧ w'.cell? ⟨g, i, none⟩ = some (.int .u32 ((l.getD i 0 : Nat) : Int)) ∧ w'.cell? ⟨g, j, none⟩ = some (.int .u32 ((l.getD j 0 : Nat) : Int))) (go_keep) ((go_at_call 32; refine (tb_make (HT.out.calm (Below.refl _ _).drew) hb1 hb2 HMI.out HMJ.out (by rw [HCAP.out]; exact h2) (by have := HLL.out; omega)).mono ?_; rintro e wx ⟨A', z, er, l', hcap', rfl, hTx, hi4, hor⟩; obtain ⟨_, _, _, t1x, t2x, _⟩ := HS0.out _ hTx.below; have hrx := (hTx.row.cellAt i (by have := HIL.out; omega)).trans (held_get HIL.out); have hrx2 := (hTx.row.cellAt j (by have := HJL.out; omega)).trans (held_get HJL.out)))
            all_goals (go_wp2_with fail; go_meet; exact ⟨A', z, er, l', hcap', rfl, rfl, hTx, hi4, hor⟩)
          case' rest =>
            rename World => w5
            obtain ⟨A', z, er, l', hcap', rfl, rfl, hT5, hz4, hor⟩ := hcut
            have hcapn : A'.σ.cap = n := by rw [hcap', HCAP.out]
            have HCN := Lib.hid hcapn
            clear c1 c2 hci hcj hbl hcap' hcapn
            rcases hor with ⟨rfl, rfl⟩ | ⟨rfl, hll⟩
            · have hT6 := hT5.calm (below_new w5 (Obj.cells #[Value.int .u32 (z : Int)] 32))
              have hrow := hT6.row
              have hB := hT6.hB
              rw [HLL.out] at hrow
              have HT6 := Lib.hid hT6
              have hnew := cell_new1 w5 (Value.int .u32 (z : Int)) 32
              clear hT5 hT6
              go_wp2_with (at_builtin; refine wpList_append_own_at _ rfl (.tmp 109) (.tmp 111) 23 rfl w1.heap.size 32 i0 (.int .u32 0) 1 4 Try.underlying23 ji jz0 jz1 jz2 rfl (by decide) _ L (u32s l) rfl hrow ⟨w5.heap.size, 0, none⟩ 1 1 [.int .u32 (z : Int)] rfl rfl hnew (one_cell1 _ _) (by unfold maxLen; omega) (by omega) hB ?_; intro v6 w6 ho6 hg6 _ hv6)
              obtain ⟨va, vc, rfl⟩ := row_val ho6
              have h9 := HT6.out.grew (l' := l ++ [z]) (v := .slice va (l.length + 1) vc) (by rw [List.length_append, u32s_app, HLL.out]; exact ho6) (by rw [HLL.out]; exact hg6) (by rw [HLL.out]; exact hv6)
              have hlen : (l ++ [z]).length = L + 1 := by rw [List.length_append, HLL.out]; rfl
              have HR : Hid (PlayRel I w1.heap.size w1 (.pointer (some pa)) n (k + 1) (.slice va (L + 1) vc) w6) := ⟨A', va, vc, l ++ [z], HCN.out, by omega, by have := HLK.out; have := HLL.out; omega, by rw [hlen], by rw [hlen]; rw [HLL.out] at h9; exact h9⟩
              clear h9 hlen ho6 hg6 hv6 hrow hB hnew
              go_wp2_with fail
              exact ⟨⟨k + 1, by omega, by omega, by go_num, HR.out⟩, by simp [intOf]; omega⟩
            · rw [hll] at hT5
              rw [HLL.out] at hT5
              have HR : Hid (PlayRel I w1.heap.size w1 (.pointer (some pa)) n (k + 1) (.slice (some ⟨g, 0, none⟩) L xc) w5) := ⟨A', _, xc, l, HCN.out, HL0.out, by have := HLK.out; omega, by rw [HLL.out], by rw [HLL.out]; exact hT5⟩
              clear hT5 hll
              go_wp2_with fail
              exact ⟨⟨k + 1, by omega, by omega, by go_num, HR.out⟩, by simp [intOf]; omega⟩
        · clear c1 c2 c3 c4
          by_cases hi00 : i = 0
          · have hie : ((i : Int) == 0) = true := by simp [hi00]
            have HR : Hid (PlayRel I w1.heap.size w1 (.pointer (some pa)) n (k + 1) (.slice (some ⟨g, 0, none⟩) L xc) w4) := ⟨A, _, xc, l, HCAP.out, HL0.out, by have := HLK.out; omega, by rw [HLL.out], HT.out⟩
            clear hi00
            go_wp2_with fail
            exact ⟨⟨k + 1, by omega, by omega, by go_num, HR.out⟩, by simp [intOf]; omega⟩
          · have hie : ((i : Int) == 0) = false := by simp [hi00]
            have hi11 : 1 ≤ i := by omega
            clear hi00
            go_wp2_with fail
            refine (tb_release HT.out HIL.out).mono ?_
            rintro e w5 ⟨A', mm, hcap', rfl, hT5⟩
            have hcapn : A'.σ.cap = n := by rw [hcap', HCAP.out]
            have HCN := Lib.hid hcapn
            have HT5 := Lib.hid hT5
            have hlt4 := idx_lt4 HT.out.inv
            clear hcap' hcapn c0 hci hcj hbl
            go_upto_region 14 with fail
            have hT5d := hT5.calm (Below.refl _ _).drew
            have hxc := row_caps hT5.row
            have hix : (i : Int) ≤ (xc : Int) := by have := HLL.out; omega
            have hLx : (L : Int) ≤ (xc : Int) := by have := HLL.out; omega
            have hiL2 : (i : Int) + 1 ≤ (L : Int) := by omega
            have hxm : (xc : Int) ≤ 9223372036854775807 := by have := hxc.2; unfold maxLen at this; omega
            have hU1 := u32at_take hT5d.row hlt4 i (by have := HIL.out; omega)
            have hU2 := u32at_rest hT5d.row hlt4 (i + 1)
            have hjw : IntKind.i64.wrap ((i : Int) + 1) = ((i + 1 : Nat) : Int) := by rw [IntKind.wrap_i64]; omega
            have hjL3 : ((i + 1 : Nat) : Int) ≤ (L : Int) := by omega
            have hj03 : (0 : Int) ≤ (i : Int) + 1 := by omega
            have hjt : (((i + 1 : Nat) : Int)).toNat = i + 1 := Int.toNat_natCast _
            have hsz5 : w5.heap.size ≤ w5.drew.heap.size := Nat.le_refl _
            clear hT5 hT5d hxc hlt4
            go_region_law (first
              | (refine step_append_at rfl (.const (.slice none 0 0)) (.tmp 77) 23 rfl w5.heap.size 32 i0 (.int .u32 0) 4 Try.underlying23 ji jz0 jz1 jz2 rfl (.slice none 0 0) 0 [] rfl (World.ownsRow_nil _ _ _ _) (some ⟨g, 0, none⟩) xc (l.take i) i (by rw [List.length_take, HLL.out]; omega) rfl hU1 (by unfold maxLen; omega) (by omega) hsz5 ?_; intro v6 w6 ho6 hg6; rw [Nat.zero_add, List.nil_append] at ho6; have hb6 : Below w5.heap.size w5.drew w6 := (Below.refl _ _).grown hg6 (Nat.le_refl _) (fun k hk => by cases hk); have hU6 := hU2.below hb6; have hsz6 := hb6.size)
              | (refine step_append_at rfl (.tmp 78) (.tmp 82) 23 rfl w5.heap.size 32 i0 (.int .u32 0) 4 Try.underlying23 ji jz0 jz1 jz2 rfl v6 i (u32s (l.take i)) rfl ho6 _ (xc - (i + 1)) (l.drop (i + 1)) (L - (i + 1)) (by rw [List.length_drop, HLL.out]) rfl hU6 (by unfold maxLen; omega) (by omega) hsz6 ?_; intro v7 w7 ho7 hg7; have hb7 : Below w5.heap.size w5.drew w7 := hb6.grown hg7 hsz6 (row_from ho6)))
            all_goals
              obtain ⟨va, vc, rfl⟩ := row_val ho7
              have hlen : (l.take i ++ l.drop (i + 1)).length = i + (L - (i + 1)) := by rw [List.length_append, List.length_take, List.length_drop, HLL.out]; omega
              have h9 := HT5.out.renew (l' := l.take i ++ l.drop (i + 1)) (v := .slice va (i + (L - (i + 1))) vc) (w' := w7) (by rw [hlen, u32s_app]; exact ho7) ((Below.refl _ _).drew.trans hb7)
              have hpos : 0 < (l.take i ++ l.drop (i + 1)).length := by rw [hlen]; omega
              have HR : Hid (PlayRel I w1.heap.size w1 (.pointer (some pa)) n (k + 1) (.slice va (i + (L - (i + 1))) vc) w7) := ⟨A', va, vc, l.take i ++ l.drop (i + 1), HCN.out, hpos, by rw [hlen]; have := HLK.out; have := HLL.out; omega, by rw [hlen], by rw [hlen]; exact h9⟩
              clear h9 hlen ho6 hg6 ho7 hg7 hU1 hU2 hU6 hjw hjt hb6 hb7 hpos
              go_wp2_with fail
              exact ⟨⟨k + 1, by omega, by omega, by go_num, HR.out⟩, by simp [intOf]; omega⟩
      · have h60i : decide ((k : Int) < 60) = false := decide_eq_false (by omega)
        have hki : (k : Int) < (m : Int) := by omega
        have HFIN : Hid (l.length ≤ 61) := by show _ ≤ _; omega
        obtain ⟨L, hL⟩ : ∃ L, l.length = L := ⟨_, rfl⟩
        have HLL := Lib.hid hL
        rw [hL]
        have HBXX : Hid (∀ wx, Below w1.heap.size w1 wx → wx.heap[q]? = some (.cells #[.slice none 0 0, .slice none 0 0] 25 (0, 0))) := fun wx hb => by rw [← HQ.out]; exact (hb.block _ (Array.getElem?_eq_some_iff.1 HBX.out).1).trans HBX.out
        have HZ0 : Hid (∀ c, hof l c = hof l c) := fun _ => rfl
        obtain ⟨F, hI, hF, hFx⟩ := HT.out.has
        have HI := Lib.hid hI
        clear hI hT hcap hl0 hlk hL hk0 hlt hk hk60
        go_wp2_with fail
        refine (I.dump _ A 0 F _ HI.out).mono ?_
        rintro e w5 ⟨da, dc, db, dd, rfl, hs, hf, hb5⟩
        have hTb := HT.out.below
        have hbx5 := HBXX.out _ (hTb.trans (hb5.mono HT.out.hB))
        obtain ⟨hx0, hx1⟩ := two_cells hbx5
        have hxf0 := frozen_of_row w5 q 0 _ _ hbx5
        have hxf1 := frozen_of_row w5 q 1 _ _ hbx5
        have hset : ((w5.setCell ⟨q, 0, none⟩ (.slice da A.σ.cap dc)).setCell ⟨q, 1, none⟩ (.slice db A.σ.free.length dd)).heap[q]? = some (.cells #[.slice da A.σ.cap dc, .slice db A.σ.free.length dd] 25 (0, 0)) := by
          rw [heap_setCell_same _ q 1 _ _ _ (heap_setCell_same w5 q 0 _ _ _ hbx5)]; rfl
        have honly : OnlyQ q w5 ((w5.setCell ⟨q, 0, none⟩ (.slice da A.σ.cap dc)).setCell ⟨q, 1, none⟩ (.slice db A.σ.free.length dd)) := only_two w5 q _ _
        have HSET := Lib.hid hset
        have HON := Lib.hid honly
        have HS5 := Lib.hid hs
        have HF5 := Lib.hid hf
        have HB5 := Lib.hid hb5
        clear hs hf hb5 hTb hset honly hbx5 hF hFx
        go_wp2
        refine bodyPost_ret (results_row_tmp2 rfl _ _ q 25 #[.slice da A.σ.cap dc, .slice db A.σ.free.length dd] (0, 0) _ rfl HSET.out HU.out rfl HIN.out) rfl ?_
        refine ⟨A, l, da, db, xa, dc, dd, xc, (by rw [HLL.out]; rfl), HCAP.out, HFIN.out, HT.out.inv, HT.out.agg, ?_, ?_, ?_, ?_, HL0.out, fun y hy => held_idx HT.out.inv (.inr hy)⟩
        · exact row_mono (HON.out.row HS5.out (by have := HT.out.hB; have := HZQ.out; omega)) (by have := HT.out.hB; have := HZQ.out; have := HQ.out; omega)
        · exact row_mono (HON.out.row HF5.out (by have := HT.out.hB; have := HZQ.out; omega)) (by have := HT.out.hB; have := HZQ.out; have := HQ.out; omega)
        · rw [HLL.out]; exact row_mono (HON.out.row (row_below (by have := HT.out.row; rw [HLL.out] at this; exact this) HB5.out) (by have := HZQ.out; omega)) (by have := HZQ.out; have := HQ.out; omega)
        · exact HON.out.below (HBW.out _ (HT.out.below.trans (HB5.out.mono HT.out.hB))) (by have := HQ.out; omega)
    · have hki : ¬ (k : Int) < (m : Int) := by omega
      have HFIN : Hid (l.length ≤ 61) := by show _ ≤ _; omega
      obtain ⟨L, hL⟩ : ∃ L, l.length = L := ⟨_, rfl⟩
      have HLL := Lib.hid hL
      rw [hL]
      have HBXX : Hid (∀ wx, Below w1.heap.size w1 wx → wx.heap[q]? = some (.cells #[.slice none 0 0, .slice none 0 0] 25 (0, 0))) := fun wx hb => by rw [← HQ.out]; exact (hb.block _ (Array.getElem?_eq_some_iff.1 HBX.out).1).trans HBX.out
      have HZ0 : Hid (∀ c, hof l c = hof l c) := fun _ => rfl
      obtain ⟨F, hI, hF, hFx⟩ := HT.out.has
      have HI := Lib.hid hI
      clear hI hT hcap hl0 hlk hL hk0 hlt hk hk60
      go_wp2_with fail
      refine (I.dump _ A 0 F _ HI.out).mono ?_
      rintro e w5 ⟨da, dc, db, dd, rfl, hs, hf, hb5⟩
      have hTb := HT.out.below
      have hbx5 := HBXX.out _ (hTb.trans (hb5.mono HT.out.hB))
      obtain ⟨hx0, hx1⟩ := two_cells hbx5
      have hxf0 := frozen_of_row w5 q 0 _ _ hbx5
      have hxf1 := frozen_of_row w5 q 1 _ _ hbx5
      have hset : ((w5.setCell ⟨q, 0, none⟩ (.slice da A.σ.cap dc)).setCell ⟨q, 1, none⟩ (.slice db A.σ.free.length dd)).heap[q]? = some (.cells #[.slice da A.σ.cap dc, .slice db A.σ.free.length dd] 25 (0, 0)) := by
        rw [heap_setCell_same _ q 1 _ _ _ (heap_setCell_same w5 q 0 _ _ _ hbx5)]; rfl
      have honly : OnlyQ q w5 ((w5.setCell ⟨q, 0, none⟩ (.slice da A.σ.cap dc)).setCell ⟨q, 1, none⟩ (.slice db A.σ.free.length dd)) := only_two w5 q _ _
      have HSET := Lib.hid hset
      have HON := Lib.hid honly
      have HS5 := Lib.hid hs
      have HF5 := Lib.hid hf
      have HB5 := Lib.hid hb5
      clear hs hf hb5 hTb hset honly hbx5 hF hFx
      go_wp2
      refine bodyPost_ret (results_row_tmp2 rfl _ _ q 25 #[.slice da A.σ.cap dc, .slice db A.σ.free.length dd] (0, 0) _ rfl HSET.out HU.out rfl HIN.out) rfl ?_
      refine ⟨A, l, da, db, xa, dc, dd, xc, (by rw [HLL.out]; rfl), HCAP.out, HFIN.out, HT.out.inv, HT.out.agg, ?_, ?_, ?_, ?_, HL0.out, fun y hy => held_idx HT.out.inv (.inr hy)⟩
      · exact row_mono (HON.out.row HS5.out (by have := HT.out.hB; have := HZQ.out; omega)) (by have := HT.out.hB; have := HZQ.out; have := HQ.out; omega)
      · exact row_mono (HON.out.row HF5.out (by have := HT.out.hB; have := HZQ.out; omega)) (by have := HT.out.hB; have := HZQ.out; have := HQ.out; omega)
      · rw [HLL.out]; exact row_mono (HON.out.row (row_below (by have := HT.out.row; rw [HLL.out] at this; exact this) HB5.out) (by have := HZQ.out; omega)) (by have := HZQ.out; have := HQ.out; omega)
      · exact HON.out.below (HBW.out _ (HT.out.below.trans (HB5.out.mono HT.out.hB))) (by have := HQ.out; omega)
end Go.Proofs.Yticmaddcomemhaa
