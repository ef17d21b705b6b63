/- The walk of AuditFindsLostReferences. Condition: the program's Check and the statements' build keep their contracts. -/
import Derived.Test.YticmaddcomemhaaAuBuilt
import Derived.Test.YticmaddcomemhaaAuAwake
import Derived.Test.YticmaddcomemhaaAudDam
import Derived.Deep.DeepCutAuto
set_option linter.unusedVariables false
namespace Go.Proofs.Yticmaddcomemhaa
open Go.RowKit
/-- one of the first i findings is of kind 4 and of slot x -/
def fnd (x : Nat) (ch : List Fd) (i : Nat) : Bool := (ch.take i).any fun f => (f.kind == 4) && ((f.slot : Int) == (x : Int))
theorem fnd_succ (x : Nat) {ch : List Fd} {i : Nat} (h : i < ch.length) : fnd x ch (i + 1) = (fnd x ch i || ((ch[i].kind == 4) && ((ch[i].slot : Int) == (x : Int)))) := by
  unfold fnd
  rw [List.take_succ_eq_append_getElem h, List.any_append]
  simp
theorem fnd_all {x : Nat} {ch : List Fd} (h : ∃ f ∈ ch, f.kind = 4 ∧ f.slot = x) : fnd x ch ch.length = true := by
  unfold fnd
  rw [List.take_length]
  obtain ⟨f, hf, h1, h2⟩ := h
  exact List.any_eq_true.2 ⟨f, hf, by simp [h1, h2]⟩
structure WDrew (w wr : World) : Prop where
  eq : ∃ d, wr = w.drewN d
theorem lost_count {l : List Nat} {k : Nat} (h : k < l.length) : (l.take k ++ l.drop (k + 1)).count (l.getD k 0) ≠ l.count (l.getD k 0) := by
  have := count_erase h (l.getD k 0)
  rw [if_pos rfl] at this
  omega
theorem more_count (l : List Nat) (x : Nat) : (l ++ [x]).count x ≠ l.count x := by
  rw [List.count_append]
  simp
set_option maxHeartbeats 8000000 in
set_option maxRecDepth 100000 in
theorem lost_walk (hck : PCheckSpec) (hbs : BuildSpec) (cc : Int) (sa : Option Addr) (sm cap : Nat) (wh : Int) (add : Bool) (w : World) (hv1 : -9223372036854775808 ≤ cc) (hv2 : cc ≤ 9223372036854775807) (hl : Steps6 w sa sm) (hc : sm ≤ cap) (hm : cap ≤ maxLen) (hv3 : -9223372036854775808 ≤ wh) (hv4 : wh ≤ 9223372036854775807) :
    Calls Try.prog 6 #[.int .i64 cc, .slice sa sm cap, .int .i64 wh, .bool add] w (TrueRes6 w) := by
  obtain ⟨i0, ji, jz0, jz1, jz2⟩ := info_parts uInfo
  have hr := Int.emod_nonneg cc (b := 30) (by omega)
  have hr2 := Int.emod_lt_of_pos cc (b := 30) (by omega)
  obtain ⟨r, hr3⟩ := Int.eq_ofNat_of_zero_le hr
  rw [hr3] at hr2
  have hr4 : r < 30 := by omega
  have HR := Lib.hid hr3
  obtain ⟨n, hn⟩ : ∃ n : Nat, n = r + 1 := ⟨_, rfl⟩
  have HN : Hid ((1 : Int) + (r : Int) = (n : Int)) := by show (1 : Int) + (r : Int) = (n : Int); omega
  have hn1 : 1 ≤ n := by omega
  have hn2 : n ≤ 30 := by omega
  have HLI := Lib.hid hl
  have HCK := Lib.hid hck
  have HBS := Lib.hid hbs
  clear hr hr2 hr3 hn hl hck hbs
  go_enter Try.func6, Try.ntmps6
  go_wp2_with fail
  refine (mod_any cc 30 _ hv1 hv2 (by decide) (by decide)).mono ?_
  rintro e w1 ⟨rfl, rfl⟩
  rw [HR.out]
  go_wp2_with fail
  rw [HN.out]
  refine (HBS.out _ n sm cap _ HLI.out hc hm hn1 hn2).mono ?_
  rintro e w2 ⟨A, l, a, b, x, c, d, xc, rfl, hT⟩
  have hb3 := below_new w2 (Obj.cells #[Value.slice a A.σ.cap c, .slice b A.σ.free.length d] 25)
  have hX := DBox.new w2 a b A.σ.cap c A.σ.free.length d
  have HT := Lib.hid hT
  have HB3 := Lib.hid hb3
  have HX := Lib.hid hX
  have hcap30 : A.σ.cap ≤ 30 := by rw [hT.cap]; exact hn2
  obtain ⟨N, hN⟩ : ∃ N, A.σ.cap = N := ⟨_, rfl⟩
  obtain ⟨M, hM⟩ : ∃ M, A.σ.free.length = M := ⟨_, rfl⟩
  obtain ⟨L, hL⟩ : ∃ L, l.length = L := ⟨_, rfl⟩
  have hL61 : L ≤ 61 := by rw [← hL]; exact hT.len
  have hL1 : 1 ≤ L := by rw [← hL]; exact hT.zero.1
  have hM6 : M ≤ 65536 := by rw [← hM]; exact hT.freelen
  have HNN := Lib.hid hN
  have HMM := Lib.hid hM
  have HLL := Lib.hid hL
  rw [hN] at hcap30 HX HB3
  rw [hM] at HX HB3
  rw [hN, hM, hL]
  have HCL : Hid (chk A.sl N A.σ.free l (onR A) = []) := by show _ = _; rw [← hN]; exact hT.clean
  have hrow2 := hT.row
  rw [hL] at hrow2
  have HROW := Lib.hid hrow2
  clear hT hb3 hX hN hM hL hrow2
  have hNi : (N : Int) ≤ 30 := by omega
  have hLi : (L : Int) ≤ 61 := by omega
  have hLi1 : (1 : Int) ≤ (L : Int) := by omega
  go_upto_region 2 with fail
  generalize w2.alloc (Obj.cells #[Value.slice a N c, .slice b M d] 25) = w3 at HX HB3 ⊢
  obtain ⟨q, hq⟩ : ∃ q, w2.heap.size = q := ⟨_, rfl⟩
  rw [hq] at HX ⊢
  have HQ := Lib.hid hq
  clear hq
  have HQL : Hid (q < w3.heap.size) := HX.out.lt
  have HSL : Hid (∀ wx, Below w3.heap.size w3 wx → SlotsAt wx a N A.sl) := fun wx hb => by rw [← HNN.out]; exact HT.out.slots (HB3.out.trans (hb.mono HB3.out.size))
  have HFR : Hid (∀ wx, Below w3.heap.size w3 wx → U32At wx b A.σ.free) := fun wx hb => HT.out.frees (HB3.out.trans (hb.mono HB3.out.size))
  have HXX : Hid (∀ wx, Below w3.heap.size w3 wx → wx.cell? ⟨q, 0, none⟩ = some (.slice a N c) ∧ wx.cell? ⟨q, 1, none⟩ = some (.slice b M d)) := fun wx hb => (HX.out.below hb HQL.out).cells
  have HEND : Hid (∀ wx, Below w3.heap.size w3 wx → TrueRes6 w (.returned (.bool true)) wx) := fun wx hb => ⟨rfl, HT.out.below.trans ((HB3.out.trans (hb.mono HB3.out.size)).mono HT.out.below.size)⟩
  go_wp2_with fail
  refine (awake_any HCK.out w3).mono ?_
  rintro e w4 ⟨rfl, hb4⟩
  have HB4 := Lib.hid hb4
  clear hb4
  have hx6 := Int.emod_nonneg wh (b := (L : Int)) (by omega)
  have hx7 := Int.emod_lt_of_pos wh (b := (L : Int)) (by omega)
  obtain ⟨k, hk⟩ := Int.eq_ofNat_of_zero_le hx6
  have hkL : k < L := by omega
  have hki : (k : Int) < (L : Int) := by omega
  have hk0 : (0 : Int) ≤ (k : Int) := by omega
  have HK := Lib.hid hk
  have hkl : k < l.length := by rw [HLL.out]; exact hkL
  have HKL := Lib.hid hkl
  have hrow4 : w4.ownsRow w.heap.size 32 1 (.slice x L xc) L (u32s l) := row_below HROW.out (HB3.out.trans (HB4.out.mono HB3.out.size))
  have HROW4 := Lib.hid hrow4
  obtain ⟨g, rfl, hg, hck⟩ := row_cell hrow4 hkL
  rw [held_get hkl] at hck
  clear hx6 hx7 hk hkl hrow4
  go_wp2_with fail
  refine (mod_any wh L _ hv3 hv4 hLi1 (by omega)).mono ?_
  rintro e w5 ⟨rfl, rfl⟩
  rw [HK.out]
  have hmem := getD_in HKL.out
  have hX4 := idx_lt4 HT.out.inv _ hmem
  have HCNT : Hid ((l.take k ++ l.drop (k + 1)).count (l.getD k 0) ≠ l.count (l.getD k 0) ∧ (l ++ [l.getD k 0]).count (l.getD k 0) ≠ l.count (l.getD k 0)) := ⟨lost_count HKL.out, more_count _ _⟩
  have HONX : Hid (l.getD k 0 = 0 ∨ A.σ.on (l.getD k 0) = true) := HT.out.zero.2 _ hmem
  clear hmem
  generalize l.getD k 0 = X at hck hX4 HCNT HONX ⊢
  have hXi : (X : Int) < 4294967296 := by omega
  have hXi0 : (0 : Int) ≤ (X : Int) := by omega
  by_cases hx0 : X = 0
  · subst hx0
    go_wp2
    go_ret
    exact HEND.out _ HB4.out
  · have hz : ((X : Int) == 0) = false := by simp; omega
    have hon : A.σ.on X = true := by rcases HONX.out with h | h; exact absurd h hx0; exact h
    have honb := HT.out.inv.ok.on X hon
    rw [HNN.out] at honb
    have HDAM : Hid (∀ l' R', l'.count X ≠ l.count X → ∃ f ∈ chk A.sl N A.σ.free l' R', f.kind = 4 ∧ f.slot = X) := fun l' R' hc => by
      obtain ⟨i, rfl⟩ : ∃ i, X = i + 1 := ⟨X - 1, by omega⟩
      exact dam_root HCL.out (by omega) hon hc
    have HX4 : Hid (X < 4294967296) := hX4
    clear hon honb hx0 hv1 hv2 hv3 hv4 hX4 hXi hXi0
    go_upto_region 8 with fail
    have hrL : w4.ownsRow w.heap.size 32 1 (.slice (some ⟨g, 0, none⟩) l.length xc) l.length (u32s l) := by rw [HLL.out]; exact HROW4.out
    have hlt4 := idx_lt4 HT.out.inv
    have hrLd : w4.drew.ownsRow w.heap.size 32 1 (.slice (some ⟨g, 0, none⟩) l.length xc) l.length (u32s l) := row_below hrL (Below.refl _ _).drew
    have hxc := row_caps hrL
    have hix : (k : Int) ≤ (xc : Int) := by have := HLL.out; omega
    have hLx : (L : Int) ≤ (xc : Int) := by have := HLL.out; omega
    have hiL2 : (k : Int) + 1 ≤ (L : Int) := by omega
    have hxm : (xc : Int) ≤ 9223372036854775807 := by have := hxc.2; unfold maxLen at this; omega
    have hU1 := u32at_take hrLd hlt4 k (by have := HKL.out; omega)
    have hU2 := u32at_rest hrLd hlt4 (k + 1)
    have HUL : Hid (∀ wx, Below w4.heap.size w4 wx → U32At wx (some ⟨g, 0, none⟩) l) := fun wx hb => (row_u32 hrL hlt4).below hb
    have HLT4 := Lib.hid hlt4
    have hjw : IntKind.i64.wrap ((k : Int) + 1) = ((k + 1 : Nat) : Int) := by rw [IntKind.wrap_i64]; omega
    have hjL3 : ((k + 1 : Nat) : Int) ≤ (L : Int) := by omega
    have hj03 : (0 : Int) ≤ (k : Int) + 1 := by omega
    have hjt : (((k + 1 : Nat) : Int)).toNat = k + 1 := Int.toNat_natCast _
    have hsz5 : w4.heap.size ≤ w4.drew.heap.size := Nat.le_refl _
    have HNATS : Hid (N ≤ 30 ∧ M ≤ 65536 ∧ L ≤ 61 ∧ 1 ≤ L ∧ k < L) := ⟨hcap30, hM6, hL61, hL1, hkL⟩
    clear hrL hlt4 hrLd hxc hck hr4 hn1 hn2 hcap30 hM6 hL61 hL1 hkL hc hm
    go_cut [14] (fun s14 wx => ∃ va vc, s14 = .slice va (k + (L - (k + 1))) vc ∧ wx.ownsRow w4.heap.size 32 1 (.slice va (k + (L - (k + 1))) vc) (k + (L - (k + 1))) (u32s (l.take k ++ l.drop (k + 1))) ∧ Below w4.heap.size w4 wx)
    case first =>
      go_region_law (first
        | (refine step_append_at rfl (.const (.slice none 0 0)) (.tmp 45) 23 rfl w4.heap.size 32 i0 (.int .u32 0) 4 Try.underlying23 ji jz0 jz1 jz2 rfl (.slice none 0 0) 0 [] rfl (World.ownsRow_nil _ _ _ _) (some ⟨g, 0, none⟩) xc (l.take k) k (by rw [List.length_take, HLL.out]; have := HNATS.out; omega) rfl hU1 (by have := HNATS.out; unfold maxLen; omega) (by have := HNATS.out; omega) hsz5 ?_; intro v6 w6 ho6 hg6; rw [Nat.zero_add, List.nil_append] at ho6; have hb6 : Below w4.heap.size w4.drew w6 := (Below.refl _ _).grown hg6 (Nat.le_refl _) (fun k hk => by cases hk); have hU6 := hU2.below hb6; have hsz6 := hb6.size)
        | (refine step_append_at rfl (.tmp 46) (.tmp 50) 23 rfl w4.heap.size 32 i0 (.int .u32 0) 4 Try.underlying23 ji jz0 jz1 jz2 rfl v6 k (u32s (l.take k)) rfl ho6 _ (xc - (k + 1)) (l.drop (k + 1)) (L - (k + 1)) (by rw [List.length_drop, HLL.out]) rfl hU6 (by have := HNATS.out; unfold maxLen; omega) (by have := HNATS.out; omega) hsz6 ?_; intro v7 w7 ho7 hg7; have hb7 : Below w4.heap.size w4.drew w7 := hb6.grown hg7 hsz6 (row_from ho6)))
      all_goals
        generalize (ite (xc = k + 1) (some (⟨g, 0, none⟩ : Addr)) (some (⟨g, k + 1, none⟩ : Addr))) = pp
        obtain ⟨va, vc, rfl⟩ := row_val ho7
        rw [← u32s_app] at ho7
        clear hU1 hU2 hU6 hjw hjt hsz5 hsz6 hjL3 hj03 hiL2 hLx hix hxm hg6 hg7 ho6
        have HO7 := Lib.hid ho7
        have HB7 := Lib.hid ((Below.refl w4.heap.size w4).drew.trans hb7)
        clear ho7 hb6 hb7
        go_wp2_with fail
        go_meet
        exact ⟨va, vc, rfl, HO7.out, HB7.out⟩
    case' rest =>
      rename World => w6
      obtain ⟨va, vc, rfl, hr6, hb6⟩ := hcut
      have HR6 := Lib.hid hr6
      have HB6 := Lib.hid hb6
      clear hU1 hU2 hjw hjt hr6 hb6 hsz5 hjL3 hj03 hiL2 hLx hix hxm
      have HOL : Hid (∀ y ∈ l.take k ++ l.drop (k + 1), y < 4294967296) := fun y hy => by
        rcases List.mem_append.1 hy with h | h
        · exact HLT4.out y (List.mem_of_mem_take h)
        · exact HLT4.out y (List.mem_of_mem_drop h)
      cases add
      · obtain ⟨O, hO⟩ : ∃ O, k + (L - (k + 1)) = O := ⟨_, rfl⟩
        have hO61 : O ≤ 61 := by have := HNATS.out; omega
        have hlo : (l.take k ++ l.drop (k + 1)).length = O := by rw [List.length_append, List.length_take, List.length_drop, HLL.out]; have := HNATS.out; omega
        rw [hO] at HR6 ⊢
        have HRT : Hid (U32At w6 va (l.take k ++ l.drop (k + 1))) := row_u32 (by rw [hlo]; exact HR6.out) HOL.out
        have HLO := Lib.hid hlo
        have HCT : Hid ((l.take k ++ l.drop (k + 1)).count X ≠ l.count X) := HCNT.out.1
        have HBW : Hid (Below w3.heap.size w3 w6) := below_chain HB4.out HB6.out
        generalize l.take k ++ l.drop (k + 1) = l' at HRT HLO HCT
        have HO61 := Lib.hid hO61
        clear hO hlo hO61
        obtain ⟨hc0, hc1⟩ := HXX.out _ HBW.out
        go_wp2_with fail
        have hcall := HCK.out w6 a b va N c M d vc O A.sl A.σ.free l' HMM.out HLO.out (HSL.out _ HBW.out) (HFR.out _ HBW.out) HRT.out (by have := HNATS.out; omega) (by have := HNATS.out; omega) (by have := HO61.out; omega) (fun j => @decide (Rch A.sl N l' (j + 1)) (Classical.propDecidable _)) (fun j _ => by simp)
        refine hcall.mono ?_
        rintro e w7 ⟨ua, uc, rfl, hr7, hb7⟩
        have HF : Hid (∃ f ∈ chk A.sl N A.σ.free l' (fun j => @decide (Rch A.sl N l' (j + 1)) (Classical.propDecidable _)), f.kind = 4 ∧ f.slot = X) := HDAM.out l' _ HCT.out
        have HFD := Lib.hid (fds_at hr7)
        have hlen : (chk A.sl N A.σ.free l' (fun j => @decide (Rch A.sl N l' (j + 1)) (Classical.propDecidable _))).length ≤ 1000000 := by
          unfold chk
          rw [List.length_append, List.length_append]
          have h1 := flat_le (l := A.σ.free) (f := rngF N) (fun x => opt_le _ _)
          have h2 := flat_le (l := l') (f := rootF A.sl N) (fun x => opt_le _ _)
          have h3 := chks_le A.sl N A.σ.free l' (fun j => @decide (Rch A.sl N l' (j + 1)) (Classical.propDecidable _)) N
          have := HMM.out
          have := HLO.out
          have := HNATS.out
          have := HO61.out
          omega
        have HB7 := Lib.hid (below_chain HBW.out hb7)
        clear hcall hr7 hb7 hc0 hc1
        generalize chk A.sl N A.σ.free l' (fun j => @decide (Rch A.sl N l' (j + 1)) (Classical.propDecidable _)) = ch at HF HFD hlen ⊢
        obtain ⟨H, hH⟩ : ∃ H, ch.length = H := ⟨_, rfl⟩
        have HH := Lib.hid hH
        rw [hH] at hlen ⊢
        have hHi : (H : Int) ≤ 1000000 := by omega
        clear hH
        go_wp2_with fail
        go_loopw [16, 17] (fun f i wr => ∃ j : Nat, j ≤ H ∧ i = .int .i64 (j : Int) ∧ f = .bool (fnd X ch j) ∧ WDrew w7 wr) (fun f i _ => H - (intOf i).toNat)
        case atStart => exact ⟨0, Nat.zero_le _, rfl, rfl, ⟨0, rfl⟩⟩
        case round =>
          obtain ⟨j, hj, rfl, rfl, ⟨dd, rfl⟩⟩ := hrel
          by_cases hlt : j < H
          · have hji : (j : Int) < (H : Int) := by omega
            have hj0 : (0 : Int) ≤ (j : Int) := by omega
            have hjl : j < ch.length := by rw [HH.out]; exact hlt
            obtain ⟨b', off, rfl, hb', d0, d1, d2x, d3x⟩ := HFD.out.cell j _ (List.getElem?_eq_getElem hjl)
            have HS := Lib.hid (fnd_succ X hjl)
            have d0' : (w7.drewN dd).cell? ⟨b', off + j * 4, none⟩ = _ := d0
            have d1' : (w7.drewN dd).cell? ⟨b', off + j * 4 + 1, none⟩ = _ := d1
            clear d0 d1 d2x d3x
            generalize (ch[j]).kind = kd at d0' HS
            generalize ((ch[j]).slot : Int) = sl at d1' HS
            clear hjl
            cases hf : fnd X ch j
            · cases h1 : (kd == 4)
              · have hs : fnd X ch (j + 1) = false := by rw [HS.out, hf, h1]; rfl
                have HS2 := Lib.hid hs
                clear hs hf
                go_wp2
                exact ⟨⟨j + 1, by omega, by go_num, by rw [HS2.out], ⟨_, rfl⟩⟩, by simp [intOf]; omega⟩
              · cases h2 : (sl == (X : Int))
                · have hs : fnd X ch (j + 1) = false := by rw [HS.out, hf, h1, h2]; rfl
                  have HS2 := Lib.hid hs
                  clear hs hf
                  go_wp2
                  exact ⟨⟨j + 1, by omega, by go_num, by rw [HS2.out], ⟨_, rfl⟩⟩, by simp [intOf]; omega⟩
                · have hs : fnd X ch (j + 1) = true := by rw [HS.out, hf, h1, h2]; rfl
                  have HS2 := Lib.hid hs
                  clear hs hf
                  go_wp2
                  exact ⟨⟨j + 1, by omega, by go_num, by rw [HS2.out], ⟨_, rfl⟩⟩, by simp [intOf]; omega⟩
            · have hs : fnd X ch (j + 1) = true := by rw [HS.out, hf]; rfl
              have HS2 := Lib.hid hs
              clear hs hf
              go_wp2
              exact ⟨⟨j + 1, by omega, by go_num, by rw [HS2.out], ⟨_, rfl⟩⟩, by simp [intOf]; omega⟩
          · have hjH : fnd X ch j = true := by
              have e : j = ch.length := by rw [HH.out]; omega
              rw [e]
              exact fnd_all HF.out
            rw [hjH]
            have hjH2 : j = H := by omega
            rw [hjH2]
            clear hjH hjH2 hlt
            go_wp2
            go_ret
            exact HEND.out _ (HB7.out.trans (below_drewN (Below.refl _ _) dd))
      · have hu := HUL.out _ HB6.out
        have hsz6 : w4.heap.size ≤ w6.heap.size := HB6.out.size
        go_wp2_with (first
          | (at_builtin; refine wpList_append_at rfl (.const (.slice none 0 0)) (.tmp 53) 23 rfl w4.heap.size 32 i0 (.int .u32 0) 4 Try.underlying23 ji jz0 jz1 jz2 rfl (.slice none 0 0) 0 [] rfl (World.ownsRow_nil _ _ _ _) (some ⟨g, 0, none⟩) xc l L HLL.out.symm rfl hu (by have := HNATS.out; unfold maxLen; omega) (by have := HNATS.out; omega) hsz6 ?_; intro v8 w8 ho8 hg8; rw [Nat.zero_add, List.nil_append] at ho8; have hb8 : Below w4.heap.size w6 w8 := (Below.refl _ _).grown hg8 hsz6 (fun k hk => by cases hk); have hb9 := hb8.trans ((below_new w8 (Obj.cells #[Value.int .u32 (X : Int)] 32)).mono (Nat.le_trans hsz6 hb8.size)); have ho9 := row_below ho8 (below_new w8 (Obj.cells #[Value.int .u32 (X : Int)] 32)); have hnew := cell_new1 w8 (Value.int .u32 (X : Int)) 32; have hsz9 := Nat.le_trans hsz6 hb9.size)
          | (at_builtin; refine wpList_append_own _ rfl (.tmp 54) (.tmp 56) 23 rfl w4.heap.size 32 i0 (.int .u32 0) 1 4 Try.underlying23 ji jz0 jz1 jz2 rfl (by decide) v8 L (u32s l) rfl ho9 ⟨w8.heap.size, 0, none⟩ 1 1 [.int .u32 (X : Int)] rfl rfl hnew (one_cell1 _ _) (by have := HNATS.out; unfold maxLen; omega) (by have := HNATS.out; omega) hsz9 ?_; intro v10 w10 ho10 hg10 _; obtain ⟨ya, yc, rfl⟩ := row_val ho10; have hb10 : Below w4.heap.size w6 w10 := hb9.grown hg10 hsz9 (row_from ho9); obtain ⟨hc0, hc1⟩ := HXX.out _ (below_chain HB4.out (HB6.out.trans hb10))))
        have HBW := Lib.hid (below_chain HB4.out (HB6.out.trans hb10))
        have hlo : (l ++ [X]).length = L + 1 := by rw [List.length_append, HLL.out]; rfl
        have HRT : Hid (U32At w10 ya (l ++ [X])) := row_u32 (by rw [hlo, u32s_app]; exact ho10) (fun y hy => by
          rcases List.mem_append.1 hy with h | h
          · exact HLT4.out y h
          · simp at h; subst h; exact HX4.out)
        have HLO := Lib.hid hlo
        have HCT : Hid ((l ++ [X]).count X ≠ l.count X) := HCNT.out.2
        generalize l ++ [X] = l' at HRT HLO HCT
        clear hb8 hb9 hb10 ho8 ho9 ho10 hg8 hg10 hnew hsz9 hlo hu
        have hcall := HCK.out w10 a b ya N c M d yc (L + 1) A.sl A.σ.free l' HMM.out HLO.out (HSL.out _ HBW.out) (HFR.out _ HBW.out) HRT.out (by have := HNATS.out; omega) (by have := HNATS.out; omega) (by have := HNATS.out; omega) (fun j => @decide (Rch A.sl N l' (j + 1)) (Classical.propDecidable _)) (fun j _ => by simp)
        refine hcall.mono ?_
        rintro e w11 ⟨ua, uc, rfl, hr7, hb7⟩
        have HF : Hid (∃ f ∈ chk A.sl N A.σ.free l' (fun j => @decide (Rch A.sl N l' (j + 1)) (Classical.propDecidable _)), f.kind = 4 ∧ f.slot = X) := HDAM.out l' _ HCT.out
        have HFD := Lib.hid (fds_at hr7)
        have hlen : (chk A.sl N A.σ.free l' (fun j => @decide (Rch A.sl N l' (j + 1)) (Classical.propDecidable _))).length ≤ 1000000 := by
          unfold chk
          rw [List.length_append, List.length_append]
          have h1 := flat_le (l := A.σ.free) (f := rngF N) (fun x => opt_le _ _)
          have h2 := flat_le (l := l') (f := rootF A.sl N) (fun x => opt_le _ _)
          have h3 := chks_le A.sl N A.σ.free l' (fun j => @decide (Rch A.sl N l' (j + 1)) (Classical.propDecidable _)) N
          have := HMM.out
          have := HLO.out
          have := HNATS.out
          omega
        have HB7 := Lib.hid (below_chain HBW.out hb7)
        clear hcall hr7 hb7 hc0 hc1
        generalize chk A.sl N A.σ.free l' (fun j => @decide (Rch A.sl N l' (j + 1)) (Classical.propDecidable _)) = ch at HF HFD hlen ⊢
        obtain ⟨H, hH⟩ : ∃ H, ch.length = H := ⟨_, rfl⟩
        have HH := Lib.hid hH
        rw [hH] at hlen ⊢
        have hHi : (H : Int) ≤ 1000000 := by omega
        clear hH
        go_wp2_with fail
        go_loopw [16, 17] (fun f i wr => ∃ j : Nat, j ≤ H ∧ i = .int .i64 (j : Int) ∧ f = .bool (fnd X ch j) ∧ WDrew w11 wr) (fun f i _ => H - (intOf i).toNat)
        case atStart => exact ⟨0, Nat.zero_le _, rfl, rfl, ⟨0, rfl⟩⟩
        case round =>
          obtain ⟨j, hj, rfl, rfl, ⟨dd, rfl⟩⟩ := hrel
          by_cases hlt : j < H
          · have hji : (j : Int) < (H : Int) := by omega
            have hj0 : (0 : Int) ≤ (j : Int) := by omega
            have hjl : j < ch.length := by rw [HH.out]; exact hlt
            obtain ⟨b', off, rfl, hb', d0, d1, d2x, d3x⟩ := HFD.out.cell j _ (List.getElem?_eq_getElem hjl)
            have HS := Lib.hid (fnd_succ X hjl)
            have d0' : (w11.drewN dd).cell? ⟨b', off + j * 4, none⟩ = _ := d0
            have d1' : (w11.drewN dd).cell? ⟨b', off + j * 4 + 1, none⟩ = _ := d1
            clear d0 d1 d2x d3x
            generalize (ch[j]).kind = kd at d0' HS
            generalize ((ch[j]).slot : Int) = sl at d1' HS
            clear hjl
            cases hf : fnd X ch j
            · cases h1 : (kd == 4)
              · have hs : fnd X ch (j + 1) = false := by rw [HS.out, hf, h1]; rfl
                have HS2 := Lib.hid hs
                clear hs hf
                go_wp2
                exact ⟨⟨j + 1, by omega, by go_num, by rw [HS2.out], ⟨_, rfl⟩⟩, by simp [intOf]; omega⟩
              · cases h2 : (sl == (X : Int))
                · have hs : fnd X ch (j + 1) = false := by rw [HS.out, hf, h1, h2]; rfl
                  have HS2 := Lib.hid hs
                  clear hs hf
                  go_wp2
                  exact ⟨⟨j + 1, by omega, by go_num, by rw [HS2.out], ⟨_, rfl⟩⟩, by simp [intOf]; omega⟩
                · have hs : fnd X ch (j + 1) = true := by rw [HS.out, hf, h1, h2]; rfl
                  have HS2 := Lib.hid hs
                  clear hs hf
                  go_wp2
                  exact ⟨⟨j + 1, by omega, by go_num, by rw [HS2.out], ⟨_, rfl⟩⟩, by simp [intOf]; omega⟩
            · have hs : fnd X ch (j + 1) = true := by rw [HS.out, hf]; rfl
              have HS2 := Lib.hid hs
              clear hs hf
              go_wp2
              exact ⟨⟨j + 1, by omega, by go_num, by rw [HS2.out], ⟨_, rfl⟩⟩, by simp [intOf]; omega⟩
          · have hjH : fnd X ch j = true := by
              have e : j = ch.length := by rw [HH.out]; omega
              rw [e]
              exact fnd_all HF.out
            rw [hjH]
            have hjH2 : j = H := by omega
            rw [hjH2]
            clear hjH hjH2 hlt
            go_wp2
            go_ret
            exact HEND.out _ (HB7.out.trans (below_drewN (Below.refl _ _) dd))
end Go.Proofs.Yticmaddcomemhaa
