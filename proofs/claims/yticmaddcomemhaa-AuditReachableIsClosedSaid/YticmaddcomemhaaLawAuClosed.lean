/- The walk of AuditReachableIsClosed. Condition: the program's Check keeps its contract. -/
import Derived.Test.YticmaddcomemhaaAuOk8
import Derived.Test.YticmaddcomemhaaAuAwake
import Derived.Test.YticmaddcomemhaaAuLarge
import Derived.Test.YticmaddcomemhaaAuOk3
import Derived.Deep.RegionHeld3
import Derived.Deep.DeepCutAuto
import Derived.Laws.NewBlocks
set_option linter.unusedVariables false
set_option linter.unusedSimpArgs false
namespace Go.Proofs.Yticmaddcomemhaa
open Go.RowKit
theorem take_d {P : Program} {ops : Array Oper} {Q : Exit → Act → World → Prop} {md : Region.Mode} {S : World → Prop} {i : Nat} {oi : Oper} {v : Value} {fuel : Nat} {listed : Array Bool} {a : Act} {w : World} (d : Option Tmp) (hi : ops[i]? = some oi)
    (hs : Region.noSelect ops = true) (hf : Region.free md ops listed i = true) (hr : (Region.ready md ops listed).contains i = true)
    (hQ : ∀ c a w, Q (.panic c) (a.put oi.dst v) w → Q (.panic c) a w) (hy : YieldsIf P ops S oi v a) (hS : S w) (hd : oi.dst = d)
    (h : wpAnyH P md ops Q S fuel (listed.setIfInBounds i true) (a.put d v) w) : wpAnyH P md ops Q S (fuel + 1) listed a w :=
  wpAnyH_take hi hs hf hr hQ hy hS (by rw [hd]; exact h)
def TrueRes7 (w : World) (e : Ending) (w' : World) : Prop := e = .returned (.bool true) ∧ Below w.heap.size w w'
theorem rchL_up (R : Nat → Bool) : ∀ n, (rchL R n).Pairwise (· < ·)
  | 0 => List.Pairwise.nil
  | n + 1 => by
    rw [rchL_succ]
    refine List.pairwise_append.2 ⟨rchL_up R n, by split <;> simp, fun x hx y hy => ?_⟩
    have h1 := (rchL_mem.1 hx).2.1
    split at hy
    · simp at hy; omega
    · cases hy
theorem rchL_lt {R : Nat → Bool} {n k : Nat} (h : k + 1 < (rchL R n).length) : (rchL R n).getD k 0 < (rchL R n).getD (k + 1) 0 := by
  have := List.pairwise_iff_getElem.1 (rchL_up R n) k (k + 1) (by omega) h (by omega)
  rw [List.getD_eq_getElem?_getD, List.getD_eq_getElem?_getD, List.getElem?_eq_getElem h, List.getElem?_eq_getElem (show k < _ by omega)]
  exact this
/-- which numbers are among the first k of l -/
def inL (l : List Nat) (k : Nat) : Nat → Bool := fun x => decide (x ∈ l.take k)
theorem inL_set {l : List Nat} {k : Nat} (h : k < l.length) : setB (inL l k) (l.getD k 0) = inL l (k + 1) := by
  funext x
  unfold setB inL
  have ht : l.take (k + 1) = l.take k ++ [l[k]] := List.take_succ_eq_append_getElem h
  rw [List.getD_eq_getElem?_getD, List.getElem?_eq_getElem h]
  by_cases e : x = l[k]
  · rw [if_pos (by simpa using e)]
    exact (decide_eq_true (by rw [ht, List.mem_append]; exact .inr (by simp [e]))).symm
  · rw [if_neg (by simpa using e)]
    refine decide_eq_decide.2 ⟨fun h1 => by rw [ht, List.mem_append]; exact .inl h1, fun h1 => ?_⟩
    rw [ht, List.mem_append] at h1
    rcases h1 with h1 | h1
    · exact h1
    · simp at h1; exact absurd h1 e
theorem Below.drewN6 {B : Nat} {x y : World} (h : Below B x y) (d : Nat) : Below B x (y.drewN d) := below_drewN h d
structure CRel (Z gI N : Nat) (w5 : World) (I : Nat → Bool) (wr : World) : Prop where
  row : wr.ownsRow Z 4 1 (.slice (some ⟨gI, 0, none⟩) N N) N (boolR N I)
  below : Below Z w5 wr
set_option maxHeartbeats 8000000 in
set_option maxRecDepth 100000 in
theorem closed_walk (hck : PCheckSpec) (w : World) (a b ra : Option Addr) (n c m d L rc : Nat) (S : Nat → Sl) (fr rs : List Nat) (hM : fr.length = m) (hL : rs.length = L) (hS : SlotsAt w a n S) (hF : U32At w b fr) (hR : U32At w ra rs) :
    Calls Try.prog 7 #[.agg #[.slice a n c, .slice b m d], .slice ra L rc] w (TrueRes7 w) := by
  obtain ⟨i0, hi, hz0, hz1, hz2⟩ := info_parts bInfo
  have hb1 := below_new w (Obj.cells #[Value.slice a n c, Value.slice b m d] 25)
  have hX := DBox.new w a b n c m d
  have HB := Lib.hid hb1
  have HS := Lib.hid (hS.below hb1)
  have HRS := Lib.hid (hR.below hb1)
  have HX := Lib.hid hX
  have hsz : (w.alloc (Obj.cells #[Value.slice a n c, Value.slice b m d] 25)).heap.size = w.heap.size + 1 := by simp
  have HZ := Lib.hid hsz
  have HL := Lib.hid hL
  have HCK := Lib.hid hck
  obtain ⟨hc0, hc1⟩ := hX.cells
  clear hb1 hS hF hR hsz hL hM hX hck
  go_enter Try.func7, Try.ntmps7
  go_upto_region 1 with fail
  generalize hW1 : w.alloc (Obj.cells #[Value.slice a n c, Value.slice b m d] 25) = w1 at *
  clear hW1
  generalize hQ : w.heap.size = q at *
  have HQ := Lib.hid hQ
  clear hQ
  have HSS : Hid (∀ wx, Below (q + 1) w1 wx → SlotsAt wx a n S) := fun wx hb => HS.out.below (hb.mono (Nat.le_of_eq HZ.out))
  have HRX : Hid (∀ wx, Below (q + 1) w1 wx → U32At wx ra rs) := fun wx hb => HRS.out.below (hb.mono (Nat.le_of_eq HZ.out))
  have HXX : Hid (∀ wx, Below (q + 1) w1 wx → wx.cell? ⟨q, 0, none⟩ = some (.slice a n c) ∧ wx.cell? ⟨q, 1, none⟩ = some (.slice b m d)) := fun wx hb => (HX.out.below hb (Nat.lt_succ_self q)).cells
  have HNX : Hid (∀ wx wy, Below (q + 1) w1 wx → Below wx.heap.size wx wy → Below (q + 1) w1 wy) := fun wx wy h1 h2 => h1.trans (h2.mono (Nat.le_trans (Nat.le_of_eq HZ.out.symm) h1.size))
  have HEND : Hid (∀ wx, Below (q + 1) w1 wx → TrueRes7 w (.returned (.bool true)) wx) := fun wx hb => ⟨rfl, by rw [HQ.out]; exact HB.out.trans (hb.mono (Nat.le_succ q))⟩
  go_wp2_with fail
  refine (large_any w1 a b ra n c m d L rc).mono ?_
  rintro e w2 ⟨rfl, hb2⟩
  have HBB := Lib.hid (HNX.out _ _ (Below.refl _ _) hb2)
  clear hc0 hc1 hb2
  by_cases hlg : 60 < n ∨ 60 < m ∨ 60 < L
  · rw [decide_eq_true hlg]
    clear hlg
    go_wp2_with fail
    refine (awake_any HCK.out w2).mono ?_
    rintro e w3 ⟨rfl, hb3⟩
    have HB3 := Lib.hid (HNX.out _ _ HBB.out hb3)
    clear hb3
    go_wp2_with fail
    go_ret
    exact HEND.out _ HB3.out
  · rw [decide_eq_false hlg]
    have hn60 : n ≤ 60 := by omega
    have hl60 : L ≤ 60 := by omega
    have hni : (n : Int) ≤ 60 := by omega
    have hni0 : (0 : Int) ≤ (n : Int) := by omega
    have HN60 := Lib.hid hn60
    have HL60 := Lib.hid hl60
    clear hlg
    have HRCL : Hid (∀ j, j < n → ((fun j => @decide (Rch S n rs (j + 1)) (Classical.propDecidable _)) j = true ↔ Rch S n rs (j + 1))) := fun j _ => by simp
    generalize (fun j => @decide (Rch S n rs (j + 1)) (Classical.propDecidable _)) = R at HRCL
    obtain ⟨hc0, hc1⟩ := HXX.out _ HBB.out
    go_wp2_with fail
    refine (pReach_any (b := b) (m := m) (d := d) (c := c) (rc := rc) rs HL.out (HSS.out _ HBB.out) (HRX.out _ HBB.out) (by omega) (by omega) R HRCL.out).mono ?_
    rintro e w3 ⟨xa, xc, rfl, hrow, hb3⟩
    have HB3 := Lib.hid (HNX.out _ _ HBB.out hb3)
    have hKn := rchL_le R n
    have HMEM : Hid (∀ x, x ∈ rchL R n ↔ 1 ≤ x ∧ x ≤ n ∧ R (x - 1) = true) := fun x => rchL_mem
    have HUP : Hid (∀ k, k + 1 < (rchL R n).length → (rchL R n).getD k 0 < (rchL R n).getD (k + 1) 0) := fun k h => rchL_lt h
    generalize rchL R n = rl at hrow hKn HMEM HUP ⊢
    obtain ⟨K, hK⟩ : ∃ K, rl.length = K := ⟨_, rfl⟩
    rw [hK] at hrow hKn ⊢
    have HKK := Lib.hid hK
    have HROW := Lib.hid hrow
    have hKi : (K : Int) ≤ 60 := by omega
    have HKN := Lib.hid hKn
    -- every one of the list is an allocated slot
    have HAL : Hid (∀ x, x ∈ rl → Al S n x ∧ Rch S n rs x) := fun x hx => by
      obtain ⟨h1, h2, h3⟩ := (HMEM.out x).1 hx
      have h4 := (HRCL.out (x - 1) (by omega)).1 h3
      rw [show x - 1 + 1 = x by omega] at h4
      exact ⟨h4.al, h4⟩
    have HIN : Hid (∀ x, Rch S n rs x → x ∈ rl) := fun x hx => by
      have h1 := hx.al
      refine (HMEM.out x).2 ⟨h1.1, h1.2.1, (HRCL.out (x - 1) (by have := h1.1; have := h1.2.1; omega)).2 ?_⟩
      rw [show x - 1 + 1 = x by have := h1.1; omega]
      exact hx
    clear hc0 hc1 hb3 hrow hK hKn hn60 hl60
    obtain ⟨hc0, hc1⟩ := HXX.out _ HB3.out
    obtain ⟨N, hN⟩ : ∃ N, n + 1 = N := ⟨_, rfl⟩
    have hNe : (n : Int) + 1 = (N : Int) := by omega
    have HNE := Lib.hid hNe
    have HNN := Lib.hid hN
    have hNi : (N : Int) ≤ 61 := by omega
    have hNi0 : (0 : Int) ≤ (N : Int) := by omega
    obtain ⟨Z, hZ⟩ : ∃ Z, w3.heap.size = Z := ⟨_, rfl⟩
    have HZ3 := Lib.hid hZ
    clear hN
    go_upto_region 5 with (refine wpList_make_full _ rfl (.tmp 21) (.tmp 21) 50 rfl w3.heap.size 4 i0 (.bool false) 1 Try.underlying50 hi hz0 hz1 .i64 .i64 (N : Int) (N : Int) N rfl rfl rfl rfl (by rw [hz2]; omega) (by unfold maxLen; omega) (Nat.le_refl _) ?_; intro w4 ho4 hg4)
    rw [boolR_zero, hZ] at ho4
    have hb4 : Below Z w3 w4 := (Below.refl _ _).grown hg4 (Nat.le_of_eq hZ.symm) (fun k hk => by cases hk)
    have HB34 : Hid (∀ wx, Below Z w4 wx → Below (q + 1) w1 wx ∧ Below w3.heap.size w3 wx) := fun wx hb => by
      have h1 : Below w3.heap.size w3 wx := by rw [hZ]; exact hb4.trans hb
      exact ⟨HNX.out _ _ HB3.out h1, h1⟩
    have HR0 : Hid (CRel Z Z N w4 (inL rl 0) w4) := ⟨by have e9 : boolR N (inL rl 0) = boolR N (fun _ => false) := (by unfold boolR inL; simp); rw [e9]; exact ho4, Below.refl _ _⟩
    have HZL : Hid (Z < w4.heap.size) := (row_lt ho4 Z rfl).2
    have HCEL : Hid (∀ wx k, Below Z w4 wx → k < K → ∃ g, xa = some ⟨g, 0, none⟩ ∧ g < wx.heap.size ∧ wx.cell? ⟨g, k, none⟩ = some (.int .u32 ((rl.getD k 0 : Nat) : Int))) := fun wx k hb hk => by
      have h1 := row_below HROW.out (HB34.out _ hb).2
      obtain ⟨g, h2, h3, h4⟩ := row_cell h1 hk
      refine ⟨g, h2, h3, ?_⟩
      rw [h4]
      have hkl : k < rl.length := by rw [HKK.out]; exact hk
      simp [u32s, List.getD_eq_getElem?_getD, hkl]
    have HGA : Hid (∀ k, k < K → rl.getD k 0 ∈ rl) := fun k hk => getD_mem (by rw [HKK.out]; exact hk)
    clear hb4 ho4 hg4 hZ hc0 hc1 hNe
    go_wp2_with fail
    go_loopw [7] (fun i wr => ∃ j : Nat, j ≤ K ∧ i = .int .i64 (j : Int) ∧ CRel Z Z N w4 (inL rl j) wr) (fun i _ => K - (intOf i).toNat)
    case atStart => exact ⟨0, Nat.zero_le _, rfl, HR0.out⟩
    case round =>
      clear HR0
      obtain ⟨j, hj, rfl, hC⟩ := hrel
      by_cases hlt : j < K
      · have hji : (j : Int) < (K : Int) := by omega
        have hj0 : (0 : Int) ≤ (j : Int) := by omega
        obtain ⟨hc0, hc1⟩ := HXX.out _ (HB34.out _ hC.below).1
        obtain ⟨g, rfl, hg, hcell⟩ := HCEL.out _ j hC.below hlt
        have hal := HAL.out _ (HGA.out j hlt)
        obtain ⟨⟨hx1, hx2, hx3⟩, _⟩ := hal
        have hset := inL_set (l := rl) (k := j) (by rw [HKK.out]; exact hlt)
        have hprev : ∀ j', j = j' + 1 → rl.getD j' 0 < rl.getD j 0 := fun j' e => by subst e; exact HUP.out j' (by rw [HKK.out]; exact hlt)
        have hpc : ∀ j', j = j' + 1 → wr.cell? ⟨g, j', none⟩ = some (.int .u32 ((rl.getD j' 0 : Nat) : Int)) := fun j' e => by
          obtain ⟨g', hgg, _, h4⟩ := HCEL.out _ j' hC.below (by omega)
          simp only [Option.some.injEq, Addr.mk.injEq, and_true] at hgg
          subst hgg
          exact h4
        have hSS := HSS.out _ (HB34.out _ hC.below).1
        generalize rl.getD j 0 = X at hcell hx1 hx2 hx3 hset hprev
        obtain ⟨x0, rfl⟩ : ∃ x0, X = x0 + 1 := ⟨X - 1, by omega⟩
        obtain ⟨b', off, rfl, hlb, d0, dr1⟩ := hSS.all (show x0 < n by omega)
        rw [show (S x0).on = true from hx3] at d0
        clear dr1 hSS
        have hcI := hC.row.cellAt (x0 + 1) (by have := HNN.out; omega)
        rw [boolR_at _ (show x0 + 1 < N by have := HNN.out; omega)] at hcI
        have hfI := hC.row.frozenAt (x0 + 1)
        have hst : CRel Z Z N w4 (inL rl (j + 1)) (wr.setCell ⟨Z, x0 + 1, none⟩ (.bool true)) := ⟨by rw [← hset, ← boolR_set]; exact (hC.row.stored _ _).1, hC.below.setCell (Nat.le_refl _) _⟩
        have HST := Lib.hid hst
        have HCC := Lib.hid hC
        have HSET := Lib.hid hset
        have HJK : Hid (j < K) := hlt
        generalize inL rl j (x0 + 1) = bI at hcI
        obtain ⟨Xi, hXi⟩ : ∃ Y : Int, ((x0 + 1 : Nat) : Int) = Y := ⟨_, rfl⟩
        have hprev2 : ∀ j', j = j' + 1 → ((rl.getD j' 0 : Nat) : Int) < Xi := fun j' e => by have := hprev j' e; omega
        have hX1 : decide (Xi < 1) = false := decide_eq_false (by omega)
        have hX1' : (1 : Int) ≤ Xi := by omega
        have hXn : decide ((n : Int) < Xi) = false := decide_eq_false (by omega)
        have hXq : IntKind.i64.wrap Xi = Xi := by rw [IntKind.wrap_i64]; omega
        have hXw : IntKind.u32.wrap (Xi - 1) = Xi - 1 := by rw [IntKind.wrap_u32']; omega
        have hX2 : (Xi - 1).toNat = x0 := by omega
        have hX3 : Xi.toNat = x0 + 1 := by omega
        have hX4 : Xi - 1 < (n : Int) := by omega
        have hX5 : (0 : Int) ≤ Xi - 1 := by omega
        have hX6 : (0 : Int) ≤ Xi := by omega
        have hX7 : Xi < (N : Int) := by have := HNE.out; omega
        rw [hXi] at hcell
        clear hXi hx1 hx2 hx3 hset hC hst
        by_cases hjp : 0 < j
        · have hjpi : decide (0 < j) = true := decide_eq_true hjp
          obtain ⟨j', hj'⟩ : ∃ j', j = j' + 1 := ⟨j - 1, by omega⟩
          have hpr := hprev2 j' hj'
          have hcY := hpc j' hj'
          obtain ⟨Yi, hYi⟩ : ∃ Y : Int, ((rl.getD j' 0 : Nat) : Int) = Y := ⟨_, rfl⟩
          rw [hYi] at hcY
          have hXY : decide (Xi ≤ Yi) = false := decide_eq_false (by rw [hYi] at hpr; omega)
          have hjw : IntKind.i64.wrap ((j : Int) - 1) = (j : Int) - 1 := by rw [IntKind.wrap_i64]; omega
          have hjt : ((j : Int) - 1).toNat = j' := by omega
          have hj1 : (0 : Int) ≤ (j : Int) - 1 := by omega
          have hj2 : (j : Int) - 1 < (K : Int) := by omega
          clear hprev hprev2 hpc hpr hYi hj' hjp hlt hj
          go_wp2_with fail
          go_quiet (fail)
          rename Nat => dd
          have hbq : Below wr.heap.size wr (wr.drewN dd) := below_drewN (Below.refl _ _) dd
          have hC2 : CRel Z Z N w4 (inL rl j) (wr.drewN dd) := ⟨row_below HCC.out.row hbq, below_drewN HCC.out.below dd⟩
          have e0 : (wr.drewN dd).cell? ⟨g, j, none⟩ = some (.int .u32 Xi) := hcell
          have e1 : (wr.drewN dd).cell? ⟨Z, x0 + 1, none⟩ = some (.bool bI) := hcI
          have e2 : (wr.drewN dd).frozen? ⟨Z, x0 + 1, none⟩ = false := hfI
          have HC2 := Lib.hid hC2
          clear hjw hjt hj1 hj2 hXY hcY hjpi hbq hC2 hcell hcI hfI hc0 hc1 d0 HST HCC
          generalize wr.drewN dd = w9 at e0 e1 e2 HC2 ⊢
          have HS3 : Hid (CRel Z Z N w4 (inL rl (j + 1)) (w9.setCell ⟨Z, x0 + 1, none⟩ (.bool true))) := ⟨by rw [← HSET.out, ← boolR_set]; exact (HC2.out.row.stored _ _).1, HC2.out.below.setCell (Nat.le_refl _) _⟩
          clear hX1 hXn hXq hXw hX2 hX4 hX5 hX1'
          go_wp2_with fail
          exact ⟨⟨j + 1, by have := HJK.out; omega, by go_num, HS3.out⟩, by have := HJK.out; simp [intOf]; omega⟩
        · have hjpi : decide (0 < j) = false := decide_eq_false hjp
          clear hprev hprev2 hpc hjp hlt hj
          go_wp2_with fail
          go_quiet (fail)
          rename Nat => dd
          have hbq : Below wr.heap.size wr (wr.drewN dd) := below_drewN (Below.refl _ _) dd
          have hC2 : CRel Z Z N w4 (inL rl j) (wr.drewN dd) := ⟨row_below HCC.out.row hbq, below_drewN HCC.out.below dd⟩
          have e0 : (wr.drewN dd).cell? ⟨g, j, none⟩ = some (.int .u32 Xi) := hcell
          have e1 : (wr.drewN dd).cell? ⟨Z, x0 + 1, none⟩ = some (.bool bI) := hcI
          have e2 : (wr.drewN dd).frozen? ⟨Z, x0 + 1, none⟩ = false := hfI
          have HC2 := Lib.hid hC2
          clear hjpi hbq hC2 hcell hcI hfI hc0 hc1 d0 HST HCC
          generalize wr.drewN dd = w9 at e0 e1 e2 HC2 ⊢
          have HS3 : Hid (CRel Z Z N w4 (inL rl (j + 1)) (w9.setCell ⟨Z, x0 + 1, none⟩ (.bool true))) := ⟨by rw [← HSET.out, ← boolR_set]; exact (HC2.out.row.stored _ _).1, HC2.out.below.setCell (Nat.le_refl _) _⟩
          clear hX1 hXn hXq hXw hX2 hX4 hX5 hX1'
          go_wp2_with fail
          exact ⟨⟨j + 1, by have := HJK.out; omega, by go_num, HS3.out⟩, by have := HJK.out; simp [intOf]; omega⟩
      · have hjK : j = K := by omega
        have HC0 : Hid (CRel Z Z N w4 (fun x => decide (x ∈ rl)) wr) := by
          have e9 : inL rl K = fun x => decide (x ∈ rl) := by
            unfold inL
            rw [List.take_of_length_le (Nat.le_of_eq HKK.out)]
          rw [← e9, ← hjK]
          exact hC
        rw [hjK]
        clear hC hjK hlt hj
        have hLi : (L : Int) ≤ 60 := by have := HL60.out; omega
        go_wp2_with fail
        go_loopw [8] (fun i wr => ∃ j : Nat, j ≤ L ∧ i = .int .i64 (j : Int) ∧ CRel Z Z N w4 (fun x => decide (x ∈ rl)) wr) (fun i _ => L - (intOf i).toNat)
        case atStart => exact ⟨0, Nat.zero_le _, rfl, HC0.out⟩
        case round =>
          clear HC0
          obtain ⟨j, hj, rfl, hC⟩ := hrel
          by_cases hlt : j < L
          · have hji : (j : Int) < (L : Int) := by omega
            have hj0 : (0 : Int) ≤ (j : Int) := by omega
            have HJL : Hid (j < L) := hlt
            have hjl : j < rs.length := by rw [HL.out]; exact hlt
            have hB := (HB34.out _ hC.below).1
            have hU := HRX.out _ hB
            obtain ⟨b2, off2, rfl, hlb2, hcell⟩ := hU.cell j hjl
            have hX4 : rs.getD j 0 < 4294967296 := hU.lt _ (getD_mem hjl)
            have hmem := getD_mem hjl
            obtain ⟨hc0, hc1⟩ := HXX.out _ hB
            have hcall := fun wx hb => dallocated_any (b := b) (m := m) (d := d) (c := c) (HSS.out wx hb) (by have := HN60.out; omega) hX4
            have HCC := Lib.hid hC
            have HRC : Hid (∀ wx, Below wr.heap.size wr wx → wx.cell? ⟨b2, off2 + j, none⟩ = wr.cell? ⟨b2, off2 + j, none⟩) := fun wx hb => hb.cell (p := ⟨b2, off2 + j, none⟩) hlb2
            have HBR := Lib.hid hB
            have hbd : Below (q + 1) w1 wr.drew := hB.drew
            have hbe : Below wr.heap.size wr wr.drew := (Below.refl _ _).drew
            by_cases hal : Al S n (rs.getD j 0)
            · have hcall2 : ∀ wx, Below (q + 1) w1 wx → Calls Try.prog 21 #[.agg #[.slice a n c, .slice b m d], .int .u32 ((rs.getD j 0 : Nat) : Int)] wx (Calm wx (.bool true)) := fun wx hb => by
                have := hcall wx hb
                rw [show decide (1 ≤ rs.getD j 0 ∧ rs.getD j 0 ≤ n ∧ (S (rs.getD j 0 - 1)).on = true) = true from decide_eq_true hal] at this
                exact this
              have hin := HIN.out _ (Rch.root _ hmem hal)
              have hx1 := hal.1
              have hx2 := hal.2.1
              have hcI := hC.row.cellAt (rs.getD j 0) (by have := HNN.out; omega)
              rw [boolR_at _ (show rs.getD j 0 < N by have := HNN.out; omega), decide_eq_true hin] at hcI
              have HIC : Hid (∀ wx, Below wr.heap.size wr wx → wx.cell? ⟨Z, rs.getD j 0, none⟩ = wr.cell? ⟨Z, rs.getD j 0, none⟩) := fun wx hb => hb.cell (p := ⟨Z, rs.getD j 0, none⟩) (row_lt hC.row Z rfl).2
              have HC2 := Lib.hid hcall2
              clear hal hin hcall hcall2 hmem hU hjl hC hB
              generalize rs.getD j 0 = X at hcell hX4 hx1 hx2 hcI HIC HC2
              obtain ⟨Xi, hXi⟩ : ∃ Y : Int, ((X : Nat) : Int) = Y := ⟨_, rfl⟩
              have hX6 : (0 : Int) ≤ Xi := by omega
              have hX7 : Xi < (N : Int) := by have := HNE.out; omega
              have hX3 : Xi.toNat = X := by omega
              rw [hXi] at hcell HC2
              clear hXi hx1 hx2 hX4 hlt hj
              go_upto_region 14 with fail
              go_region_held3 (fun w' => Below (q + 1) w1 w' ∧ Below wr.heap.size wr w' ∧ w'.cell? ⟨q, 0, none⟩ = some (.slice a n c) ∧ w'.cell? ⟨q, 1, none⟩ = some (.slice b m d) ∧ w'.cell? ⟨b2, off2 + j, none⟩ = some (.int .u32 Xi) ∧ w'.cell? ⟨Z, X, none⟩ = some (.bool true)) (go_keep) ((go_at_call 21; refine (HC2.out _ (by assumption)).mono ?_; rintro e w7 ⟨rfl, hb7⟩; have hbn := HNX.out _ _ (by assumption) hb7; have hbm := below_chain (a := wr) (by assumption) hb7; obtain ⟨hd0, hd1⟩ := HXX.out _ hbn; have hk1 := (HRC.out _ hbm).trans hcell; have hk2 := (HIC.out _ hbm).trans hcI))
              all_goals
                have HC7 : Hid (CRel Z Z N w4 (fun x => decide (x ∈ rl)) w7) := ⟨row_below HCC.out.row hbm, HCC.out.below.trans (hbm.mono (by have := HZL.out; have := HCC.out.below.size; omega))⟩
                clear hc0 hc1 hcell hcI hbd hbe hbn hbm hd0 hd1 hk1 hk2
                go_wp2_with fail
                exact ⟨⟨j + 1, by have := HJL.out; omega, by go_num, HC7.out⟩, by have := HJL.out; simp [intOf]; omega⟩
            · have hcall2 : ∀ wx, Below (q + 1) w1 wx → Calls Try.prog 21 #[.agg #[.slice a n c, .slice b m d], .int .u32 ((rs.getD j 0 : Nat) : Int)] wx (Calm wx (.bool false)) := fun wx hb => by
                have := hcall wx hb
                rw [show decide (1 ≤ rs.getD j 0 ∧ rs.getD j 0 ≤ n ∧ (S (rs.getD j 0 - 1)).on = true) = false from decide_eq_false hal] at this
                exact this
              have HC2 := Lib.hid hcall2
              clear hal hcall hcall2 hmem hU hjl hC hB
              generalize rs.getD j 0 = X at hcell hX4 HC2
              obtain ⟨Xi, hXi⟩ : ∃ Y : Int, ((X : Nat) : Int) = Y := ⟨_, rfl⟩
              rw [hXi] at hcell HC2
              clear hXi hX4 hlt hj
              go_upto_region 14 with fail
              refine wp_region_held_drew (S := (fun w' => Below (q + 1) w1 w' ∧ Below wr.heap.size wr w' ∧ w'.cell? ⟨q, 0, none⟩ = some (.slice a n c) ∧ w'.cell? ⟨q, 1, none⟩ = some (.slice b m d) ∧ w'.cell? ⟨b2, off2 + j, none⟩ = some (.int .u32 Xi))) (by kernel_rfl) (by (try dsimp only); go_keep) (fun hHeld => ?_)
              refine take_d (i := 0) (oi := _) (v := ?_) (some 86) rfl (by kernel_rfl) (by kernel_rfl) (by kernel_rfl) (fun _ _ _ h => h) (Or.inl ⟨by rfl, ?_⟩) (by assumption) (by kernel_rfl) ?_
              rotate_left
              · intro w hSw; (try dsimp only at hSw); go_simp; try with_reducible rfl
              (try simp only [Act.put, List.setIfInBounds_toArray, List.set_cons_zero, List.set_cons_succ])
              refine take_d (i := 1) (oi := _) (v := ?_) (some 87) rfl (by kernel_rfl) (by kernel_rfl) (by kernel_rfl) (fun _ _ _ h => h) (Or.inl ⟨by rfl, ?_⟩) (by assumption) (by kernel_rfl) ?_
              rotate_left
              · intro w hSw; (try dsimp only at hSw); go_simp; try with_reducible rfl
              (try simp only [Act.put, List.setIfInBounds_toArray, List.set_cons_zero, List.set_cons_succ])
              refine take_d (i := 2) (oi := _) (v := ?_) (some 88) rfl (by kernel_rfl) (by kernel_rfl) (by kernel_rfl) (fun _ _ _ h => h) (Or.inl ⟨by rfl, ?_⟩) (by assumption) (by kernel_rfl) ?_
              rotate_left
              · intro w hSw; (try dsimp only at hSw); go_simp; try with_reducible rfl
              (try simp only [Act.put, List.setIfInBounds_toArray, List.set_cons_zero, List.set_cons_succ])
              refine take_d (i := 3) (oi := _) (v := ?_) (some 89) rfl (by kernel_rfl) (by kernel_rfl) (by kernel_rfl) (fun _ _ _ h => h) (Or.inl ⟨by rfl, ?_⟩) (by assumption) (by kernel_rfl) ?_
              rotate_left
              · intro w hSw; (try dsimp only at hSw); go_simp; try with_reducible rfl
              (try simp only [Act.put, List.setIfInBounds_toArray, List.set_cons_zero, List.set_cons_succ])
              refine take_d (i := 4) (oi := _) (v := ?_) (some 90) rfl (by kernel_rfl) (by kernel_rfl) (by kernel_rfl) (fun _ _ _ h => h) (Or.inl ⟨by rfl, ?_⟩) (by assumption) (by kernel_rfl) ?_
              rotate_left
              · intro w hSw; (try dsimp only at hSw); go_simp; try with_reducible rfl
              (try simp only [Act.put, List.setIfInBounds_toArray, List.set_cons_zero, List.set_cons_succ])
              refine wpAnyH_ready (rs := [5]) (by kernel_rfl) (by simp) ?_
              refine AllReadyH.cons (o := _) rfl (fun K hK => ?_) AllReadyH.nil
              go_simp
              go_at_call 21
              refine (HC2.out _ (hHeld.1)).mono ?_
              rintro e w7 ⟨rfl, hb7⟩
              have hbn := HNX.out _ _ hHeld.1 hb7
              have hbm := below_chain (a := wr) hHeld.2.1 hb7
              obtain ⟨hd0, hd1⟩ := HXX.out _ hbn
              have hk1 := (HRC.out _ hbm).trans hcell
              try go_wp2_with fail
              refine hK.out _ _ (by (try dsimp only); go_keep) (fun hHeld => ?_)
              clear hK K
              (try simp only [Act.put, List.setIfInBounds_toArray, List.set_cons_zero, List.set_cons_succ])
              refine take_d (i := 6) (oi := _) (v := ?_) (some 92) rfl (by kernel_rfl) (by kernel_rfl) (by kernel_rfl) (fun _ _ _ h => h) (Or.inl ⟨by rfl, ?_⟩) (by assumption) (by kernel_rfl) ?_
              rotate_left
              · intro w hSw; (try dsimp only at hSw); go_simp; try with_reducible rfl
              (try simp only [Act.put, List.setIfInBounds_toArray, List.set_cons_zero, List.set_cons_succ])
              refine take_d (i := 7) (oi := _) (v := undef) (some 93) rfl (by kernel_rfl) (by kernel_rfl) (by kernel_rfl) (fun _ _ _ h => h) (Or.inr ⟨by kernel_rfl, rfl⟩) (by assumption) (by kernel_rfl) ?_
              (try simp only [Act.put, List.setIfInBounds_toArray, List.set_cons_zero, List.set_cons_succ])
              refine take_d (i := 8) (oi := _) (v := undef) (some 94) rfl (by kernel_rfl) (by kernel_rfl) (by kernel_rfl) (fun _ _ _ h => h) (Or.inr ⟨by kernel_rfl, rfl⟩) (by assumption) (by kernel_rfl) ?_
              (try simp only [Act.put, List.setIfInBounds_toArray, List.set_cons_zero, List.set_cons_succ])
              refine take_d (i := 9) (oi := _) (v := undef) (some 95) rfl (by kernel_rfl) (by kernel_rfl) (by kernel_rfl) (fun _ _ _ h => h) (Or.inr ⟨by kernel_rfl, rfl⟩) (by assumption) (by kernel_rfl) ?_
              (try simp only [Act.put, List.setIfInBounds_toArray, List.set_cons_zero, List.set_cons_succ])
              refine take_d (i := 10) (oi := _) (v := undef) (some 96) rfl (by kernel_rfl) (by kernel_rfl) (by kernel_rfl) (fun _ _ _ h => h) (Or.inr ⟨by kernel_rfl, rfl⟩) (by assumption) (by kernel_rfl) ?_
              (try simp only [Act.put, List.setIfInBounds_toArray, List.set_cons_zero, List.set_cons_succ])
              refine take_d (i := 11) (oi := _) (v := undef) (some 97) rfl (by kernel_rfl) (by kernel_rfl) (by kernel_rfl) (fun _ _ _ h => h) (Or.inr ⟨by kernel_rfl, rfl⟩) (by assumption) (by kernel_rfl) ?_
              (try simp only [Act.put, List.setIfInBounds_toArray, List.set_cons_zero, List.set_cons_succ])
              refine take_d (i := 12) (oi := _) (v := undef) (some 98) rfl (by kernel_rfl) (by kernel_rfl) (by kernel_rfl) (fun _ _ _ h => h) (Or.inr ⟨by kernel_rfl, rfl⟩) (by assumption) (by kernel_rfl) ?_
              (try simp only [Act.put, List.setIfInBounds_toArray, List.set_cons_zero, List.set_cons_succ])
              refine take_d (i := 13) (oi := _) (v := undef) (some 99) rfl (by kernel_rfl) (by kernel_rfl) (by kernel_rfl) (fun _ _ _ h => h) (Or.inr ⟨by kernel_rfl, rfl⟩) (by assumption) (by kernel_rfl) ?_
              (try simp only [Act.put, List.setIfInBounds_toArray, List.set_cons_zero, List.set_cons_succ])
              refine take_d (i := 14) (oi := _) (v := undef) (some 100) rfl (by kernel_rfl) (by kernel_rfl) (by kernel_rfl) (fun _ _ _ h => h) (Or.inr ⟨by kernel_rfl, rfl⟩) (by assumption) (by kernel_rfl) ?_
              (try simp only [Act.put, List.setIfInBounds_toArray, List.set_cons_zero, List.set_cons_succ])
              refine take_d (i := 15) (oi := _) (v := ?_) (some 101) rfl (by kernel_rfl) (by kernel_rfl) (by kernel_rfl) (fun _ _ _ h => h) (Or.inl ⟨by rfl, ?_⟩) (by assumption) (by kernel_rfl) ?_
              rotate_left
              · intro w hSw; (try dsimp only at hSw); go_simp; try with_reducible rfl
              (try simp only [Act.put, List.setIfInBounds_toArray, List.set_cons_zero, List.set_cons_succ])
              refine wpAnyH_done (by kernel_rfl) ?_ _
              all_goals
                have HC7 : Hid (CRel Z Z N w4 (fun x => decide (x ∈ rl)) w7) := ⟨row_below HCC.out.row hbm, HCC.out.below.trans (hbm.mono (by have := HZL.out; have := HCC.out.below.size; omega))⟩
                clear hc0 hc1 hcell hbd hbe hbn hbm hd0 hd1 hk1
                go_wp2_with fail
                exact ⟨⟨j + 1, by have := HJL.out; omega, by go_num, HC7.out⟩, by have := HJL.out; simp [intOf]; omega⟩
          · have hjL : j = L := by omega
            have HC0 := Lib.hid hC
            have HK0 := Lib.hid HKK.out
            clear hC hlt hj
            have hKi2 : (K : Int) ≤ 60 := by have := HKN.out; have := HN60.out; omega
            rw [hjL]
            clear hjL
            go_wp2_with fail
            go_loopw [9] (fun i wr => ∃ j : Nat, j ≤ K ∧ i = .int .i64 (j : Int) ∧ CRel Z Z N w4 (fun x => decide (x ∈ rl)) wr) (fun i _ => K - (intOf i).toNat)
            case atStart => exact ⟨0, Nat.zero_le _, rfl, HC0.out⟩
            case round =>
              clear HC0
              obtain ⟨j, hj, rfl, hC⟩ := hrel
              by_cases hlt : j < K
              · have hji : (j : Int) < (K : Int) := by omega
                have hj0 : (0 : Int) ≤ (j : Int) := by omega
                have HJK : Hid (j < K) := hlt
                have hB := (HB34.out _ hC.below).1
                obtain ⟨hc0, hc1⟩ := HXX.out _ hB
                obtain ⟨g, rfl, hg, hcell⟩ := HCEL.out _ j hC.below hlt
                obtain ⟨⟨hx1, hx2, hx3⟩, hrch⟩ := HAL.out _ (HGA.out j hlt)
                have hSS := HSS.out _ hB
                generalize rl.getD j 0 = X at hcell hx1 hx2 hx3 hrch
                obtain ⟨x0, rfl⟩ : ∃ x0, X = x0 + 1 := ⟨X - 1, by omega⟩
                have hk4 := hSS.kid x0 (by omega)
                obtain ⟨b', off, rfl, hlb, _, _, _, d3, d4, d5, d6, d7, d8, d9, d10⟩ := hSS.all (show x0 < n by omega)
                have HKL : Hid (Al S n (S x0).nd.left → (S x0).nd.left ∈ rl) := fun h => HIN.out _ (.kid (x0 + 1) 0 hrch (by omega) h)
                have HKR : Hid (Al S n (S x0).nd.right → (S x0).nd.right ∈ rl) := fun h => HIN.out _ (.kid (x0 + 1) 1 hrch (by omega) h)
                have HCL : Hid (∀ wx, Below (q + 1) w1 wx → Calls Try.prog 21 #[.agg #[.slice (some ⟨b', off, none⟩) n c, .slice b m d], .int .u32 (((S x0).nd.left : Nat) : Int)] wx (Calm wx (.bool (decide (Al S n (S x0).nd.left))))) := fun wx hb => dallocated_any (b := b) (m := m) (d := d) (c := c) (HSS.out wx hb) (by have := HN60.out; omega) hk4.1
                have HCR : Hid (∀ wx, Below (q + 1) w1 wx → Calls Try.prog 21 #[.agg #[.slice (some ⟨b', off, none⟩) n c, .slice b m d], .int .u32 (((S x0).nd.right : Nat) : Int)] wx (Calm wx (.bool (decide (Al S n (S x0).nd.right))))) := fun wx hb => dallocated_any (b := b) (m := m) (d := d) (c := c) (HSS.out wx hb) (by have := HN60.out; omega) hk4.2
                generalize (S x0).nd = nd at d3 d4 d5 d6 d7 d8 d9 d10 hk4 HKL HKR HCL HCR
                obtain ⟨XL, hXL⟩ : ∃ Y, nd.left = Y := ⟨_, rfl⟩
                obtain ⟨XR, hXR⟩ : ∃ Y, nd.right = Y := ⟨_, rfl⟩
                rw [hXL] at d5 hk4 HKL HCL
                rw [hXR] at d6 hk4 HKR HCR
                have HCC := Lib.hid hC
                have HK4 := Lib.hid hk4
                have hlb2 : b' < wr.heap.size := hlb
                have hqs : q < wr.heap.size := by have := hB.size; have := HZ.out; omega
                have hZs : Z < wr.heap.size := (row_lt hC.row Z rfl).2
                obtain ⟨Xi, hXi⟩ : ∃ Y : Int, ((x0 + 1 : Nat) : Int) = Y := ⟨_, rfl⟩
                have hXw : IntKind.u32.wrap (Xi - 1) = Xi - 1 := by rw [IntKind.wrap_u32']; omega
                have hX2 : (Xi - 1).toNat = x0 := by omega
                have hX4 : Xi - 1 < (n : Int) := by omega
                have hX5 : (0 : Int) ≤ Xi - 1 := by omega
                have hX1 : (1 : Int) ≤ Xi := by omega
                rw [hXi] at hcell
                obtain ⟨XLi, hXLi⟩ : ∃ Y : Int, ((XL : Nat) : Int) = Y := ⟨_, rfl⟩
                obtain ⟨XRi, hXRi⟩ : ∃ Y : Int, ((XR : Nat) : Int) = Y := ⟨_, rfl⟩
                rw [hXLi] at d5 HCL
                rw [hXRi] at d6 HCR
                have HXLi := Lib.hid hXLi
                have HXRi := Lib.hid hXRi
                clear hXi hx1 hx2 hx3 hrch hSS hlb hXL hXR hk4 hlt hj hXLi hXRi hB
                go_upto_region 19 with fail
                go_region_held3 (fun w' => w'.cell? ⟨q, 0, none⟩ = some (.slice (some ⟨b', off, none⟩) n c) ∧ w'.cell? ⟨g, j, none⟩ = some (.int .u32 Xi) ∧ w'.cell? ⟨b', off + x0 * 11 + 3, none⟩ = some (.int .i64 nd.key) ∧ w'.cell? ⟨b', off + x0 * 11 + 4, none⟩ = some (.int .i64 nd.val) ∧ w'.cell? ⟨b', off + x0 * 11 + 5, none⟩ = some (.int .u32 XLi) ∧ w'.cell? ⟨b', off + x0 * 11 + 6, none⟩ = some (.int .u32 XRi) ∧ w'.cell? ⟨b', off + x0 * 11 + 7, none⟩ = some (.int .i64 nd.size) ∧ w'.cell? ⟨b', off + x0 * 11 + 8, none⟩ = some (.int .i64 nd.sum) ∧ w'.cell? ⟨b', off + x0 * 11 + 9, none⟩ = some (.int .i64 nd.mn) ∧ w'.cell? ⟨b', off + x0 * 11 + 10, none⟩ = some (.int .i64 nd.mx)) (go_keep) (fail)
                have hb9 : Below wr.heap.size wr (wr.alloc (Obj.cells #[Value.int IntKind.i64 nd.key, Value.int IntKind.i64 nd.val, Value.int IntKind.u32 XLi, Value.int IntKind.u32 XRi, Value.int IntKind.i64 nd.size, Value.int IntKind.i64 nd.sum, Value.int IntKind.i64 nd.mn, Value.int IntKind.i64 nd.mx] 44)).drew := ((Below.refl _ _).alloc (Nat.le_refl _) _).drew
                have hrow : (wr.alloc (Obj.cells #[Value.int IntKind.i64 nd.key, Value.int IntKind.i64 nd.val, Value.int IntKind.u32 XLi, Value.int IntKind.u32 XRi, Value.int IntKind.i64 nd.size, Value.int IntKind.i64 nd.sum, Value.int IntKind.i64 nd.mn, Value.int IntKind.i64 nd.mx] 44)).drew.heap[wr.heap.size]? = some (Obj.cells #[Value.int IntKind.i64 nd.key, Value.int IntKind.i64 nd.val, Value.int IntKind.u32 XLi, Value.int IntKind.u32 XRi, Value.int IntKind.i64 nd.size, Value.int IntKind.i64 nd.sum, Value.int IntKind.i64 nd.mn, Value.int IntKind.i64 nd.mx] 44 (0, 0)) := heap_alloc_new wr _
                have hP9 : wr.heap.size < (wr.alloc (Obj.cells #[Value.int IntKind.i64 nd.key, Value.int IntKind.i64 nd.val, Value.int IntKind.u32 XLi, Value.int IntKind.u32 XRi, Value.int IntKind.i64 nd.size, Value.int IntKind.i64 nd.sum, Value.int IntKind.i64 nd.mn, Value.int IntKind.i64 nd.mx] 44)).drew.heap.size := (Array.getElem?_eq_some_iff.1 hrow).1
                clear hc0 hc1 hcell d3 d4 d5 d6 d7 d8 d9 d10 hlb2 hqs hZs
                generalize (wr.alloc (Obj.cells #[Value.int IntKind.i64 nd.key, Value.int IntKind.i64 nd.val, Value.int IntKind.u32 XLi, Value.int IntKind.u32 XRi, Value.int IntKind.i64 nd.size, Value.int IntKind.i64 nd.sum, Value.int IntKind.i64 nd.mn, Value.int IntKind.i64 nd.mx] 44)).drew = w9 at hb9 hrow hP9 ⊢
                have HC9 : Hid (CRel Z Z N w4 (fun x => decide (x ∈ rl)) w9) := ⟨row_below HCC.out.row hb9, HCC.out.below.trans (hb9.mono (by have := HZL.out; have := HCC.out.below.size; omega))⟩
                generalize wr.heap.size = P at hrow hP9 ⊢
                have HBX : Hid (∀ wx, Below w9.heap.size w9 wx → wx.cell? ⟨P, 2, none⟩ = some (.int .u32 XLi) ∧ wx.cell? ⟨P, 3, none⟩ = some (.int .u32 XRi)) := fun wx hb => by
                  have h1 := (hb.block P hP9).trans hrow
                  refine ⟨?_, ?_⟩ <;> (rw [cell_of_row _ _ _ _ _ _ h1]; rfl)
                obtain ⟨hd2, hd3⟩ := HBX.out _ (Below.refl _ _)
                have hbA := (HB34.out _ HC9.out.below).1
                obtain ⟨hd0, hd1⟩ := HXX.out _ hbA
                have hbd : Below (q + 1) w1 w9.drew := hbA.drew
                have hbe : Below w9.heap.size w9 w9.drew := (Below.refl _ _).drew
                have HIX : Hid (∀ X : Nat, Al S n X → X ∈ rl → (X : Int) < (N : Int) ∧ ∀ wx, Below w9.heap.size w9 wx → wx.cell? ⟨Z, X, none⟩ = some (.bool true)) := fun X ha hm => by
                  have h1 := ha.2.1
                  refine ⟨by have := HNN.out; omega, fun wx hb => ?_⟩
                  have hcI := (row_below HC9.out.row hb).cellAt X (by have := HNN.out; omega)
                  rw [boolR_at _ (show X < N by have := HNN.out; omega), decide_eq_true hm] at hcI
                  exact hcI
                clear hb9 hrow hP9 HCC
                by_cases haL : Al S n XL
                · by_cases haR : Al S n XR
                  · skip
                    have hcL := HCL.out
                    rw [decide_eq_true haL] at hcL
                    have HDL := Lib.hid hcL
                    clear hcL
                    obtain ⟨hLN, hLI⟩ := HIX.out _ haL (HKL.out haL)
                    rw [HXLi.out] at hLN
                    have hLt : XLi.toNat = XL := by have := HXLi.out; omega
                    have hL0 : (0 : Int) ≤ XLi := by have := HXLi.out; omega
                    have HIL := Lib.hid hLI
                    have hdL := HIL.out _ (Below.refl _ _)
                    clear hLI
                    have hcR := HCR.out
                    rw [decide_eq_true haR] at hcR
                    have HDR := Lib.hid hcR
                    clear hcR
                    obtain ⟨hRN, hRI⟩ := HIX.out _ haR (HKR.out haR)
                    rw [HXRi.out] at hRN
                    have hRt : XRi.toNat = XR := by have := HXRi.out; omega
                    have hR0 : (0 : Int) ≤ XRi := by have := HXRi.out; omega
                    have HIR := Lib.hid hRI
                    have hdR := HIR.out _ (Below.refl _ _)
                    clear hRI
                    clear haL haR
                    clear hbd hbe
                    go_wp2_with fail
                    refine (HDL.out _ hbA).mono ?_
                    rintro e w6 ⟨rfl, hb6⟩
                    have hbn := HNX.out _ _ hbA hb6
                    have hbm := hb6
                    clear hd0 hd1 hd2 hd3 hdL hdR
                    obtain ⟨hd0, hd1⟩ := HXX.out _ hbn
                    obtain ⟨hd2, hd3⟩ := HBX.out _ hbm
                    have hdL := HIL.out _ hbm
                    have hdR := HIR.out _ hbm
                    go_wp2_with fail
                    refine (HDR.out _ hbn).mono ?_
                    rintro e w7 ⟨rfl, hb7⟩
                    have hbo := HNX.out _ _ hbn hb7
                    have hbm := below_chain hb6 hb7
                    clear hd0 hd1 hd2 hd3 hdL hdR
                    obtain ⟨hd0, hd1⟩ := HXX.out _ hbo
                    obtain ⟨hd2, hd3⟩ := HBX.out _ hbm
                    have hdL := HIL.out _ hbm
                    have hdR := HIR.out _ hbm
                    have HC7 : Hid (CRel Z Z N w4 (fun x => decide (x ∈ rl)) w7) := ⟨row_below HC9.out.row hbm, HC9.out.below.trans (hbm.mono (by have := HZL.out; have := HC9.out.below.size; omega))⟩
                    go_wp2_with fail
                    exact ⟨⟨j + 1, by have := HJK.out; omega, by go_num, HC7.out⟩, by have := HJK.out; simp [intOf]; omega⟩
                  · skip
                    have hcL := HCL.out
                    rw [decide_eq_true haL] at hcL
                    have HDL := Lib.hid hcL
                    clear hcL
                    obtain ⟨hLN, hLI⟩ := HIX.out _ haL (HKL.out haL)
                    rw [HXLi.out] at hLN
                    have hLt : XLi.toNat = XL := by have := HXLi.out; omega
                    have hL0 : (0 : Int) ≤ XLi := by have := HXLi.out; omega
                    have HIL := Lib.hid hLI
                    have hdL := HIL.out _ (Below.refl _ _)
                    clear hLI
                    have hcR := HCR.out
                    rw [decide_eq_false haR] at hcR
                    have HDR := Lib.hid hcR
                    clear hcR
                    clear haL haR
                    clear hbd hbe
                    go_wp2_with fail
                    refine (HDL.out _ hbA).mono ?_
                    rintro e w6 ⟨rfl, hb6⟩
                    have hbn := HNX.out _ _ hbA hb6
                    have hbm := hb6
                    clear hd0 hd1 hd2 hd3 hdL
                    obtain ⟨hd0, hd1⟩ := HXX.out _ hbn
                    obtain ⟨hd2, hd3⟩ := HBX.out _ hbm
                    have hdL := HIL.out _ hbm
                    go_wp2_with fail
                    refine (HDR.out _ hbn).mono ?_
                    rintro e w7 ⟨rfl, hb7⟩
                    have hbo := HNX.out _ _ hbn hb7
                    have hbm := below_chain hb6 hb7
                    clear hd0 hd1 hd2 hd3 hdL
                    obtain ⟨hd0, hd1⟩ := HXX.out _ hbo
                    obtain ⟨hd2, hd3⟩ := HBX.out _ hbm
                    have hdL := HIL.out _ hbm
                    have HC7 : Hid (CRel Z Z N w4 (fun x => decide (x ∈ rl)) w7) := ⟨row_below HC9.out.row hbm, HC9.out.below.trans (hbm.mono (by have := HZL.out; have := HC9.out.below.size; omega))⟩
                    go_wp2_with fail
                    exact ⟨⟨j + 1, by have := HJK.out; omega, by go_num, HC7.out⟩, by have := HJK.out; simp [intOf]; omega⟩
                · by_cases haR : Al S n XR
                  · skip
                    have hcL := HCL.out
                    rw [decide_eq_false haL] at hcL
                    have HDL := Lib.hid hcL
                    clear hcL
                    have hcR := HCR.out
                    rw [decide_eq_true haR] at hcR
                    have HDR := Lib.hid hcR
                    clear hcR
                    obtain ⟨hRN, hRI⟩ := HIX.out _ haR (HKR.out haR)
                    rw [HXRi.out] at hRN
                    have hRt : XRi.toNat = XR := by have := HXRi.out; omega
                    have hR0 : (0 : Int) ≤ XRi := by have := HXRi.out; omega
                    have HIR := Lib.hid hRI
                    have hdR := HIR.out _ (Below.refl _ _)
                    clear hRI
                    clear haL haR
                    clear hbd hbe
                    go_wp2_with fail
                    refine (HDL.out _ hbA).mono ?_
                    rintro e w6 ⟨rfl, hb6⟩
                    have hbn := HNX.out _ _ hbA hb6
                    have hbm := hb6
                    clear hd0 hd1 hd2 hd3 hdR
                    obtain ⟨hd0, hd1⟩ := HXX.out _ hbn
                    obtain ⟨hd2, hd3⟩ := HBX.out _ hbm
                    have hdR := HIR.out _ hbm
                    go_wp2_with fail
                    refine (HDR.out _ hbn).mono ?_
                    rintro e w7 ⟨rfl, hb7⟩
                    have hbo := HNX.out _ _ hbn hb7
                    have hbm := below_chain hb6 hb7
                    clear hd0 hd1 hd2 hd3 hdR
                    obtain ⟨hd0, hd1⟩ := HXX.out _ hbo
                    obtain ⟨hd2, hd3⟩ := HBX.out _ hbm
                    have hdR := HIR.out _ hbm
                    have HC7 : Hid (CRel Z Z N w4 (fun x => decide (x ∈ rl)) w7) := ⟨row_below HC9.out.row hbm, HC9.out.below.trans (hbm.mono (by have := HZL.out; have := HC9.out.below.size; omega))⟩
                    go_wp2_with fail
                    exact ⟨⟨j + 1, by have := HJK.out; omega, by go_num, HC7.out⟩, by have := HJK.out; simp [intOf]; omega⟩
                  · skip
                    have hcL := HCL.out
                    rw [decide_eq_false haL] at hcL
                    have HDL := Lib.hid hcL
                    clear hcL
                    have hcR := HCR.out
                    rw [decide_eq_false haR] at hcR
                    have HDR := Lib.hid hcR
                    clear hcR
                    clear haL haR
                    clear hbd hbe
                    go_wp2_with fail
                    refine (HDL.out _ hbA).mono ?_
                    rintro e w6 ⟨rfl, hb6⟩
                    have hbn := HNX.out _ _ hbA hb6
                    have hbm := hb6
                    clear hd0 hd1 hd2 hd3
                    obtain ⟨hd0, hd1⟩ := HXX.out _ hbn
                    obtain ⟨hd2, hd3⟩ := HBX.out _ hbm
                    go_wp2_with fail
                    refine (HDR.out _ hbn).mono ?_
                    rintro e w7 ⟨rfl, hb7⟩
                    have hbo := HNX.out _ _ hbn hb7
                    have hbm := below_chain hb6 hb7
                    clear hd0 hd1 hd2 hd3
                    obtain ⟨hd0, hd1⟩ := HXX.out _ hbo
                    obtain ⟨hd2, hd3⟩ := HBX.out _ hbm
                    have HC7 : Hid (CRel Z Z N w4 (fun x => decide (x ∈ rl)) w7) := ⟨row_below HC9.out.row hbm, HC9.out.below.trans (hbm.mono (by have := HZL.out; have := HC9.out.below.size; omega))⟩
                    go_wp2_with fail
                    exact ⟨⟨j + 1, by have := HJK.out; omega, by go_num, HC7.out⟩, by have := HJK.out; simp [intOf]; omega⟩
              · have HBF := Lib.hid (HB34.out _ hC.below).1
                have hjK : j = K := by omega
                rw [hjK]
                clear hC hlt hj hjK
                go_wp2_with fail
                refine (awake_any HCK.out wr).mono ?_
                rintro e w9 ⟨rfl, hb9⟩
                have HB9 := Lib.hid (HNX.out _ _ HBF.out hb9)
                clear hb9
                go_wp2_with fail
                go_ret
                exact HEND.out _ HB9.out
end Go.Proofs.Yticmaddcomemhaa
