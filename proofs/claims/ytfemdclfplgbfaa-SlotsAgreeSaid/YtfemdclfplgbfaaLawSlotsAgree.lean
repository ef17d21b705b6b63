/- The walk of SlotsAgree. -/
import Derived.Test.YtfemdclfplgbfaaLawSlotsNever
import Derived.Test.YtfemdclfplgbfaaSlotsPair
import Derived.Test.YtfemdclfplgbfaaSameRows
import Derived.Deep.RegionHeld3
set_option linter.unusedVariables false
namespace Go.Proofs.Ytfemdclfplgbfaa
open Go.RowKit
theorem RefAt.mono {B B' : Nat} {G : Nat → Prop} {w : World} {σ : St} {st : List Nat} {fr : Nat} {sa ga oa : Option Addr} {sc gc oc : Nat} (h : RefAt B G w σ st fr sa ga oa sc gc oc) (hB : B' ≤ B) : RefAt B' G w σ st fr sa ga oa sc gc oc :=
  ⟨h.free, h.fr1, h.fr2, row_mono h.stack hB, row_mono h.gen hB, row_mono h.on hB, h.inS, h.inG, h.inO⟩
theorem pair_start {I : Impl} {w0 w1 w2 : World} {p : Value} {σ τ : St} {st : List Nat} {fr : Nat} {sa ga oa : Option Addr} {sc gc oc : Nat} (h : Has I w0.heap.size w1 p σ) (hb : Below w0.heap.size w0 w1)
    (hR : RefAt w1.heap.size (fun k => w1.heap.size ≤ k) w2 τ st fr sa ga oa sc gc oc) (hb2 : Below w1.heap.size w1 w2) (bx : Array Value) :
    Pair I w0.heap.size w2.heap.size w0 (w2.alloc (Obj.cells bx 38)) p σ τ bx (fun k => w1.heap.size ≤ k ∧ k ≤ w2.heap.size) st fr sa ga oa sc gc oc := by
  have h2 := hb2.size
  have h1 := hb.size
  have hb3 : Below w2.heap.size w2 (w2.alloc (Obj.cells bx 38)) := (Below.refl _ _).alloc (Nat.le_refl _) _
  have hb4 := hb2.trans (hb3.mono h2)
  have h3 := (hR.below hb3).mono h1
  refine ⟨h.beside hb4 fun k hk => ⟨hk.1, by simp; omega⟩, ⟨h3.free, h3.fr1, h3.fr2, h3.stack, h3.gen, h3.on, fun k hk => ?_, fun k hk => ?_, fun k hk => ?_⟩, ⟨h2, Nat.le_refl _⟩, heap_alloc_new _ _, hb.trans (hb4.mono h1), by omega⟩
  · have h5 := hR.inS k hk
    have h6 := (row_lt hR.stack k hk).2
    exact ⟨⟨h5, by omega⟩, by omega⟩
  · have h5 := hR.inG k hk
    have h6 := (row_lt hR.gen k hk).2
    exact ⟨⟨h5, by omega⟩, by omega⟩
  · have h5 := hR.inO k hk
    have h6 := (row_lt hR.on k hk).2
    exact ⟨⟨h5, by omega⟩, by omega⟩
theorem below_next {w w' w'' : World} (h : Below w.heap.size w w') (hb : Below w'.heap.size w' w'') : Below w.heap.size w w'' := h.trans (hb.mono h.size)
theorem pair_cells {I : Impl} {B q : Nat} {w w0 : World} {p : Value} {σ τ : St} {c0 c1 c2 c3 c4 : Value} {G : Nat → Prop} {st : List Nat} {fr : Nat} {sa ga oa : Option Addr} {sc gc oc : Nat}
    (h : Pair I B q w0 w p σ τ #[c0, c1, c2, c3, c4] G st fr sa ga oa sc gc oc) :
    w.cell? ⟨q, 0, none⟩ = some c0 ∧ w.cell? ⟨q, 1, none⟩ = some c1 ∧ w.cell? ⟨q, 2, none⟩ = some c2 ∧ w.cell? ⟨q, 3, none⟩ = some c3 ∧ w.cell? ⟨q, 4, none⟩ = some c4 := by
  refine ⟨?_, ?_, ?_, ?_, ?_⟩ <;> (rw [cell_of_row _ _ _ _ _ _ h.box]; rfl)
def AgreeRel (I : Impl) (w : World) (q : Nat) (p : Value) (n m : Nat) (i : Value) (wr : World) : Prop :=
  ∃ (k : Nat) (σ : St) (st : List Nat) (fr : Nat) (sa ga oa : Option Addr) (sc gc oc : Nat) (G : Nat → Prop), k ≤ m ∧ i = .int .i64 (k : Int) ∧ σ.cap = n ∧
    Pair I w.heap.size q w wr p σ σ (refV σ st fr sa ga oa sc gc oc) G st fr sa ga oa sc gc oc
set_option maxHeartbeats 2000000 in
set_option maxRecDepth 100000 in
theorem agree_walk (I : Impl) (c : Int) (a : Option Addr) (m cap : Nat) (w : World) (h1 : -9223372036854775808 ≤ c) (h2 : c ≤ 9223372036854775807) (hl : CallsIn w a m) (hmc : m ≤ cap) (hm : cap ≤ maxLen) :
    Calls Try.prog 4 #[.int .i64 c, .slice a m cap] w fun e w' => e = .returned (.bool true) ∧ Below w.heap.size w w' := by
  by_cases hlong : 120 < m
  · have hli : (120 : Int) < (m : Int) := by omega
    clear hl hlong
    go_enter Try.func4, Try.ntmps4
    go_wp2_with fail
    refine (awake_any I _).mono ?_
    rintro e w2 ⟨rfl, hb2⟩
    go_wp2
    go_ret
    exact ⟨rfl, hb2⟩
  have hli : (m : Int) ≤ 120 := by omega
  have hr := Int.emod_nonneg c (b := 12) (by omega)
  have hr2 := Int.emod_lt_of_pos c (b := 12) (by omega)
  obtain ⟨r, hr3⟩ := Int.eq_ofNat_of_zero_le hr
  rw [hr3] at hr2
  have hr4 : r < 12 := by omega
  have HR := Lib.hid hr3
  obtain ⟨n, hn⟩ : ∃ n : Nat, n = r + 1 := ⟨_, rfl⟩
  have HN : Hid ((1 : Int) + (r : Int) = (n : Int)) := by have := hn; show (1 : Int) + (r : Int) = (n : Int); omega
  have hn1 : 1 ≤ n := by omega
  have hn2 : n ≤ 12 := by omega
  have hni : (n : Int) ≤ 12 := by omega
  have hni2 : (1 : Int) ≤ (n : Int) := by omega
  have HL := Lib.hid hl
  clear hr hr2 hr3 hn hlong hl
  go_enter Try.func4, Try.ntmps4
  go_wp2_with fail
  refine (mod_any c 12 _ h1 h2 (by decide) (by decide)).mono ?_
  rintro e w2 ⟨rfl, rfl⟩
  rw [HR.out]
  go_wp2_with fail
  rw [HN.out]
  refine (new_has I n n _ hn1 (by omega) rfl).mono ?_
  rintro e w1 ⟨pa, rfl, h, hb⟩
  go_wp2_with fail
  refine (ref_new n _ hn1 (by omega)).mono ?_
  rintro e w2 ⟨ga, oa, gc, oc, rfl, hR, hb2⟩
  have hP := pair_start h hb hR hb2 (refV (St.init n) [] 1 none ga oa 0 gc oc)
  unfold refV
  clear h hb hR hb2
  go_wp2_with fail
  refine (awake_any I _).mono ?_
  rintro e w3 ⟨rfl, hb3⟩
  have hP3 := hP.calm hb3
  generalize w2.heap.size = q at hP3
  clear hP hb3
  have HU := Lib.hid Try.underlying38
  have hin : (Try.prog.info? 38).map (·.size) = some 5 := by kernel_rfl
  have HI := Lib.hid hin
  clear hin
  go_wp2
  go_loopw [9] (fun i wr => AgreeRel I w q (.pointer (some pa)) n m i wr) (fun i _ => m - (intOf i).toNat)
  case atStart => exact ⟨0, _, _, _, _, _, _, _, _, _, _, Nat.zero_le _, rfl, rfl, hP3⟩
  case round =>
    clear hP3
    obtain ⟨k, σ, st, fr, sa2, ga2, oa2, sc2, gc2, oc2, G, hk, rfl, hcap, hP⟩ := hrel
    by_cases hlt : k < m
    · have hki : (k : Int) < (m : Int) := by omega
      obtain ⟨b, off, o, u, rfl, hbb, hc1, hc2, hu⟩ := (HL.out.below hP.below) k hlt
      have HCAP := Lib.hid hcap
      clear hcap
      cases o
      case' true =>
        go_wp2_with fail
        refine (at_any true u n _ hu (by omega)).mono ?_
        rintro e w4 ⟨i, hi, rfl, hb4⟩
        have hP2 := hP.calm hb4
        clear hP hb4 hc1 hc2
        have HB := Lib.hid hP2.box
        by_cases ho : σ.on i = true
        case' pos =>
          go_wp2_with (refine wpList_load_row rfl 38 (.tmp 8) rfl q rfl 38 _ (0, 0) _ HB.out HU.out rfl HI.out ?_)
          refine (ref_put hP2.ref hP2.has.ok i hi ho hP2.size).mono ?_
          rintro e w5 ⟨sa3, oa3, sc3, oc3, rfl, hr5, hb5⟩
          obtain ⟨st', hst⟩ : ∃ x, x = st ++ [i] := ⟨_, rfl⟩
          obtain ⟨σ', hσ⟩ : ∃ x, x = σ.put i := ⟨_, rfl⟩
          rw [← hst, ← hσ] at hr5 ⊢
          have HC' : Hid (σ'.cap = n) := by rw [hσ]; exact HCAP
          have HS := Lib.hid hσ
          clear hst hσ
          have hP4 := (hP2.refd hr5 hb5).alloc (Obj.cells (refV σ' st' fr sa3 ga2 oa3 sc3 gc2 oc3) 38)
          have hx4 := heap_alloc_new w5 (Obj.cells (refV σ' st' fr sa3 ga2 oa3 sc3 gc2 oc3) 38)
          clear hP2 hr5 hb5 HB
          unfold refV
          go_wp2_with fail
          refine (put_g hP4.has hi rfl ho hP4.below hP4.size).mono ?_
          rintro e w6 ⟨rfl, hg6, hb6, hk6⟩
          rw [← HS.out] at hg6
          have hx6 := (hk6 _ (.inr rfl)).trans hx4
          have hP5 := hP4.proged hg6 hb6 hk6
          generalize w5.heap.size = r5 at hx6 hP5 ⊢
          have HX := Lib.hid hx6
          have HB := Lib.hid hP5.box
          clear hg6 hb6 hk6 hx4 hP4 hx6
          unfold refV at HX
          go_wp2_with (first | refine wpList_load_row rfl 38 (.tmp 11) rfl r5 rfl 38 _ (0, 0) _ HX.out HU.out rfl HI.out ?_ | refine wpList_store_row rfl 38 (.tmp 8) (.tmp 72) rfl q #[.int .i64 (σ'.cap : Int), .slice sa3 st'.length sc3, .int .i64 (fr : Int), .slice ga2 σ'.cap gc2, .slice oa3 σ'.cap oc3] rfl rfl 38 _ HB.out HI.out rfl (fields_one _ _ _ _ _ _ _ _ _ _ _) ?_)
          have hP6 := hP5.stored (refV σ' st' fr sa3 ga2 oa3 sc3 gc2 oc3)
          unfold refV at hP6
          generalize w6.setRow q _ = W at hP6 ⊢
          obtain ⟨σ', st', fr3, sa3, ga3, oa3, sc3, gc3, oc3, G3, HC', hP6⟩ : ∃ (σ' : St) (st' : List Nat) (fr3 : Nat) (sa3 ga3 oa3 : Option Addr) (sc3 gc3 oc3 : Nat) (G3 : Nat → Prop), Hid (σ'.cap = n) ∧ Pair I w.heap.size q w W (.pointer (some pa)) σ' σ' #[.int .i64 (σ'.cap : Int), .slice sa3 st'.length sc3, .int .i64 (fr3 : Int), .slice ga3 σ'.cap gc3, .slice oa3 σ'.cap oc3] G3 st' fr3 sa3 ga3 oa3 sc3 gc3 oc3 := ⟨_, _, _, _, _, _, _, _, _, _, HC', hP6⟩
          clear hP5 HX HB HS ho hi
        case' neg =>
          have ho2 : σ.on i = false := by simpa using ho
          clear ho
          go_wp2_with (refine wpList_load_row rfl 38 (.tmp 8) rfl q rfl 38 _ (0, 0) _ HB.out HU.out rfl HI.out ?_)
          refine (ref_bad hP2.ref hP2.has.ok i hi ho2).mono ?_
          rintro e w5 ⟨rfl, hb5⟩
          have HC' := HCAP
          have hP4 := (hP2.calm hb5).alloc (Obj.cells (refV σ st fr sa2 ga2 oa2 sc2 gc2 oc2) 38)
          have hx4 := heap_alloc_new w5 (Obj.cells (refV σ st fr sa2 ga2 oa2 sc2 gc2 oc2) 38)
          clear hP2 hb5 HB
          unfold refV
          go_wp2_with fail
          refine (bad_g hP4.has hi rfl ho2 hP4.below hP4.size).mono ?_
          rintro e w6 ⟨rfl, hg6, hb6, hk6⟩
          have hx6 := (hk6 _ (.inr rfl)).trans hx4
          have hP5 := hP4.proged hg6 hb6 hk6
          generalize w5.heap.size = r5 at hx6 hP5 ⊢
          have HX := Lib.hid hx6
          have HB := Lib.hid hP5.box
          clear hg6 hb6 hk6 hx4 hP4 hx6
          unfold refV at HX HB
          go_wp2_with (first | refine wpList_load_row rfl 38 (.tmp 11) rfl r5 rfl 38 _ (0, 0) _ HX.out HU.out rfl HI.out ?_ | refine wpList_store_row rfl 38 (.tmp 8) (.tmp 72) rfl q #[.int .i64 (σ.cap : Int), .slice sa2 st.length sc2, .int .i64 (fr : Int), .slice ga2 σ.cap gc2, .slice oa2 σ.cap oc2] rfl rfl 38 _ HB.out HI.out rfl (fields_one _ _ _ _ _ _ _ _ _ _ _) ?_)
          have hP6 := hP5.stored (refV σ st fr sa2 ga2 oa2 sc2 gc2 oc2)
          unfold refV at hP6
          generalize w6.setRow q _ = W at hP6 ⊢
          obtain ⟨σ', st', fr3, sa3, ga3, oa3, sc3, gc3, oc3, G3, HC', hP6⟩ : ∃ (σ' : St) (st' : List Nat) (fr3 : Nat) (sa3 ga3 oa3 : Option Addr) (sc3 gc3 oc3 : Nat) (G3 : Nat → Prop), Hid (σ'.cap = n) ∧ Pair I w.heap.size q w W (.pointer (some pa)) σ' σ' #[.int .i64 (σ'.cap : Int), .slice sa3 st'.length sc3, .int .i64 (fr3 : Int), .slice ga3 σ'.cap gc3, .slice oa3 σ'.cap oc3] G3 st' fr3 sa3 ga3 oa3 sc3 gc3 oc3 := ⟨_, _, _, _, _, _, _, _, _, _, HC', hP6⟩
          clear hP5 HX HB ho2 hi
      case' false =>
        rcases not_full hP.has.has with hf | ⟨i, t, hf⟩
        case' inl =>
          have hok := hP.has.ok
          go_wp2_with fail
          refine (full_g hP.has hf hP.below hP.size).mono ?_
          rintro e w4 ⟨rfl, hg4, hb4, hk4⟩
          have hP4 := hP.proged hg4 hb4 hk4
          have HB := Lib.hid hP4.box
          have HF := Lib.hid hf
          have HOK := Lib.hid hok
          clear hP hg4 hb4 hk4 hf hok
          go_wp2_with (refine wpList_load_row rfl 38 (.tmp 8) rfl q rfl 38 _ (0, 0) _ HB.out HU.out rfl HI.out ?_)
          refine (ref_full hP4.ref HOK.out HF.out).mono ?_
          rintro e w5 ⟨rfl, hb5⟩
          have HC' := HCAP
          have hP5 := (hP4.calm hb5).alloc (Obj.cells (refV σ st fr sa2 ga2 oa2 sc2 gc2 oc2) 38)
          have hx5 := heap_alloc_new w5 (Obj.cells (refV σ st fr sa2 ga2 oa2 sc2 gc2 oc2) 38)
          clear hP4 hb5 HB
          unfold refV at hx5 ⊢
          have HX := Lib.hid hx5
          have HB := Lib.hid hP5.box
          clear hx5
          unfold refV at HB
          go_wp2_with (first | refine wpList_load_row rfl 38 (.tmp 15) rfl w5.heap.size rfl 38 _ (0, 0) _ HX.out HU.out rfl HI.out ?_ | refine wpList_store_row rfl 38 (.tmp 8) (.tmp 92) rfl q #[.int .i64 (σ.cap : Int), .slice sa2 st.length sc2, .int .i64 (fr : Int), .slice ga2 σ.cap gc2, .slice oa2 σ.cap oc2] rfl rfl 38 _ HB.out HI.out rfl (fields_one _ _ _ _ _ _ _ _ _ _ _) ?_)
          have hP6 := hP5.stored (refV σ st fr sa2 ga2 oa2 sc2 gc2 oc2)
          unfold refV at hP6
          generalize (w5.alloc _).setRow q _ = W at hP6 ⊢
          obtain ⟨σ', st', fr3, sa3, ga3, oa3, sc3, gc3, oc3, G3, HC', hP6⟩ : ∃ (σ' : St) (st' : List Nat) (fr3 : Nat) (sa3 ga3 oa3 : Option Addr) (sc3 gc3 oc3 : Nat) (G3 : Nat → Prop), Hid (σ'.cap = n) ∧ Pair I w.heap.size q w W (.pointer (some pa)) σ' σ' #[.int .i64 (σ'.cap : Int), .slice sa3 st'.length sc3, .int .i64 (fr3 : Int), .slice ga3 σ'.cap gc3, .slice oa3 σ'.cap oc3] G3 st' fr3 sa3 ga3 oa3 sc3 gc3 oc3 := ⟨_, _, _, _, _, _, _, _, _, _, HC', hP6⟩
          clear hP5 HX HB HF HOK
        case' inr =>
          have hok := hP.has.ok
          go_wp2_with fail
          refine (take_g hP.has hf hP.below hP.size).mono ?_
          rintro e w4 ⟨rfl, hg4, hb4, hk4⟩
          have hP4 := hP.proged hg4 hb4 hk4
          have HB := Lib.hid hP4.box
          have HF := Lib.hid hf
          have HOK := Lib.hid hok
          clear hP hg4 hb4 hk4 hf hok
          go_wp2_with (refine wpList_load_row rfl 38 (.tmp 8) rfl q rfl 38 _ (0, 0) _ HB.out HU.out rfl HI.out ?_)
          refine (ref_take hP4.ref HOK.out i t HF.out hP4.size).mono ?_
          rintro e w5 ⟨st5, fr5, sa5, ga5, oa5, sc5, gc5, oc5, rfl, hr5, hb5⟩
          have HC' : Hid ((σ.take i t).cap = n) := HCAP
          have hP5 := (hP4.refd hr5 hb5).alloc (Obj.cells (refV (σ.take i t) st5 fr5 sa5 ga5 oa5 sc5 gc5 oc5) 38)
          have hx5 := heap_alloc_new w5 (Obj.cells (refV (σ.take i t) st5 fr5 sa5 ga5 oa5 sc5 gc5 oc5) 38)
          have hib : ((i : Int) != (i : Int)) = false := by simp
          generalize σ.take i t = σ5 at hP5 hx5 HC' ⊢
          clear hP4 hr5 hb5 HB
          unfold refV at hx5 ⊢
          have HX := Lib.hid hx5
          have HB := Lib.hid hP5.box
          clear hx5
          go_wp2_with (first | refine wpList_load_row rfl 38 (.tmp 15) rfl w5.heap.size rfl 38 _ (0, 0) _ HX.out HU.out rfl HI.out ?_ | refine wpList_store_row rfl 38 (.tmp 8) (.tmp 92) rfl q #[.int .i64 (σ5.cap : Int), .slice sa5 st5.length sc5, .int .i64 (fr5 : Int), .slice ga5 σ5.cap gc5, .slice oa5 σ5.cap oc5] rfl rfl 38 _ HB.out HI.out rfl (fields_one _ _ _ _ _ _ _ _ _ _ _) ?_)
          have hP6 := hP5.stored (refV σ5 st5 fr5 sa5 ga5 oa5 sc5 gc5 oc5)
          unfold refV at hP6
          generalize (w5.alloc _).setRow q _ = W at hP6 ⊢
          obtain ⟨σ', st', fr3, sa3, ga3, oa3, sc3, gc3, oc3, G3, HC', hP6⟩ : ∃ (σ' : St) (st' : List Nat) (fr3 : Nat) (sa3 ga3 oa3 : Option Addr) (sc3 gc3 oc3 : Nat) (G3 : Nat → Prop), Hid (σ'.cap = n) ∧ Pair I w.heap.size q w W (.pointer (some pa)) σ' σ' #[.int .i64 (σ'.cap : Int), .slice sa3 st'.length sc3, .int .i64 (fr3 : Int), .slice ga3 σ'.cap gc3, .slice oa3 σ'.cap oc3] G3 st' fr3 sa3 ga3 oa3 sc3 gc3 oc3 := ⟨_, _, _, _, _, _, _, _, _, _, HC', hP6⟩
          clear hP5 HX HB hib HF HOK
      all_goals
        go_loopw [18] (fun i wr => ∃ j : Nat, j ≤ n + 2 ∧ i = .int .u32 (j : Int) ∧ Below W.heap.size W wr) (fun i _ => n + 2 - (intOf i).toNat)
        case atStart => exact ⟨0, by omega, rfl, Below.refl _ _⟩
        case round =>
          obtain ⟨j, hj, rfl, hbj⟩ := hrel
          by_cases hlj : j ≤ n + 1
          · have hji : (j : Int) ≤ (n : Int) + 1 := by omega
            have hPj := hP6.calm hbj
            obtain ⟨hc0, hc1, hc2, hc3, hc4⟩ := pair_cells hPj
            have hdr : Below wr.heap.size wr wr.drew := (Below.refl _ _).drew
            have HP := Lib.hid hPj
            clear hP6 hPj
            generalize hon : σ'.on j = bon
            generalize hgn : σ'.gen j = bgn
            have HON := Lib.hid hon
            have HGN := Lib.hid hgn
            clear hon hgn
            have hnb : (bon != bon) = false := by simp
            have hng : (bgn != bgn) = false := by simp
            go_wp2
            go_region_held3 (fun w' => Below wr.heap.size wr w' ∧ w'.cell? ⟨q, 0, none⟩ = some (.int .i64 (σ'.cap : Int)) ∧ w'.cell? ⟨q, 1, none⟩ = some (.slice sa3 st'.length sc3) ∧ w'.cell? ⟨q, 2, none⟩ = some (.int .i64 (fr3 : Int)) ∧ w'.cell? ⟨q, 3, none⟩ = some (.slice ga3 σ'.cap gc3) ∧ w'.cell? ⟨q, 4, none⟩ = some (.slice oa3 σ'.cap oc3)) (go_keep) (first
              | (go_at_call 14; refine (on_has I (HP.out.calm (by assumption)).has.has (i := j) (by omega) rfl).mono ?_; rintro e wx ⟨rfl, hbx⟩; rw [HON.out]; have hbn := below_next (w := wr) (by assumption) hbx; obtain ⟨hd0, hd1, hd2, hd3, hd4⟩ := pair_cells (HP.out.calm hbn))
              | (go_at_call 15; refine (gen_has I (HP.out.calm (by assumption)).has.has (i := j) (by omega) rfl).mono ?_; rintro e wx ⟨rfl, hbx⟩; rw [HGN.out]; have hbn := below_next (w := wr) (by assumption) hbx; obtain ⟨hd0, hd1, hd2, hd3, hd4⟩ := pair_cells (HP.out.calm hbn))
              | (go_at_call 22; refine (ref_on (HP.out.calm (by assumption)).ref HP.out.has.ok j (by omega)).mono ?_; rintro e wx ⟨rfl, hbx⟩; rw [HON.out]; have hbn := below_next (w := wr) (by assumption) hbx; obtain ⟨hd0, hd1, hd2, hd3, hd4⟩ := pair_cells (HP.out.calm hbn))
              | (go_at_call 23; refine (ref_gen (HP.out.calm (by assumption)).ref HP.out.has.ok j (by omega)).mono ?_; rintro e wx ⟨rfl, hbx⟩; rw [HGN.out]; have hbn := below_next (w := wr) (by assumption) hbx; obtain ⟨hd0, hd1, hd2, hd3, hd4⟩ := pair_cells (HP.out.calm hbn)))
            go_wp2
            exact ⟨⟨j + 1, by omega, by go_num, hbj.trans (hbn.mono hbj.size)⟩, by simp [intOf]; omega⟩
          · obtain rfl : j = n + 2 := by omega
            have hPj := hP6.calm hbj
            have HB := Lib.hid hPj.box
            have hok := hPj.has.ok
            have hln := hok.len
            have hcp2 := hok.cap2
            have hlen : (σ'.free.length : Int) ≤ 65536 := by omega
            clear hP6 hbj hln hcp2
            go_wp2_with (refine wpList_load_row rfl 38 (.tmp 8) rfl q rfl 38 _ (0, 0) _ HB.out HU.out rfl HI.out ?_)
            refine (ref_order hPj.ref hok).mono ?_
            rintro e w7 ⟨a7, c7, rfl, ho7, hb7⟩
            have hP7 := hPj.calm hb7
            clear hPj hb7 HB
            generalize hfl : σ'.free = fl at ho7 hlen
            have HFL := Lib.hid hfl
            clear hfl
            go_wp2_with fail
            refine (count_has I hP7.has.has).mono ?_
            rintro e w8 ⟨rfl, hb8⟩
            rw [HFL.out]
            have hP8 := hP7.calm hb8
            have ho8 := row_below ho7 hb8
            clear hP7 ho7 hb8
            go_wp2_with fail
            refine (order_has I hP8.has.has).mono ?_
            rintro e w9 ⟨a9, c9, rfl, ho9, hb9⟩
            rw [HFL.out] at ho9 ⊢
            have hP9 := hP8.calm hb9
            have ho8b := row_below ho8 hb9
            clear hP8 ho8 hb9
            go_wp2_with fail
            refine (same_rows fl _ hlen ho9 ho8b).mono ?_
            rintro e w10 ⟨rfl, hb10⟩
            have hP10 := hP9.calm hb10
            clear hP9 ho9 ho8b hb10
            go_wp2
            exact ⟨⟨k + 1, σ', st', fr3, sa3, ga3, oa3, sc3, gc3, oc3, _, by omega, by go_num, HC'.out, hP10⟩, by simp [intOf]; omega⟩
    · obtain rfl : k = m := by omega
      have hb := hP.below
      go_wp2
      go_ret
      exact ⟨rfl, hb⟩
end Go.Proofs.Ytfemdclfplgbfaa
