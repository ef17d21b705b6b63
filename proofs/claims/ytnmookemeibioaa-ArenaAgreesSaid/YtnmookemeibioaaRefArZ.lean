/- The reference's arena: Dump, Make. -/
import Derived.Test.YtnmookemeibioaaRefDump0
import Derived.Test.YtnmookemeibioaaRefArY
import Derived.Deep.DeepCutAuto
import Derived.Deep.RegionHeld3
set_option linter.unusedVariables false
set_option linter.unusedSimpArgs false
namespace Go.Proofs.Ytnmookemeibioaa
open Go.RowKit
set_option maxHeartbeats 4000000 in
set_option maxRecDepth 100000 in
theorem rar_dump {B q : Nat} {w : World} {A : Ar} {rd : Int} {r : AL} (h : RefAr B w q A rd r) (hok : A.σ.Ok) :
    Calls Try.prog 19 #[.pointer (some ⟨q, 0, none⟩)] w (DumpRes w A) := by
  obtain ⟨i0, hi, hz0, hz1, hz2⟩ := info_parts sInfo
  have HU : Hid _ := Lib.hid Try.underlying35
  have hin : (Try.prog.info? 35).map (·.size) = some 2 := by kernel_rfl
  have HIN := Lib.hid hin
  have hcap := hok.cap2
  have hci : (A.σ.cap : Int) ≤ 65536 := by omega
  have HOK := Lib.hid hok
  have hb1 := below_new5 w (Obj.cells #[Value.slice none 0 0, Value.slice none 0 0] 35)
  have h1 := h.below hb1
  have HP0 := Lib.hid (heap_alloc_new w (Obj.cells #[Value.slice none 0 0, Value.slice none 0 0] 35))
  have HB1 := Lib.hid hb1
  have hsz1 : (w.alloc (Obj.cells #[Value.slice none 0 0, Value.slice none 0 0] 35)).heap.size = w.heap.size + 1 := by simp
  have HS1 := Lib.hid hsz1
  clear h hin hb1 hsz1 hok
  go_enter Try.func19, Try.ntmps19
  go_upto_region 1 with fail
  generalize w.alloc (Obj.cells #[Value.slice none 0 0, Value.slice none 0 0] 35) = w1 at h1 HP0 HB1 HS1 ⊢
  have hx := h1.box
  unfold arV at hx
  obtain ⟨c0, c1, c2, c3, c4, c5, c6, c7⟩ := row8 hx
  have H1 := Lib.hid h1
  clear hx h1
  go_wp2_with fail
  have hord := ref_order H1.out.slots HOK.out
  unfold refV at hord
  refine hord.mono ?_
  rintro e w2 ⟨b, dd, rfl, hfr, hb2⟩
  have h2 := H1.out.below hb2
  obtain ⟨M, hM⟩ : ∃ M, A.σ.free.length = M := ⟨_, rfl⟩
  have HM := Lib.hid hM
  rw [hM] at hfr ⊢
  have HFR := Lib.hid hfr
  have HB2 := Lib.hid hb2
  have H2 := Lib.hid h2
  clear c0 c1 c2 c3 c4 c5 c6 c7 hfr hb2 h2 hM hord
  go_upto_region 2 with fail
  have hD0 := heap_alloc_new w2 (Obj.cells #[Value.slice none 0 0, Value.slice b M dd] 35)
  have hb3 := below_new5 w2 (Obj.cells #[Value.slice none 0 0, Value.slice b M dd] 35)
  have hs3 : (w2.alloc (Obj.cells #[Value.slice none 0 0, Value.slice b M dd] 35)).heap.size = w2.heap.size + 1 := by simp
  have hz : Hid (w2.alloc (Obj.cells #[Value.slice none 0 0, Value.slice b M dd] 35) = w2.alloc (Obj.cells #[Value.slice none 0 0, Value.slice b M dd] 35)) := rfl
  clear hz
  generalize w2.alloc (Obj.cells #[Value.slice none 0 0, Value.slice b M dd] 35) = w3 at hD0 hb3 hs3 ⊢
  obtain ⟨d, hd⟩ : ∃ d, w2.heap.size = d := ⟨_, rfl⟩
  rw [hd] at hD0 hb3 hs3 ⊢
  have HD := Lib.hid hd
  have HS3 := Lib.hid hs3
  have HB3 := Lib.hid hb3
  have HREL : Hid (DRel A d w3 b M dd 0 (.slice none 0 0) w3) := ⟨⟨none, 0, rfl⟩, hD0, World.ownsRow_nil _ _ _ _, Below.refl _ _⟩
  clear hd hD0 hb3 hs3
  go_wp2_with fail
  go_loopg [4] A.σ.cap (fun g i wr => ∃ k x, k ≤ A.σ.cap ∧ g = A.σ.cap - k ∧ i = .int .i64 (k : Int) ∧ DRel A d w3 b M dd k x wr)
  case atStart => exact ⟨0, _, Nat.zero_le _, rfl, rfl, HREL.out⟩
  case round =>
    clear HREL
    obtain ⟨k, x, hk, hg, rfl, hR⟩ := hrel
    have HG := Lib.hid hg
    obtain ⟨xa, xc, rfl⟩ := hR.val
    have hbd := hR.below
    have hbw : Below w2.heap.size w2 wr := by rw [HD.out]; exact HB3.out.trans hbd
    have HH := Lib.hid (H2.out.below hbw)
    have hdl : d < wr.heap.size := (Array.getElem?_eq_some_iff.1 hR.box).1
    have HR := Lib.hid hR
    obtain ⟨e0, e1⟩ := two_cells hR.box
    have hx := HH.out.box
    unfold arV at hx
    obtain ⟨c0, c1, c2, c3, c4, c5, c6, c7⟩ := row8 hx
    clear hx hR hbd hg hbw
    by_cases hlt : k < A.σ.cap
    · have hki : (k : Int) < (A.σ.cap : Int) := by omega
      have hki0 : (0 : Int) ≤ (k : Int) := by omega
      obtain ⟨go, gn, gg, gc, ho, hn, hgg, hcc, f0, f1, f2, g0, g1, g2, g3, g4, g5, g6, g7⟩ := HH.out.at_ hlt
      rw [ho] at c4
      rw [hn] at c5
      rw [hgg] at c3
      rw [hcc] at c6
      have hal := below_new5 wr (Obj.cells #[Value.bool (A.σ.on (k + 1)), .int .i64 (A.cnt (k + 1)), .int .u32 (A.σ.gen (k + 1)), .int .i64 (A.nd (k + 1)).key, .int .i64 (A.nd (k + 1)).val, .int .u32 ((A.nd (k + 1)).left : Int), .int .u32 ((A.nd (k + 1)).right : Int), .int .i64 (A.nd (k + 1)).size, .int .i64 (A.nd (k + 1)).sum, .int .i64 (A.nd (k + 1)).mn, .int .i64 (A.nd (k + 1)).mx] 82)
      have hrow := row_below HR.out.row hal
      have HAL := Lib.hid hal
      have hdl2 : d + 1 ≤ wr.heap.size + 1 := by omega
      have HO := Lib.hid ho
      have HN := Lib.hid hn
      have HGG := Lib.hid hgg
      have HCC := Lib.hid hcc
      have HB23 := Lib.hid (HB3.out.trans HR.out.below)
      have HLT := Lib.hid hlt
      have hlq : q < d := by rw [← HD.out]; exact H2.out.lt
      have hlo : go < d := by rw [← HD.out]; exact (row_lt H2.out.slots.on go (by rw [ho]; rfl)).2
      have hln : gn < d := by rw [← HD.out]; exact (row_lt H2.out.nodes gn (by rw [hn]; rfl)).2
      have hlg : gg < d := by rw [← HD.out]; exact (row_lt H2.out.slots.gen gg (by rw [hgg]; rfl)).2
      have hlc : gc < d := by rw [← HD.out]; exact (row_lt H2.out.cnts gc (by rw [hcc]; rfl)).2
      have z1 : ¬ q = d := by omega
      have z2 : ¬ d = q := by omega
      have z3 : ¬ go = d := by omega
      have z4 : ¬ d = go := by omega
      have z5 : ¬ gn = d := by omega
      have z6 : ¬ d = gn := by omega
      have z7 : ¬ gg = d := by omega
      have z8 : ¬ d = gg := by omega
      have z9 : ¬ gc = d := by omega
      have z10 : ¬ d = gc := by omega
      clear hal ho hn hgg hcc hlq hlo hln hlg hlc
      go_upto_region 5 with fail
      refine wp_region_held_drew (S := (fun w' => w'.cell? ⟨q, 3, none⟩ = some (.slice (some ⟨gg, 0, none⟩) A.σ.cap r.gc) ∧ w'.cell? ⟨q, 4, none⟩ = some (.slice (some ⟨go, 0, none⟩) A.σ.cap r.oc) ∧ w'.cell? ⟨q, 5, none⟩ = some (.slice (some ⟨gn, 0, none⟩) A.σ.cap r.nc) ∧ w'.cell? ⟨q, 6, none⟩ = some (.slice (some ⟨gc, 0, none⟩) A.σ.cap r.cc) ∧
        w'.cell? ⟨go, k, none⟩ = some (.bool (A.σ.on (k + 1))) ∧ w'.cell? ⟨gc, k, none⟩ = some (.int .i64 (A.cnt (k + 1))) ∧ w'.cell? ⟨gg, k, none⟩ = some (.int .u32 (A.σ.gen (k + 1))) ∧
        w'.cell? ⟨gn, k * 8, none⟩ = some (.int .i64 (A.nd (k + 1)).key) ∧ w'.cell? ⟨gn, k * 8 + 1, none⟩ = some (.int .i64 (A.nd (k + 1)).val) ∧ w'.cell? ⟨gn, k * 8 + 2, none⟩ = some (.int .u32 ((A.nd (k + 1)).left : Int)) ∧ w'.cell? ⟨gn, k * 8 + 3, none⟩ = some (.int .u32 ((A.nd (k + 1)).right : Int)) ∧
        w'.cell? ⟨gn, k * 8 + 4, none⟩ = some (.int .i64 (A.nd (k + 1)).size) ∧ w'.cell? ⟨gn, k * 8 + 5, none⟩ = some (.int .i64 (A.nd (k + 1)).sum) ∧ w'.cell? ⟨gn, k * 8 + 6, none⟩ = some (.int .i64 (A.nd (k + 1)).mn) ∧ w'.cell? ⟨gn, k * 8 + 7, none⟩ = some (.int .i64 (A.nd (k + 1)).mx))) (by kernel_rfl) (by (try dsimp only); go_keep) (fun hHeld => ?_)
      refine wpAnyH_take (i := 0) (oi := _) (v := ?_) rfl (by kernel_rfl) (by kernel_rfl) (by kernel_rfl) (fun _ _ _ h => h) (Or.inl ⟨by rfl, ?_⟩) (by assumption) ?_
      rotate_left
      · intro w hSw; (try dsimp only at hSw); go_simp; try with_reducible rfl
      (try simp only [Act.put, List.setIfInBounds_toArray, List.set_cons_zero, List.set_cons_succ])
      refine wpAnyH_take (i := 2) (oi := _) (v := ?_) rfl (by kernel_rfl) (by kernel_rfl) (by kernel_rfl) (fun _ _ _ h => h) (Or.inl ⟨by rfl, ?_⟩) (by assumption) ?_
      rotate_left
      · intro w hSw; (try dsimp only at hSw); go_simp; try with_reducible rfl
      (try simp only [Act.put, List.setIfInBounds_toArray, List.set_cons_zero, List.set_cons_succ])
      refine wpAnyH_take (i := 3) (oi := _) (v := ?_) rfl (by kernel_rfl) (by kernel_rfl) (by kernel_rfl) (fun _ _ _ h => h) (Or.inl ⟨by rfl, ?_⟩) (by assumption) ?_
      rotate_left
      · intro w hSw; (try dsimp only at hSw); go_simp; try with_reducible rfl
      (try simp only [Act.put, List.setIfInBounds_toArray, List.set_cons_zero, List.set_cons_succ])
      refine wpAnyH_take (i := 4) (oi := _) (v := ?_) rfl (by kernel_rfl) (by kernel_rfl) (by kernel_rfl) (fun _ _ _ h => h) (Or.inl ⟨by rfl, ?_⟩) (by assumption) ?_
      rotate_left
      · intro w hSw; (try dsimp only at hSw); go_simp; try with_reducible rfl
      (try simp only [Act.put, List.setIfInBounds_toArray, List.set_cons_zero, List.set_cons_succ])
      refine wpAnyH_take (i := 5) (oi := _) (v := ?_) rfl (by kernel_rfl) (by kernel_rfl) (by kernel_rfl) (fun _ _ _ h => h) (Or.inl ⟨by rfl, ?_⟩) (by assumption) ?_
      rotate_left
      · intro w hSw; (try dsimp only at hSw); go_simp; try with_reducible rfl
      (try simp only [Act.put, List.setIfInBounds_toArray, List.set_cons_zero, List.set_cons_succ])
      refine wpAnyH_take (i := 6) (oi := _) (v := ?_) rfl (by kernel_rfl) (by kernel_rfl) (by kernel_rfl) (fun _ _ _ h => h) (Or.inl ⟨by rfl, ?_⟩) (by assumption) ?_
      rotate_left
      · intro w hSw; (try dsimp only at hSw); go_simp; try with_reducible rfl
      (try simp only [Act.put, List.setIfInBounds_toArray, List.set_cons_zero, List.set_cons_succ])
      refine wpAnyH_take (i := 7) (oi := _) (v := ?_) rfl (by kernel_rfl) (by kernel_rfl) (by kernel_rfl) (fun _ _ _ h => h) (Or.inl ⟨by rfl, ?_⟩) (by assumption) ?_
      rotate_left
      · intro w hSw; (try dsimp only at hSw); go_simp; try with_reducible rfl
      (try simp only [Act.put, List.setIfInBounds_toArray, List.set_cons_zero, List.set_cons_succ])
      refine wpAnyH_take (i := 8) (oi := _) (v := ?_) rfl (by kernel_rfl) (by kernel_rfl) (by kernel_rfl) (fun _ _ _ h => h) (Or.inl ⟨by rfl, ?_⟩) (by assumption) ?_
      rotate_left
      · intro w hSw; (try dsimp only at hSw); go_simp; try with_reducible rfl
      (try simp only [Act.put, List.setIfInBounds_toArray, List.set_cons_zero, List.set_cons_succ])
      refine wpAnyH_take (i := 9) (oi := _) (v := ?_) rfl (by kernel_rfl) (by kernel_rfl) (by kernel_rfl) (fun _ _ _ h => h) (Or.inl ⟨by rfl, ?_⟩) (by assumption) ?_
      rotate_left
      · intro w hSw; (try dsimp only at hSw); go_simp; try with_reducible rfl
      (try simp only [Act.put, List.setIfInBounds_toArray, List.set_cons_zero, List.set_cons_succ])
      refine wpAnyH_take (i := 10) (oi := _) (v := ?_) rfl (by kernel_rfl) (by kernel_rfl) (by kernel_rfl) (fun _ _ _ h => h) (Or.inl ⟨by rfl, ?_⟩) (by assumption) ?_
      rotate_left
      · intro w hSw; (try dsimp only at hSw); go_simp; try with_reducible rfl
      (try simp only [Act.put, List.setIfInBounds_toArray, List.set_cons_zero, List.set_cons_succ])
      refine wpAnyH_take (i := 11) (oi := _) (v := ?_) rfl (by kernel_rfl) (by kernel_rfl) (by kernel_rfl) (fun _ _ _ h => h) (Or.inl ⟨by rfl, ?_⟩) (by assumption) ?_
      rotate_left
      · intro w hSw; (try dsimp only at hSw); go_simp; try with_reducible rfl
      (try simp only [Act.put, List.setIfInBounds_toArray, List.set_cons_zero, List.set_cons_succ])
      refine wpAnyH_take (i := 12) (oi := _) (v := ?_) rfl (by kernel_rfl) (by kernel_rfl) (by kernel_rfl) (fun _ _ _ h => h) (Or.inl ⟨by rfl, ?_⟩) (by assumption) ?_
      rotate_left
      · intro w hSw; (try dsimp only at hSw); go_simp; try with_reducible rfl
      (try simp only [Act.put, List.setIfInBounds_toArray, List.set_cons_zero, List.set_cons_succ])
      refine wpAnyH_take (i := 13) (oi := _) (v := ?_) rfl (by kernel_rfl) (by kernel_rfl) (by kernel_rfl) (fun _ _ _ h => h) (Or.inl ⟨by rfl, ?_⟩) (by assumption) ?_
      rotate_left
      · intro w hSw; (try dsimp only at hSw); go_simp; try with_reducible rfl
      (try simp only [Act.put, List.setIfInBounds_toArray, List.set_cons_zero, List.set_cons_succ])
      refine wpAnyH_take (i := 14) (oi := _) (v := ?_) rfl (by kernel_rfl) (by kernel_rfl) (by kernel_rfl) (fun _ _ _ h => h) (Or.inl ⟨by rfl, ?_⟩) (by assumption) ?_
      rotate_left
      · intro w hSw; (try dsimp only at hSw); go_simp; try with_reducible rfl
      (try simp only [Act.put, List.setIfInBounds_toArray, List.set_cons_zero, List.set_cons_succ])
      refine wpAnyH_take (i := 15) (oi := _) (v := ?_) rfl (by kernel_rfl) (by kernel_rfl) (by kernel_rfl) (fun _ _ _ h => h) (Or.inl ⟨by rfl, ?_⟩) (by assumption) ?_
      rotate_left
      · intro w hSw; (try dsimp only at hSw); go_simp; try with_reducible rfl
      (try simp only [Act.put, List.setIfInBounds_toArray, List.set_cons_zero, List.set_cons_succ])
      refine wpAnyH_take (i := 16) (oi := _) (v := ?_) rfl (by kernel_rfl) (by kernel_rfl) (by kernel_rfl) (fun _ _ _ h => h) (Or.inl ⟨by rfl, ?_⟩) (by assumption) ?_
      rotate_left
      · intro w hSw; (try dsimp only at hSw); go_simp; try with_reducible rfl
      (try simp only [Act.put, List.setIfInBounds_toArray, List.set_cons_zero, List.set_cons_succ])
      refine wpAnyH_take (i := 17) (oi := _) (v := ?_) rfl (by kernel_rfl) (by kernel_rfl) (by kernel_rfl) (fun _ _ _ h => h) (Or.inl ⟨by rfl, ?_⟩) (by assumption) ?_
      rotate_left
      · intro w hSw; (try dsimp only at hSw); go_simp; try with_reducible rfl
      (try simp only [Act.put, List.setIfInBounds_toArray, List.set_cons_zero, List.set_cons_succ])
      refine wpAnyH_take (i := 18) (oi := _) (v := ?_) rfl (by kernel_rfl) (by kernel_rfl) (by kernel_rfl) (fun _ _ _ h => h) (Or.inl ⟨by rfl, ?_⟩) (by assumption) ?_
      rotate_left
      · intro w hSw; (try dsimp only at hSw); go_simp; try with_reducible rfl
      (try simp only [Act.put, List.setIfInBounds_toArray, List.set_cons_zero, List.set_cons_succ])
      refine wpAnyH_take (i := 19) (oi := _) (v := ?_) rfl (by kernel_rfl) (by kernel_rfl) (by kernel_rfl) (fun _ _ _ h => h) (Or.inl ⟨by rfl, ?_⟩) (by assumption) ?_
      rotate_left
      · intro w hSw; (try dsimp only at hSw); go_simp; try with_reducible rfl
      (try simp only [Act.put, List.setIfInBounds_toArray, List.set_cons_zero, List.set_cons_succ])
      refine wpAnyH_take (i := 20) (oi := _) (v := ?_) rfl (by kernel_rfl) (by kernel_rfl) (by kernel_rfl) (fun _ _ _ h => h) (Or.inl ⟨by rfl, ?_⟩) (by assumption) ?_
      rotate_left
      · intro w hSw; (try dsimp only at hSw); go_simp; try with_reducible rfl
      (try simp only [Act.put, List.setIfInBounds_toArray, List.set_cons_zero, List.set_cons_succ])
      refine wpAnyH_take (i := 21) (oi := _) (v := ?_) rfl (by kernel_rfl) (by kernel_rfl) (by kernel_rfl) (fun _ _ _ h => h) (Or.inl ⟨by rfl, ?_⟩) (by assumption) ?_
      rotate_left
      · intro w hSw; (try dsimp only at hSw); go_simp; try with_reducible rfl
      (try simp only [Act.put, List.setIfInBounds_toArray, List.set_cons_zero, List.set_cons_succ])
      refine wpAnyH_take (i := 22) (oi := _) (v := ?_) rfl (by kernel_rfl) (by kernel_rfl) (by kernel_rfl) (fun _ _ _ h => h) (Or.inl ⟨by rfl, ?_⟩) (by assumption) ?_
      rotate_left
      · intro w hSw; (try dsimp only at hSw); go_simp; try with_reducible rfl
      (try simp only [Act.put, List.setIfInBounds_toArray, List.set_cons_zero, List.set_cons_succ])
      refine wpAnyH_take (i := 23) (oi := _) (v := ?_) rfl (by kernel_rfl) (by kernel_rfl) (by kernel_rfl) (fun _ _ _ h => h) (Or.inl ⟨by rfl, ?_⟩) (by assumption) ?_
      rotate_left
      · intro w hSw; (try dsimp only at hSw); go_simp; try with_reducible rfl
      (try simp only [Act.put, List.setIfInBounds_toArray, List.set_cons_zero, List.set_cons_succ])
      refine wpAnyH_take (i := 24) (oi := _) (v := ?_) rfl (by kernel_rfl) (by kernel_rfl) (by kernel_rfl) (fun _ _ _ h => h) (Or.inl ⟨by rfl, ?_⟩) (by assumption) ?_
      rotate_left
      · intro w hSw; (try dsimp only at hSw); go_simp; try with_reducible rfl
      (try simp only [Act.put, List.setIfInBounds_toArray, List.set_cons_zero, List.set_cons_succ])
      refine wpAnyH_take (i := 25) (oi := _) (v := ?_) rfl (by kernel_rfl) (by kernel_rfl) (by kernel_rfl) (fun _ _ _ h => h) (Or.inl ⟨by rfl, ?_⟩) (by assumption) ?_
      rotate_left
      · intro w hSw; (try dsimp only at hSw); go_simp; try with_reducible rfl
      (try simp only [Act.put, List.setIfInBounds_toArray, List.set_cons_zero, List.set_cons_succ])
      refine wpAnyH_take (i := 26) (oi := _) (v := ?_) rfl (by kernel_rfl) (by kernel_rfl) (by kernel_rfl) (fun _ _ _ h => h) (Or.inl ⟨by rfl, ?_⟩) (by assumption) ?_
      rotate_left
      · intro w hSw; (try dsimp only at hSw); go_simp; try with_reducible rfl
      (try simp only [Act.put, List.setIfInBounds_toArray, List.set_cons_zero, List.set_cons_succ])
      refine wpAnyH_take (i := 27) (oi := _) (v := ?_) rfl (by kernel_rfl) (by kernel_rfl) (by kernel_rfl) (fun _ _ _ h => h) (Or.inl ⟨by rfl, ?_⟩) (by assumption) ?_
      rotate_left
      · intro w hSw; (try dsimp only at hSw); go_simp; try with_reducible rfl
      (try simp only [Act.put, List.setIfInBounds_toArray, List.set_cons_zero, List.set_cons_succ])
      refine wpAnyH_take (i := 28) (oi := _) (v := ?_) rfl (by kernel_rfl) (by kernel_rfl) (by kernel_rfl) (fun _ _ _ h => h) (Or.inl ⟨by rfl, ?_⟩) (by assumption) ?_
      rotate_left
      · intro w hSw; (try dsimp only at hSw); go_simp; try with_reducible rfl
      (try simp only [Act.put, List.setIfInBounds_toArray, List.set_cons_zero, List.set_cons_succ])
      refine wpAnyH_take (i := 29) (oi := _) (v := ?_) rfl (by kernel_rfl) (by kernel_rfl) (by kernel_rfl) (fun _ _ _ h => h) (Or.inl ⟨by rfl, ?_⟩) (by assumption) ?_
      rotate_left
      · intro w hSw; (try dsimp only at hSw); go_simp; try with_reducible rfl
      (try simp only [Act.put, List.setIfInBounds_toArray, List.set_cons_zero, List.set_cons_succ])
      refine wpAnyH_take (i := 30) (oi := _) (v := ?_) rfl (by kernel_rfl) (by kernel_rfl) (by kernel_rfl) (fun _ _ _ h => h) (Or.inl ⟨by rfl, ?_⟩) (by assumption) ?_
      rotate_left
      · intro w hSw; (try dsimp only at hSw); go_simp; try with_reducible rfl
      (try simp only [Act.put, List.setIfInBounds_toArray, List.set_cons_zero, List.set_cons_succ])
      refine wpAnyH_take (i := 31) (oi := _) (v := ?_) rfl (by kernel_rfl) (by kernel_rfl) (by kernel_rfl) (fun _ _ _ h => h) (Or.inl ⟨by rfl, ?_⟩) (by assumption) ?_
      rotate_left
      · intro w hSw; (try dsimp only at hSw); go_simp; try with_reducible rfl
      (try simp only [Act.put, List.setIfInBounds_toArray, List.set_cons_zero, List.set_cons_succ])
      refine wpAnyH_take (i := 32) (oi := _) (v := ?_) rfl (by kernel_rfl) (by kernel_rfl) (by kernel_rfl) (fun _ _ _ h => h) (Or.inl ⟨by rfl, ?_⟩) (by assumption) ?_
      rotate_left
      · intro w hSw; (try dsimp only at hSw); go_simp; try with_reducible rfl
      (try simp only [Act.put, List.setIfInBounds_toArray, List.set_cons_zero, List.set_cons_succ])
      refine wpAnyH_ready (rs := [1, 33]) (by kernel_rfl) (by simp) ?_
      refine AllReadyH.cons (o := _) rfl (fun K hK => ?_) ?_
      · go_simp
        refine hK.out _ _ (by assumption) (fun hHeld => ?_)
        clear hK K
        (try simp only [Act.put, List.setIfInBounds_toArray, List.set_cons_zero, List.set_cons_succ])
        refine wpAnyH_ready (rs := [33]) (by kernel_rfl) (by simp) ?_
        refine AllReadyH.cons (o := _) rfl (fun K hK => ?_) AllReadyH.nil
        go_simp
        refine hK.out _ _ (by (try dsimp only); go_keep) (fun hHeld => ?_)
        clear hK K
        (try simp only [Act.put, List.setIfInBounds_toArray, List.set_cons_zero, List.set_cons_succ])
        refine wpAnyH_ready (rs := [34]) (by kernel_rfl) (by simp) ?_
        refine AllReadyH.cons (o := _) rfl (fun K hK => ?_) AllReadyH.nil
        (refine step_append_own11 rfl (.tmp 21) (.tmp 53) 32 rfl (d + 1) 82 i0 slotZ 11 80 Try.underlying32 hi hz0 hz1 hz2 rfl (by decide) _ k (slk A k) rfl hrow ⟨wr.heap.size, 0, none⟩ 1 1 (slotV A (k + 1)) rfl rfl (new11 _ _ _) (slotV_one A _) (by unfold maxLen; omega) (by omega) (by simp; omega) ?_; intro v6 w6 ho6 hg6; obtain ⟨va, vc, rfl⟩ := row_val ho6; have hd6 := (hg6.block d (by simp; omega) (fun e => by have := row_from HR.out.row d e.symm; omega)).trans ((HAL.out.block d hdl).trans HR.out.box); have hd60 := (two_cells hd6).1; have hf6 := frozen_of_row w6 d 0 _ _ hd6; have hb6 : Below d wr w6 := ((HAL.out.mono (show d ≤ wr.heap.size by omega)).drew).grown hg6 (by simp; omega) (fun j hj => by have := row_from hrow j hj; omega); have h6 := H2.out.below (show Below w2.heap.size w2 w6 by rw [HD.out]; exact HB23.out.trans hb6); obtain ⟨n3, n4, n5, n6⟩ := h6.heads HO.out HN.out HGG.out HCC.out; obtain ⟨m0, m1, m2, m3, m4, m5, m6, m7, m8, m9, m10⟩ := h6.cells11 HLT.out HO.out HN.out HGG.out HCC.out; clear h6)
        refine hK.out _ _ (by refine ⟨?_, ?_, ?_, ?_, ?_, ?_, ?_, ?_, ?_, ?_, ?_, ?_, ?_, ?_, ?_⟩ <;> assumption) (fun hHeld => ?_)
        clear hK K
        (try simp only [Act.put, List.setIfInBounds_toArray, List.set_cons_zero, List.set_cons_succ])
        refine wpAnyH_take (i := 35) (oi := _) (v := ?_) rfl (by kernel_rfl) (by kernel_rfl) (by kernel_rfl) (fun _ _ _ h => h) (Or.inl ⟨by rfl, ?_⟩) (by assumption) ?_
        rotate_left
        · intro w hSw; (try dsimp only at hSw); go_simp; try with_reducible rfl
        (try simp only [Act.put, List.setIfInBounds_toArray, List.set_cons_zero, List.set_cons_succ])
        refine wpAnyH_ready (rs := [36]) (by kernel_rfl) (by simp) ?_
        refine AllReadyH.cons (o := _) rfl (fun K hK => ?_) AllReadyH.nil
        go_simp
        refine hK.out _ _ (by (try dsimp only); go_keep) (fun hHeld => ?_)
        clear hK K
        (try simp only [Act.put, List.setIfInBounds_toArray, List.set_cons_zero, List.set_cons_succ])
        refine wpAnyH_done (by kernel_rfl) ?_ _
        have hD6 : DRel A d w3 b M dd (k + 1) (.slice va (k + 1) vc) (w6.setCell ⟨d, 0, none⟩ (.slice va (k + 1) vc)) := by
          refine ⟨⟨va, vc, rfl⟩, by rw [heap_setCell_same _ _ _ _ _ _ hd6]; rfl, ?_, (HR.out.below.trans hb6).setCell (Nat.le_refl _) _⟩
          rw [slk_succ]
          exact row_keep ho6 fun j hj => heap_setCell_other _ _ _ _ (show j ≠ d by have := row_from ho6 j hj; omega)
        have HD6 := Lib.hid hD6
        clear hD6 ho6 hd6 hd60 hf6 hb6 n3 n4 n5 n6 m0 m1 m2 m3 m4 m5 m6 m7 m8 m9 m10 f0 f1 f2 g0 g1 g2 g3 g4 g5 g6 g7 c0 c1 c2 c3 c4 c5 c6 c7 e0 e1 hrow
        go_wp2_with fail
        go_roundg (A.σ.cap - (k + 1))
        case measure => have := HG.out; omega
        case rel => exact ⟨k + 1, _, by omega, rfl, by go_num, HD6.out⟩
      · refine AllReadyH.cons (o := _) rfl (fun K hK => ?_) AllReadyH.nil
        go_simp
        refine hK.out _ _ (by (try dsimp only); go_keep) (fun hHeld => ?_)
        clear hK K
        (try simp only [Act.put, List.setIfInBounds_toArray, List.set_cons_zero, List.set_cons_succ])
        refine wpAnyH_ready (rs := [1]) (by kernel_rfl) (by simp) ?_
        refine AllReadyH.cons (o := _) rfl (fun K hK => ?_) AllReadyH.nil
        go_simp
        refine hK.out _ _ (by (try dsimp only); go_keep) (fun hHeld => ?_)
        clear hK K
        (try simp only [Act.put, List.setIfInBounds_toArray, List.set_cons_zero, List.set_cons_succ])
        refine wpAnyH_ready (rs := [34]) (by kernel_rfl) (by simp) ?_
        refine AllReadyH.cons (o := _) rfl (fun K hK => ?_) AllReadyH.nil
        (refine step_append_own11 rfl (.tmp 21) (.tmp 53) 32 rfl (d + 1) 82 i0 slotZ 11 80 Try.underlying32 hi hz0 hz1 hz2 rfl (by decide) _ k (slk A k) rfl hrow ⟨wr.heap.size, 0, none⟩ 1 1 (slotV A (k + 1)) rfl rfl (new11 _ _ _) (slotV_one A _) (by unfold maxLen; omega) (by omega) (by simp; omega) ?_; intro v6 w6 ho6 hg6; obtain ⟨va, vc, rfl⟩ := row_val ho6; have hd6 := (hg6.block d (by simp; omega) (fun e => by have := row_from HR.out.row d e.symm; omega)).trans ((HAL.out.block d hdl).trans HR.out.box); have hd60 := (two_cells hd6).1; have hf6 := frozen_of_row w6 d 0 _ _ hd6; have hb6 : Below d wr w6 := ((HAL.out.mono (show d ≤ wr.heap.size by omega)).drew).grown hg6 (by simp; omega) (fun j hj => by have := row_from hrow j hj; omega); have h6 := H2.out.below (show Below w2.heap.size w2 w6 by rw [HD.out]; exact HB23.out.trans hb6); obtain ⟨n3, n4, n5, n6⟩ := h6.heads HO.out HN.out HGG.out HCC.out; obtain ⟨m0, m1, m2, m3, m4, m5, m6, m7, m8, m9, m10⟩ := h6.cells11 HLT.out HO.out HN.out HGG.out HCC.out; clear h6)
        refine hK.out _ _ (by refine ⟨?_, ?_, ?_, ?_, ?_, ?_, ?_, ?_, ?_, ?_, ?_, ?_, ?_, ?_, ?_⟩ <;> assumption) (fun hHeld => ?_)
        clear hK K
        (try simp only [Act.put, List.setIfInBounds_toArray, List.set_cons_zero, List.set_cons_succ])
        refine wpAnyH_take (i := 35) (oi := _) (v := ?_) rfl (by kernel_rfl) (by kernel_rfl) (by kernel_rfl) (fun _ _ _ h => h) (Or.inl ⟨by rfl, ?_⟩) (by assumption) ?_
        rotate_left
        · intro w hSw; (try dsimp only at hSw); go_simp; try with_reducible rfl
        (try simp only [Act.put, List.setIfInBounds_toArray, List.set_cons_zero, List.set_cons_succ])
        refine wpAnyH_ready (rs := [36]) (by kernel_rfl) (by simp) ?_
        refine AllReadyH.cons (o := _) rfl (fun K hK => ?_) AllReadyH.nil
        go_simp
        refine hK.out _ _ (by (try dsimp only); go_keep) (fun hHeld => ?_)
        clear hK K
        (try simp only [Act.put, List.setIfInBounds_toArray, List.set_cons_zero, List.set_cons_succ])
        refine wpAnyH_done (by kernel_rfl) ?_ _
        have hD6 : DRel A d w3 b M dd (k + 1) (.slice va (k + 1) vc) (w6.setCell ⟨d, 0, none⟩ (.slice va (k + 1) vc)) := by
          refine ⟨⟨va, vc, rfl⟩, by rw [heap_setCell_same _ _ _ _ _ _ hd6]; rfl, ?_, (HR.out.below.trans hb6).setCell (Nat.le_refl _) _⟩
          rw [slk_succ]
          exact row_keep ho6 fun j hj => heap_setCell_other _ _ _ _ (show j ≠ d by have := row_from ho6 j hj; omega)
        have HD6 := Lib.hid hD6
        clear hD6 ho6 hd6 hd60 hf6 hb6 n3 n4 n5 n6 m0 m1 m2 m3 m4 m5 m6 m7 m8 m9 m10 f0 f1 f2 g0 g1 g2 g3 g4 g5 g6 g7 c0 c1 c2 c3 c4 c5 c6 c7 e0 e1 hrow
        go_wp2_with fail
        go_roundg (A.σ.cap - (k + 1))
        case measure => have := HG.out; omega
        case rel => exact ⟨k + 1, _, by omega, rfl, by go_num, HD6.out⟩
    · have hkc : k = A.σ.cap := by omega
      have hkci : ¬ (k : Int) < (A.σ.cap : Int) := by omega
      have HKC := Lib.hid hkc
      clear hkc hlt
      have hP : wr.heap[w.heap.size]? = some (Obj.cells #[Value.slice none 0 0, Value.slice none 0 0] 35 (0, 0)) := by
        have h1 : w.heap.size < w1.heap.size := by rw [HS1.out]; omega
        have h2 := HB2.out.size
        have h3 := HD.out
        rw [HR.out.below.block _ (by omega), HB3.out.block _ (by omega), HB2.out.block _ h1]
        exact HP0.out
      have HP := Lib.hid hP
      obtain ⟨p0, hp0⟩ : ∃ p0, w.heap.size = p0 := ⟨_, rfl⟩
      rw [hp0] at HP ⊢
      have HPP := Lib.hid hp0
      clear c1 c2 c3 c4 c5 c6 c7 hP hp0
      go_wp2_with (refine wpList_store_row rfl 35 (.tmp 2) (.tmp 56) rfl p0 #[.slice xa k xc, .slice b M dd] rfl rfl 35 _ HP.out HIN.out rfl (by simp [Value.oneCell']) ?_)
      refine bodyPost_ret (v := .agg #[.slice xa k xc, .slice b M dd]) (results_cell_row rfl _ _ p0 35 _ (0, 0) _ rfl (setRow_heap _ _ _ _ _ _ HP.out) HU.out rfl HIN.out) rfl ?_
      have hrow := HR.out.row
      rw [HKC.out] at hrow ⊢
      have h1 : p0 < w1.heap.size := by rw [HS1.out, HPP.out]; omega
      have h2 := HB2.out.size
      have h3 := HD.out
      have hfr := row_keep HFR.out (w' := wr) fun j hj => by rw [HR.out.below.block _ (by have := (row_lt HFR.out j hj).2; omega), HB3.out.block _ (by have := (row_lt HFR.out j hj).2; omega)]
      refine ⟨xa, xc, b, dd, by rw [HM.out], ?_, ?_, ?_⟩
      · refine row_mono (row_keep hrow fun j hj => setRow_other _ _ _ _ ?_) (by rw [HPP.out]; omega)
        have := row_from hrow j hj; omega
      · rw [HM.out]
        refine row_mono (row_keep hfr fun j hj => setRow_other _ _ _ _ ?_) (by rw [HPP.out]; omega)
        have := row_from hfr j hj; omega
      · rw [HPP.out]
        refine below_setRow ?_ (Nat.le_refl _)
        have hBB := HB1.out
        rw [HPP.out] at hBB
        exact hBB.trans ((HB2.out.mono (by omega)).trans ((HB3.out.trans HR.out.below).mono (by omega)))
end Go.Proofs.Ytnmookemeibioaa
set_option linter.unusedVariables false
set_option linter.unusedSimpArgs false
namespace Go.Proofs.Ytnmookemeibioaa
open Go.RowKit
def MkW (w : World) (gn gc j : Nat) (X : Nd) (wx : World) : Prop := wx = ((w.setCells gn (j * 8) (ndV X)).setCell ⟨gc, j, none⟩ (.int .i64 1)).drew
theorem sets_fin (w : World) (gn gc j : Nat) (X : Nd) : (((((((((w.setCell ⟨gn, j * 8, none⟩ (.int .i64 X.key)).setCell ⟨gn, j * 8 + 1, none⟩ (.int .i64 X.val)).setCell ⟨gn, j * 8 + 2, none⟩ (.int .u32 (X.left : Int))).setCell ⟨gn, j * 8 + 3, none⟩ (.int .u32 (X.right : Int))).setCell ⟨gn, j * 8 + 4, none⟩ (.int .i64 X.size)).setCell ⟨gn, j * 8 + 5, none⟩ (.int .i64 X.sum)).setCell ⟨gn, j * 8 + 6, none⟩ (.int .i64 X.mn)).setCell ⟨gn, j * 8 + 7, none⟩ (.int .i64 X.mx)).setCell ⟨gc, j, none⟩ (.int .i64 1)).drew = ((w.setCells gn (j * 8) (ndV X)).setCell ⟨gc, j, none⟩ (.int .i64 1)).drew := by
  rw [sets8]
  rfl
section
variable {B q : Nat} {w w' w0 : World} {A : Ar} {rd : Int} {r : AL}
set_option maxHeartbeats 40000000 in
set_option maxRecDepth 100000 in
theorem rar_make {key val : Int} {l rr : Nat} {A' : Ar} {i : Nat} {er : Int} (h : RefAr B w q A rd r) (hok : A.σ.Ok) (ha : A.Agg) (hoff : ∀ i, A.σ.on i = false → A.nd i = Nd.zero) (hl : l < 4294967296) (hr : rr < 4294967296) (hv1 : -9223372036854775808 ≤ val) (hv2 : val ≤ 9223372036854775807)
    (hcnt : ∀ i, 0 ≤ A.cnt i ∧ A.cnt i ≤ 1179648) (hm : MkOut A key val l rr A' i er) :
    Calls Try.prog 35 #[.pointer (some ⟨q, 0, none⟩), .int .i64 key, .int .i64 val, .int .u32 (l : Int), .int .u32 (rr : Int)] w (RMake B q w rd r A' i er) := by
  have HLI := Lib.hid (rar_index h hok l hl)
  have hri : ∀ wx, Below w.heap.size w wx → Calls Try.prog 51 #[.pointer (some ⟨q, 0, none⟩), .int .u32 (rr : Int)] wx (Calm wx (.bool (decide (rr = 0) || A.σ.on rr))) := fun wx hb => rar_index (h.below hb) hok rr hr
  have HRI := Lib.hid hri
  have HH := Lib.hid h
  have HOK := Lib.hid hok
  have HADD : Hid (A.Idx l → A.Idx rr → ((Nd.base key val l rr).add (A.nd l)).add (A.nd rr) = A.node key val l rr) := fun h1 h2 => add_node hok ha hoff h1 h2 hv1 hv2
  have HSZ : Hid (∀ i, 0 ≤ (A.nd i).size ∧ (A.nd i).size ≤ 2147483647) := node_sizes ha hoff
  have HSP : Hid (∀ i, A.σ.on i = true → 1 ≤ (A.nd i).size) := fun i hi => (ha.size i hi).1
  have HND0 : Hid (A.nd 0 = Nd.zero) := hoff 0 (by cases hq : A.σ.on 0 with | false => rfl | true => have := hok.on 0 hq; omega)
  have HCNT := Lib.hid hcnt
  have HM := Lib.hid hm
  clear h hok ha hoff hcnt hm hri
  have hm1 : ∀ A1 : Ar, ∀ i1 : Nat, True := fun _ _ => trivial
  clear hm1
  go_enter Try.func35, Try.ntmps35
  go_wp2_with fail
  refine HLI.out.mono ?_
  rintro e w1 ⟨rfl, hb1⟩
  have HB1 := Lib.hid hb1
  clear hb1 HLI
  cases hbl : (decide (l = 0) || A.σ.on l) with
  | false =>
    have HNI := Lib.hid (idx_false hbl)
    clear hbl
    go_wp2_with fail
    go_ret2
    rcases HM.out with ⟨_, rfl, rfl, rfl⟩ | ⟨h1, _⟩ | ⟨h1, _⟩
    · exact ⟨r, rfl, HH.out.below HB1.out, .of_below HB1.out⟩
    · exact absurd h1.1 HNI.out
    · exact absurd h1.1 HNI.out
  | true =>
    have HXL := Lib.hid (idx_true hbl)
    clear hbl
    go_wp2_with fail
    refine (HRI.out w1 HB1.out).mono ?_
    rintro e w2 ⟨rfl, hb2⟩
    have HB2 := Lib.hid (trans_of' HB1.out hb2)
    clear hb2 HRI HB1
    cases hbr : (decide (rr = 0) || A.σ.on rr) with
    | false =>
      have HNI := Lib.hid (idx_false hbr)
      clear hbr
      go_wp2_with fail
      go_ret2
      rcases HM.out with ⟨_, rfl, rfl, rfl⟩ | ⟨h1, _⟩ | ⟨h1, _⟩
      · exact ⟨r, rfl, HH.out.below HB2.out, .of_below HB2.out⟩
      · exact absurd h1.2.1 HNI.out
      · exact absurd h1.2.1 HNI.out
    | true =>
      have HXR := Lib.hid (idx_true hbr)
      clear hbr
      have hal3 := below_new5 w2 (Obj.cells #[Value.int .i64 key, .int .i64 val, .int .u32 (l : Int), .int .u32 (rr : Int), .int .i64 1, .int .i64 val, .int .i64 val, .int .i64 val] 50)
      have hx3 := heap_alloc_new w2 (Obj.cells #[Value.int .i64 key, .int .i64 val, .int .u32 (l : Int), .int .u32 (rr : Int), .int .i64 1, .int .i64 val, .int .i64 val, .int .i64 val] 50)
      have HB3 := Lib.hid (trans_of' HB2.out hal3)
      have HP := Lib.hid HB2.out.size
      clear hal3
      go_upto_region 4 with fail
      generalize w2.alloc (Obj.cells #[Value.int .i64 key, .int .i64 val, .int .u32 (l : Int), .int .u32 (rr : Int), .int .i64 1, .int .i64 val, .int .i64 val, .int .i64 val] 50) = w3 at hx3 HB3 ⊢
      generalize w2.heap.size = p at hx3 HP ⊢
      have HX3 : Hid (w3.heap[p]? = some (Obj.cells (ndA (A.part key val l rr 0)) 50 (0, 0))) := hx3
      clear hx3
      go_wp2_with fail
      go_loopw [13] (fun k wr => ∃ j : Nat, j ≤ 2 ∧ k = .int .i64 (j : Int) ∧ wr.heap[p]? = some (.cells (ndA (A.part key val l rr j)) 50 (0, 0)) ∧ Below w.heap.size w wr) (fun k _ => 2 - (intOf k).toNat)
      case atStart => exact ⟨0, by omega, rfl, HX3.out, HB3.out⟩
      case round =>
        clear HX3 HB3 HB2
        obtain ⟨k, hk, rfl, hx, hb⟩ := hrel
        rcases (show k = 0 ∨ k = 1 ∨ k = 2 by omega) with rfl | rfl | rfl
        · as_aux_lemma =>
          have HX := Lib.hid hx
          have HB := Lib.hid hb
          clear hx hb
          by_cases hc0 : l = 0
          · have HC0 := Lib.hid hc0
            have hci : ((l : Int) == 0) = true := by rw [hc0]; rfl
            clear hc0
            go_wp2_with fail
            refine ⟨⟨1, by omega, by go_num, ?_, HB.out⟩, by simp [intOf]⟩
            rw [HX.out]
            unfold Ar.part
            rw [if_pos rfl, if_neg (by decide), if_pos rfl, HC0.out, HND0.out, add_zero]
          · have hci : ((l : Int) == 0) = false := beq_eq_false_iff_ne.2 (by omega)
            have HCON : Hid (A.σ.on l = true) := by
              rcases HXL.out with e | e
              · exact absurd e hc0
              · exact e
            have HNX : Hid (A.ndx l = A.nd l) := by show A.ndx l = A.nd l; unfold Ar.ndx; rw [if_neg hc0]
            clear hc0
            go_wp2_with fail
            refine (rar_at (HH.out.below HB.out) HOK.out l HXL.out).mono ?_
            rintro e w5 ⟨rfl, hb5⟩
            rw [HNX.out]
            have hal6 := below_new5 w5 (Obj.cells (ndA (A.nd l)) 50)
            have HY6 := Lib.hid (heap_alloc_new w5 (Obj.cells (ndA (A.nd l)) 50))
            have HX5 := Lib.hid (keep_blk HX.out hb5)
            have HX6 := Lib.hid (keep_blk HX5.out hal6)
            have HPY : Hid (p < w5.heap.size) := (Array.getElem?_eq_some_iff.1 HX5.out).1
            have HB6 := Lib.hid (trans_of' (trans_of' HB.out hb5) hal6)
            clear hb5 hal6
            unfold ndA
            go_upto_region 12 with fail
            rw [show #[Value.int .i64 (A.nd l).key, .int .i64 (A.nd l).val, .int .u32 ((A.nd l).left : Int), .int .u32 ((A.nd l).right : Int), .int .i64 (A.nd l).size, .int .i64 (A.nd l).sum, .int .i64 (A.nd l).mn, .int .i64 (A.nd l).mx] = ndA (A.nd l) from rfl]
            generalize w5.alloc (Obj.cells (ndA (A.nd l)) 50) = w6 at HY6 HX6 HB6 ⊢
            obtain ⟨y, hy⟩ : ∃ y, w5.heap.size = y := ⟨_, rfl⟩
            rw [hy] at HY6 HPY ⊢
            have n1 : ¬ p = y := by have := HPY.out; omega
            have n2 : ¬ y = p := by have := HPY.out; omega
            clear hy
            have hcs1 := HSP.out l HCON.out
            have hcs2 := (HSZ.out l).2
            obtain ⟨X, hX⟩ : ∃ X, A.part key val l rr 0 = X := ⟨_, rfl⟩
            have hxs1 : 0 ≤ X.size ∧ X.size ≤ 2147483648 := by rw [← hX]; unfold Ar.part; rw [if_pos rfl]; exact ⟨by show (0:Int) ≤ 1; decide, by show (1:Int) ≤ _; decide⟩
            rw [hX] at HX6
            have HXX := Lib.hid hX
            clear hX
            generalize hCC : A.nd l = C at HY6 hcs1 hcs2 ⊢
            have HCC := Lib.hid hCC
            clear hCC
            obtain ⟨hxs1, hxs2⟩ := hxs1
            obtain ⟨-, -, -, -, x4, x5, x6, x7⟩ := ndA_cells HX6.out
            obtain ⟨-, -, -, -, y4, y5, y6, y7⟩ := ndA_cells HY6.out
            have hx6 := HX6.out
            have f4 := frozen_of_row w6 p 4 _ _ hx6
            have f5 := frozen_of_row w6 p 5 _ _ hx6
            have f6 := frozen_of_row w6 p 6 _ _ hx6
            have f7 := frozen_of_row w6 p 7 _ _ hx6
            clear hx6
            go_region
            have hmin := min_run X.mn C.mn
            have hmax := max_run X.mx C.mx
            go_upto_region 13 with fail
            go_region
            go_wp2_with fail
            refine ⟨⟨1, by omega, by go_num, ?_, ?_⟩, by simp [intOf]⟩
            · have e9 : ∀ W : World, W.drew.drew.heap[p]? = W.heap[p]? := fun _ => rfl
              rw [e9, four_set HX6.out (by omega), ← HXX.out, ← HCC.out]
              rfl
            · exact ((((HB6.out.setCell (p := ⟨p, 4, none⟩) HP.out _).setCell (p := ⟨p, 5, none⟩) HP.out _).setCell (p := ⟨p, 6, none⟩) HP.out _).setCell (p := ⟨p, 7, none⟩) HP.out _).drew.drew
        · as_aux_lemma =>
          have HX := Lib.hid hx
          have HB := Lib.hid hb
          clear hx hb
          by_cases hc0 : rr = 0
          · have HC0 := Lib.hid hc0
            have hci : ((rr : Int) == 0) = true := by rw [hc0]; rfl
            clear hc0
            go_wp2_with fail
            refine ⟨⟨2, by omega, by go_num, ?_, HB.out⟩, by simp [intOf]⟩
            rw [HX.out]
            unfold Ar.part
            rw [if_neg (by decide), if_pos rfl, if_neg (by decide), if_neg (by decide), HC0.out, HND0.out, add_zero]
          · have hci : ((rr : Int) == 0) = false := beq_eq_false_iff_ne.2 (by omega)
            have HCON : Hid (A.σ.on rr = true) := by
              rcases HXR.out with e | e
              · exact absurd e hc0
              · exact e
            have HNX : Hid (A.ndx rr = A.nd rr) := by show A.ndx rr = A.nd rr; unfold Ar.ndx; rw [if_neg hc0]
            clear hc0
            go_wp2_with fail
            refine (rar_at (HH.out.below HB.out) HOK.out rr HXR.out).mono ?_
            rintro e w5 ⟨rfl, hb5⟩
            rw [HNX.out]
            have hal6 := below_new5 w5 (Obj.cells (ndA (A.nd rr)) 50)
            have HY6 := Lib.hid (heap_alloc_new w5 (Obj.cells (ndA (A.nd rr)) 50))
            have HX5 := Lib.hid (keep_blk HX.out hb5)
            have HX6 := Lib.hid (keep_blk HX5.out hal6)
            have HPY : Hid (p < w5.heap.size) := (Array.getElem?_eq_some_iff.1 HX5.out).1
            have HB6 := Lib.hid (trans_of' (trans_of' HB.out hb5) hal6)
            clear hb5 hal6
            unfold ndA
            go_upto_region 12 with fail
            rw [show #[Value.int .i64 (A.nd rr).key, .int .i64 (A.nd rr).val, .int .u32 ((A.nd rr).left : Int), .int .u32 ((A.nd rr).right : Int), .int .i64 (A.nd rr).size, .int .i64 (A.nd rr).sum, .int .i64 (A.nd rr).mn, .int .i64 (A.nd rr).mx] = ndA (A.nd rr) from rfl]
            generalize w5.alloc (Obj.cells (ndA (A.nd rr)) 50) = w6 at HY6 HX6 HB6 ⊢
            obtain ⟨y, hy⟩ : ∃ y, w5.heap.size = y := ⟨_, rfl⟩
            rw [hy] at HY6 HPY ⊢
            have n1 : ¬ p = y := by have := HPY.out; omega
            have n2 : ¬ y = p := by have := HPY.out; omega
            clear hy
            have hcs1 := HSP.out rr HCON.out
            have hcs2 := (HSZ.out rr).2
            obtain ⟨X, hX⟩ : ∃ X, A.part key val l rr 1 = X := ⟨_, rfl⟩
            have hxs1 : 0 ≤ X.size ∧ X.size ≤ 2147483648 := by rw [← hX]; unfold Ar.part; rw [if_neg (by decide), if_pos rfl, add_size]; have := HSZ.out l; exact ⟨by show 0 ≤ 1 + (A.nd l).size; omega, by show 1 + (A.nd l).size ≤ _; omega⟩
            rw [hX] at HX6
            have HXX := Lib.hid hX
            clear hX
            generalize hCC : A.nd rr = C at HY6 hcs1 hcs2 ⊢
            have HCC := Lib.hid hCC
            clear hCC
            obtain ⟨hxs1, hxs2⟩ := hxs1
            obtain ⟨-, -, -, -, x4, x5, x6, x7⟩ := ndA_cells HX6.out
            obtain ⟨-, -, -, -, y4, y5, y6, y7⟩ := ndA_cells HY6.out
            have hx6 := HX6.out
            have f4 := frozen_of_row w6 p 4 _ _ hx6
            have f5 := frozen_of_row w6 p 5 _ _ hx6
            have f6 := frozen_of_row w6 p 6 _ _ hx6
            have f7 := frozen_of_row w6 p 7 _ _ hx6
            clear hx6
            go_region
            have hmin := min_run X.mn C.mn
            have hmax := max_run X.mx C.mx
            go_upto_region 13 with fail
            go_region
            go_wp2_with fail
            refine ⟨⟨2, by omega, by go_num, ?_, ?_⟩, by simp [intOf]⟩
            · have e9 : ∀ W : World, W.drew.drew.heap[p]? = W.heap[p]? := fun _ => rfl
              rw [e9, four_set HX6.out (by omega), ← HXX.out, ← HCC.out]
              rfl
            · exact ((((HB6.out.setCell (p := ⟨p, 4, none⟩) HP.out _).setCell (p := ⟨p, 5, none⟩) HP.out _).setCell (p := ⟨p, 6, none⟩) HP.out _).setCell (p := ⟨p, 7, none⟩) HP.out _).drew.drew
        · have HX := Lib.hid hx
          have HB := Lib.hid hb
          clear hx hb
          have hadd := HADD.out HXL.out HXR.out
          have HXN : Hid (wr.heap[p]? = some (.cells (ndA (A.node key val l rr)) 50 (0, 0))) := by
            have := HX.out
            rw [show A.part key val l rr 2 = ((Nd.base key val l rr).add (A.nd l)).add (A.nd rr) from rfl, hadd] at this
            exact this
          have hsz : (A.node key val l rr).size ≤ 4294967296 := by
            rw [← hadd, add_size, add_size]
            have := (HSZ.out l).2; have := (HSZ.out rr).2
            show 1 + (A.nd l).size + (A.nd rr).size ≤ _
            omega
          clear HX hadd HADD HSP
          generalize hN : A.node key val l rr = X at HXN hsz HM
          have HN := Lib.hid hN
          clear hN
          obtain ⟨x0, x1, x2, x3, x4, x5, x6, x7⟩ := ndA_cells HXN.out
          by_cases hbig : X.size ≤ 2147483647
          · have HBIG : Hid (A.Idx l ∧ A.Idx rr ∧ X.size ≤ 2147483647) := ⟨HXL.out, HXR.out, hbig⟩
            have HR := Lib.hid (HH.out.below HB.out)
            obtain ⟨d0, d1, d2, d3, d4⟩ := HR.out.five
            rcases (show A.σ.free = [] ∨ ∃ i t, A.σ.free = i :: t by cases A.σ.free with | nil => exact .inl rfl | cons i t => exact .inr ⟨i, t, rfl⟩) with hf | ⟨i', t, hf⟩
            · have hF := ref_full HR.out.slots HOK.out hf
              unfold refV at hF
              have HF := Lib.hid hF
              have HFREE := Lib.hid hf
              clear hF hf
              go_wp2_with fail
              refine HF.out.mono ?_
              rintro e w5 ⟨rfl, hb5⟩
              have hal6 := below_new5 w5 (Obj.cells #[Value.int .i64 (A.σ.cap : Int), .slice r.sa r.st.length r.sc, .int .i64 (r.fr : Int), .slice r.ga A.σ.cap r.gc, .slice r.oa A.σ.cap r.oc] 56)
              have HB6 := Lib.hid (trans_of' (trans_of' HB.out hb5) hal6)
              clear hal6 hb5 d0 d1 d2 d3 d4 x0 x1 x2 x3 x4 x5 x6 x7 HF
              go_wp2_with fail
              go_ret2
              have hm := HM.out
              unfold MkOut at hm
              rw [HN.out] at hm
              rcases hm with ⟨h1, _⟩ | ⟨_, _, rfl, rfl, rfl⟩ | ⟨_, _, t, h1, _⟩
              · exact absurd HBIG.out h1
              · exact ⟨r, rfl, HH.out.below HB6.out, .of_below HB6.out⟩
              · rw [HFREE.out] at h1; cases h1
            · have him := (HOK.out.free i').1 (by rw [hf]; simp)
              have hcap := HOK.out.cap2
              obtain ⟨j, rfl⟩ : ∃ j, i' = j + 1 := ⟨i' - 1, by omega⟩
              have hj : j < A.σ.cap := by omega
              have hT := ref_take HR.out.foot HOK.out (j + 1) t hf (Nat.le_trans HR.out.hq (Nat.le_of_lt HR.out.lt))
              unfold refV at hT
              have HT := Lib.hid hT
              have HF := Lib.hid hf
              have hne : ∀ y, A.Idx y → y ≠ j + 1 := fun y hy e => by
                rcases hy with hy | hy
                · omega
                · rw [e, him.2.2] at hy; cases hy
              have HNE := Lib.hid hne
              have HJ := Lib.hid hj
              have HFL : Hid (∀ k, FR q r k → k < w.heap.size) := HH.out.frLt
              clear hT hf him hcap hj hne
              go_wp2_with fail
              refine HT.out.mono ?_
              rintro e w5 ⟨st, fr, sa, ga, oa, sc, gc', oc, rfl, hR5, hb5⟩
              have hX5 := keep_blk HXN.out hb5
              have h5 := HR.out.below hb5
              have hal6 := below_new5 w5 (Obj.cells (refV (A.σ.take (j + 1) t) st fr sa ga oa sc gc' oc) 56)
              have H6 := Lib.hid (h5.below hal6)
              have HR6 := Lib.hid (hR5.below hal6)
              have HB6 := Lib.hid (trans_of' hb5 hal6)
              have HX6 := Lib.hid (keep_blk hX5 hal6)
              clear d0 d1 d2 d3 d4 x0 x1 x2 x3 x4 x5 x6 x7 hR5 hb5 h5 hal6 hX5 HT
              unfold refV
              unfold refV at HR6 H6 HB6 HX6
              rw [show (A.σ.take (j + 1) t).cap = A.σ.cap from rfl] at HR6 H6 HB6 HX6 ⊢
              have hx6 := H6.out.box
              unfold arV at hx6
              obtain ⟨d0, d1, d2, d3, d4, -⟩ := row8 hx6
              have f0 := frozen_of_row _ q 0 _ _ hx6
              have f1 := frozen_of_row _ q 1 _ _ hx6
              have f2 := frozen_of_row _ q 2 _ _ hx6
              have f3 := frozen_of_row _ q 3 _ _ hx6
              have f4 := frozen_of_row _ q 4 _ _ hx6
              clear hx6
              go_upto_region 20 with fail
              rw [sets5]
              have hcap := HOK.out.cap2
              have hj := HJ.out
              have hji : (j : Int) < (A.σ.cap : Int) := by omega
              have hj0 : (0 : Int) ≤ (j : Int) := by omega
              have hj4 : (j : Int) + 1 < 4294967296 := by omega
              clear hcap hj
              clear d0 d1 d2 d3 d4 f0 f1 f2 f3 f4
              have h9 := H6.out.setS (w0 := wr) (σ' := A.σ.take (j + 1) t) HR6.out rfl (.of_below HB6.out)
              rw [show (A.σ.take (j + 1) t).cap = A.σ.cap from rfl] at h9
              obtain ⟨h9, ha9⟩ := h9
              have HPL : Hid (p < wr.heap.size) := (Array.getElem?_eq_some_iff.1 HXN.out).1
              have HNP : Hid (¬ FR q r p) := fun hf => by have := HFL.out p hf; have := HP.out; omega
              have hX9 := (ha9.block p HPL.out HNP.out).trans HXN.out
              have H9 := Lib.hid h9
              have HA9 := Lib.hid (alters_trans (.of_below HB.out) ha9)
              have HX9 := Lib.hid hX9
              clear h9 ha9 hX9
              generalize (w5.alloc _).setCells q 0 _ = w8 at H9 HA9 HX9 ⊢
              have hr9n : (r.setS st fr sa ga oa sc gc' oc).na = r.na := rfl
              have hr9c : (r.setS st fr sa ga oa sc gc' oc).ca = r.ca := rfl
              generalize r.setS st fr sa ga oa sc gc' oc = r9 at H9 HA9 hr9n hr9c
              obtain ⟨go, gn, gg, gc, hoa, hna, hga, hca, -, b0, -, g0, g1, g2, g3, g4, g5, g6, g7⟩ := H9.out.at_ (k := j) HJ.out
              obtain ⟨-, -, c5, c6⟩ := H9.out.heads hoa hna hga hca
              rw [show (A.setS (A.σ.take (j + 1) t)).σ.cap = A.σ.cap from rfl] at c5 c6
              obtain ⟨n1, n2, n3⟩ := H9.out.rows hna hca
              have n4 : gn < p := by
                have := HFL.out gn (.inr (.inl ⟨_, by rw [← hr9n]; exact hna, rfl⟩)); have := HP.out; omega
              have n5 : gc < p := by
                have := HFL.out gc (.inr (.inr (.inl ⟨_, by rw [← hr9c]; exact hca, rfl⟩))); have := HP.out; omega
              have e1 : ¬ q = gn := n1
              have e2 : ¬ gn = q := fun e => n1 e.symm
              have e3 : ¬ q = gc := n2
              have e4 : ¬ gc = q := fun e => n2 e.symm
              have e5 : ¬ gn = gc := n3
              have e6 : ¬ gc = gn := fun e => n3 e.symm
              have e7 : ¬ gn = p := by omega
              have e8 : ¬ p = gn := by omega
              have e9 : ¬ gc = p := by omega
              have e10 : ¬ p = gc := by omega
              obtain ⟨x0, x1, x2, x3, x4, x5, x6, x7⟩ := ndA_cells HX9.out
              have hN := H9.out.nodes
              rw [hna] at hN
              have f0 := hN.frozenAt (j * 8)
              have f1 := hN.frozenAt (j * 8 + 1)
              have f2 := hN.frozenAt (j * 8 + 2)
              have f3 := hN.frozenAt (j * 8 + 3)
              have f4 := hN.frozenAt (j * 8 + 4)
              have f5 := hN.frozenAt (j * 8 + 5)
              have f6 := hN.frozenAt (j * 8 + 6)
              have f7 := hN.frozenAt (j * 8 + 7)
              have hC := H9.out.cnts
              rw [hca] at hC
              have f8 := hC.frozenAt j
              have HNA := Lib.hid hna
              have HCA := Lib.hid hca
              clear hN hC hoa hga hna hca n1 n2 n3 n4 n5 hr9n hr9c
              have HLL := Lib.hid hl
              have HRR := Lib.hid hr
              clear hl hr hv1 hv2 hbig hsz hk
              go_cut [] (fun wx => MkW w8 gn gc j X wx)
              case first =>
                have hjw : IntKind.u32.wrap (j : Int) = (j : Int) := by rw [IntKind.wrap_u32]; omega
                clear hj4
                refine wp_region_held_drew (S := (fun w' => w'.cell? ⟨q, 5, none⟩ = some (.slice (some ⟨gn, 0, none⟩) A.σ.cap r9.nc) ∧ w'.cell? ⟨q, 6, none⟩ = some (.slice (some ⟨gc, 0, none⟩) A.σ.cap r9.cc) ∧ w'.cell? ⟨p, 0, none⟩ = some (.int .i64 X.key) ∧ w'.cell? ⟨p, 1, none⟩ = some (.int .i64 X.val) ∧ w'.cell? ⟨p, 2, none⟩ = some (.int .u32 (X.left : Int)) ∧ w'.cell? ⟨p, 3, none⟩ = some (.int .u32 (X.right : Int)) ∧ w'.cell? ⟨p, 4, none⟩ = some (.int .i64 X.size) ∧ w'.cell? ⟨p, 5, none⟩ = some (.int .i64 X.sum) ∧ w'.cell? ⟨p, 6, none⟩ = some (.int .i64 X.mn) ∧ w'.cell? ⟨p, 7, none⟩ = some (.int .i64 X.mx))) (by kernel_rfl) (by (try dsimp only); go_keep) (fun hHeld => ?_)
                refine wpAnyH_take (i := 0) (oi := _) (v := ?_) rfl (by kernel_rfl) (by kernel_rfl) (by kernel_rfl) (fun _ _ _ h => h) (Or.inl ⟨by rfl, ?_⟩) (by assumption) ?_
                rotate_left
                · intro w hSw; (try dsimp only at hSw); go_simp; try with_reducible rfl
                (try simp only [Act.put, List.setIfInBounds_toArray, List.set_cons_zero, List.set_cons_succ])
                refine wpAnyH_take (i := 1) (oi := _) (v := ?_) rfl (by kernel_rfl) (by kernel_rfl) (by kernel_rfl) (fun _ _ _ h => h) (Or.inl ⟨by rfl, ?_⟩) (by assumption) ?_
                rotate_left
                · intro w hSw; (try dsimp only at hSw); go_simp; try with_reducible rfl
                (try simp only [Act.put, List.setIfInBounds_toArray, List.set_cons_zero, List.set_cons_succ])
                refine wpAnyH_take (i := 2) (oi := _) (v := ?_) rfl (by kernel_rfl) (by kernel_rfl) (by kernel_rfl) (fun _ _ _ h => h) (Or.inl ⟨by rfl, ?_⟩) (by assumption) ?_
                rotate_left
                · intro w hSw; (try dsimp only at hSw); go_simp; try with_reducible rfl
                (try simp only [Act.put, List.setIfInBounds_toArray, List.set_cons_zero, List.set_cons_succ])
                refine wpAnyH_take (i := 3) (oi := _) (v := ?_) rfl (by kernel_rfl) (by kernel_rfl) (by kernel_rfl) (fun _ _ _ h => h) (Or.inl ⟨by rfl, ?_⟩) (by assumption) ?_
                rotate_left
                · intro w hSw; (try dsimp only at hSw); go_simp; try with_reducible rfl
                (try simp only [Act.put, List.setIfInBounds_toArray, List.set_cons_zero, List.set_cons_succ])
                refine wpAnyH_take (i := 4) (oi := _) (v := ?_) rfl (by kernel_rfl) (by kernel_rfl) (by kernel_rfl) (fun _ _ _ h => h) (Or.inl ⟨by rfl, ?_⟩) (by assumption) ?_
                rotate_left
                · intro w hSw; (try dsimp only at hSw); go_simp; try with_reducible rfl
                (try simp only [Act.put, List.setIfInBounds_toArray, List.set_cons_zero, List.set_cons_succ])
                refine wpAnyH_take (i := 5) (oi := _) (v := ?_) rfl (by kernel_rfl) (by kernel_rfl) (by kernel_rfl) (fun _ _ _ h => h) (Or.inl ⟨by rfl, ?_⟩) (by assumption) ?_
                rotate_left
                · intro w hSw; (try dsimp only at hSw); go_simp; try with_reducible rfl
                (try simp only [Act.put, List.setIfInBounds_toArray, List.set_cons_zero, List.set_cons_succ])
                refine wpAnyH_take (i := 6) (oi := _) (v := ?_) rfl (by kernel_rfl) (by kernel_rfl) (by kernel_rfl) (fun _ _ _ h => h) (Or.inl ⟨by rfl, ?_⟩) (by assumption) ?_
                rotate_left
                · intro w hSw; (try dsimp only at hSw); go_simp; try with_reducible rfl
                (try simp only [Act.put, List.setIfInBounds_toArray, List.set_cons_zero, List.set_cons_succ])
                refine wpAnyH_take (i := 7) (oi := _) (v := ?_) rfl (by kernel_rfl) (by kernel_rfl) (by kernel_rfl) (fun _ _ _ h => h) (Or.inl ⟨by rfl, ?_⟩) (by assumption) ?_
                rotate_left
                · intro w hSw; (try dsimp only at hSw); go_simp; try with_reducible rfl
                (try simp only [Act.put, List.setIfInBounds_toArray, List.set_cons_zero, List.set_cons_succ])
                refine wpAnyH_take (i := 8) (oi := _) (v := ?_) rfl (by kernel_rfl) (by kernel_rfl) (by kernel_rfl) (fun _ _ _ h => h) (Or.inl ⟨by rfl, ?_⟩) (by assumption) ?_
                rotate_left
                · intro w hSw; (try dsimp only at hSw); go_simp; try with_reducible rfl
                (try simp only [Act.put, List.setIfInBounds_toArray, List.set_cons_zero, List.set_cons_succ])
                refine wpAnyH_take (i := 9) (oi := _) (v := ?_) rfl (by kernel_rfl) (by kernel_rfl) (by kernel_rfl) (fun _ _ _ h => h) (Or.inl ⟨by rfl, ?_⟩) (by assumption) ?_
                rotate_left
                · intro w hSw; (try dsimp only at hSw); go_simp; try with_reducible rfl
                (try simp only [Act.put, List.setIfInBounds_toArray, List.set_cons_zero, List.set_cons_succ])
                refine wpAnyH_take (i := 10) (oi := _) (v := ?_) rfl (by kernel_rfl) (by kernel_rfl) (by kernel_rfl) (fun _ _ _ h => h) (Or.inl ⟨by rfl, ?_⟩) (by assumption) ?_
                rotate_left
                · intro w hSw; (try dsimp only at hSw); go_simp; try with_reducible rfl
                (try simp only [Act.put, List.setIfInBounds_toArray, List.set_cons_zero, List.set_cons_succ])
                refine wpAnyH_take (i := 11) (oi := _) (v := ?_) rfl (by kernel_rfl) (by kernel_rfl) (by kernel_rfl) (fun _ _ _ h => h) (Or.inl ⟨by rfl, ?_⟩) (by assumption) ?_
                rotate_left
                · intro w hSw; (try dsimp only at hSw); go_simp; try with_reducible rfl
                (try simp only [Act.put, List.setIfInBounds_toArray, List.set_cons_zero, List.set_cons_succ])
                refine wpAnyH_take (i := 12) (oi := _) (v := ?_) rfl (by kernel_rfl) (by kernel_rfl) (by kernel_rfl) (fun _ _ _ h => h) (Or.inl ⟨by rfl, ?_⟩) (by assumption) ?_
                rotate_left
                · intro w hSw; (try dsimp only at hSw); go_simp; try with_reducible rfl
                (try simp only [Act.put, List.setIfInBounds_toArray, List.set_cons_zero, List.set_cons_succ])
                refine wpAnyH_take (i := 13) (oi := _) (v := ?_) rfl (by kernel_rfl) (by kernel_rfl) (by kernel_rfl) (fun _ _ _ h => h) (Or.inl ⟨by rfl, ?_⟩) (by assumption) ?_
                rotate_left
                · intro w hSw; (try dsimp only at hSw); go_simp; try with_reducible rfl
                (try simp only [Act.put, List.setIfInBounds_toArray, List.set_cons_zero, List.set_cons_succ])
                refine wpAnyH_ready (rs := [14]) (by kernel_rfl) (by simp) ?_
                refine AllReadyH.cons (o := _) rfl (fun K hK => ?_) AllReadyH.nil
                go_simp
                refine hK.out _ _ (by (try dsimp only); go_keep) (fun hHeld => ?_)
                clear hK K
                (try simp only [Act.put, List.setIfInBounds_toArray, List.set_cons_zero, List.set_cons_succ])
                refine wpAnyH_take (i := 15) (oi := _) (v := ?_) rfl (by kernel_rfl) (by kernel_rfl) (by kernel_rfl) (fun _ _ _ h => h) (Or.inl ⟨by rfl, ?_⟩) (by assumption) ?_
                rotate_left
                · intro w hSw; (try dsimp only at hSw); go_simp; try with_reducible rfl
                (try simp only [Act.put, List.setIfInBounds_toArray, List.set_cons_zero, List.set_cons_succ])
                refine wpAnyH_ready (rs := [16]) (by kernel_rfl) (by simp) ?_
                refine AllReadyH.cons (o := _) rfl (fun K hK => ?_) AllReadyH.nil
                go_simp
                refine hK.out _ _ (by (try dsimp only); go_keep) (fun hHeld => ?_)
                clear hK K
                (try simp only [Act.put, List.setIfInBounds_toArray, List.set_cons_zero, List.set_cons_succ])
                refine wpAnyH_done (by kernel_rfl) ?_ _
                go_wp2_with fail
                go_meet
                unfold MkW
                exact sets_fin w8 gn gc j X
              case' rest =>
              unfold MkW at hcut
              obtain rfl := hcut
              obtain ⟨h10, ha10⟩ := H9.out.setNode HNA.out HJ.out X
              obtain ⟨h11, ha11⟩ := h10.setCnt HCA.out HJ.out 1
              have hbd : Below ((w8.setCells gn (j * 8) (ndV X)).setCell ⟨gc, j, none⟩ (.int .i64 1)).heap.size ((w8.setCells gn (j * 8) (ndV X)).setCell ⟨gc, j, none⟩ (.int .i64 1)) ((w8.setCells gn (j * 8) (ndV X)).setCell ⟨gc, j, none⟩ (.int .i64 1)).drew := (Below.refl _ _).drew
              have H12 := Lib.hid (h11.below hbd)
              have HA12 := Lib.hid (alters_trans (alters_trans (alters_trans HA9.out ha10) ha11) (.of_below hbd))
              clear h10 h11 ha10 ha11 hbd c5 c6 b0 g0 g1 g2 g3 g4 g5 g6 g7 f0 f1 f2 f3 f4 f5 f6 f7 f8 x0 x1 x2 x3 x4 x5 x6 x7 e1 e2 e3 e4 e5 e6 e7 e8 e9 e10 hji hj0 hj4
              generalize ((w8.setCells gn (j * 8) (ndV X)).setCell ⟨gc, j, none⟩ (.int .i64 1)).drew = w9 at H12 HA12 ⊢
              have htk : (((A.setS (A.σ.take (j + 1) t)).setN (j + 1) X).setC (j + 1) 1) = A.took (j + 1) t X := rfl
              rw [htk] at H12
              have hok2 : (A.took (j + 1) t X).σ.Ok := St.take_ok HOK.out HF.out
              have HOK2 := Lib.hid hok2
              have hid1 : ∀ y, A.Idx y → (A.took (j + 1) t X).Idx y := fun y hy => by
                rcases hy with e | e
                · exact .inl e
                · exact .inr (by show (A.σ.take (j + 1) t).on y = true; rw [take_other _ _ (HNE.out y (.inr e))]; exact e)
              have hbn1 : ∀ y, 0 ≤ (A.took (j + 1) t X).cnt y ∧ (A.took (j + 1) t X).cnt y ≤ 1179648 := fun y => by
                show 0 ≤ (if y = j + 1 then (1 : Int) else A.cnt y) ∧ (if y = j + 1 then (1 : Int) else A.cnt y) ≤ 1179648
                split
                · exact ⟨by decide, by decide⟩
                · exact HCNT.out y
              have HID1 := Lib.hid hid1
              have HBN1 := Lib.hid hbn1
              clear htk hok2 hid1 hbn1
              go_wp2_with fail
              refine (rar_retain H12.out HOK2.out l HLL.out (HID1.out l HXL.out) (by have := HBN1.out l; omega) (by have := HBN1.out l; omega)).mono ?_
              rintro e w10 ⟨rfl, h13, ha13⟩
              have H13 := Lib.hid h13
              have HA13 := Lib.hid (alters_trans HA12.out ha13)
              have hbn2 : 0 ≤ ((A.took (j + 1) t X).ret l).cnt rr ∧ ((A.took (j + 1) t X).ret l).cnt rr ≤ 1179649 := by
                have := HBN1.out rr
                rw [ret_cnt]
                split <;> omega
              have HBN2 := Lib.hid hbn2
              clear h13 ha13 hbn2
              go_wp2_with fail
              refine (rar_retain H13.out (by rw [ret_σ]; exact HOK2.out) rr HRR.out (by
                rcases HID1.out rr HXR.out with e | e
                · exact .inl e
                · exact .inr (by rw [ret_σ]; exact e)) (by have := HBN2.out; omega) (by have := HBN2.out; omega)).mono ?_
              rintro e w11 ⟨rfl, h14, ha14⟩
              have hmt := made_took A t key val (HNE.out l HXL.out) (HNE.out rr HXR.out) (by omega)
              rw [HN.out] at hmt
              rw [hmt] at h14
              have H14 := Lib.hid h14
              have HA14 := Lib.hid (alters_trans HA13.out ha14)
              clear h14 ha14 hmt
              go_wp2_with fail
              go_ret2
              have hm := HM.out
              unfold MkOut at hm
              rw [HN.out] at hm
              rcases hm with ⟨h1, _⟩ | ⟨_, h1, _⟩ | ⟨_, rfl, t', h1, rfl⟩
              · exact absurd HBIG.out h1
              · rw [HF.out] at h1; cases h1
              · rw [HF.out] at h1
                simp only [List.cons.injEq] at h1
                obtain ⟨rfl, rfl⟩ := h1
                exact ⟨r9, rfl, H14.out, HA14.out⟩
          · have hgt : (2147483647 : Int) < X.size := by omega
            clear hbig
            have HBIG := Lib.hid hgt
            go_wp2_with fail
            go_ret2
            have hm := HM.out
            unfold MkOut at hm
            rw [HN.out] at hm
            rcases hm with ⟨_, rfl, rfl, rfl⟩ | ⟨h1, _⟩ | ⟨h1, _⟩
            · exact ⟨r, rfl, HH.out.below HB.out, .of_below HB.out⟩
            · exact absurd h1.2.2 (by have := HBIG.out; omega)
            · exact absurd h1.2.2 (by have := HBIG.out; omega)
end
end Go.Proofs.Ytnmookemeibioaa
