/- The reference's arena describes itself: the walk of Dump. -/
import Derived.Test.YtnmookemeibioaaRefDump0
set_option linter.unusedVariables false
set_option linter.unusedSimpArgs false
namespace Go.Proofs.Ytnmookemeibioaa
open Go.RowKit
set_option maxHeartbeats 4000000 in
set_option maxRecDepth 100000 in
theorem rar_dump {B q : Nat} {w : World} {A : Ar} {rd : Int} {r : AL} (h : RefAr B w q A rd r) (hok : A.σ.Ok) :
    Calls Try.prog 19 #[.pointer (some ⟨q, 0, none⟩)] w (DumpRes w A) := by
  obtain ⟨i0, hi, hz0, hz1, hz2⟩ := info_parts sInfo
  have HU : Hid _ := Lib.hid Try.underlying35
  have hin : (Try.prog.info? 35).map (·.size) = some 2 := by kernel_rfl
  have HIN := Lib.hid hin
  have hcap := hok.cap2
  have hci : (A.σ.cap : Int) ≤ 65536 := by omega
  have HOK := Lib.hid hok
  have hb1 := below_new5 w (Obj.cells #[Value.slice none 0 0, Value.slice none 0 0] 35)
  have h1 := h.below hb1
  have HP0 := Lib.hid (heap_alloc_new w (Obj.cells #[Value.slice none 0 0, Value.slice none 0 0] 35))
  have HB1 := Lib.hid hb1
  have hsz1 : (w.alloc (Obj.cells #[Value.slice none 0 0, Value.slice none 0 0] 35)).heap.size = w.heap.size + 1 := by simp
  have HS1 := Lib.hid hsz1
  clear h hin hb1 hsz1 hok
  go_enter Try.func19, Try.ntmps19
  go_upto_region 1 with fail
  generalize w.alloc (Obj.cells #[Value.slice none 0 0, Value.slice none 0 0] 35) = w1 at h1 HP0 HB1 HS1 ⊢
  have hx := h1.box
  unfold arV at hx
  obtain ⟨c0, c1, c2, c3, c4, c5, c6, c7⟩ := row8 hx
  have H1 := Lib.hid h1
  clear hx h1
  go_wp2_with fail
  have hord := ref_order H1.out.slots HOK.out
  unfold refV at hord
  refine hord.mono ?_
  rintro e w2 ⟨b, dd, rfl, hfr, hb2⟩
  have h2 := H1.out.below hb2
  obtain ⟨M, hM⟩ : ∃ M, A.σ.free.length = M := ⟨_, rfl⟩
  have HM := Lib.hid hM
  rw [hM] at hfr ⊢
  have HFR := Lib.hid hfr
  have HB2 := Lib.hid hb2
  have H2 := Lib.hid h2
  clear c0 c1 c2 c3 c4 c5 c6 c7 hfr hb2 h2 hM hord
  go_upto_region 2 with fail
  have hD0 := heap_alloc_new w2 (Obj.cells #[Value.slice none 0 0, Value.slice b M dd] 35)
  have hb3 := below_new5 w2 (Obj.cells #[Value.slice none 0 0, Value.slice b M dd] 35)
  have hs3 : (w2.alloc (Obj.cells #[Value.slice none 0 0, Value.slice b M dd] 35)).heap.size = w2.heap.size + 1 := by simp
  have hz : Hid (w2.alloc (Obj.cells #[Value.slice none 0 0, Value.slice b M dd] 35) = w2.alloc (Obj.cells #[Value.slice none 0 0, Value.slice b M dd] 35)) := rfl
  clear hz
  generalize w2.alloc (Obj.cells #[Value.slice none 0 0, Value.slice b M dd] 35) = w3 at hD0 hb3 hs3 ⊢
  obtain ⟨d, hd⟩ : ∃ d, w2.heap.size = d := ⟨_, rfl⟩
  rw [hd] at hD0 hb3 hs3 ⊢
  have HD := Lib.hid hd
  have HS3 := Lib.hid hs3
  have HB3 := Lib.hid hb3
  have HREL : Hid (DRel A d w3 b M dd 0 (.slice none 0 0) w3) := ⟨⟨none, 0, rfl⟩, hD0, World.ownsRow_nil _ _ _ _, Below.refl _ _⟩
  clear hd hD0 hb3 hs3
  go_wp2_with fail
  go_loopg [4] A.σ.cap (fun g i wr => ∃ k x, k ≤ A.σ.cap ∧ g = A.σ.cap - k ∧ i = .int .i64 (k : Int) ∧ DRel A d w3 b M dd k x wr)
  case atStart => exact ⟨0, _, Nat.zero_le _, rfl, rfl, HREL.out⟩
  case round =>
    clear HREL
    obtain ⟨k, x, hk, hg, rfl, hR⟩ := hrel
    have HG := Lib.hid hg
    obtain ⟨xa, xc, rfl⟩ := hR.val
    have hbd := hR.below
    have hbw : Below w2.heap.size w2 wr := by rw [HD.out]; exact HB3.out.trans hbd
    have HH := Lib.hid (H2.out.below hbw)
    have hdl : d < wr.heap.size := (Array.getElem?_eq_some_iff.1 hR.box).1
    have HR := Lib.hid hR
    obtain ⟨e0, e1⟩ := two_cells hR.box
    have hx := HH.out.box
    unfold arV at hx
    obtain ⟨c0, c1, c2, c3, c4, c5, c6, c7⟩ := row8 hx
    clear hx hR hbd hg hbw
    by_cases hlt : k < A.σ.cap
    · have hki : (k : Int) < (A.σ.cap : Int) := by omega
      have hki0 : (0 : Int) ≤ (k : Int) := by omega
      obtain ⟨go, gn, gg, gc, ho, hn, hgg, hcc, f0, f1, f2, g0, g1, g2, g3, g4, g5, g6, g7⟩ := HH.out.at_ hlt
      rw [ho] at c4
      rw [hn] at c5
      rw [hgg] at c3
      rw [hcc] at c6
      have hal := below_new5 wr (Obj.cells #[Value.bool (A.σ.on (k + 1)), .int .i64 (A.cnt (k + 1)), .int .u32 (A.σ.gen (k + 1)), .int .i64 (A.nd (k + 1)).key, .int .i64 (A.nd (k + 1)).val, .int .u32 ((A.nd (k + 1)).left : Int), .int .u32 ((A.nd (k + 1)).right : Int), .int .i64 (A.nd (k + 1)).size, .int .i64 (A.nd (k + 1)).sum, .int .i64 (A.nd (k + 1)).mn, .int .i64 (A.nd (k + 1)).mx] 82)
      have hrow := row_below HR.out.row hal
      have HAL := Lib.hid hal
      have hdl2 : d + 1 ≤ wr.heap.size + 1 := by omega
      have HO := Lib.hid ho
      have HN := Lib.hid hn
      have HGG := Lib.hid hgg
      have HCC := Lib.hid hcc
      have HB23 := Lib.hid (HB3.out.trans HR.out.below)
      have HLT := Lib.hid hlt
      have hlq : q < d := by rw [← HD.out]; exact H2.out.lt
      have hlo : go < d := by rw [← HD.out]; exact (row_lt H2.out.slots.on go (by rw [ho]; rfl)).2
      have hln : gn < d := by rw [← HD.out]; exact (row_lt H2.out.nodes gn (by rw [hn]; rfl)).2
      have hlg : gg < d := by rw [← HD.out]; exact (row_lt H2.out.slots.gen gg (by rw [hgg]; rfl)).2
      have hlc : gc < d := by rw [← HD.out]; exact (row_lt H2.out.cnts gc (by rw [hcc]; rfl)).2
      have z1 : ¬ q = d := by omega
      have z2 : ¬ d = q := by omega
      have z3 : ¬ go = d := by omega
      have z4 : ¬ d = go := by omega
      have z5 : ¬ gn = d := by omega
      have z6 : ¬ d = gn := by omega
      have z7 : ¬ gg = d := by omega
      have z8 : ¬ d = gg := by omega
      have z9 : ¬ gc = d := by omega
      have z10 : ¬ d = gc := by omega
      clear hal ho hn hgg hcc hlq hlo hln hlg hlc
      go_upto_region 5 with fail
      refine wp_region_held_drew (S := (fun w' => w'.cell? ⟨q, 3, none⟩ = some (.slice (some ⟨gg, 0, none⟩) A.σ.cap r.gc) ∧ w'.cell? ⟨q, 4, none⟩ = some (.slice (some ⟨go, 0, none⟩) A.σ.cap r.oc) ∧ w'.cell? ⟨q, 5, none⟩ = some (.slice (some ⟨gn, 0, none⟩) A.σ.cap r.nc) ∧ w'.cell? ⟨q, 6, none⟩ = some (.slice (some ⟨gc, 0, none⟩) A.σ.cap r.cc) ∧
        w'.cell? ⟨go, k, none⟩ = some (.bool (A.σ.on (k + 1))) ∧ w'.cell? ⟨gc, k, none⟩ = some (.int .i64 (A.cnt (k + 1))) ∧ w'.cell? ⟨gg, k, none⟩ = some (.int .u32 (A.σ.gen (k + 1))) ∧
        w'.cell? ⟨gn, k * 8, none⟩ = some (.int .i64 (A.nd (k + 1)).key) ∧ w'.cell? ⟨gn, k * 8 + 1, none⟩ = some (.int .i64 (A.nd (k + 1)).val) ∧ w'.cell? ⟨gn, k * 8 + 2, none⟩ = some (.int .u32 ((A.nd (k + 1)).left : Int)) ∧ w'.cell? ⟨gn, k * 8 + 3, none⟩ = some (.int .u32 ((A.nd (k + 1)).right : Int)) ∧
        w'.cell? ⟨gn, k * 8 + 4, none⟩ = some (.int .i64 (A.nd (k + 1)).size) ∧ w'.cell? ⟨gn, k * 8 + 5, none⟩ = some (.int .i64 (A.nd (k + 1)).sum) ∧ w'.cell? ⟨gn, k * 8 + 6, none⟩ = some (.int .i64 (A.nd (k + 1)).mn) ∧ w'.cell? ⟨gn, k * 8 + 7, none⟩ = some (.int .i64 (A.nd (k + 1)).mx))) (by kernel_rfl) (by (try dsimp only); go_keep) (fun hHeld => ?_)
      refine wpAnyH_take (i := 0) (oi := _) (v := ?_) rfl (by kernel_rfl) (by kernel_rfl) (by kernel_rfl) (fun _ _ _ h => h) (Or.inl ⟨by rfl, ?_⟩) (by assumption) ?_
      rotate_left
      · intro w hSw; (try dsimp only at hSw); go_simp; try with_reducible rfl
      (try simp only [Act.put, List.setIfInBounds_toArray, List.set_cons_zero, List.set_cons_succ])
      refine wpAnyH_take (i := 2) (oi := _) (v := ?_) rfl (by kernel_rfl) (by kernel_rfl) (by kernel_rfl) (fun _ _ _ h => h) (Or.inl ⟨by rfl, ?_⟩) (by assumption) ?_
      rotate_left
      · intro w hSw; (try dsimp only at hSw); go_simp; try with_reducible rfl
      (try simp only [Act.put, List.setIfInBounds_toArray, List.set_cons_zero, List.set_cons_succ])
      refine wpAnyH_take (i := 3) (oi := _) (v := ?_) rfl (by kernel_rfl) (by kernel_rfl) (by kernel_rfl) (fun _ _ _ h => h) (Or.inl ⟨by rfl, ?_⟩) (by assumption) ?_
      rotate_left
      · intro w hSw; (try dsimp only at hSw); go_simp; try with_reducible rfl
      (try simp only [Act.put, List.setIfInBounds_toArray, List.set_cons_zero, List.set_cons_succ])
      refine wpAnyH_take (i := 4) (oi := _) (v := ?_) rfl (by kernel_rfl) (by kernel_rfl) (by kernel_rfl) (fun _ _ _ h => h) (Or.inl ⟨by rfl, ?_⟩) (by assumption) ?_
      rotate_left
      · intro w hSw; (try dsimp only at hSw); go_simp; try with_reducible rfl
      (try simp only [Act.put, List.setIfInBounds_toArray, List.set_cons_zero, List.set_cons_succ])
      refine wpAnyH_take (i := 5) (oi := _) (v := ?_) rfl (by kernel_rfl) (by kernel_rfl) (by kernel_rfl) (fun _ _ _ h => h) (Or.inl ⟨by rfl, ?_⟩) (by assumption) ?_
      rotate_left
      · intro w hSw; (try dsimp only at hSw); go_simp; try with_reducible rfl
      (try simp only [Act.put, List.setIfInBounds_toArray, List.set_cons_zero, List.set_cons_succ])
      refine wpAnyH_take (i := 6) (oi := _) (v := ?_) rfl (by kernel_rfl) (by kernel_rfl) (by kernel_rfl) (fun _ _ _ h => h) (Or.inl ⟨by rfl, ?_⟩) (by assumption) ?_
      rotate_left
      · intro w hSw; (try dsimp only at hSw); go_simp; try with_reducible rfl
      (try simp only [Act.put, List.setIfInBounds_toArray, List.set_cons_zero, List.set_cons_succ])
      refine wpAnyH_take (i := 7) (oi := _) (v := ?_) rfl (by kernel_rfl) (by kernel_rfl) (by kernel_rfl) (fun _ _ _ h => h) (Or.inl ⟨by rfl, ?_⟩) (by assumption) ?_
      rotate_left
      · intro w hSw; (try dsimp only at hSw); go_simp; try with_reducible rfl
      (try simp only [Act.put, List.setIfInBounds_toArray, List.set_cons_zero, List.set_cons_succ])
      refine wpAnyH_take (i := 8) (oi := _) (v := ?_) rfl (by kernel_rfl) (by kernel_rfl) (by kernel_rfl) (fun _ _ _ h => h) (Or.inl ⟨by rfl, ?_⟩) (by assumption) ?_
      rotate_left
      · intro w hSw; (try dsimp only at hSw); go_simp; try with_reducible rfl
      (try simp only [Act.put, List.setIfInBounds_toArray, List.set_cons_zero, List.set_cons_succ])
      refine wpAnyH_take (i := 9) (oi := _) (v := ?_) rfl (by kernel_rfl) (by kernel_rfl) (by kernel_rfl) (fun _ _ _ h => h) (Or.inl ⟨by rfl, ?_⟩) (by assumption) ?_
      rotate_left
      · intro w hSw; (try dsimp only at hSw); go_simp; try with_reducible rfl
      (try simp only [Act.put, List.setIfInBounds_toArray, List.set_cons_zero, List.set_cons_succ])
      refine wpAnyH_take (i := 10) (oi := _) (v := ?_) rfl (by kernel_rfl) (by kernel_rfl) (by kernel_rfl) (fun _ _ _ h => h) (Or.inl ⟨by rfl, ?_⟩) (by assumption) ?_
      rotate_left
      · intro w hSw; (try dsimp only at hSw); go_simp; try with_reducible rfl
      (try simp only [Act.put, List.setIfInBounds_toArray, List.set_cons_zero, List.set_cons_succ])
      refine wpAnyH_take (i := 11) (oi := _) (v := ?_) rfl (by kernel_rfl) (by kernel_rfl) (by kernel_rfl) (fun _ _ _ h => h) (Or.inl ⟨by rfl, ?_⟩) (by assumption) ?_
      rotate_left
      · intro w hSw; (try dsimp only at hSw); go_simp; try with_reducible rfl
      (try simp only [Act.put, List.setIfInBounds_toArray, List.set_cons_zero, List.set_cons_succ])
      refine wpAnyH_take (i := 12) (oi := _) (v := ?_) rfl (by kernel_rfl) (by kernel_rfl) (by kernel_rfl) (fun _ _ _ h => h) (Or.inl ⟨by rfl, ?_⟩) (by assumption) ?_
      rotate_left
      · intro w hSw; (try dsimp only at hSw); go_simp; try with_reducible rfl
      (try simp only [Act.put, List.setIfInBounds_toArray, List.set_cons_zero, List.set_cons_succ])
      refine wpAnyH_take (i := 13) (oi := _) (v := ?_) rfl (by kernel_rfl) (by kernel_rfl) (by kernel_rfl) (fun _ _ _ h => h) (Or.inl ⟨by rfl, ?_⟩) (by assumption) ?_
      rotate_left
      · intro w hSw; (try dsimp only at hSw); go_simp; try with_reducible rfl
      (try simp only [Act.put, List.setIfInBounds_toArray, List.set_cons_zero, List.set_cons_succ])
      refine wpAnyH_take (i := 14) (oi := _) (v := ?_) rfl (by kernel_rfl) (by kernel_rfl) (by kernel_rfl) (fun _ _ _ h => h) (Or.inl ⟨by rfl, ?_⟩) (by assumption) ?_
      rotate_left
      · intro w hSw; (try dsimp only at hSw); go_simp; try with_reducible rfl
      (try simp only [Act.put, List.setIfInBounds_toArray, List.set_cons_zero, List.set_cons_succ])
      refine wpAnyH_take (i := 15) (oi := _) (v := ?_) rfl (by kernel_rfl) (by kernel_rfl) (by kernel_rfl) (fun _ _ _ h => h) (Or.inl ⟨by rfl, ?_⟩) (by assumption) ?_
      rotate_left
      · intro w hSw; (try dsimp only at hSw); go_simp; try with_reducible rfl
      (try simp only [Act.put, List.setIfInBounds_toArray, List.set_cons_zero, List.set_cons_succ])
      refine wpAnyH_take (i := 16) (oi := _) (v := ?_) rfl (by kernel_rfl) (by kernel_rfl) (by kernel_rfl) (fun _ _ _ h => h) (Or.inl ⟨by rfl, ?_⟩) (by assumption) ?_
      rotate_left
      · intro w hSw; (try dsimp only at hSw); go_simp; try with_reducible rfl
      (try simp only [Act.put, List.setIfInBounds_toArray, List.set_cons_zero, List.set_cons_succ])
      refine wpAnyH_take (i := 17) (oi := _) (v := ?_) rfl (by kernel_rfl) (by kernel_rfl) (by kernel_rfl) (fun _ _ _ h => h) (Or.inl ⟨by rfl, ?_⟩) (by assumption) ?_
      rotate_left
      · intro w hSw; (try dsimp only at hSw); go_simp; try with_reducible rfl
      (try simp only [Act.put, List.setIfInBounds_toArray, List.set_cons_zero, List.set_cons_succ])
      refine wpAnyH_take (i := 18) (oi := _) (v := ?_) rfl (by kernel_rfl) (by kernel_rfl) (by kernel_rfl) (fun _ _ _ h => h) (Or.inl ⟨by rfl, ?_⟩) (by assumption) ?_
      rotate_left
      · intro w hSw; (try dsimp only at hSw); go_simp; try with_reducible rfl
      (try simp only [Act.put, List.setIfInBounds_toArray, List.set_cons_zero, List.set_cons_succ])
      refine wpAnyH_take (i := 19) (oi := _) (v := ?_) rfl (by kernel_rfl) (by kernel_rfl) (by kernel_rfl) (fun _ _ _ h => h) (Or.inl ⟨by rfl, ?_⟩) (by assumption) ?_
      rotate_left
      · intro w hSw; (try dsimp only at hSw); go_simp; try with_reducible rfl
      (try simp only [Act.put, List.setIfInBounds_toArray, List.set_cons_zero, List.set_cons_succ])
      refine wpAnyH_take (i := 20) (oi := _) (v := ?_) rfl (by kernel_rfl) (by kernel_rfl) (by kernel_rfl) (fun _ _ _ h => h) (Or.inl ⟨by rfl, ?_⟩) (by assumption) ?_
      rotate_left
      · intro w hSw; (try dsimp only at hSw); go_simp; try with_reducible rfl
      (try simp only [Act.put, List.setIfInBounds_toArray, List.set_cons_zero, List.set_cons_succ])
      refine wpAnyH_take (i := 21) (oi := _) (v := ?_) rfl (by kernel_rfl) (by kernel_rfl) (by kernel_rfl) (fun _ _ _ h => h) (Or.inl ⟨by rfl, ?_⟩) (by assumption) ?_
      rotate_left
      · intro w hSw; (try dsimp only at hSw); go_simp; try with_reducible rfl
      (try simp only [Act.put, List.setIfInBounds_toArray, List.set_cons_zero, List.set_cons_succ])
      refine wpAnyH_take (i := 22) (oi := _) (v := ?_) rfl (by kernel_rfl) (by kernel_rfl) (by kernel_rfl) (fun _ _ _ h => h) (Or.inl ⟨by rfl, ?_⟩) (by assumption) ?_
      rotate_left
      · intro w hSw; (try dsimp only at hSw); go_simp; try with_reducible rfl
      (try simp only [Act.put, List.setIfInBounds_toArray, List.set_cons_zero, List.set_cons_succ])
      refine wpAnyH_take (i := 23) (oi := _) (v := ?_) rfl (by kernel_rfl) (by kernel_rfl) (by kernel_rfl) (fun _ _ _ h => h) (Or.inl ⟨by rfl, ?_⟩) (by assumption) ?_
      rotate_left
      · intro w hSw; (try dsimp only at hSw); go_simp; try with_reducible rfl
      (try simp only [Act.put, List.setIfInBounds_toArray, List.set_cons_zero, List.set_cons_succ])
      refine wpAnyH_take (i := 24) (oi := _) (v := ?_) rfl (by kernel_rfl) (by kernel_rfl) (by kernel_rfl) (fun _ _ _ h => h) (Or.inl ⟨by rfl, ?_⟩) (by assumption) ?_
      rotate_left
      · intro w hSw; (try dsimp only at hSw); go_simp; try with_reducible rfl
      (try simp only [Act.put, List.setIfInBounds_toArray, List.set_cons_zero, List.set_cons_succ])
      refine wpAnyH_take (i := 25) (oi := _) (v := ?_) rfl (by kernel_rfl) (by kernel_rfl) (by kernel_rfl) (fun _ _ _ h => h) (Or.inl ⟨by rfl, ?_⟩) (by assumption) ?_
      rotate_left
      · intro w hSw; (try dsimp only at hSw); go_simp; try with_reducible rfl
      (try simp only [Act.put, List.setIfInBounds_toArray, List.set_cons_zero, List.set_cons_succ])
      refine wpAnyH_take (i := 26) (oi := _) (v := ?_) rfl (by kernel_rfl) (by kernel_rfl) (by kernel_rfl) (fun _ _ _ h => h) (Or.inl ⟨by rfl, ?_⟩) (by assumption) ?_
      rotate_left
      · intro w hSw; (try dsimp only at hSw); go_simp; try with_reducible rfl
      (try simp only [Act.put, List.setIfInBounds_toArray, List.set_cons_zero, List.set_cons_succ])
      refine wpAnyH_take (i := 27) (oi := _) (v := ?_) rfl (by kernel_rfl) (by kernel_rfl) (by kernel_rfl) (fun _ _ _ h => h) (Or.inl ⟨by rfl, ?_⟩) (by assumption) ?_
      rotate_left
      · intro w hSw; (try dsimp only at hSw); go_simp; try with_reducible rfl
      (try simp only [Act.put, List.setIfInBounds_toArray, List.set_cons_zero, List.set_cons_succ])
      refine wpAnyH_take (i := 28) (oi := _) (v := ?_) rfl (by kernel_rfl) (by kernel_rfl) (by kernel_rfl) (fun _ _ _ h => h) (Or.inl ⟨by rfl, ?_⟩) (by assumption) ?_
      rotate_left
      · intro w hSw; (try dsimp only at hSw); go_simp; try with_reducible rfl
      (try simp only [Act.put, List.setIfInBounds_toArray, List.set_cons_zero, List.set_cons_succ])
      refine wpAnyH_take (i := 29) (oi := _) (v := ?_) rfl (by kernel_rfl) (by kernel_rfl) (by kernel_rfl) (fun _ _ _ h => h) (Or.inl ⟨by rfl, ?_⟩) (by assumption) ?_
      rotate_left
      · intro w hSw; (try dsimp only at hSw); go_simp; try with_reducible rfl
      (try simp only [Act.put, List.setIfInBounds_toArray, List.set_cons_zero, List.set_cons_succ])
      refine wpAnyH_take (i := 30) (oi := _) (v := ?_) rfl (by kernel_rfl) (by kernel_rfl) (by kernel_rfl) (fun _ _ _ h => h) (Or.inl ⟨by rfl, ?_⟩) (by assumption) ?_
      rotate_left
      · intro w hSw; (try dsimp only at hSw); go_simp; try with_reducible rfl
      (try simp only [Act.put, List.setIfInBounds_toArray, List.set_cons_zero, List.set_cons_succ])
      refine wpAnyH_take (i := 31) (oi := _) (v := ?_) rfl (by kernel_rfl) (by kernel_rfl) (by kernel_rfl) (fun _ _ _ h => h) (Or.inl ⟨by rfl, ?_⟩) (by assumption) ?_
      rotate_left
      · intro w hSw; (try dsimp only at hSw); go_simp; try with_reducible rfl
      (try simp only [Act.put, List.setIfInBounds_toArray, List.set_cons_zero, List.set_cons_succ])
      refine wpAnyH_take (i := 32) (oi := _) (v := ?_) rfl (by kernel_rfl) (by kernel_rfl) (by kernel_rfl) (fun _ _ _ h => h) (Or.inl ⟨by rfl, ?_⟩) (by assumption) ?_
      rotate_left
      · intro w hSw; (try dsimp only at hSw); go_simp; try with_reducible rfl
      (try simp only [Act.put, List.setIfInBounds_toArray, List.set_cons_zero, List.set_cons_succ])
      refine wpAnyH_ready (rs := [1, 33]) (by kernel_rfl) (by simp) ?_
      refine AllReadyH.cons (o := _) rfl (fun K hK => ?_) ?_
      · go_simp
        refine hK.out _ _ (by assumption) (fun hHeld => ?_)
        clear hK K
        (try simp only [Act.put, List.setIfInBounds_toArray, List.set_cons_zero, List.set_cons_succ])
        refine wpAnyH_ready (rs := [33]) (by kernel_rfl) (by simp) ?_
        refine AllReadyH.cons (o := _) rfl (fun K hK => ?_) AllReadyH.nil
        go_simp
        refine hK.out _ _ (by (try dsimp only); go_keep) (fun hHeld => ?_)
        clear hK K
        (try simp only [Act.put, List.setIfInBounds_toArray, List.set_cons_zero, List.set_cons_succ])
        refine wpAnyH_ready (rs := [34]) (by kernel_rfl) (by simp) ?_
        refine AllReadyH.cons (o := _) rfl (fun K hK => ?_) AllReadyH.nil
        (refine step_append_own11 rfl (.tmp 21) (.tmp 53) 32 rfl (d + 1) 82 i0 slotZ 11 80 Try.underlying32 hi hz0 hz1 hz2 rfl (by decide) _ k (slk A k) rfl hrow ⟨wr.heap.size, 0, none⟩ 1 1 (slotV A (k + 1)) rfl rfl (new11 _ _ _) (slotV_one A _) (by unfold maxLen; omega) (by omega) (by simp; omega) ?_; intro v6 w6 ho6 hg6; obtain ⟨va, vc, rfl⟩ := row_val ho6; have hd6 := (hg6.block d (by simp; omega) (fun e => by have := row_from HR.out.row d e.symm; omega)).trans ((HAL.out.block d hdl).trans HR.out.box); have hd60 := (two_cells hd6).1; have hf6 := frozen_of_row w6 d 0 _ _ hd6; have hb6 : Below d wr w6 := ((HAL.out.mono (show d ≤ wr.heap.size by omega)).drew).grown hg6 (by simp; omega) (fun j hj => by have := row_from hrow j hj; omega); have h6 := H2.out.below (show Below w2.heap.size w2 w6 by rw [HD.out]; exact HB23.out.trans hb6); obtain ⟨n3, n4, n5, n6⟩ := h6.heads HO.out HN.out HGG.out HCC.out; obtain ⟨m0, m1, m2, m3, m4, m5, m6, m7, m8, m9, m10⟩ := h6.cells11 HLT.out HO.out HN.out HGG.out HCC.out; clear h6)
        refine hK.out _ _ (by refine ⟨?_, ?_, ?_, ?_, ?_, ?_, ?_, ?_, ?_, ?_, ?_, ?_, ?_, ?_, ?_⟩ <;> assumption) (fun hHeld => ?_)
        clear hK K
        (try simp only [Act.put, List.setIfInBounds_toArray, List.set_cons_zero, List.set_cons_succ])
        refine wpAnyH_take (i := 35) (oi := _) (v := ?_) rfl (by kernel_rfl) (by kernel_rfl) (by kernel_rfl) (fun _ _ _ h => h) (Or.inl ⟨by rfl, ?_⟩) (by assumption) ?_
        rotate_left
        · intro w hSw; (try dsimp only at hSw); go_simp; try with_reducible rfl
        (try simp only [Act.put, List.setIfInBounds_toArray, List.set_cons_zero, List.set_cons_succ])
        refine wpAnyH_ready (rs := [36]) (by kernel_rfl) (by simp) ?_
        refine AllReadyH.cons (o := _) rfl (fun K hK => ?_) AllReadyH.nil
        go_simp
        refine hK.out _ _ (by (try dsimp only); go_keep) (fun hHeld => ?_)
        clear hK K
        (try simp only [Act.put, List.setIfInBounds_toArray, List.set_cons_zero, List.set_cons_succ])
        refine wpAnyH_done (by kernel_rfl) ?_ _
        have hD6 : DRel A d w3 b M dd (k + 1) (.slice va (k + 1) vc) (w6.setCell ⟨d, 0, none⟩ (.slice va (k + 1) vc)) := by
          refine ⟨⟨va, vc, rfl⟩, by rw [heap_setCell_same _ _ _ _ _ _ hd6]; rfl, ?_, (HR.out.below.trans hb6).setCell (Nat.le_refl _) _⟩
          rw [slk_succ]
          exact row_keep ho6 fun j hj => heap_setCell_other _ _ _ _ (show j ≠ d by have := row_from ho6 j hj; omega)
        have HD6 := Lib.hid hD6
        clear hD6 ho6 hd6 hd60 hf6 hb6 n3 n4 n5 n6 m0 m1 m2 m3 m4 m5 m6 m7 m8 m9 m10 f0 f1 f2 g0 g1 g2 g3 g4 g5 g6 g7 c0 c1 c2 c3 c4 c5 c6 c7 e0 e1 hrow
        go_wp2_with fail
        go_roundg (A.σ.cap - (k + 1))
        case measure => have := HG.out; omega
        case rel => exact ⟨k + 1, _, by omega, rfl, by go_num, HD6.out⟩
      · refine AllReadyH.cons (o := _) rfl (fun K hK => ?_) AllReadyH.nil
        go_simp
        refine hK.out _ _ (by (try dsimp only); go_keep) (fun hHeld => ?_)
        clear hK K
        (try simp only [Act.put, List.setIfInBounds_toArray, List.set_cons_zero, List.set_cons_succ])
        refine wpAnyH_ready (rs := [1]) (by kernel_rfl) (by simp) ?_
        refine AllReadyH.cons (o := _) rfl (fun K hK => ?_) AllReadyH.nil
        go_simp
        refine hK.out _ _ (by (try dsimp only); go_keep) (fun hHeld => ?_)
        clear hK K
        (try simp only [Act.put, List.setIfInBounds_toArray, List.set_cons_zero, List.set_cons_succ])
        refine wpAnyH_ready (rs := [34]) (by kernel_rfl) (by simp) ?_
        refine AllReadyH.cons (o := _) rfl (fun K hK => ?_) AllReadyH.nil
        (refine step_append_own11 rfl (.tmp 21) (.tmp 53) 32 rfl (d + 1) 82 i0 slotZ 11 80 Try.underlying32 hi hz0 hz1 hz2 rfl (by decide) _ k (slk A k) rfl hrow ⟨wr.heap.size, 0, none⟩ 1 1 (slotV A (k + 1)) rfl rfl (new11 _ _ _) (slotV_one A _) (by unfold maxLen; omega) (by omega) (by simp; omega) ?_; intro v6 w6 ho6 hg6; obtain ⟨va, vc, rfl⟩ := row_val ho6; have hd6 := (hg6.block d (by simp; omega) (fun e => by have := row_from HR.out.row d e.symm; omega)).trans ((HAL.out.block d hdl).trans HR.out.box); have hd60 := (two_cells hd6).1; have hf6 := frozen_of_row w6 d 0 _ _ hd6; have hb6 : Below d wr w6 := ((HAL.out.mono (show d ≤ wr.heap.size by omega)).drew).grown hg6 (by simp; omega) (fun j hj => by have := row_from hrow j hj; omega); have h6 := H2.out.below (show Below w2.heap.size w2 w6 by rw [HD.out]; exact HB23.out.trans hb6); obtain ⟨n3, n4, n5, n6⟩ := h6.heads HO.out HN.out HGG.out HCC.out; obtain ⟨m0, m1, m2, m3, m4, m5, m6, m7, m8, m9, m10⟩ := h6.cells11 HLT.out HO.out HN.out HGG.out HCC.out; clear h6)
        refine hK.out _ _ (by refine ⟨?_, ?_, ?_, ?_, ?_, ?_, ?_, ?_, ?_, ?_, ?_, ?_, ?_, ?_, ?_⟩ <;> assumption) (fun hHeld => ?_)
        clear hK K
        (try simp only [Act.put, List.setIfInBounds_toArray, List.set_cons_zero, List.set_cons_succ])
        refine wpAnyH_take (i := 35) (oi := _) (v := ?_) rfl (by kernel_rfl) (by kernel_rfl) (by kernel_rfl) (fun _ _ _ h => h) (Or.inl ⟨by rfl, ?_⟩) (by assumption) ?_
        rotate_left
        · intro w hSw; (try dsimp only at hSw); go_simp; try with_reducible rfl
        (try simp only [Act.put, List.setIfInBounds_toArray, List.set_cons_zero, List.set_cons_succ])
        refine wpAnyH_ready (rs := [36]) (by kernel_rfl) (by simp) ?_
        refine AllReadyH.cons (o := _) rfl (fun K hK => ?_) AllReadyH.nil
        go_simp
        refine hK.out _ _ (by (try dsimp only); go_keep) (fun hHeld => ?_)
        clear hK K
        (try simp only [Act.put, List.setIfInBounds_toArray, List.set_cons_zero, List.set_cons_succ])
        refine wpAnyH_done (by kernel_rfl) ?_ _
        have hD6 : DRel A d w3 b M dd (k + 1) (.slice va (k + 1) vc) (w6.setCell ⟨d, 0, none⟩ (.slice va (k + 1) vc)) := by
          refine ⟨⟨va, vc, rfl⟩, by rw [heap_setCell_same _ _ _ _ _ _ hd6]; rfl, ?_, (HR.out.below.trans hb6).setCell (Nat.le_refl _) _⟩
          rw [slk_succ]
          exact row_keep ho6 fun j hj => heap_setCell_other _ _ _ _ (show j ≠ d by have := row_from ho6 j hj; omega)
        have HD6 := Lib.hid hD6
        clear hD6 ho6 hd6 hd60 hf6 hb6 n3 n4 n5 n6 m0 m1 m2 m3 m4 m5 m6 m7 m8 m9 m10 f0 f1 f2 g0 g1 g2 g3 g4 g5 g6 g7 c0 c1 c2 c3 c4 c5 c6 c7 e0 e1 hrow
        go_wp2_with fail
        go_roundg (A.σ.cap - (k + 1))
        case measure => have := HG.out; omega
        case rel => exact ⟨k + 1, _, by omega, rfl, by go_num, HD6.out⟩
    · have hkc : k = A.σ.cap := by omega
      have hkci : ¬ (k : Int) < (A.σ.cap : Int) := by omega
      have HKC := Lib.hid hkc
      clear hkc hlt
      have hP : wr.heap[w.heap.size]? = some (Obj.cells #[Value.slice none 0 0, Value.slice none 0 0] 35 (0, 0)) := by
        have h1 : w.heap.size < w1.heap.size := by rw [HS1.out]; omega
        have h2 := HB2.out.size
        have h3 := HD.out
        rw [HR.out.below.block _ (by omega), HB3.out.block _ (by omega), HB2.out.block _ h1]
        exact HP0.out
      have HP := Lib.hid hP
      obtain ⟨p0, hp0⟩ : ∃ p0, w.heap.size = p0 := ⟨_, rfl⟩
      rw [hp0] at HP ⊢
      have HPP := Lib.hid hp0
      clear c1 c2 c3 c4 c5 c6 c7 hP hp0
      go_wp2_with (refine wpList_store_row rfl 35 (.tmp 2) (.tmp 56) rfl p0 #[.slice xa k xc, .slice b M dd] rfl rfl 35 _ HP.out HIN.out rfl (by simp [Value.oneCell']) ?_)
      refine bodyPost_ret (v := .agg #[.slice xa k xc, .slice b M dd]) (results_cell_row rfl _ _ p0 35 _ (0, 0) _ rfl (setRow_heap _ _ _ _ _ _ HP.out) HU.out rfl HIN.out) rfl ?_
      have hrow := HR.out.row
      rw [HKC.out] at hrow ⊢
      have h1 : p0 < w1.heap.size := by rw [HS1.out, HPP.out]; omega
      have h2 := HB2.out.size
      have h3 := HD.out
      have hfr := row_keep HFR.out (w' := wr) fun j hj => by rw [HR.out.below.block _ (by have := (row_lt HFR.out j hj).2; omega), HB3.out.block _ (by have := (row_lt HFR.out j hj).2; omega)]
      refine ⟨xa, xc, b, dd, by rw [HM.out], ?_, ?_, ?_⟩
      · refine row_mono (row_keep hrow fun j hj => setRow_other _ _ _ _ ?_) (by rw [HPP.out]; omega)
        have := row_from hrow j hj; omega
      · rw [HM.out]
        refine row_mono (row_keep hfr fun j hj => setRow_other _ _ _ _ ?_) (by rw [HPP.out]; omega)
        have := row_from hfr j hj; omega
      · rw [HPP.out]
        refine below_setRow ?_ (Nat.le_refl _) _
        have hBB := HB1.out
        rw [HPP.out] at hBB
        exact hBB.trans ((HB2.out.mono (by omega)).trans ((HB3.out.trans HR.out.below).mono (by omega)))
end Go.Proofs.Ytnmookemeibioaa
