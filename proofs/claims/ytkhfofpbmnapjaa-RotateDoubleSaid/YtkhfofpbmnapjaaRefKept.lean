/- The kit's Kept on two dumps. -/
import Derived.Test.YtkhfofpbmnapjaaSlotsAt
import Derived.Test.YtkhfofpbmnapjaaRefNear
import Derived.Deep.RegionHeld3
import Derived.Deep.QuietTactic
import Derived.Deep.DeepCutAuto
set_option linter.unusedVariables false
set_option linter.unusedSimpArgs false
namespace Go.Proofs.Ytkhfofpbmnapjaa
open Go.RowKit
theorem two_alloc (w : World) (x y : Array Value) (ty : TypeId) : ((w.alloc (.cells x ty)).alloc (.cells y ty)).drew.heap[w.heap.size]? = some (.cells x ty (0, 0)) ∧ ((w.alloc (.cells x ty)).alloc (.cells y ty)).drew.heap[w.heap.size + 1]? = some (.cells y ty (0, 0)) ∧ Below w.heap.size w ((w.alloc (.cells x ty)).alloc (.cells y ty)).drew := by
  have e1 : (w.alloc (.cells x ty)).heap.size = w.heap.size + 1 := by simp
  have h1 := heap_alloc_new w (.cells x ty)
  have h2 := heap_alloc_new (w.alloc (.cells x ty)) (.cells y ty)
  rw [e1] at h2
  have hb := below_newL (w.alloc (.cells x ty)) (.cells y ty)
  exact ⟨(hb.block _ (by omega)).trans h1, h2, ((below_newL w _).trans (hb.mono (by omega))).drew⟩
/-- every allocated slot is allocated later, with the same node and generation -/
def KeptS (n : Nat) (S T : Nat → Sl) : Prop := ∀ j, j < n → (S j).on = true → (T j).on = true ∧ (T j).nd = (S j).nd ∧ (T j).gen = (S j).gen
set_option maxHeartbeats 4000000 in
set_option maxRecDepth 100000 in
theorem kept_any {w : World} {a a' b b' : Option Addr} {n c c' m m' d d' : Nat} {S T : Nat → Sl} (h : SlotsAt w a n S) (h' : SlotsAt w a' n T) (hk : KeptS n S T) (hn : n ≤ 65536) :
    Calls Try.prog 18 #[.agg #[.slice a n c, .slice b m d], .agg #[.slice a' n c', .slice b' m' d']] w (Calm w (.bool true)) := by
  have hni : (n : Int) ≤ 65536 := by omega
  have HKK := Lib.hid hk
  have hx := (below_newL (w.alloc (Obj.cells #[.slice a n c, .slice b m d] 32)) (Obj.cells #[.slice a' n c', .slice b' m' d'] 32)).block w.heap.size (by simp) |>.trans (heap_alloc_new w (Obj.cells #[.slice a n c, .slice b m d] 32))
  have hy := heap_alloc_new (w.alloc (Obj.cells #[.slice a n c, .slice b m d] 32)) (Obj.cells #[.slice a' n c', .slice b' m' d'] 32)
  rw [show (w.alloc (Obj.cells #[.slice a n c, .slice b m d] 32)).heap.size = w.heap.size + 1 by simp] at hy
  have hb2 : Below w.heap.size w ((w.alloc (Obj.cells #[.slice a n c, .slice b m d] 32)).alloc (Obj.cells #[.slice a' n c', .slice b' m' d'] 32)) := (below_newL w _).trans ((below_newL _ _).mono (by simp))
  have hl2 : w.heap.size + 1 < ((w.alloc (Obj.cells #[.slice a n c, .slice b m d] 32)).alloc (Obj.cells #[.slice a' n c', .slice b' m' d'] 32)).heap.size := by simp
  have hS2 := h.below hb2
  have hT2 := h'.below hb2
  clear h h' hk
  go_enter Try.func18, Try.ntmps18
  go_upto_region 1 with fail
  generalize (w.alloc (Obj.cells #[.slice a n c, .slice b m d] 32)).alloc (Obj.cells #[.slice a' n c', .slice b' m' d'] 32) = w2 at hx hy hb2 hl2 hS2 hT2 ⊢
  obtain ⟨g1, hg1⟩ : ∃ g, w.heap.size = g := ⟨_, rfl⟩
  obtain ⟨g2, hg2⟩ : ∃ g, g1 + 1 = g := ⟨_, rfl⟩
  rw [hg1] at hx hy hl2 ⊢
  rw [hg2] at hy hl2 ⊢
  have HX := Lib.hid hx
  have HY := Lib.hid hy
  have HB2 := Lib.hid hb2
  have HL2 : Hid (g1 < w2.heap.size ∧ g2 < w2.heap.size) := ⟨by omega, hl2⟩
  have HS2 := Lib.hid hS2
  have HT2 := Lib.hid hT2
  clear hx hy hb2 hl2 hS2 hT2 hg1 hg2
  have HC : Hid (∀ wx, Below w2.heap.size w2 wx → wx.cell? ⟨g1, 0, none⟩ = some (.slice a n c) ∧ wx.cell? ⟨g2, 0, none⟩ = some (.slice a' n c')) := fun wx hb =>
    ⟨by rw [cell_of_row _ _ _ _ _ _ ((hb.block g1 HL2.out.1).trans HX.out)]; rfl, by rw [cell_of_row _ _ _ _ _ _ ((hb.block g2 HL2.out.2).trans HY.out)]; rfl⟩
  obtain ⟨c0, d0⟩ := HC.out w2 (Below.refl _ _)
  go_wp2_with fail
  clear c0 d0
  go_loopw [5] (fun i wr => ∃ k : Nat, k ≤ n ∧ i = .int .i64 (k : Int) ∧ Below w2.heap.size w2 wr) (fun i _ => n - (intOf i).toNat)
  case atStart => exact ⟨0, Nat.zero_le _, rfl, Below.refl _ _⟩
  case round =>
    obtain ⟨k, hk, rfl, hbr⟩ := hrel
    have HBR := Lib.hid hbr
    obtain ⟨c0, d0⟩ := HC.out wr hbr
    by_cases hlt : k < n
    · have hki : (k : Int) < (n : Int) := by omega
      have hk0 : (0 : Int) ≤ (k : Int) := by omega
      have HLT := Lib.hid hlt
      obtain ⟨p, off, hap, hp, s0, s1, s2, s3, s4, s5, s6, s7, s8, s9, s10⟩ := (HS2.out.below hbr).all hlt
      obtain ⟨p', off', hap', hp', t0, t1, t2, t3, t4, t5, t6, t7, t8, t9, t10⟩ := (HT2.out.below hbr).all hlt
      have HEQ : Hid ((S k).on = true → (T k).on = true ∧ (T k).gen = (S k).gen ∧ (T k).nd.key = (S k).nd.key ∧ (T k).nd.val = (S k).nd.val ∧ ((T k).nd.left : Int) = ((S k).nd.left : Int) ∧ ((T k).nd.right : Int) = ((S k).nd.right : Int) ∧ (T k).nd.size = (S k).nd.size ∧ (T k).nd.sum = (S k).nd.sum ∧ (T k).nd.mn = (S k).nd.mn ∧ (T k).nd.mx = (S k).nd.mx) := fun ho => by
        obtain ⟨e1, e2, e3⟩ := HKK.out k HLT.out ho
        rw [e2]
        exact ⟨e1, e3, rfl, rfl, rfl, rfl, rfl, rfl, rfl, rfl⟩
      generalize (S k).on = x0 at s0 HEQ
      generalize (S k).cnt = x1 at s1
      generalize (S k).gen = x2 at s2 HEQ
      generalize (S k).nd.key = x3 at s3 HEQ
      generalize (S k).nd.val = x4 at s4 HEQ
      generalize ((S k).nd.left : Int) = x5 at s5 HEQ
      generalize ((S k).nd.right : Int) = x6 at s6 HEQ
      generalize (S k).nd.size = x7 at s7 HEQ
      generalize (S k).nd.sum = x8 at s8 HEQ
      generalize (S k).nd.mn = x9 at s9 HEQ
      generalize (S k).nd.mx = x10 at s10 HEQ
      generalize (T k).on = y0 at t0 HEQ
      generalize (T k).cnt = y1 at t1
      generalize (T k).gen = y2 at t2 HEQ
      generalize (T k).nd.key = y3 at t3 HEQ
      generalize (T k).nd.val = y4 at t4 HEQ
      generalize ((T k).nd.left : Int) = y5 at t5 HEQ
      generalize ((T k).nd.right : Int) = y6 at t6 HEQ
      generalize (T k).nd.size = y7 at t7 HEQ
      generalize (T k).nd.sum = y8 at t8 HEQ
      generalize (T k).nd.mn = y9 at t9 HEQ
      generalize (T k).nd.mx = y10 at t10 HEQ
      subst hap
      subst hap'
      clear hk hlt hbr
      go_upto_region 6 with fail
      go_cut [6, 7] (fun s6 s7 wx => ∃ gx gy : Nat, s6 = .pointer (some ⟨gx, 0, none⟩) ∧ s7 = .pointer (some ⟨gy, 0, none⟩) ∧ wx.heap[gx]? = some (.cells #[.bool x0, .int .i64 x1, .int .u32 x2, .int .i64 x3, .int .i64 x4, .int .u32 x5, .int .u32 x6, .int .i64 x7, .int .i64 x8, .int .i64 x9, .int .i64 x10] 75 (0, 0)) ∧ wx.heap[gy]? = some (.cells #[.bool y0, .int .i64 y1, .int .u32 y2, .int .i64 y3, .int .i64 y4, .int .u32 y5, .int .u32 y6, .int .i64 y7, .int .i64 y8, .int .i64 y9, .int .i64 y10] 75 (0, 0)) ∧ Below wr.heap.size wr wx)
      case first =>
        obtain ⟨c0, d0⟩ := HC.out wr.drew HBR.out.drew
        go_region_held3 (fun w' => w'.cell? ⟨g1, 0, none⟩ = some (.slice (some ⟨p, off, none⟩) n c) ∧ w'.cell? ⟨g2, 0, none⟩ = some (.slice (some ⟨p', off', none⟩) n c') ∧ w'.cell? ⟨p, off + k * 11, none⟩ = some (.bool x0) ∧ w'.cell? ⟨p, off + k * 11 + 1, none⟩ = some (.int .i64 x1) ∧ w'.cell? ⟨p, off + k * 11 + 2, none⟩ = some (.int .u32 x2) ∧ w'.cell? ⟨p, off + k * 11 + 3, none⟩ = some (.int .i64 x3) ∧ w'.cell? ⟨p, off + k * 11 + 4, none⟩ = some (.int .i64 x4) ∧ w'.cell? ⟨p, off + k * 11 + 5, none⟩ = some (.int .u32 x5) ∧ w'.cell? ⟨p, off + k * 11 + 6, none⟩ = some (.int .u32 x6) ∧ w'.cell? ⟨p, off + k * 11 + 7, none⟩ = some (.int .i64 x7) ∧ w'.cell? ⟨p, off + k * 11 + 8, none⟩ = some (.int .i64 x8) ∧ w'.cell? ⟨p, off + k * 11 + 9, none⟩ = some (.int .i64 x9) ∧ w'.cell? ⟨p, off + k * 11 + 10, none⟩ = some (.int .i64 x10) ∧ w'.cell? ⟨p', off' + k * 11, none⟩ = some (.bool y0) ∧ w'.cell? ⟨p', off' + k * 11 + 1, none⟩ = some (.int .i64 y1) ∧ w'.cell? ⟨p', off' + k * 11 + 2, none⟩ = some (.int .u32 y2) ∧ w'.cell? ⟨p', off' + k * 11 + 3, none⟩ = some (.int .i64 y3) ∧ w'.cell? ⟨p', off' + k * 11 + 4, none⟩ = some (.int .i64 y4) ∧ w'.cell? ⟨p', off' + k * 11 + 5, none⟩ = some (.int .u32 y5) ∧ w'.cell? ⟨p', off' + k * 11 + 6, none⟩ = some (.int .u32 y6) ∧ w'.cell? ⟨p', off' + k * 11 + 7, none⟩ = some (.int .i64 y7) ∧ w'.cell? ⟨p', off' + k * 11 + 8, none⟩ = some (.int .i64 y8) ∧ w'.cell? ⟨p', off' + k * 11 + 9, none⟩ = some (.int .i64 y9) ∧ w'.cell? ⟨p', off' + k * 11 + 10, none⟩ = some (.int .i64 y10)) (go_keep) (fail)
        all_goals (go_wp2_with fail; go_meet)
        · have h := two_alloc wr #[.bool x0, .int .i64 x1, .int .u32 x2, .int .i64 x3, .int .i64 x4, .int .u32 x5, .int .u32 x6, .int .i64 x7, .int .i64 x8, .int .i64 x9, .int .i64 x10] #[.bool y0, .int .i64 y1, .int .u32 y2, .int .i64 y3, .int .i64 y4, .int .u32 y5, .int .u32 y6, .int .i64 y7, .int .i64 y8, .int .i64 y9, .int .i64 y10] 75
          exact ⟨_, _, rfl, rfl, h.1, h.2.1, h.2.2⟩
        · have h := two_alloc wr #[.bool y0, .int .i64 y1, .int .u32 y2, .int .i64 y3, .int .i64 y4, .int .u32 y5, .int .u32 y6, .int .i64 y7, .int .i64 y8, .int .i64 y9, .int .i64 y10] #[.bool x0, .int .i64 x1, .int .u32 x2, .int .i64 x3, .int .i64 x4, .int .u32 x5, .int .u32 x6, .int .i64 x7, .int .i64 x8, .int .i64 x9, .int .i64 x10] 75
          exact ⟨_, _, rfl, rfl, h.2.1, h.1, h.2.2⟩
      case' rest =>
        rename World => w5
        obtain ⟨gx, gy, rfl, rfl, hgx, hgy, hb5⟩ := hcut
        have HB5 : Hid (Below w2.heap.size w2 w5) := HBR.out.trans (hb5.mono HBR.out.size)
        have cx : ∀ j v, #[.bool x0, .int .i64 x1, .int .u32 x2, .int .i64 x3, .int .i64 x4, .int .u32 x5, .int .u32 x6, .int .i64 x7, .int .i64 x8, .int .i64 x9, .int .i64 x10][j]? = some v → w5.cell? ⟨gx, j, none⟩ = some v := fun j v hj => by rw [cell_of_row _ _ _ _ _ _ hgx]; exact hj
        have cy : ∀ j v, #[.bool y0, .int .i64 y1, .int .u32 y2, .int .i64 y3, .int .i64 y4, .int .u32 y5, .int .u32 y6, .int .i64 y7, .int .i64 y8, .int .i64 y9, .int .i64 y10][j]? = some v → w5.cell? ⟨gy, j, none⟩ = some v := fun j v hj => by rw [cell_of_row _ _ _ _ _ _ hgy]; exact hj
        have s0 : w5.cell? ⟨gx, 0, none⟩ = some (.bool x0) := cx 0 _ rfl
        have t0 : w5.cell? ⟨gy, 0, none⟩ = some (.bool y0) := cy 0 _ rfl
        have s1 : w5.cell? ⟨gx, 1, none⟩ = some (.int .i64 x1) := cx 1 _ rfl
        have t1 : w5.cell? ⟨gy, 1, none⟩ = some (.int .i64 y1) := cy 1 _ rfl
        have s2 : w5.cell? ⟨gx, 2, none⟩ = some (.int .u32 x2) := cx 2 _ rfl
        have t2 : w5.cell? ⟨gy, 2, none⟩ = some (.int .u32 y2) := cy 2 _ rfl
        have s3 : w5.cell? ⟨gx, 3, none⟩ = some (.int .i64 x3) := cx 3 _ rfl
        have t3 : w5.cell? ⟨gy, 3, none⟩ = some (.int .i64 y3) := cy 3 _ rfl
        have s4 : w5.cell? ⟨gx, 4, none⟩ = some (.int .i64 x4) := cx 4 _ rfl
        have t4 : w5.cell? ⟨gy, 4, none⟩ = some (.int .i64 y4) := cy 4 _ rfl
        have s5 : w5.cell? ⟨gx, 5, none⟩ = some (.int .u32 x5) := cx 5 _ rfl
        have t5 : w5.cell? ⟨gy, 5, none⟩ = some (.int .u32 y5) := cy 5 _ rfl
        have s6 : w5.cell? ⟨gx, 6, none⟩ = some (.int .u32 x6) := cx 6 _ rfl
        have t6 : w5.cell? ⟨gy, 6, none⟩ = some (.int .u32 y6) := cy 6 _ rfl
        have s7 : w5.cell? ⟨gx, 7, none⟩ = some (.int .i64 x7) := cx 7 _ rfl
        have t7 : w5.cell? ⟨gy, 7, none⟩ = some (.int .i64 y7) := cy 7 _ rfl
        have s8 : w5.cell? ⟨gx, 8, none⟩ = some (.int .i64 x8) := cx 8 _ rfl
        have t8 : w5.cell? ⟨gy, 8, none⟩ = some (.int .i64 y8) := cy 8 _ rfl
        have s9 : w5.cell? ⟨gx, 9, none⟩ = some (.int .i64 x9) := cx 9 _ rfl
        have t9 : w5.cell? ⟨gy, 9, none⟩ = some (.int .i64 y9) := cy 9 _ rfl
        have s10 : w5.cell? ⟨gx, 10, none⟩ = some (.int .i64 x10) := cx 10 _ rfl
        have t10 : w5.cell? ⟨gy, 10, none⟩ = some (.int .i64 y10) := cy 10 _ rfl
        clear cx cy hgx hgy hb5 c0 d0
        cases x0 with
        | false =>
          clear HEQ
          go_wp2_with fail
          exact ⟨⟨k + 1, by have := HLT.out; omega, by go_num, HB5.out⟩, by have := HLT.out; simp [intOf]; omega⟩
        | true =>
          obtain ⟨rfl, rfl, rfl, rfl, rfl, rfl, rfl, rfl, rfl, rfl⟩ := HEQ.out rfl
          clear HEQ
          have e2 : (y2 == y2) = true := by simp
          have f2 : (y2 != y2) = false := by simp
          have e3 : (y3 == y3) = true := by simp
          have f3 : (y3 != y3) = false := by simp
          have e4 : (y4 == y4) = true := by simp
          have f4 : (y4 != y4) = false := by simp
          have e5 : (y5 == y5) = true := by simp
          have f5 : (y5 != y5) = false := by simp
          have e6 : (y6 == y6) = true := by simp
          have f6 : (y6 != y6) = false := by simp
          have e7 : (y7 == y7) = true := by simp
          have f7 : (y7 != y7) = false := by simp
          have e8 : (y8 == y8) = true := by simp
          have f8 : (y8 != y8) = false := by simp
          have e9 : (y9 == y9) = true := by simp
          have f9 : (y9 != y9) = false := by simp
          have e10 : (y10 == y10) = true := by simp
          have f10 : (y10 != y10) = false := by simp
          go_wp2_with fail
          exact ⟨⟨k + 1, by have := HLT.out; omega, by go_num, HB5.out⟩, by have := HLT.out; simp [intOf]; omega⟩
    · obtain rfl : k = n := by omega
      clear hk hlt
      go_wp2_with fail
      go_ret
      exact ⟨rfl, HB2.out.trans (HBR.out.mono HB2.out.size)⟩
end Go.Proofs.Ytkhfofpbmnapjaa
