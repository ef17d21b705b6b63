/- Of the proofs of UpdateInserts, UpdateDeletes, JoinJoins, JoinConcatenates, JoinSplits: EnsIn, EnIn, RefKept, SameSlots, SameRows, SameDump, JnDuo, JnOk4. -/
import Derived.Test.YtckkmmdibgoajaaGreatV1
import Derived.Test.YtckkmmdibgoajaaGreatV2
import Derived.Test.YtckkmmdibgoajaaGreatV3
import Derived.Test.YtckkmmdibgoajaaGreatV4
import Derived.Test.YtckkmmdibgoajaaGreatV5
import Derived.Test.YtckkmmdibgoajaaGreatV6
import Derived.Test.YtckkmmdibgoajaaGreatV7
import Derived.Test.YtckkmmdibgoajaaGreatV8
import Derived.Test.YtckkmmdibgoajaaGreatV9
import Derived.Test.YtckkmmdibgoajaaGreatV10
import Derived.Test.YtckkmmdibgoajaaGreatV11
import Derived.Test.YtckkmmdibgoajaaGreatV12
import Derived.Test.YtckkmmdibgoajaaGreatV13
import Derived.Deep.RegionHeld3
import Derived.Deep.QuietTactic
import Derived.Deep.DeepCutAuto
set_option linter.unusedVariables false
namespace Go.Proofs.YtckkmmdibgoajaaGreat
open Go.RowKit
theorem ens_in {H : Type} {enc : TypeId × Value → H} {W : World} {a : Option Addr} {n cap fuel : Nat} {z : DataW H × List MemPlace}
    (h : DataW.trod enc Tryz.prog W 0 (fun _ => true) true fuel 22 (Value.slice a n cap).cells.toList = some z) : n ≤ cap ∧ cap ≤ maxLen ∧ ∃ raw : List En, raw.length = n ∧ EnsAt W a raw := by
  have hf := fields_in Tryz.underlying22 Tryz.underlying25 (by kernel_rfl) (by kernel_rfl) h
  have hx : ∀ r, r < n → ∃ e : En, (∃ b off, a = some ⟨b, off, none⟩ ∧ b < W.heap.size ∧ W.cell? ⟨b, off + r * 2, none⟩ = some (.int .i64 e.key) ∧ W.cell? ⟨b, off + r * 2 + 1, none⟩ = some (.int .i64 e.val)) ∧ i64R e.key ∧ i64R e.val := by
    intro r hr
    obtain ⟨b, off, v, y, m, rfl, hlt, h1, h2⟩ := hf.2.2 r hr 0 _ rfl
    obtain ⟨b', off', v', y', m', he, _, h1', h2'⟩ := hf.2.2 r hr 1 _ rfl
    simp only [Option.some.injEq, Addr.mk.injEq, and_true] at he
    obtain ⟨rfl, rfl⟩ := he
    obtain ⟨key, hv, _, hw⟩ := DataW.trod_int Tryz.underlying2 h2
    obtain ⟨val, hv', _, hw'⟩ := DataW.trod_int Tryz.underlying2 h2'
    simp only [List.cons.injEq, and_true] at hv hv'
    subst hv hv'
    exact ⟨⟨key, val⟩, ⟨b, off, rfl, hlt, h1, h1'⟩, bounds_i64 hw, bounds_i64 hw'⟩
  clear hf
  obtain ⟨f, hff⟩ : ∃ f : Nat → En, ∀ r, r < n → (∃ b off, a = some ⟨b, off, none⟩ ∧ b < W.heap.size ∧ W.cell? ⟨b, off + r * 2, none⟩ = some (.int .i64 (f r).key) ∧ W.cell? ⟨b, off + r * 2 + 1, none⟩ = some (.int .i64 (f r).val)) ∧ i64R (f r).key ∧ i64R (f r).val := by
    classical
    refine ⟨fun r => if h : r < n then (hx r h).choose else ⟨0, 0⟩, fun r hr => ?_⟩
    simp only [dif_pos hr]
    exact (hx r hr).choose_spec
  have hg : n ≤ cap ∧ cap ≤ maxLen := ⟨(fields_in Tryz.underlying22 Tryz.underlying25 (by kernel_rfl) (by kernel_rfl) h).1, (fields_in Tryz.underlying22 Tryz.underlying25 (by kernel_rfl) (by kernel_rfl) h).2.1⟩
  refine ⟨hg.1, hg.2, (List.range n).map f, by simp, ⟨fun j e he => ?_, fun e he => ?_⟩⟩
  · rw [List.getElem?_map] at he
    obtain ⟨x, hx1, hx2⟩ := Option.map_eq_some_iff.1 he
    have hj : j < n := by have := (List.getElem?_eq_some_iff.1 hx1).1; simpa using this
    have hxj : x = j := by rw [List.getElem?_range hj] at hx1; exact (Option.some.inj hx1).symm
    subst hxj
    rw [← hx2]
    exact (hff x hj).1
  · obtain ⟨x, hx1, hx2⟩ := List.mem_map.1 he
    rw [← hx2]
    exact (hff x (List.mem_range.1 hx1)).2
end Go.Proofs.YtckkmmdibgoajaaGreat
set_option linter.unusedVariables false
namespace Go.Proofs.YtckkmmdibgoajaaGreat
open Go.RowKit
theorem take_oneE {cs : List Value} {k : Nat} {v : Value} (h : (cs.drop k).take 1 = [v]) : cs[k]? = some v := by
  cases hq : cs.drop k with
  | nil => rw [hq] at h; simp at h
  | cons a t =>
    rw [hq] at h
    simp at h
    have := congrArg (fun l => l[0]?) hq
    simp [List.getElem?_drop] at this
    rw [this, h]
theorem en_in {H : Type} {enc : TypeId × Value → H} {W : World} {m : Nat} {cs : List Value} {y : DataW H × List MemPlace} (h : DataW.trod enc Tryz.prog W 0 (fun _ => true) true m 25 cs = some y) :
    ∃ x : En, (i64R x.key ∧ i64R x.val) ∧ cs = [.int .i64 x.key, .int .i64 x.val] := by
  obtain ⟨xs, n1, _, _, hlen, hxl, hg⟩ := DataW.trod_struct Tryz.underlying25 h
  have hC : Tryz.prog.cellsOf 25 = 2 := by kernel_rfl
  have hC6 : Tryz.prog.cellsOf 2 = 1 := by kernel_rfl
  rw [hC] at hlen
  have hx : ∀ i, i < 2 → ∃ z, xs[i]? = some z := fun i hi => ⟨xs[i]'(by rw [hxl]; exact hi), List.getElem?_eq_getElem _⟩
  obtain ⟨z0, hz0⟩ := hx 0 (by decide)
  obtain ⟨z1, hz1⟩ := hx 1 (by decide)
  have g0 := hg 0 _ rfl
  have g1 := hg 1 _ rfl
  rw [hz0] at g0
  rw [hz1] at g1
  obtain ⟨kx, e0, _, w0⟩ := DataW.trod_int Tryz.underlying2 g0
  obtain ⟨vx, e1, _, w1⟩ := DataW.trod_int Tryz.underlying2 g1
  refine ⟨⟨kx, vx⟩, ⟨bounds_i64 w0, bounds_i64 w1⟩, ?_⟩
  have a0 : (cs.drop 0).take (Tryz.prog.cellsOf 2) = [.int .i64 kx] := e0
  have a1 : (cs.drop 1).take (Tryz.prog.cellsOf 2) = [.int .i64 vx] := e1
  rw [hC6] at a0 a1
  have c0 := take_oneE a0
  have c1 := take_oneE a1
  show cs = [.int .i64 kx, .int .i64 vx]
  clear h hg g0 g1 e0 e1 a0 a1
  obtain ⟨v0, v1, rfl⟩ : ∃ v0 v1, cs = [v0, v1] := by
    clear c0 c1
    match cs, hlen with
    | [a, b], _ => exact ⟨a, b, rfl⟩
  have d0 : v0 = .int .i64 kx := Option.some.inj c0
  have d1 : v1 = .int .i64 vx := Option.some.inj c1
  rw [d0, d1]
end Go.Proofs.YtckkmmdibgoajaaGreat
set_option linter.unusedVariables false
set_option linter.unusedSimpArgs false
namespace Go.Proofs.YtckkmmdibgoajaaGreat
open Go.RowKit
theorem two_alloc (w : World) (x y : Array Value) (ty : TypeId) : ((w.alloc (.cells x ty)).alloc (.cells y ty)).drew.heap[w.heap.size]? = some (.cells x ty (0, 0)) ∧ ((w.alloc (.cells x ty)).alloc (.cells y ty)).drew.heap[w.heap.size + 1]? = some (.cells y ty (0, 0)) ∧ Below w.heap.size w ((w.alloc (.cells x ty)).alloc (.cells y ty)).drew := by
  have e1 : (w.alloc (.cells x ty)).heap.size = w.heap.size + 1 := by simp
  have h1 := heap_alloc_new w (.cells x ty)
  have h2 := heap_alloc_new (w.alloc (.cells x ty)) (.cells y ty)
  rw [e1] at h2
  have hb := below_newL (w.alloc (.cells x ty)) (.cells y ty)
  exact ⟨(hb.block _ (by omega)).trans h1, h2, ((below_newL w _).trans (hb.mono (by omega))).drew⟩
/-- every allocated slot is allocated later, with the same node and generation -/
def KeptS (n : Nat) (S T : Nat → Sl) : Prop := ∀ j, j < n → (S j).on = true → (T j).on = true ∧ (T j).nd = (S j).nd ∧ (T j).gen = (S j).gen
set_option maxHeartbeats 4000000 in
set_option maxRecDepth 100000 in
theorem kept_any {w : World} {a a' b b' : Option Addr} {n c c' m m' d d' : Nat} {S T : Nat → Sl} (h : SlotsAt w a n S) (h' : SlotsAt w a' n T) (hk : KeptS n S T) (hn : n ≤ 65536) :
    Calls Tryz.prog 25 #[.agg #[.slice a n c, .slice b m d], .agg #[.slice a' n c', .slice b' m' d']] w (Calm w (.bool true)) := by
  have hni : (n : Int) ≤ 65536 := by omega
  have HKK := Lib.hid hk
  have hx := (below_newL (w.alloc (Obj.cells #[.slice a n c, .slice b m d] 41)) (Obj.cells #[.slice a' n c', .slice b' m' d'] 41)).block w.heap.size (by simp) |>.trans (heap_alloc_new w (Obj.cells #[.slice a n c, .slice b m d] 41))
  have hy := heap_alloc_new (w.alloc (Obj.cells #[.slice a n c, .slice b m d] 41)) (Obj.cells #[.slice a' n c', .slice b' m' d'] 41)
  rw [show (w.alloc (Obj.cells #[.slice a n c, .slice b m d] 41)).heap.size = w.heap.size + 1 by simp] at hy
  have hb2 : Below w.heap.size w ((w.alloc (Obj.cells #[.slice a n c, .slice b m d] 41)).alloc (Obj.cells #[.slice a' n c', .slice b' m' d'] 41)) := (below_newL w _).trans ((below_newL _ _).mono (by simp))
  have hl2 : w.heap.size + 1 < ((w.alloc (Obj.cells #[.slice a n c, .slice b m d] 41)).alloc (Obj.cells #[.slice a' n c', .slice b' m' d'] 41)).heap.size := by simp
  have hS2 := h.below hb2
  have hT2 := h'.below hb2
  clear h h' hk
  go_enter Tryz.func25, Tryz.ntmps25
  go_upto_region 1 with fail
  generalize (w.alloc (Obj.cells #[.slice a n c, .slice b m d] 41)).alloc (Obj.cells #[.slice a' n c', .slice b' m' d'] 41) = w2 at hx hy hb2 hl2 hS2 hT2 ⊢
  obtain ⟨g1, hg1⟩ : ∃ g, w.heap.size = g := ⟨_, rfl⟩
  obtain ⟨g2, hg2⟩ : ∃ g, g1 + 1 = g := ⟨_, rfl⟩
  rw [hg1] at hx hy hl2 ⊢
  rw [hg2] at hy hl2 ⊢
  have HX := Lib.hid hx
  have HY := Lib.hid hy
  have HB2 := Lib.hid hb2
  have HL2 : Hid (g1 < w2.heap.size ∧ g2 < w2.heap.size) := ⟨by omega, hl2⟩
  have HS2 := Lib.hid hS2
  have HT2 := Lib.hid hT2
  clear hx hy hb2 hl2 hS2 hT2 hg1 hg2
  have HC : Hid (∀ wx, Below w2.heap.size w2 wx → wx.cell? ⟨g1, 0, none⟩ = some (.slice a n c) ∧ wx.cell? ⟨g2, 0, none⟩ = some (.slice a' n c')) := fun wx hb =>
    ⟨by rw [cell_of_row _ _ _ _ _ _ ((hb.block g1 HL2.out.1).trans HX.out)]; rfl, by rw [cell_of_row _ _ _ _ _ _ ((hb.block g2 HL2.out.2).trans HY.out)]; rfl⟩
  obtain ⟨c0, d0⟩ := HC.out w2 (Below.refl _ _)
  go_wp2_with fail
  clear c0 d0
  go_loopw [5] (fun i wr => ∃ k : Nat, k ≤ n ∧ i = .int .i64 (k : Int) ∧ Below w2.heap.size w2 wr) (fun i _ => n - (intOf i).toNat)
  case atStart => exact ⟨0, Nat.zero_le _, rfl, Below.refl _ _⟩
  case round =>
    obtain ⟨k, hk, rfl, hbr⟩ := hrel
    have HBR := Lib.hid hbr
    obtain ⟨c0, d0⟩ := HC.out wr hbr
    by_cases hlt : k < n
    · have hki : (k : Int) < (n : Int) := by omega
      have hk0 : (0 : Int) ≤ (k : Int) := by omega
      have HLT := Lib.hid hlt
      obtain ⟨p, off, hap, hp, s0, s1, s2, s3, s4, s5, s6, s7, s8, s9, s10⟩ := (HS2.out.below hbr).all hlt
      obtain ⟨p', off', hap', hp', t0, t1, t2, t3, t4, t5, t6, t7, t8, t9, t10⟩ := (HT2.out.below hbr).all hlt
      have HEQ : Hid ((S k).on = true → (T k).on = true ∧ (T k).gen = (S k).gen ∧ (T k).nd.key = (S k).nd.key ∧ (T k).nd.val = (S k).nd.val ∧ ((T k).nd.left : Int) = ((S k).nd.left : Int) ∧ ((T k).nd.right : Int) = ((S k).nd.right : Int) ∧ (T k).nd.size = (S k).nd.size ∧ (T k).nd.sum = (S k).nd.sum ∧ (T k).nd.mn = (S k).nd.mn ∧ (T k).nd.mx = (S k).nd.mx) := fun ho => by
        obtain ⟨e1, e2, e3⟩ := HKK.out k HLT.out ho
        rw [e2]
        exact ⟨e1, e3, rfl, rfl, rfl, rfl, rfl, rfl, rfl, rfl⟩
      generalize (S k).on = x0 at s0 HEQ
      generalize (S k).cnt = x1 at s1
      generalize (S k).gen = x2 at s2 HEQ
      generalize (S k).nd.key = x3 at s3 HEQ
      generalize (S k).nd.val = x4 at s4 HEQ
      generalize ((S k).nd.left : Int) = x5 at s5 HEQ
      generalize ((S k).nd.right : Int) = x6 at s6 HEQ
      generalize (S k).nd.size = x7 at s7 HEQ
      generalize (S k).nd.sum = x8 at s8 HEQ
      generalize (S k).nd.mn = x9 at s9 HEQ
      generalize (S k).nd.mx = x10 at s10 HEQ
      generalize (T k).on = y0 at t0 HEQ
      generalize (T k).cnt = y1 at t1
      generalize (T k).gen = y2 at t2 HEQ
      generalize (T k).nd.key = y3 at t3 HEQ
      generalize (T k).nd.val = y4 at t4 HEQ
      generalize ((T k).nd.left : Int) = y5 at t5 HEQ
      generalize ((T k).nd.right : Int) = y6 at t6 HEQ
      generalize (T k).nd.size = y7 at t7 HEQ
      generalize (T k).nd.sum = y8 at t8 HEQ
      generalize (T k).nd.mn = y9 at t9 HEQ
      generalize (T k).nd.mx = y10 at t10 HEQ
      subst hap
      subst hap'
      clear hk hlt hbr
      go_upto_region 6 with fail
      go_cut [6, 7] (fun s6 s7 wx => ∃ gx gy : Nat, s6 = .pointer (some ⟨gx, 0, none⟩) ∧ s7 = .pointer (some ⟨gy, 0, none⟩) ∧ wx.heap[gx]? = some (.cells #[.bool x0, .int .i64 x1, .int .u32 x2, .int .i64 x3, .int .i64 x4, .int .u32 x5, .int .u32 x6, .int .i64 x7, .int .i64 x8, .int .i64 x9, .int .i64 x10] 90 (0, 0)) ∧ wx.heap[gy]? = some (.cells #[.bool y0, .int .i64 y1, .int .u32 y2, .int .i64 y3, .int .i64 y4, .int .u32 y5, .int .u32 y6, .int .i64 y7, .int .i64 y8, .int .i64 y9, .int .i64 y10] 90 (0, 0)) ∧ Below wr.heap.size wr wx)
      case first =>
        obtain ⟨c0, d0⟩ := HC.out wr.drew HBR.out.drew
        go_region_held3 (fun w' => w'.cell? ⟨g1, 0, none⟩ = some (.slice (some ⟨p, off, none⟩) n c) ∧ w'.cell? ⟨g2, 0, none⟩ = some (.slice (some ⟨p', off', none⟩) n c') ∧ w'.cell? ⟨p, off + k * 11, none⟩ = some (.bool x0) ∧ w'.cell? ⟨p, off + k * 11 + 1, none⟩ = some (.int .i64 x1) ∧ w'.cell? ⟨p, off + k * 11 + 2, none⟩ = some (.int .u32 x2) ∧ w'.cell? ⟨p, off + k * 11 + 3, none⟩ = some (.int .i64 x3) ∧ w'.cell? ⟨p, off + k * 11 + 4, none⟩ = some (.int .i64 x4) ∧ w'.cell? ⟨p, off + k * 11 + 5, none⟩ = some (.int .u32 x5) ∧ w'.cell? ⟨p, off + k * 11 + 6, none⟩ = some (.int .u32 x6) ∧ w'.cell? ⟨p, off + k * 11 + 7, none⟩ = some (.int .i64 x7) ∧ w'.cell? ⟨p, off + k * 11 + 8, none⟩ = some (.int .i64 x8) ∧ w'.cell? ⟨p, off + k * 11 + 9, none⟩ = some (.int .i64 x9) ∧ w'.cell? ⟨p, off + k * 11 + 10, none⟩ = some (.int .i64 x10) ∧ w'.cell? ⟨p', off' + k * 11, none⟩ = some (.bool y0) ∧ w'.cell? ⟨p', off' + k * 11 + 1, none⟩ = some (.int .i64 y1) ∧ w'.cell? ⟨p', off' + k * 11 + 2, none⟩ = some (.int .u32 y2) ∧ w'.cell? ⟨p', off' + k * 11 + 3, none⟩ = some (.int .i64 y3) ∧ w'.cell? ⟨p', off' + k * 11 + 4, none⟩ = some (.int .i64 y4) ∧ w'.cell? ⟨p', off' + k * 11 + 5, none⟩ = some (.int .u32 y5) ∧ w'.cell? ⟨p', off' + k * 11 + 6, none⟩ = some (.int .u32 y6) ∧ w'.cell? ⟨p', off' + k * 11 + 7, none⟩ = some (.int .i64 y7) ∧ w'.cell? ⟨p', off' + k * 11 + 8, none⟩ = some (.int .i64 y8) ∧ w'.cell? ⟨p', off' + k * 11 + 9, none⟩ = some (.int .i64 y9) ∧ w'.cell? ⟨p', off' + k * 11 + 10, none⟩ = some (.int .i64 y10)) (go_keep) (fail)
        all_goals (go_wp2_with fail; go_meet)
        · have h := two_alloc wr #[.bool x0, .int .i64 x1, .int .u32 x2, .int .i64 x3, .int .i64 x4, .int .u32 x5, .int .u32 x6, .int .i64 x7, .int .i64 x8, .int .i64 x9, .int .i64 x10] #[.bool y0, .int .i64 y1, .int .u32 y2, .int .i64 y3, .int .i64 y4, .int .u32 y5, .int .u32 y6, .int .i64 y7, .int .i64 y8, .int .i64 y9, .int .i64 y10] 90
          exact ⟨_, _, rfl, rfl, h.1, h.2.1, h.2.2⟩
        · have h := two_alloc wr #[.bool y0, .int .i64 y1, .int .u32 y2, .int .i64 y3, .int .i64 y4, .int .u32 y5, .int .u32 y6, .int .i64 y7, .int .i64 y8, .int .i64 y9, .int .i64 y10] #[.bool x0, .int .i64 x1, .int .u32 x2, .int .i64 x3, .int .i64 x4, .int .u32 x5, .int .u32 x6, .int .i64 x7, .int .i64 x8, .int .i64 x9, .int .i64 x10] 90
          exact ⟨_, _, rfl, rfl, h.2.1, h.1, h.2.2⟩
      case' rest =>
        rename World => w5
        obtain ⟨gx, gy, rfl, rfl, hgx, hgy, hb5⟩ := hcut
        have HB5 : Hid (Below w2.heap.size w2 w5) := HBR.out.trans (hb5.mono HBR.out.size)
        have cx : ∀ j v, #[.bool x0, .int .i64 x1, .int .u32 x2, .int .i64 x3, .int .i64 x4, .int .u32 x5, .int .u32 x6, .int .i64 x7, .int .i64 x8, .int .i64 x9, .int .i64 x10][j]? = some v → w5.cell? ⟨gx, j, none⟩ = some v := fun j v hj => by rw [cell_of_row _ _ _ _ _ _ hgx]; exact hj
        have cy : ∀ j v, #[.bool y0, .int .i64 y1, .int .u32 y2, .int .i64 y3, .int .i64 y4, .int .u32 y5, .int .u32 y6, .int .i64 y7, .int .i64 y8, .int .i64 y9, .int .i64 y10][j]? = some v → w5.cell? ⟨gy, j, none⟩ = some v := fun j v hj => by rw [cell_of_row _ _ _ _ _ _ hgy]; exact hj
        have s0 : w5.cell? ⟨gx, 0, none⟩ = some (.bool x0) := cx 0 _ rfl
        have t0 : w5.cell? ⟨gy, 0, none⟩ = some (.bool y0) := cy 0 _ rfl
        have s1 : w5.cell? ⟨gx, 1, none⟩ = some (.int .i64 x1) := cx 1 _ rfl
        have t1 : w5.cell? ⟨gy, 1, none⟩ = some (.int .i64 y1) := cy 1 _ rfl
        have s2 : w5.cell? ⟨gx, 2, none⟩ = some (.int .u32 x2) := cx 2 _ rfl
        have t2 : w5.cell? ⟨gy, 2, none⟩ = some (.int .u32 y2) := cy 2 _ rfl
        have s3 : w5.cell? ⟨gx, 3, none⟩ = some (.int .i64 x3) := cx 3 _ rfl
        have t3 : w5.cell? ⟨gy, 3, none⟩ = some (.int .i64 y3) := cy 3 _ rfl
        have s4 : w5.cell? ⟨gx, 4, none⟩ = some (.int .i64 x4) := cx 4 _ rfl
        have t4 : w5.cell? ⟨gy, 4, none⟩ = some (.int .i64 y4) := cy 4 _ rfl
        have s5 : w5.cell? ⟨gx, 5, none⟩ = some (.int .u32 x5) := cx 5 _ rfl
        have t5 : w5.cell? ⟨gy, 5, none⟩ = some (.int .u32 y5) := cy 5 _ rfl
        have s6 : w5.cell? ⟨gx, 6, none⟩ = some (.int .u32 x6) := cx 6 _ rfl
        have t6 : w5.cell? ⟨gy, 6, none⟩ = some (.int .u32 y6) := cy 6 _ rfl
        have s7 : w5.cell? ⟨gx, 7, none⟩ = some (.int .i64 x7) := cx 7 _ rfl
        have t7 : w5.cell? ⟨gy, 7, none⟩ = some (.int .i64 y7) := cy 7 _ rfl
        have s8 : w5.cell? ⟨gx, 8, none⟩ = some (.int .i64 x8) := cx 8 _ rfl
        have t8 : w5.cell? ⟨gy, 8, none⟩ = some (.int .i64 y8) := cy 8 _ rfl
        have s9 : w5.cell? ⟨gx, 9, none⟩ = some (.int .i64 x9) := cx 9 _ rfl
        have t9 : w5.cell? ⟨gy, 9, none⟩ = some (.int .i64 y9) := cy 9 _ rfl
        have s10 : w5.cell? ⟨gx, 10, none⟩ = some (.int .i64 x10) := cx 10 _ rfl
        have t10 : w5.cell? ⟨gy, 10, none⟩ = some (.int .i64 y10) := cy 10 _ rfl
        clear cx cy hgx hgy hb5 c0 d0
        cases x0 with
        | false =>
          clear HEQ
          go_wp2_with fail
          exact ⟨⟨k + 1, by have := HLT.out; omega, by go_num, HB5.out⟩, by have := HLT.out; simp [intOf]; omega⟩
        | true =>
          obtain ⟨rfl, rfl, rfl, rfl, rfl, rfl, rfl, rfl, rfl, rfl⟩ := HEQ.out rfl
          clear HEQ
          have e2 : (y2 == y2) = true := by simp
          have f2 : (y2 != y2) = false := by simp
          have e3 : (y3 == y3) = true := by simp
          have f3 : (y3 != y3) = false := by simp
          have e4 : (y4 == y4) = true := by simp
          have f4 : (y4 != y4) = false := by simp
          have e5 : (y5 == y5) = true := by simp
          have f5 : (y5 != y5) = false := by simp
          have e6 : (y6 == y6) = true := by simp
          have f6 : (y6 != y6) = false := by simp
          have e7 : (y7 == y7) = true := by simp
          have f7 : (y7 != y7) = false := by simp
          have e8 : (y8 == y8) = true := by simp
          have f8 : (y8 != y8) = false := by simp
          have e9 : (y9 == y9) = true := by simp
          have f9 : (y9 != y9) = false := by simp
          have e10 : (y10 == y10) = true := by simp
          have f10 : (y10 != y10) = false := by simp
          go_wp2_with fail
          exact ⟨⟨k + 1, by have := HLT.out; omega, by go_num, HB5.out⟩, by have := HLT.out; simp [intOf]; omega⟩
    · obtain rfl : k = n := by omega
      clear hk hlt
      go_wp2_with fail
      go_ret
      exact ⟨rfl, HB2.out.trans (HBR.out.mono HB2.out.size)⟩
end Go.Proofs.YtckkmmdibgoajaaGreat
set_option linter.unusedVariables false
namespace Go.Proofs.YtckkmmdibgoajaaGreat
open Go.RowKit
set_option maxHeartbeats 2000000 in
set_option maxRecDepth 100000 in
theorem same_slots {w : World} {a a' : Option Addr} {n c c' : Nat} {S : Nat → Sl} (h : SlotsAt w a n S) (h' : SlotsAt w a' n S) (hn : n ≤ 65536) :
    Calls Tryz.prog 58 #[.slice a n c, .slice a' n c'] w (Calm w (.bool true)) := by
  have hni : (n : Int) ≤ 65536 := by omega
  have HH := Lib.hid h
  have HH' := Lib.hid h'
  clear h h'
  go_enter Tryz.func58, Tryz.ntmps58
  go_wp2
  go_loopw [5] (fun i wr => ∃ k : Nat, k ≤ n ∧ i = .int .i64 (k : Int) ∧ ∃ d, wr = w.drewN d) (fun i _ => n - (intOf i).toNat)
  case atStart => exact ⟨0, Nat.zero_le _, rfl, 0, rfl⟩
  case round =>
    obtain ⟨k, hk, rfl, d, rfl⟩ := hrel
    by_cases hlt : k < n
    · have hki : (k : Int) < (n : Int) := by omega
      have hk0 : (0 : Int) ≤ (k : Int) := by omega
      obtain ⟨b, off, rfl, hb, d0, d1, d2, d3, d4, d5, d6, d7, d8, d9, d10⟩ := HH.out.all hlt
      obtain ⟨b', off', rfl, hb', e0, e1, e2, e3, e4, e5, e6, e7, e8, e9, e10⟩ := HH'.out.all hlt
      generalize (S k).on = x0 at d0 e0
      generalize (S k).cnt = x1 at d1 e1
      generalize (S k).gen = x2 at d2 e2
      generalize (S k).nd.key = x3 at d3 e3
      generalize (S k).nd.val = x4 at d4 e4
      generalize ((S k).nd.left : Int) = x5 at d5 e5
      generalize ((S k).nd.right : Int) = x6 at d6 e6
      generalize (S k).nd.size = x7 at d7 e7
      generalize (S k).nd.sum = x8 at d8 e8
      generalize (S k).nd.mn = x9 at d9 e9
      generalize (S k).nd.mx = x10 at d10 e10
      go_wp2
      go_quiet (fail)
      go_wp2
      exact ⟨⟨k + 1, by omega, by go_num, _, rfl⟩, by simp [intOf]; omega⟩
    · obtain rfl : k = n := by omega
      go_wp2
      go_ret
      exact ⟨rfl, below_drewN (Below.refl _ _) d⟩
end Go.Proofs.YtckkmmdibgoajaaGreat
set_option linter.unusedVariables false
namespace Go.Proofs.YtckkmmdibgoajaaGreat
open Go.RowKit
theorem u32s_nth {l : List Nat} {j : Nat} (h : j < l.length) : (u32s l)[j]? = some (.int .u32 ((l.getD j 0 : Nat) : Int)) := by
  simp [u32s, List.getD_eq_getElem?_getD, h]
set_option maxHeartbeats 400000 in
theorem same_rows {B B' : Nat} {a a' : Option Addr} {c c' : Nat} (l : List Nat) (w : World) (hl : (l.length : Int) ≤ 65536) (h : w.ownsRow B 30 1 (.slice a l.length c) l.length (u32s l)) (h' : w.ownsRow B' 30 1 (.slice a' l.length c') l.length (u32s l)) :
    Calls Tryz.prog 59 #[.slice a l.length c, .slice a' l.length c'] w (Calm w (.bool true)) := by
  have HH := Lib.hid h
  have HH' := Lib.hid h'
  clear h h'
  obtain ⟨n, hn⟩ : ∃ n, n = l.length := ⟨_, rfl⟩
  rw [← hn] at hl ⊢
  have HN := Lib.hid hn
  clear hn
  go_enter Tryz.func59, Tryz.ntmps59
  go_wp2
  go_loopw [5] (fun i wr => ∃ k : Nat, k ≤ n ∧ i = .int .i64 k ∧ ∃ q, wr = w.drewN q) (fun i _ => n - (intOf i).toNat)
  case atStart => exact ⟨0, Nat.zero_le _, rfl, 0, rfl⟩
  case round =>
    obtain ⟨k, hk, rfl, q, rfl⟩ := hrel
    by_cases hlt : k < n
    · have hk2 : k < l.length := by rw [← HN.out]; exact hlt
      obtain ⟨b, rfl, hbb, hc⟩ := row_cell HH.out hk2
      obtain ⟨b', rfl, hbb', hc'⟩ := row_cell HH'.out hk2
      rw [u32s_nth hk2] at hc hc'
      have hlt' : (k : Int) < (n : Int) := by omega
      have hk0 : (0 : Int) ≤ (k : Int) := by omega
      generalize ((l.getD k 0 : Nat) : Int) = x at hc hc'
      have hne : (x != x) = false := by simp
      clear hk2
      go_wp2
      go_quiet (fail)
      go_wp2
      exact ⟨⟨k + 1, by omega, by go_num, _, rfl⟩, by simp [intOf]; omega⟩
    · obtain rfl : k = n := by omega
      go_wp2
      go_ret
      exact ⟨rfl, below_drewN (Below.refl _ _) q⟩
end Go.Proofs.YtckkmmdibgoajaaGreat
set_option linter.unusedVariables false
namespace Go.Proofs.YtckkmmdibgoajaaGreat
open Go.RowKit
theorem same_rows_at {B B' M : Nat} {a a' : Option Addr} {c c' : Nat} (l : List Nat) {w : World} (hM : l.length = M) (hl : (M : Int) ≤ 65536) (h : w.ownsRow B 30 1 (.slice a M c) M (u32s l)) (h' : w.ownsRow B' 30 1 (.slice a' M c') M (u32s l)) :
    Calls Tryz.prog 59 #[.slice a M c, .slice a' M c'] w (Calm w (.bool true)) := by
  subst hM
  exact same_rows l w hl h h'
set_option maxHeartbeats 2000000 in
set_option maxRecDepth 100000 in
theorem same_dump {w : World} {a a' b b' : Option Addr} {c c' d d' n M B B' : Nat} {S : Nat → Sl} (fr : List Nat) (hM : fr.length = M) (h : SlotsAt w a n S) (h' : SlotsAt w a' n S) (hf : w.ownsRow B 30 1 (.slice b M d) M (u32s fr)) (hf' : w.ownsRow B' 30 1 (.slice b' M d') M (u32s fr)) (hn : n ≤ 65536) (hm : M ≤ 65536) :
    Calls Tryz.prog 22 #[.agg #[.slice a n c, .slice b M d], .agg #[.slice a' n c', .slice b' M d']] w (Calm w (.bool true)) := by
  have hb1 := below_new7 w (Obj.cells #[Value.slice a n c, Value.slice b M d] 41)
  have hb2 := below_new7 (w.alloc (Obj.cells #[Value.slice a n c, Value.slice b M d] 41)) (Obj.cells #[Value.slice a' n c', Value.slice b' M d'] 41)
  have hbb := below_chain7 hb1 hb2
  have hx1 := two_cells (heap_alloc2_old w (Obj.cells #[Value.slice a n c, Value.slice b M d] 41) (Obj.cells #[Value.slice a' n c', Value.slice b' M d'] 41))
  have hx2 := two_cells (heap_alloc2_new w (Obj.cells #[Value.slice a n c, Value.slice b M d] 41) (Obj.cells #[Value.slice a' n c', Value.slice b' M d'] 41))
  have HS := Lib.hid (h.below hbb)
  have HS' := Lib.hid (h'.below hbb)
  have HF := Lib.hid (row_below hf hbb)
  have HF' := Lib.hid (row_below hf' hbb)
  have HB := Lib.hid hbb
  have HX1 := Lib.hid (heap_alloc2_old w (Obj.cells #[Value.slice a n c, Value.slice b M d] 41) (Obj.cells #[Value.slice a' n c', Value.slice b' M d'] 41))
  have HX2 := Lib.hid (heap_alloc2_new w (Obj.cells #[Value.slice a n c, Value.slice b M d] 41) (Obj.cells #[Value.slice a' n c', Value.slice b' M d'] 41))
  obtain ⟨c0, c1⟩ := hx1
  obtain ⟨e0, e1⟩ := hx2
  clear h h' hf hf' hb1 hb2 hbb
  go_enter Tryz.func22, Tryz.ntmps22
  go_upto_region 1 with fail
  generalize (w.alloc (Obj.cells #[Value.slice a n c, Value.slice b M d] 41)).alloc (Obj.cells #[Value.slice a' n c', Value.slice b' M d'] 41) = w1 at HS HS' HF HF' HB HX1 HX2 c0 c1 e0 e1 ⊢
  have hlt1 : w.heap.size < w1.heap.size := (Array.getElem?_eq_some_iff.1 HX1.out).1
  have hlt2 : w.heap.size + 1 < w1.heap.size := (Array.getElem?_eq_some_iff.1 HX2.out).1
  obtain ⟨p, hp⟩ : ∃ p, w.heap.size = p := ⟨_, rfl⟩
  rw [hp] at HX1 HX2 HB c0 c1 e0 e1 hlt1 hlt2 ⊢
  have HPP := Lib.hid hp
  clear hp
  go_wp2_with fail
  refine (same_slots HS.out HS'.out hn).mono ?_
  rintro e w2 ⟨rfl, hb2⟩
  have hY1 := (hb2.block _ hlt1).trans HX1.out
  have hY2 := (hb2.block _ hlt2).trans HX2.out
  clear c0 c1 e0 e1
  obtain ⟨c0, c1⟩ := two_cells hY1
  obtain ⟨e0, e1⟩ := two_cells hY2
  have HG := Lib.hid (row_below HF.out hb2)
  have HG' := Lib.hid (row_below HF'.out hb2)
  have HBB := Lib.hid (HB.out.trans (hb2.mono (by rw [← HPP.out]; exact HB.out.size)))
  clear hY1 hY2 hb2 hlt1 hlt2
  go_wp2_with fail
  refine (same_rows_at fr hM (by omega) HG.out HG'.out).mono ?_
  rintro e w3 ⟨rfl, hb3⟩
  have HB3 := Lib.hid (HBB.out.trans (hb3.mono (by rw [← HPP.out]; exact HBB.out.size)))
  clear hb3 c0 c1 e0 e1
  go_wp2_with fail
  go_ret
  exact ⟨rfl, by rw [HPP.out]; exact HB3.out⟩
end Go.Proofs.YtckkmmdibgoajaaGreat
set_option linter.unusedVariables false
set_option linter.unusedSimpArgs false
namespace Go.Proofs.YtckkmmdibgoajaaGreat
open Go.RowKit
theorem wp_append_ens {o : Oper} {a : Act} {w w2 : World} {K : Act → World → Prop} {Q : Exit → Act → World → Prop} {Z : Nat} {l0 l : List En} {v : Value} (s x : Operand)
    (ho : o.op = .call { callee := .builtin .append, args := #[s, x], argTypes := #[22, 22] })
    (hc : ESt Z w2 l0 v w) (hZ : w2.heap.size = Z) (hs : a.eval s = v) (ad : Option Addr) (c m : Nat) (hm : l.length = m) (hx : a.eval x = .slice ad m c) (hrow : EnsAt w ad l) (hl : l0.length + m ≤ 100000000)
    (h : ∀ v' w', ESt Z w2 (l0 ++ l) v' w' → K (a.put o.dst v') w') : Oper.wp Tryz.prog o a w K Q := by
  obtain ⟨i, ji, jz0, jz1, jz2⟩ := info_parts enInfo
  subst hm
  cases ad with
  | some x0 =>
    refine wp_append_own w s x 22 ho Z 25 i (.agg #[.int .i64 0, .int .i64 0]) 2 16 Tryz.underlying22 ji jz0 jz1 jz2 rfl (by decide) v l0.length (ensV l0) hs hc.row x0 l.length c (ensV l) hx (ensV_len l) hrow.cellV (ensV_ones l) (by unfold maxLen; omega) (by omega) (by have := hc.below.size; omega) ?_
    intro v' w' ho' hg _
    refine h v' w' ?_
    obtain ⟨a', c', hv⟩ := row_val ho'
    refine ⟨⟨a', c', by rw [List.length_append]; exact hv⟩, ?_, hc.below.grown hg (by have := hc.below.size; omega) (row_from hc.row)⟩
    rw [List.length_append, ensV_app]
    exact ho'
  | none =>
    have hl0 : l = [] := by
      cases l with
      | nil => rfl
      | cons y t => obtain ⟨_, _, hb, _⟩ := hrow.cell 0 y rfl; cases hb
    subst hl0
    have hK2 := h v w (by rw [List.append_nil]; exact hc)
    unfold Oper.wp
    simp only [List.length_nil] at hx
    have hc0 : ∀ c', (Builtin.append_ #[22, 22] o.type #[v, .slice none 0 c']).run Tryz.prog w = .ok v w := fun c' => by
      refine Eq.trans ?_ (run_append_owned_none (P := Tryz.prog) (w := w) Z 22 o.type 25 i 2 Tryz.underlying22 ji v l0.length (ensV l0) hc.row)
      rfl
    simp [execOp, ho, resolve, invoke, builtin, hs, hx, hc0, Result.andThen]
    exact hK2
theorem step_append_ens {ops : Array Oper} {o : Oper} {a : Act} {w w2 : World} {K : Act → World → Prop} {Q : Exit → Act → World → Prop} {E : Prop} {Z : Nat} {l0 l : List En} {v : Value} (hgd : o.guard = none) (s x : Operand)
    (ho : o.op = .call { callee := .builtin .append, args := #[s, x], argTypes := #[22, 22] })
    (hc : ESt Z w2 l0 v w) (hZ : w2.heap.size = Z) (hs : a.eval s = v) (ad : Option Addr) (c m : Nat) (hm : l.length = m) (hx : a.eval x = .slice ad m c) (hrow : EnsAt w ad l) (hl : l0.length + m ≤ 100000000)
    (h : ∀ v' w', ESt Z w2 (l0 ++ l) v' w' → K (a.put o.dst v') w') : if Region.wanted o (yielded ops a.tmps) = true then Oper.wp Tryz.prog o a w K Q else E := by
  have hw : Region.wanted o (yielded ops a.tmps) = true := by simp [Region.wanted, hgd]
  rw [if_pos hw]
  exact wp_append_ens s x ho hc hZ hs ad c m hm hx hrow hl h
end Go.Proofs.YtckkmmdibgoajaaGreat
set_option linter.unusedVariables false
set_option linter.unusedSimpArgs false
namespace Go.Proofs.YtckkmmdibgoajaaGreat
open Go.RowKit
structure Paired (I : AImpl) (l : List En) (sp P Q : Nat) (w : World) (p : Value) (A : Ar) (x y : Nat) (tx ty : Tr) (F : Nat → Prop) (w' : World) : Prop where
  pq : P ≤ Q ∧ Q ≤ l.length
  is : I.Is w' p A 0 F
  foot : ∀ k, F k → w.heap.size ≤ k
  below : Below w.heap.size w w'
  inv : A.Inv [] (hof [x, y])
  agg : A.Agg
  cap : A.σ.cap = l.length + 1 + sp
  tx : TreeAt A x tx (l.take P)
  ty : TreeAt A y ty (l.drop Q)
def PairRes (I : AImpl) (a : Option Addr) (l : List En) (sp : Nat) (w : World) (e : Ending) (w' : World) : Prop :=
  ∃ (p : Value) (A : Ar) (x y P Q : Nat) (tx ty : Tr) (F : Nat → Prop) (a2 a3 : Option Addr) (c2 c3 : Nat),
    e = .returned (.tuple #[p, .int .u32 (x : Int), .int .u32 (y : Int), .slice a2 P c2, .slice a3 (l.length - Q) c3, .bool true]) ∧ Paired I l sp P Q w p A x y tx ty F w' ∧ (∀ wx, EnsAt wx a l → EnsAt wx a2 (l.take P) ∧ EnsAt wx a3 (l.drop Q)) ∧ P ≤ c2 ∧ c2 ≤ maxLen ∧ l.length - Q ≤ c3 ∧ c3 ≤ maxLen
theorem up_take {l : List En} (h : Up l) (k : Nat) : Up (l.take k) := List.Pairwise.sublist (List.take_sublist _ _) h
theorem up_drop {l : List En} (h : Up l) (k : Nat) : Up (l.drop k) := List.Pairwise.sublist (List.drop_sublist _ _) h
theorem results_tmp6 {fn : Func} {a b c d e f : Tmp} (h : fn.results = #[.tmp a, .tmp b, .tmp c, .tmp d, .tmp e, .tmp f]) (tmps : Array Value) (P : Program) (w : World) :
    (results fn tmps).run P w = .ok (.tuple #[tmps.getD a undef, tmps.getD b undef, tmps.getD c undef, tmps.getD d undef, tmps.getD e undef, tmps.getD f undef]) w := by
  simp [results, h]
theorem add_block (x : Addr) (k : Nat) : (x.add k).block = x.block := by unfold Addr.add; split <;> rfl
theorem EnsAt.tail {w : World} {a : Option Addr} {l : List En} (h : EnsAt w a l) (k : Nat) : EnsAt w (a.map fun x => x.add (k * 2)) (l.drop k) :=
  ⟨fun j e he => by
    rw [List.getElem?_drop] at he
    obtain ⟨b, off, rfl, hlt, h1, h2⟩ := h.cell (k + j) e he
    refine ⟨b, off + k * 2, by simp [Addr.add], hlt, ?_, ?_⟩
    · rw [← h1]; congr 2; omega
    · rw [← h2]; congr 2; omega, fun e he => h.wf e (List.mem_of_mem_drop he)⟩
set_option maxHeartbeats 4000000 in
set_option maxRecDepth 100000 in
theorem pair13_any (I : AImpl) {l : List En} {a : Option Addr} {L c sp : Nat} {at_ skip tilt : Int} {w : World} (hE : EnsAt w a l) (hL : l.length = L) (hc : L ≤ c) (hcm : c ≤ maxLen) (hu : Up l) (hl : L ≤ 1000) (hsp : sp ≤ 1000) (hat : i64R at_) (hsk : i64R skip) (ht0 : 0 ≤ tilt) (ht1 : tilt < 18446744073709551616) :
    Calls Tryz.prog 30 #[.slice a L c, .int .i64 at_, .int .i64 skip, .int .u64 tilt, .int .i64 (sp : Int)] w (PairRes I a l sp w) := by
  obtain ⟨P, hP⟩ := Int.eq_ofNat_of_zero_le (Int.emod_nonneg at_ (b := (L : Int) + 1) (by omega))
  have hPL := Int.emod_lt_of_pos at_ (b := (L : Int) + 1) (by omega)
  obtain ⟨S, hS⟩ := Int.eq_ofNat_of_zero_le (Int.emod_nonneg skip (b := (3 : Int)) (by omega))
  have hS3 := Int.emod_lt_of_pos skip (b := (3 : Int)) (by omega)
  obtain ⟨Q, hQ⟩ : ∃ Q, min (P + S) L = Q := ⟨_, rfl⟩
  have HPQ : Hid (P ≤ Q ∧ Q ≤ L ∧ P ≤ L ∧ S ≤ 2) := ⟨by omega, by omega, by omega, by omega⟩
  have HM1 : Hid (∀ wx, Calls Tryz.prog 13 #[.int .i64 at_, .int .i64 ((L : Int) + 1)] wx (fun e w' => e = .returned (.int .i64 (P : Int)) ∧ wx = w')) := fun wx => (mod_any at_ ((L : Int) + 1) wx hat.1 hat.2 (by omega) (by omega)).mono fun e w' ⟨h1, h2⟩ => ⟨by rw [h1, hP], h2⟩
  have HM2 : Hid (∀ wx, Calls Tryz.prog 13 #[.int .i64 skip, .int .i64 3] wx (fun e w' => e = .returned (.int .i64 (S : Int)) ∧ wx = w')) := fun wx => (mod_any skip 3 wx hsk.1 hsk.2 (by omega) (by omega)).mono fun e w' ⟨h1, h2⟩ => ⟨by rw [h1, hS], h2⟩
  have hmin : ∀ (w : World) (ts : Array TypeId) (t : TypeId), (Builtin.min_ ts t #[.int .i64 ((P : Int) + (S : Int)), .int .i64 (L : Int)]).run Tryz.prog w = .ok (.int .i64 (Q : Int)) w := fun w ts t => by
    rw [min_run]
    congr 2
    omega
  have HLL := Lib.hid hL
  have HE := Lib.hid hE
  have HU := Lib.hid hu
  have HC : Hid (L ≤ c ∧ c ≤ maxLen ∧ L ≤ 1000 ∧ sp ≤ 1000) := ⟨hc, hcm, hl, hsp⟩
  have HT : Hid (0 ≤ tilt ∧ tilt < 18446744073709551616) := ⟨ht0, ht1⟩
  have hLi : (L : Int) ≤ 1000 := by omega
  have hPi : (P : Int) ≤ (L : Int) := by omega
  have hQi : (Q : Int) ≤ (L : Int) := by omega
  have hSi : (S : Int) ≤ 2 := by omega
  have hsi : (sp : Int) ≤ 1000 := by omega
  have hci : (L : Int) ≤ (c : Int) := by omega
  have hcx : (c : Int) ≤ 9223372036854775807 := by unfold maxLen at hcm; omega
  have hL0 : (0 : Int) ≤ (L : Int) := by omega
  have hP0 : (0 : Int) ≤ (P : Int) := by omega
  have hS0 : (0 : Int) ≤ (S : Int) := by omega
  have hQ0 : (0 : Int) ≤ (Q : Int) := by omega
  have hsp0 : (0 : Int) ≤ (sp : Int) := by omega
  have HCAP : Hid ((L : Int) + 1 + (sp : Int) = ((L + 1 + sp : Nat) : Int)) := by show _ = _; omega
  have hPt : ((P : Nat) : Int).toNat = P := Int.toNat_natCast _
  have hQt : ((Q : Nat) : Int).toNat = Q := Int.toNat_natCast _
  clear hE hL hc hcm hu hl hsp hat hsk ht0 ht1 hP hPL hS hS3 hQ
  go_enter Tryz.func30, Tryz.ntmps30
  go_wp2_with (first
    | (go_at_call_of 13 (Value.int .i64 at_); refine (HM1.out _).mono ?_; rintro e wy ⟨rfl, rfl⟩)
    | (go_at_call_of 13 (Value.int .i64 skip); refine (HM2.out _).mono ?_; rintro e wy ⟨rfl, rfl⟩))
  rw [HCAP.out]
  refine (I.new_ok (L + 1 + sp) w (by omega) (by have := HC.out; omega)).mono ?_
  rintro e w1 ⟨p, F, rfl, hI, hF, hb1⟩
  obtain ⟨pa, rfl⟩ := I.ptr hI
  have HI := Lib.hid hI
  have HF := Lib.hid hF
  have HB1 := Lib.hid hb1
  have HE1 : Hid (EnsAt w1 a l) := HE.out.below hb1
  have HFB : Hid (∀ b off, a = some ⟨b, off, none⟩ → L ≠ 0 → b < w.heap.size) := fun b off e h0 => by
    obtain ⟨b', off', h1, h2, _⟩ := HE.out.cell 0 (l[0]'(by have := HLL.out; omega)) (List.getElem?_eq_getElem _)
    rw [e] at h1
    simp at h1
    omega
  have HTL : Hid ((l.take P).length = P ∧ (l.drop Q).length = L - Q) := ⟨by rw [List.length_take]; have := HLL.out; have := HPQ.out; omega, by rw [List.length_drop, HLL.out]⟩
  clear hI hF hb1
  go_wp2_with fail
  refine (plant_any I P (l.take P) a c tilt (.pointer (some pa)) (Ar.init (L + 1 + sp)) 0 F (fun _ => 0) w1 HTL.out.1 HI.out (Ar.init_inv (by omega) (by have := HC.out; omega)) (Ar.init_agg _) (fun j => by have := HC.out; have := HPQ.out; show 0 + _ ≤ _; omega) (by have := HPQ.out; show P ≤ (St.init _).free.length; simp [St.init]; omega) (HE1.out.take P) (fun h0 b off e hFb => by have := HF.out b hFb; have := HFB.out b off e (by have := HPQ.out; omega); omega) (by have := HPQ.out; have := HC.out; omega) HC.out.2.1 HT.out.1 HT.out.2).mono ?_
  rintro e w2 ⟨A1, x, tx, F1, hP1, rfl, hal1, hI1⟩
  have HP1 := Lib.hid hP1
  have HI1 := Lib.hid hI1
  have hF1 : ∀ k, F1 k → w.heap.size ≤ k := hal1.from HB1.out.size HF.out
  have HF1 := Lib.hid hF1
  have HB2 : Hid (Below w.heap.size w w2) := hal1.below HB1.out HB1.out.size HF.out
  have HE2 : Hid (EnsAt w2 a l) := HE.out.below HB2.out
  have hf1 : A1.σ.free.length + P = L + 1 + sp := by
    have := hP1.free
    rw [HTL.out.1] at this
    simpa [Ar.init, St.init] using this
  have HFR1 := Lib.hid hf1
  clear hP1 hI1 hal1 hF1 hf1 HI HF HB1 HE1
  by_cases hcQ : c = Q
  · obtain rfl : Q = c := hcQ.symm
    clear hcQ
    have HCC : Hid (L - Q ≤ 0 ∧ 0 ≤ maxLen) := ⟨by have := HPQ.out; have := HC.out; omega, Nat.zero_le _⟩
    have hnil : l.drop Q = [] := List.eq_nil_of_length_eq_zero (by have := HTL.out.2; have := HCC.out; omega)
    have HE3 : Hid (EnsAt w2 a (l.drop Q)) := by show EnsAt _ _ _; rw [hnil]; exact EnsAt.nil _ _
    have HTAIL : Hid (∀ wx, EnsAt wx a l → EnsAt wx a (l.drop Q)) := fun wx _ => by rw [hnil]; exact EnsAt.nil _ _
    have HFB3 : Hid (∀ b off, a = some ⟨b, off, none⟩ → L - Q ≠ 0 → b < w.heap.size) := fun b off e h0 => absurd HCC.out.1 (by omega)
    clear hnil
    go_wp2_with fail
    refine (plant_any I (L - Q) (l.drop Q) _ _ _ (.pointer (some pa)) A1 0 F1 (pls (fun _ => 0) x) w2 HTL.out.2 HI1.out HP1.out.inv HP1.out.agg (fun j => by have := HC.out; rw [pls_at]; split <;> omega) (by have := HPQ.out; have := HFR1.out; omega) HE3.out (fun h0 b off e hFb => ?_) HCC.out.1 HCC.out.2 (u64_in _).1 (u64_in _).2).mono ?_
    · have h1 := HF1.out b hFb
      have h2 := HFB3.out b off e h0
      omega
    rintro e w3 ⟨A2, y, ty, F2, hP2, rfl, hal2, hI2⟩
    have HB3 : Hid (Below w.heap.size w w3) := hal2.below HB2.out HB2.out.size HF1.out
    have HRES : Hid (∀ (a2 a3 : Option Addr) (c2 c3 : Nat), (∀ wx, EnsAt wx a l → EnsAt wx a2 (l.take P) ∧ EnsAt wx a3 (l.drop Q)) → P ≤ c2 → c2 ≤ maxLen → L - Q ≤ c3 → c3 ≤ maxLen → ∀ d, PairRes I a l sp w (.returned (.tuple #[.pointer (some pa), .int .u32 (x : Int), .int .u32 (y : Int), .slice a2 P c2, .slice a3 (L - Q) c3, .bool true])) (w3.drewN d)) := fun a2 a3 c2 c3 e2 b1 b2 b3 b4 d =>
      ⟨.pointer (some pa), A2, x, y, P, Q, tx, ty, F2, a2, a3, c2, c3, by rw [HLL.out], ⟨⟨HPQ.out.1, by rw [HLL.out]; exact HPQ.out.2.1⟩, I.below hI2 (below_drewN (Below.refl _ _) d), hal2.from HB2.out.size HF1.out, HB3.out.trans ((below_drewN (Below.refl w3.heap.size w3) d).mono HB3.out.size),
        by have := hP2.inv; rw [show pls (fun _ => 0) x = hof [x] by have h := hof_pls [] x; rw [hof_nil] at h; exact h, hof_pls] at this; exact this, hP2.agg, by rw [hP2.kept.cap, HP1.out.kept.cap, HLL.out]; rfl,
        ⟨⟨_, hP2.inv⟩, hP2.agg, HP1.out.sub.kept hP2.kept, HP1.out.bal, (Tr.ents_kept hP2.kept HP1.out.sub).trans HP1.out.ents, up_take HU.out P⟩, ⟨⟨_, hP2.inv⟩, hP2.agg, hP2.sub, hP2.bal, hP2.ents, up_drop HU.out Q⟩⟩,
        e2, b1, b2, by rw [HLL.out]; exact b3, b4⟩
    clear hP2 hal2 hI2 HE3 HF1 HFB3
    go_upto_region 8 with fail
    go_quiet (fail)
    go_wp2_with fail
    (try simp only [Exit.inBlock, Exit.then])
    refine bodyPost_ret (results_tmp6 rfl _ _ _) rfl ?_
    exact HRES.out _ _ _ _ (fun wx h => ⟨h.take P, HTAIL.out wx h⟩) (by have := HPQ.out; have := HC.out; omega) HC.out.2.1 HCC.out.1 HCC.out.2 _
  · have HCC : Hid (L - Q ≤ c - Q ∧ c - Q ≤ maxLen) := ⟨by have := HC.out; omega, by have := HC.out; omega⟩
    have HE3 : Hid (EnsAt w2 (a.map fun x => x.add (Q * 2)) (l.drop Q)) := HE2.out.tail Q
    have HTAIL : Hid (∀ wx, EnsAt wx a l → EnsAt wx (a.map fun x => x.add (Q * 2)) (l.drop Q)) := fun wx h => h.tail Q
    have HFB3 : Hid (∀ b off, (a.map fun x => x.add (Q * 2)) = some ⟨b, off, none⟩ → L - Q ≠ 0 → b < w.heap.size) := fun b off e h0 => by
      obtain ⟨b', off', h1, h2, _⟩ := HE.out.cell 0 (l[0]'(by have := HLL.out; omega)) (List.getElem?_eq_getElem _)
      rw [h1] at e
      have e2 := congrArg Addr.block (Option.some.inj e)
      rw [add_block] at e2
      have e3 : b' = b := e2
      rw [← e3]; exact h2
    go_wp2_with fail
    refine (plant_any I (L - Q) (l.drop Q) _ _ _ (.pointer (some pa)) A1 0 F1 (pls (fun _ => 0) x) w2 HTL.out.2 HI1.out HP1.out.inv HP1.out.agg (fun j => by have := HC.out; rw [pls_at]; split <;> omega) (by have := HPQ.out; have := HFR1.out; omega) HE3.out (fun h0 b off e hFb => ?_) HCC.out.1 HCC.out.2 (u64_in _).1 (u64_in _).2).mono ?_
    · have h1 := HF1.out b hFb
      have h2 := HFB3.out b off e h0
      omega
    rintro e w3 ⟨A2, y, ty, F2, hP2, rfl, hal2, hI2⟩
    have HB3 : Hid (Below w.heap.size w w3) := hal2.below HB2.out HB2.out.size HF1.out
    have HRES : Hid (∀ (a2 a3 : Option Addr) (c2 c3 : Nat), (∀ wx, EnsAt wx a l → EnsAt wx a2 (l.take P) ∧ EnsAt wx a3 (l.drop Q)) → P ≤ c2 → c2 ≤ maxLen → L - Q ≤ c3 → c3 ≤ maxLen → ∀ d, PairRes I a l sp w (.returned (.tuple #[.pointer (some pa), .int .u32 (x : Int), .int .u32 (y : Int), .slice a2 P c2, .slice a3 (L - Q) c3, .bool true])) (w3.drewN d)) := fun a2 a3 c2 c3 e2 b1 b2 b3 b4 d =>
      ⟨.pointer (some pa), A2, x, y, P, Q, tx, ty, F2, a2, a3, c2, c3, by rw [HLL.out], ⟨⟨HPQ.out.1, by rw [HLL.out]; exact HPQ.out.2.1⟩, I.below hI2 (below_drewN (Below.refl _ _) d), hal2.from HB2.out.size HF1.out, HB3.out.trans ((below_drewN (Below.refl w3.heap.size w3) d).mono HB3.out.size),
        by have := hP2.inv; rw [show pls (fun _ => 0) x = hof [x] by have h := hof_pls [] x; rw [hof_nil] at h; exact h, hof_pls] at this; exact this, hP2.agg, by rw [hP2.kept.cap, HP1.out.kept.cap, HLL.out]; rfl,
        ⟨⟨_, hP2.inv⟩, hP2.agg, HP1.out.sub.kept hP2.kept, HP1.out.bal, (Tr.ents_kept hP2.kept HP1.out.sub).trans HP1.out.ents, up_take HU.out P⟩, ⟨⟨_, hP2.inv⟩, hP2.agg, hP2.sub, hP2.bal, hP2.ents, up_drop HU.out Q⟩⟩,
        e2, b1, b2, by rw [HLL.out]; exact b3, b4⟩
    clear hP2 hal2 hI2 HE3 HF1 HFB3
    go_upto_region 8 with fail
    go_quiet (fail)
    go_wp2_with fail
    (try simp only [Exit.inBlock, Exit.then])
    refine bodyPost_ret (results_tmp6 rfl _ _ _) rfl ?_
    exact HRES.out _ _ _ _ (fun wx h => ⟨h.take P, HTAIL.out wx h⟩) (by have := HPQ.out; have := HC.out; omega) HC.out.2.1 HCC.out.1 HCC.out.2 _
end Go.Proofs.YtckkmmdibgoajaaGreat
set_option linter.unusedVariables false
set_option linter.unusedSimpArgs false
namespace Go.Proofs.YtckkmmdibgoajaaGreat
open Go.RowKit
theorem Scn.init2 {I : AImpl} {n c : Nat} {w w1 w2 : World} {p : Value} {A : Ar} {rd : Int} {F : Nat → Prop} {a : Option Addr} {xs : List Value} {ty : TypeId} {s : Nat} (hI : I.Is w2 p A rd F) (hF : ∀ k, F k → w1.heap.size ≤ k) (hb : Below w1.heap.size w1 w2) (hb1 : Below w.heap.size w w1) (hr : w1.ownsRow w.heap.size ty s (.slice a n c) n xs) :
    Scn I w.heap.size w w2 p A rd [⟨ty, s, .slice a n c, n, xs⟩] [] := by
  refine ⟨⟨⟨F, hI, fun k hk => Nat.le_trans hb1.size (hF k hk), fun k hk => ?_⟩, hb1.trans (hb.mono hb1.size), Nat.le_trans hb1.size hb.size⟩, fun r hr' => ?_, fun b hb' => (by cases hb'), ?_, List.Pairwise.nil, fun r hr' b hb' => (by cases hb')⟩
  · rcases hk with ⟨r, hr', hk⟩ | ⟨b, hb', _⟩
    · simp at hr'
      subst hr'
      have h1 := row_lt hr k hk
      exact ⟨Nat.lt_of_lt_of_le h1.2 hb.size, fun hF' => by have := hF k hF'; omega⟩
    · cases hb'
  · simp at hr'
    subst hr'
    exact row_below hr hb
  · exact List.pairwise_singleton _ _
/-- two trees and the lists that stand for them -/
structure Duo2 (A : Ar) (a1 : Option Addr) (l : List En) (X Y : Nat) (tX tY : Tr) (LX LY : List En) (aX aY : Option Addr) (PX PY : Nat) : Prop where
  tx : TreeAt A X tX LX
  ty : TreeAt A Y tY LY
  inv : A.Inv [] (hof [X, Y])
  agg : A.Agg
  wx : WfL LX
  wy : WfL LY
  lx : LX.length = PX
  ly : LY.length = PY
  sum : PX + PY ≤ l.length
  en : ∀ w, EnsAt w a1 l → EnsAt w aX LX ∧ EnsAt w aY LY
theorem Paired.duo {I : AImpl} {l : List En} {sp P Q x y : Nat} {w w' : World} {p : Value} {A : Ar} {tx ty : Tr} {F : Nat → Prop} {a1 a2 a3 : Option Addr} (h : Paired I l sp P Q w p A x y tx ty F w') (hw : WfL l) (he : ∀ wx, EnsAt wx a1 l → EnsAt wx a2 (l.take P) ∧ EnsAt wx a3 (l.drop Q)) :
    Duo2 A a1 l x y tx ty (l.take P) (l.drop Q) a2 a3 P (l.length - Q) :=
  ⟨h.tx, h.ty, h.inv, h.agg, fun y hy => hw y (List.mem_of_mem_take hy), fun y hy => hw y (List.mem_of_mem_drop hy), by rw [List.length_take]; have := h.pq; omega, List.length_drop .., by have := h.pq; omega, he⟩
theorem kept_keptS2 {A B : Ar} {n : Nat} (hk : A.Kept B) (hg : ∀ i, A.σ.on i = true → B.σ.gen i = A.σ.gen i) : KeptS n A.sl B.sl := fun x _ hx => ⟨hk.on _ hx, hk.nd _ hx, hg _ hx⟩
theorem Scn.init3 {I : AImpl} {n c : Nat} {w wa w1 w2 : World} {p : Value} {A : Ar} {rd : Int} {F : Nat → Prop} {a : Option Addr} {xs : List Value} {ty : TypeId} {s g : Nat} {o : Obj} (hI : I.Is w2 p A rd F) (hF : ∀ k, F k → w1.heap.size ≤ k) (hb : Below w1.heap.size w1 w2) (hb1 : Below wa.heap.size wa w1) (hba : Below w.heap.size w wa) (hr : w1.ownsRow wa.heap.size ty s (.slice a n c) n xs) (hg : w.heap.size ≤ g) (hgo : wa.heap[g]? = some o) :
    Scn I w.heap.size w w2 p A rd [⟨ty, s, .slice a n c, n, xs⟩] [(g, o)] := by
  have hga : g < wa.heap.size := (Array.getElem?_eq_some_iff.1 hgo).1
  have h1 := Scn.init2 (w := wa) hI hF hb hb1 hr
  have hg2 : w2.heap[g]? = some o := (hb.block g (Nat.lt_of_lt_of_le hga hb1.size)).trans ((hb1.block g hga).trans hgo)
  refine ⟨⟨⟨F, hI, fun k hk => Nat.le_trans hba.size (Nat.le_trans hb1.size (hF k hk)), fun k hk => ?_⟩, hba.trans ((hb1.trans (hb.mono hb1.size)).mono hba.size), Nat.le_trans hba.size (Nat.le_trans hb1.size hb.size)⟩, fun r hr' => row_mono (h1.rows r hr') hba.size, fun b hb' => ?_, h1.rr, List.pairwise_singleton _ _, fun r hr' b hb' => ?_⟩
  · rcases hk with ⟨r, hr', hk⟩ | ⟨b, hb', rfl⟩
    · simp at hr'
      subst hr'
      have h2 := row_lt hr k hk
      exact ⟨Nat.lt_of_lt_of_le h2.2 hb.size, fun hF' => by have := hF k hF'; omega⟩
    · simp at hb'
      subst hb'
      exact ⟨Nat.lt_of_lt_of_le hga (Nat.le_trans hb1.size hb.size), fun hF' => by have := hF g hF'; have := hb1.size; omega⟩
  · simp at hb'
    subst hb'
    exact ⟨hg, hg2⟩
  · simp at hr' hb'
    subst hr' hb'
    intro e
    have h2 := row_lt hr g e
    omega
end Go.Proofs.YtckkmmdibgoajaaGreat
set_option linter.unusedVariables false
set_option linter.unusedSimpArgs false
namespace Go.Proofs.YtckkmmdibgoajaaGreat
open Go.RowKit
section
variable {w : World} {g : Nat}
def ptR (a : Nat) (v : Int) (f : Bool) (b : Nat) : Array Value := #[Value.int .u32 (a : Int), .int .i64 v, .bool f, .int .u32 (b : Int)]
def putP (w : World) (g a : Nat) (v : Int) (f : Bool) (b : Nat) : World := (((w.setCell ⟨g, 0, none⟩ (.int .u32 (a : Int))).setCell ⟨g, 1, none⟩ (.int .i64 v)).setCell ⟨g, 2, none⟩ (.bool f)).setCell ⟨g, 3, none⟩ (.int .u32 (b : Int))
theorem putP_size (a : Nat) (v : Int) (f : Bool) (b : Nat) : (putP w g a v f b).heap.size = w.heap.size := by simp [putP, World.setCell]
theorem putP_other (a : Nat) (v : Int) (f : Bool) (b : Nat) {k : Nat} (hk : k ≠ g) : (putP w g a v f b).heap[k]? = w.heap[k]? := by
  unfold putP
  rw [heap_setCell_other _ _ _ _ hk, heap_setCell_other _ _ _ _ hk, heap_setCell_other _ _ _ _ hk, heap_setCell_other _ _ _ _ hk]
theorem putP_same {c0 c1 c2 c3 : Value} {t : TypeId} (h : w.heap[g]? = some (.cells #[c0, c1, c2, c3] t (0, 0))) (a : Nat) (v : Int) (f : Bool) (b : Nat) : (putP w g a v f b).heap[g]? = some (.cells (ptR a v f b) t (0, 0)) := by
  have h0 : (w.setCell ⟨g, 0, none⟩ (.int .u32 (a : Int))).heap[g]? = some (.cells #[.int .u32 (a : Int), c1, c2, c3] t (0, 0)) := by rw [heap_setCell_same _ _ _ _ _ _ h]; rfl
  have h1 : ((w.setCell ⟨g, 0, none⟩ (.int .u32 (a : Int))).setCell ⟨g, 1, none⟩ (.int .i64 v)).heap[g]? = some (.cells #[.int .u32 (a : Int), .int .i64 v, c2, c3] t (0, 0)) := by rw [heap_setCell_same _ _ _ _ _ _ h0]; rfl
  have h2 : (((w.setCell ⟨g, 0, none⟩ (.int .u32 (a : Int))).setCell ⟨g, 1, none⟩ (.int .i64 v)).setCell ⟨g, 2, none⟩ (.bool f)).heap[g]? = some (.cells #[.int .u32 (a : Int), .int .i64 v, .bool f, c3] t (0, 0)) := by rw [heap_setCell_same _ _ _ _ _ _ h1]; rfl
  have h3 : ((((w.setCell ⟨g, 0, none⟩ (.int .u32 (a : Int))).setCell ⟨g, 1, none⟩ (.int .i64 v)).setCell ⟨g, 2, none⟩ (.bool f)).setCell ⟨g, 3, none⟩ (.int .u32 (b : Int))).heap[g]? = some (.cells #[.int .u32 (a : Int), .int .i64 v, .bool f, .int .u32 (b : Int)] t (0, 0)) := by rw [heap_setCell_same _ _ _ _ _ _ h2]; rfl
  exact h3
theorem cells4_of {c0 c1 c2 c3 : Value} {t : TypeId} (h : w.heap[g]? = some (.cells #[c0, c1, c2, c3] t (0, 0))) :
    (w.cell? ⟨g, 0, none⟩ = some c0 ∧ w.cell? ⟨g, 1, none⟩ = some c1 ∧ w.cell? ⟨g, 2, none⟩ = some c2 ∧ w.cell? ⟨g, 3, none⟩ = some c3) ∧ w.frozen? ⟨g, 0, none⟩ = false ∧ w.frozen? ⟨g, 1, none⟩ = false ∧ w.frozen? ⟨g, 2, none⟩ = false ∧ w.frozen? ⟨g, 3, none⟩ = false :=
  ⟨⟨by rw [cell_of_row _ _ _ _ _ _ h]; rfl, by rw [cell_of_row _ _ _ _ _ _ h]; rfl, by rw [cell_of_row _ _ _ _ _ _ h]; rfl, by rw [cell_of_row _ _ _ _ _ _ h]; rfl⟩, frozen_of_row _ _ _ _ _ h, frozen_of_row _ _ _ _ _ h, frozen_of_row _ _ _ _ _ h, frozen_of_row _ _ _ _ _ h⟩
end
section
variable {I : AImpl} {w wr : World} {F : Nat → Prop} {p : Value} {A : Ar} {rd : Int} {rs : List Row} {bs : List (Nat × Obj)}
theorem Ins.putP {g : Nat} {c0 c1 c2 c3 : Value} {t : TypeId} (h : Ins I w F p A rd rs ((g, Obj.cells #[c0, c1, c2, c3] t (0, 0)) :: bs) wr) (a : Nat) (v : Int) (f : Bool) (b : Nat) : Ins I w F p A rd rs ((g, Obj.cells (ptR a v f b) t (0, 0)) :: bs) (putP wr g a v f b) :=
  h.set (putP_same (h.boxes _ (List.Mem.head _)).2 a v f b) ⟨rfl, rfl, rfl, putP_size a v f b, fun k hk => putP_other a v f b hk⟩
theorem Ins.one {g n : Nat} {cs : Array Value} {t : TypeId} (h : Ins I w F p A rd rs ((g, Obj.cells cs t (0, 0)) :: bs) wr) (x : Value) : Ins I w F p A rd rs ((g, Obj.cells (cs.setIfInBounds n x) t (0, 0)) :: bs) (wr.setCell ⟨g, n, none⟩ x) :=
  h.set (by rw [heap_setCell_same _ _ _ _ _ _ (h.boxes _ (List.Mem.head _)).2]) ⟨rfl, rfl, rfl, by simp [World.setCell], fun k hk => heap_setCell_other _ _ _ _ hk⟩
end
theorem fil0 {l : List En} {q : En → Bool} (h : ∀ e ∈ l, q e = false) : l.filter q = [] := by rw [List.filter_eq_nil_iff]; intro e he; rw [h e he]; simp
theorem fil1 {l : List En} {q : En → Bool} (h : ∀ e ∈ l, q e = true) : l.filter q = l := List.filter_eq_self.2 h
theorem cut_l {ll lr : List En} {e : En} {k : Int} (hu : Up (ll ++ e :: lr)) (hk : k < e.key) : lowE (ll ++ e :: lr) k = lowE ll k ∧ highE (ll ++ e :: lr) k = highE ll k ++ e :: lr ∧ getE (ll ++ e :: lr) k = getE ll k := by
  obtain ⟨-, -, h3, h4⟩ := up_app hu
  have hge : ∀ x ∈ e :: lr, k < x.key := fun x hx => by
    rcases List.mem_cons.1 hx with rfl | hx
    · exact hk
    · have := h4 x hx; omega
  refine ⟨?_, ?_, ?_⟩
  · unfold lowE
    rw [List.filter_append, fil0 (l := e :: lr) (fun x hx => by have := hge x hx; simp; omega), List.append_nil]
  · unfold highE
    rw [List.filter_append, fil1 (l := e :: lr) (fun x hx => by have := hge x hx; simp; omega)]
  · rw [getE_app, getE_none (l := e :: lr) (fun x hx => by have := hge x hx; omega), Option.or_none]
theorem cut_r {ll lr : List En} {e : En} {k : Int} (hu : Up (ll ++ e :: lr)) (hk : e.key < k) : lowE (ll ++ e :: lr) k = ll ++ e :: lowE lr k ∧ highE (ll ++ e :: lr) k = highE lr k ∧ getE (ll ++ e :: lr) k = getE lr k := by
  obtain ⟨-, -, h3, h4⟩ := up_app hu
  refine ⟨?_, ?_, ?_⟩
  · unfold lowE
    rw [List.filter_append, List.filter_cons, if_pos (by simp; omega), fil1 (l := ll) (fun x hx => by have := h3 x hx; simp; omega)]
  · unfold highE
    rw [List.filter_append, List.filter_cons, if_neg (by simp; omega), fil0 (l := ll) (fun x hx => by have := h3 x hx; simp; omega), List.nil_append]
  · rw [getE_app, getE_none (l := ll) (fun x hx => by have := h3 x hx; omega), Option.none_or]
    unfold getE
    rw [List.find?_cons_of_neg (by simp; omega)]
theorem cut_m {ll lr : List En} {e : En} (hu : Up (ll ++ e :: lr)) : lowE (ll ++ e :: lr) e.key = ll ∧ highE (ll ++ e :: lr) e.key = lr ∧ getE (ll ++ e :: lr) e.key = some e := by
  obtain ⟨-, -, h3, h4⟩ := up_app hu
  refine ⟨?_, ?_, ?_⟩
  · unfold lowE
    rw [List.filter_append, List.filter_cons, if_neg (by simp), fil1 (l := ll) (fun x hx => by have := h3 x hx; simp; omega), fil0 (l := lr) (fun x hx => by have := h4 x hx; simp; omega), List.append_nil]
  · unfold highE
    rw [List.filter_append, List.filter_cons, if_neg (by simp), fil0 (l := ll) (fun x hx => by have := h3 x hx; simp; omega), fil1 (l := lr) (fun x hx => by have := h4 x hx; simp; omega), List.nil_append]
  · rw [getE_app, getE_none (l := ll) (fun x hx => by have := h3 x hx; omega), Option.none_or]
    unfold getE
    rw [List.find?_cons_of_pos (by simp)]
theorem low_len (l : List En) (k : Int) : (lowE l k).length ≤ l.length := List.length_filter_le _ _
theorem high_len (l : List En) (k : Int) : (highE l k).length ≤ l.length := List.length_filter_le _ _
theorem WfL.low {l : List En} (h : WfL l) (k : Int) : WfL (lowE l k) := fun y hy => h y (List.mem_filter.1 hy).1
theorem WfL.high {l : List En} (h : WfL l) (k : Int) : WfL (highE l k) := fun y hy => h y (List.mem_filter.1 hy).1
/-- what cut answers -/
def SpQ (A : Ar) (rd : Int) (held : Nat → Nat) (hr hs : Nat) (l : List En) (k : Int) (en : Ending) (B : Ar) (rd' : Int) : Prop :=
  rd ≤ rd' ∧ ∃ s : Nat, s ≤ xh (lowE l k).length + xh (highE l k).length + hs ∧ rd' ≤ rd + 14 * (s : Int) + 3 * (hr : Int) ∧ ∃ (x y : Nat) (tx ty : Tr), en = .returned (.tuple #[.agg #[Value.int .u32 (x : Int), .int .i64 ((getE l k).elim 0 (·.val)), .bool (getE l k).isSome, .int .u32 (y : Int)], .int .i64 0]) ∧
    Mid A held B [y, x] ∧ At B x tx (lowE l k) ∧ At B y ty (highE l k) ∧ A.σ.free.length ≤ B.σ.free.length + 3 * s
structure CutP (c : Int) (I : AImpl) (w : World) (p : Value) (A : Ar) (rd : Int) (F : Nat → Prop) (held : Nat → Nat) (i : Nat) (t : Tr) (l : List En) (k : Int) : Prop where
  is : I.Is w p A rd F
  inv : A.Inv [] held
  agg : A.Agg
  few : ∀ j, held j ≤ 1048300
  tree : At A i t l
  up : Up l
  wf : WfL l
  wk : i64R k
  size : l.length ≤ 2147483646
  rd0 : 0 ≤ rd
  rd1 : rd + 14 * ((xh (lowE l k).length + xh (highE l k).length + t.ht : Nat) : Int) + 3 * (t.ht : Int) + c ≤ 2199023253000
  room : 3 * (xh (lowE l k).length + xh (highE l k).length + t.ht) + 4 ≤ A.σ.free.length
def CutOk (I : AImpl) (t : Tr) : Prop := ∀ {p : Value} {A : Ar} {rd : Int} {F : Nat → Prop} {held : Nat → Nat} {i : Nat} {l : List En} {k : Int} (w : World), CutP 0 I w p A rd F held i t l k →
    Calls Tryz.prog 74 #[p, .int .u32 (i : Int), .int .i64 k] w (Mut I p F (SpQ A rd held t.ht t.ht l k) w)
set_option maxHeartbeats 16000000 in
set_option maxRecDepth 100000 in
theorem cutLeft_any (I : AImpl) (K : RotImpl I) (KN : ShNum) {tl tr : Tr} (ih : CutOk I tl) {p : Value} {A : Ar} {rd : Int} {F : Nat → Prop} {held : Nat → Nat} {i i' : Nat} {l : List En} {k : Int} {X : Nd} (w : World) (hP : CutP (-3) I w p A rd F held i (.node i' tl tr) l k) (hi0 : i ≠ 0) (hX : A.nd i = X) (hk : k < X.key) :
    Calls Tryz.prog 100 #[p, .agg #[Value.int .i64 X.key, .int .i64 X.val, .int .u32 (X.left : Int), .int .u32 (X.right : Int), .int .i64 X.size, .int .i64 X.sum, .int .i64 X.mn, .int .i64 X.mx], .int .i64 k] w (Mut I p F (SpQ A rd held tl.ht (tl.ht + 1) l k) w) := by
  obtain ⟨pa, rfl⟩ := I.ptr hP.is
  have hin : (Tryz.prog.info? 111).map (·.size) = some 4 := by kernel_rfl
  have HINF := Lib.hid hin
  have HUN : Hid _ := Lib.hid Tryz.underlying111
  have hs0 := ((Ins.start hP.is).box #[Value.int .i64 X.key, .int .i64 X.val, .int .u32 (X.left : Int), .int .u32 (X.right : Int), .int .i64 X.size, .int .i64 X.sum, .int .i64 X.mn, .int .i64 X.mx] 64).box #[.int .u32 0, .int .i64 0, .bool false, .int .u32 0] 111
  (try simp only [sz_al] at hs0)
  have HK := Lib.hid K
  have HKN := Lib.hid KN
  have HIH : Hid (CutOk I tl) := @ih
  obtain ⟨tl', tr', ll, lr, hnode, rfl, hA, hB, hab⟩ := hP.tree.split hi0
  rw [hX] at hA hB
  injection hnode with _ e1 e2
  subst e1 e2
  have hup := hP.up
  have hwf := hP.wf
  have hsz := hP.size
  have hrd := hP.rd1
  have hro := hP.room
  rw [hX] at hup hwf hsz hrd hro ⊢
  have hht : (Tr.node i' tl tr).ht = 1 + max tl.ht tr.ht := rfl
  have hm1 := Nat.le_max_left tl.ht tr.ht
  obtain ⟨h, hh⟩ : ∃ h, (Tr.node i' tl tr).ht = h := ⟨_, rfl⟩
  rw [hh] at hrd hro hht
  have hhc : tl.ht + 1 ≤ h := by omega
  obtain ⟨c1, c2, c3⟩ := cut_l hup hk
  rw [c1, c2] at hrd hro
  have hup2 := up_app hup
  have hlen : (ll ++ (⟨X.key, X.val⟩ : En) :: lr).length = ll.length + lr.length + 1 := by simp; omega
  rw [hlen] at hsz
  have hlo := low_len ll k
  have hhi := high_len ll k
  have hmon := xh_up (m := (highE ll k).length) (n := (highE ll k ++ (⟨X.key, X.val⟩ : En) :: lr).length) (by simp) (by simp; omega)
  have hcat : (highE ll k ++ (⟨X.key, X.val⟩ : En) :: lr).length = (highE ll k).length + lr.length + 1 := by simp; omega
  have HMON := Lib.hid hmon
  have HCAT := Lib.hid hcat
  have HP : Hid (A.Inv [] held ∧ A.Agg ∧ (∀ j, held j ≤ 1048300) ∧ At A X.left tl ll ∧ Up ll ∧ WfL ll ∧ i64R k) := ⟨hP.inv, hP.agg, hP.few, by rw [← hX] at *; first | exact hA | exact hB, hup2.1, hwf.left, hP.wk⟩
  have HOT : Hid (At A X.right tr lr ∧ WfL lr ∧ (i64R X.key ∧ i64R X.val) ∧ wbL ll lr) := ⟨by first | exact hB | exact hA, hwf.right.tail, hwf (⟨X.key, X.val⟩ : En) (by simp), hab⟩
  have HSZ := Lib.hid hsz
  have HRD0 : Hid (0 ≤ rd) := hP.rd0
  have HRD := Lib.hid hrd
  have HRO := Lib.hid hro
  have HHC := Lib.hid hhc
  have HLO := Lib.hid hlo
  have HHI := Lib.hid hhi
  have HC : Hid (lowE (ll ++ (⟨X.key, X.val⟩ : En) :: lr) k = lowE ll k ∧ highE (ll ++ (⟨X.key, X.val⟩ : En) :: lr) k = highE ll k ++ (⟨X.key, X.val⟩ : En) :: lr ∧ getE (ll ++ (⟨X.key, X.val⟩ : En) :: lr) k = getE ll k) := ⟨c1, c2, c3⟩
  clear hP ih hi0 hX hk K KN hA hB hab hup hwf hsz hrd hro hht hm1 hh hhc c1 c2 c3 hup2 hlen hlo hhi hmon hcat hin
  go_enter Tryz.func100, Tryz.ntmps100
  go_upto_region 1 with fail
  try simp only [sz_al]
  generalize (w.alloc (Obj.cells #[Value.int .i64 X.key, .int .i64 X.val, .int .u32 (X.left : Int), .int .u32 (X.right : Int), .int .i64 X.size, .int .i64 X.sum, .int .i64 X.mn, .int .i64 X.mx] 64)).alloc (Obj.cells #[.int .u32 0, .int .i64 0, .bool false, .int .u32 0] 111) = w1 at hs0 ⊢
  generalize w.heap.size + 1 = q at hs0 ⊢
  generalize w.heap.size = g at hs0 ⊢
  have HS0 := Lib.hid hs0
  clear hs0
  obtain ⟨⟨x0, x1, x2, x3, x4, x5, x6, x7⟩, -⟩ := HS0.out.row8 (g := g) (X := X) (by simp [ndRow])
  go_wp2_with fail
  refine (HS0.out.mut fun F1 hI1 => HIH.out w1 ⟨hI1, HP.out.1, HP.out.2.1, HP.out.2.2.1, HP.out.2.2.2.1, HP.out.2.2.2.2.1, HP.out.2.2.2.2.2.1, HP.out.2.2.2.2.2.2, by have := HSZ.out; omega, HRD0.out, by have h1 := HRD.out; have h2 := HHC.out; have h3 := HMON.out; omega, by have h1 := HRO.out; have h2 := HHC.out; have h3 := HMON.out; omega⟩).mono ?_
  rintro en w2 ⟨B, rd2, ⟨q0, s, q1, q2, x, y, tx, ty, rfl, q3, q4, q5, q6⟩, hs2⟩
  obtain ⟨V, hV⟩ : ∃ V, (getE ll k).elim (0 : Int) (·.val) = V := ⟨_, rfl⟩
  obtain ⟨D, hD⟩ : ∃ D, (getE ll k).isSome = D := ⟨_, rfl⟩
  rw [hV, hD]
  have HVD : Hid ((getE ll k).elim (0 : Int) (·.val) = V ∧ (getE ll k).isSome = D) := ⟨hV, hD⟩
  have HQ : Hid (rd ≤ rd2 ∧ s ≤ xh (lowE ll k).length + xh (highE ll k).length + tl.ht ∧ rd2 ≤ rd + 14 * (s : Int) + 3 * (tl.ht : Int) ∧ A.σ.free.length ≤ B.σ.free.length + 3 * s) := ⟨q0, q1, q2, q6⟩
  have HM2 : Hid (Mid A held B [y, x]) := q3
  have HTX := Lib.hid q4
  have HTY := Lib.hid q5
  have hs3 := hs2.box #[Value.int .u32 (x : Int), .int .i64 V, .bool D, .int .u32 (y : Int)] 111
  clear hV hD q0 q1 q2 q3 q4 q5 q6 hs2 HS0 x0 x1 x2 x3 x4 x5 x6 x7
  go_upto_region 4 with fail
  generalize w2.alloc (Obj.cells #[Value.int .u32 (x : Int), .int .i64 V, .bool D, .int .u32 (y : Int)] 111) = w3 at hs3 ⊢
  generalize w2.heap.size = b at hs3 ⊢
  have HS3 := Lib.hid hs3
  clear hs3
  obtain ⟨⟨p0, p1, p2, p3⟩, -⟩ := cells4_of (HS3.out.boxes _ (List.Mem.head _)).2
  go_upto_region 5 with fail
  clear p0 p1 p2 p3
  have HJ : Hid (∃ J : Nat, jd ty tr = J ∧ s + (J + 1) ≤ xh (lowE ll k).length + xh (highE ll k ++ (⟨X.key, X.val⟩ : En) :: lr).length + (tl.ht + 1)) := by
    have hq := HQ.out.2.1
    have e1 := HTY.out.size
    have e2 := HOT.out.1.size
    have e3 := HSZ.out
    have e4 := HHI.out
    have e5 := HCAT.out
    have e6 := HOT.out.2.2.2.1
    refine ⟨_, rfl, ?_⟩
    have := split_step_l (t := ty) (u := tr) (lo := (lowE ll k).length) (h := tl.ht) (s := s) HTY.out.bal HOT.out.1.bal (by omega) (by omega) (by rw [e1]; exact hq)
    rw [show ty.size + tr.size + 1 = (highE ll k ++ (⟨X.key, X.val⟩ : En) :: lr).length by omega] at this
    omega
  obtain ⟨J, hJ, hsJ⟩ := HJ.out
  have HJJ := Lib.hid hJ
  have HSJ := Lib.hid hsJ
  clear HJ hJ hsJ
  have HCEL : Hid (∀ {wx : World} {C : Ar} {rdx : Int} {P : Array Value}, Ins I w F (.pointer (some pa)) C rdx [] [(b, Obj.cells P 111 (0, 0)), (q, Obj.cells #[.int .u32 0, .int .i64 0, .bool false, .int .u32 0] 111 (0, 0)), (g, Obj.cells #[Value.int .i64 X.key, .int .i64 X.val, .int .u32 (X.left : Int), .int .u32 (X.right : Int), .int .i64 X.size, .int .i64 X.sum, .int .i64 X.mn, .int .i64 X.mx] 64 (0, 0))] wx → wx.cell? ⟨g, 0, none⟩ = some (.int .i64 X.key) ∧ wx.cell? ⟨g, 1, none⟩ = some (.int .i64 X.val) ∧ wx.cell? ⟨g, 2, none⟩ = some (.int .u32 (X.left : Int)) ∧ wx.cell? ⟨g, 3, none⟩ = some (.int .u32 (X.right : Int)) ∧ wx.cell? ⟨g, 4, none⟩ = some (.int .i64 X.size) ∧ wx.cell? ⟨g, 5, none⟩ = some (.int .i64 X.sum) ∧ wx.cell? ⟨g, 6, none⟩ = some (.int .i64 X.mn) ∧ wx.cell? ⟨g, 7, none⟩ = some (.int .i64 X.mx)) := fun {wx C rdx P} hx => by
    obtain ⟨hq, -⟩ := hx.row8 (g := g) (X := X) (by simp [ndRow])
    exact hq
  have hsd := HS3.out.calm (Below.refl _ _).drew
  refine anyG_begin (S := (fun w' => w'.cell? ⟨g, 0, none⟩ = some (.int .i64 X.key) ∧ w'.cell? ⟨g, 1, none⟩ = some (.int .i64 X.val) ∧ w'.cell? ⟨g, 2, none⟩ = some (.int .u32 (X.left : Int)) ∧ w'.cell? ⟨g, 3, none⟩ = some (.int .u32 (X.right : Int)) ∧ w'.cell? ⟨g, 4, none⟩ = some (.int .i64 X.size) ∧ w'.cell? ⟨g, 5, none⟩ = some (.int .i64 X.sum) ∧ w'.cell? ⟨g, 6, none⟩ = some (.int .i64 X.mn) ∧ w'.cell? ⟨g, 7, none⟩ = some (.int .i64 X.mx))) (z := 9999) (by kernel_rfl) (HCEL.out hsd) (fun hHeld => ?_)
  refine anyG_take (k := 0) (o := _) (v := ?_) (some 26) rfl (by kernel_rfl) (by kernel_rfl) (by kernel_rfl) (by kernel_rfl) (fun _ _ _ h => h) (Or.inl ⟨by rfl, ?_⟩) (by assumption) (by kernel_rfl) ?_
  rotate_left
  · intro w hSw; (try dsimp only at hSw); go_simp; try with_reducible rfl
  (try simp only [Act.put, List.setIfInBounds_toArray, List.set_cons_zero, List.set_cons_succ])
  refine anyG_take (k := 1) (o := _) (v := ?_) (some 27) rfl (by kernel_rfl) (by kernel_rfl) (by kernel_rfl) (by kernel_rfl) (fun _ _ _ h => h) (Or.inl ⟨by rfl, ?_⟩) (by assumption) (by kernel_rfl) ?_
  rotate_left
  · intro w hSw; (try dsimp only at hSw); go_simp; try with_reducible rfl
  (try simp only [Act.put, List.setIfInBounds_toArray, List.set_cons_zero, List.set_cons_succ])
  refine anyG_take (k := 2) (o := _) (v := ?_) (some 28) rfl (by kernel_rfl) (by kernel_rfl) (by kernel_rfl) (by kernel_rfl) (fun _ _ _ h => h) (Or.inl ⟨by rfl, ?_⟩) (by assumption) (by kernel_rfl) ?_
  rotate_left
  · intro w hSw; (try dsimp only at hSw); go_simp; try with_reducible rfl
  (try simp only [Act.put, List.setIfInBounds_toArray, List.set_cons_zero, List.set_cons_succ])
  refine anyG_take (k := 4) (o := _) (v := ?_) (some 30) rfl (by kernel_rfl) (by kernel_rfl) (by kernel_rfl) (by kernel_rfl) (fun _ _ _ h => h) (Or.inl ⟨by rfl, ?_⟩) (by assumption) (by kernel_rfl) ?_
  rotate_left
  · intro w hSw; (try dsimp only at hSw); go_simp; try with_reducible rfl
  (try simp only [Act.put, List.setIfInBounds_toArray, List.set_cons_zero, List.set_cons_succ])
  refine anyG_take (k := 5) (o := _) (v := ?_) (some 31) rfl (by kernel_rfl) (by kernel_rfl) (by kernel_rfl) (by kernel_rfl) (fun _ _ _ h => h) (Or.inl ⟨by rfl, ?_⟩) (by assumption) (by kernel_rfl) ?_
  rotate_left
  · intro w hSw; (try dsimp only at hSw); go_simp; try with_reducible rfl
  (try simp only [Act.put, List.setIfInBounds_toArray, List.set_cons_zero, List.set_cons_succ])
  refine anyG_one (k := 3) (o := _) (by kernel_rfl) rfl (fun KT hKT => ?_)
  go_simp
  go_at_call 118
  refine (entryJ_any X _).mono ?_
  rintro eA wA ⟨rfl, hbA⟩
  have hsA := hsd.calm hbA
  try go_wp2_with fail
  refine hKT.out _ _ (HCEL.out hsA) (fun hHeld => ?_)
  clear hKT KT
  (try simp only [Act.put, List.setIfInBounds_toArray, List.set_cons_zero, List.set_cons_succ])
  refine anyG_one (k := 6) (o := _) (by kernel_rfl) rfl (fun KT hKT => ?_)
  go_simp
  go_at_call 68
  refine (hsA.mut fun F1 hI1 => link_all I HK.out HKN.out _ ⟨X.key, X.val⟩ wA ⟨hI1, HM2.out.inv, HM2.out.agg, fun j => Nat.le_trans (plL_le HP.out.2.2.1 [y, x] j) (show 1048300 + 2 ≤ 1048400 by decide), (HTY.out), (HOT.out.1.kept HM2.out.kept), (HP.out.2.2.2.2.2.1.high k), (HOT.out.2.1), HOT.out.2.2.1, by have := HSZ.out; have := HHI.out; omega, by have h1 := HRD0.out; have h2 := HQ.out; omega, by have h1 := HRD.out; have h2 := HQ.out; have h3 := HSJ.out; have h4 := HHC.out; rw [HJJ.out]; omega, by have h1 := HRO.out; have h2 := HQ.out; have h3 := HSJ.out; have h4 := HHC.out; rw [HJJ.out]; omega⟩ (Nat.lt_succ_self _)).mono ?_
  rintro eB wB ⟨C, rdC, ⟨b1, b2, j, t, rfl, b3, b4, b5, -⟩, hsB⟩
  rw [HJJ.out] at b2 b5
  try go_wp2_with fail
  refine hKT.out _ _ (HCEL.out hsB) (fun hHeld => ?_)
  clear hKT KT
  (try simp only [Act.put, List.setIfInBounds_toArray, List.set_cons_zero, List.set_cons_succ])
  refine anyG_take (k := 7) (o := _) (v := ?_) (some 25) rfl (by kernel_rfl) (by kernel_rfl) (by kernel_rfl) (by kernel_rfl) (fun _ _ _ h => h) (Or.inl ⟨by rfl, ?_⟩) (by assumption) (by kernel_rfl) ?_
  rotate_left
  · intro w hSw; (try dsimp only at hSw); go_simp; try with_reducible rfl
  (try simp only [Act.put, List.setIfInBounds_toArray, List.set_cons_zero, List.set_cons_succ])
  refine anyG_take (k := 8) (o := _) (v := ?_) (some 33) rfl (by kernel_rfl) (by kernel_rfl) (by kernel_rfl) (by kernel_rfl) (fun _ _ _ h => h) (Or.inl ⟨by rfl, ?_⟩) (by assumption) (by kernel_rfl) ?_
  rotate_left
  · intro w hSw; (try dsimp only at hSw); go_simp; try with_reducible rfl
  (try simp only [Act.put, List.setIfInBounds_toArray, List.set_cons_zero, List.set_cons_succ])
  refine anyG_take (k := 9) (o := _) (v := ?_) (some 34) rfl (by kernel_rfl) (by kernel_rfl) (by kernel_rfl) (by kernel_rfl) (fun _ _ _ h => h) (Or.inl ⟨by rfl, ?_⟩) (by assumption) (by kernel_rfl) ?_
  rotate_left
  · intro w hSw; (try dsimp only at hSw); go_simp; try with_reducible rfl
  (try simp only [Act.put, List.setIfInBounds_toArray, List.set_cons_zero, List.set_cons_succ])
  refine anyG_take (k := 10) (o := _) (v := ?_) (some 35) rfl (by kernel_rfl) (by kernel_rfl) (by kernel_rfl) (by kernel_rfl) (fun _ _ _ h => h) (Or.inl ⟨by rfl, ?_⟩) (by assumption) (by kernel_rfl) ?_
  rotate_left
  · intro w hSw; (try dsimp only at hSw); go_simp; try with_reducible rfl
  (try simp only [Act.put, List.setIfInBounds_toArray, List.set_cons_zero, List.set_cons_succ])
  refine anyG_one (k := 11) (o := _) (by kernel_rfl) rfl (fun KT hKT => ?_)
  obtain ⟨⟨y0, y1, y2, y3⟩, f0, f1, f2, f3⟩ := cells4_of (hsB.boxes _ (List.Mem.head _)).2
  go_simp
  have hsC := Ins.one (n := 3) hsB (.int .u32 (j : Int))
  try go_wp2_with fail
  refine hKT.out _ _ (HCEL.out hsC) (fun hHeld => ?_)
  clear hKT KT
  (try simp only [Act.put, List.setIfInBounds_toArray, List.set_cons_zero, List.set_cons_succ])
  refine anyG_take (k := 12) (o := _) (v := ?_) (some 9) rfl (by kernel_rfl) (by kernel_rfl) (by kernel_rfl) (by kernel_rfl) (fun _ _ _ h => h) (Or.inl ⟨by rfl, ?_⟩) (by assumption) (by kernel_rfl) ?_
  rotate_left
  · intro w hSw; (try dsimp only at hSw); go_simp; try with_reducible rfl
  (try simp only [Act.put, List.setIfInBounds_toArray, List.set_cons_zero, List.set_cons_succ])
  refine anyG_done (by kernel_rfl) ?_ _
  have hn : Mid A held C ([j] ++ [y, x]) := HM2.out.nest b3
  obtain ⟨u1, u2, u3, u4, u5, u6⟩ := (hn.perm (List.Perm.swap y j [x])).give
  have hcl : C.Idx x := HTX.out.idx.imp id fun h => b3.kept.on _ h
  have HSC := Lib.hid hsC
  have HU : Hid (C.Inv [y] (plL held [j, x]) ∧ C.Idx y ∧ y < 4294967296) := ⟨u1, u2, idx_lt32 b3.inv u2⟩
  have HQ2 : Hid (SpQ A rd held tl.ht (tl.ht + 1) (ll ++ (⟨X.key, X.val⟩ : En) :: lr) k (.returned (.tuple #[.agg #[Value.int .u32 (x : Int), .int .i64 V, .bool D, .int .u32 (j : Int)], .int .i64 0])) (C.gone y) rdC) := by
    unfold SpQ
    rw [HC.out.1, HC.out.2.1, HC.out.2.2]
    have hq := HQ.out
    refine ⟨by omega, s + (J + 1), HSJ.out, by omega, x, j, tx, t, by rw [HVD.out.1, HVD.out.2], u3, (HTX.out.kept b3.kept).gone u3.inv (u5 x (by simp) hcl), b4.gone u3.inv (u5 j (by simp) b4.idx), by omega⟩
  clear hsC hsB hsA hsd hbA hHeld HCEL b1 b2 b3 b4 b5 hn u1 u2 u3 u4 u5 u6 hcl HS3
  obtain ⟨⟨p0, p1, p2, p3⟩, -⟩ := cells4_of (HSC.out.boxes _ (List.Mem.head _)).2
  go_wp2_with fail
  refine (HSC.out.release HU.out.2.2 HU.out.2.1 HU.out.1).mono ?_
  rintro en w9 ⟨rfl, hs9⟩
  have HS9 := Lib.hid hs9
  clear hs9 HSC p0 p1 p2 p3
  obtain ⟨⟨p0, p1, p2, p3⟩, -⟩ := cells4_of (HS9.out.boxes _ (List.Mem.head _)).2
  have hq1 := (HS9.out.perm (List.Perm.swap _ _ _))
  obtain ⟨⟨y0, y1, y2, y3⟩, f0, f1, f2, f3⟩ := cells4_of (hq1.boxes _ (List.Mem.head _)).2
  have hne : ¬ b = q := (List.pairwise_cons.1 HS9.out.bb).1 _ (List.Mem.head _)
  have hne2 : ¬ q = b := fun e => hne e.symm
  have hp := hq1.putP x V D j
  have HE : Hid ((∃ F', Alters F F' w (putP w9 q x V D j) ∧ I.Is (putP w9 q x V D j) (.pointer (some pa)) (C.gone y) rdC F') ∧ (putP w9 q x V D j).heap[q]? = some (Obj.cells (ptR x V D j) 111 (0, 0))) := ⟨hp.ends, (hp.boxes _ (List.Mem.head _)).2⟩
  clear hp hq1
  go_wp2_with fail
  refine bodyPost_ret (results_row_tmp rfl _ _ q 111 #[Value.int .u32 (x : Int), .int .i64 V, .bool D, .int .u32 (j : Int)] (0, 0) _ rfl HE.out.2 HUN.out rfl HINF.out) rfl ?_
  obtain ⟨F', hal, hI⟩ := HE.out.1
  exact ⟨F', _, rdC, hal, hI, HQ2.out⟩
set_option maxHeartbeats 16000000 in
set_option maxRecDepth 100000 in
theorem cutRight_any (I : AImpl) (K : RotImpl I) (KN : ShNum) {tl tr : Tr} (ih : CutOk I tr) {p : Value} {A : Ar} {rd : Int} {F : Nat → Prop} {held : Nat → Nat} {i i' : Nat} {l : List En} {k : Int} {X : Nd} (w : World) (hP : CutP (-3) I w p A rd F held i (.node i' tl tr) l k) (hi0 : i ≠ 0) (hX : A.nd i = X) (hk : X.key < k) :
    Calls Tryz.prog 101 #[p, .agg #[Value.int .i64 X.key, .int .i64 X.val, .int .u32 (X.left : Int), .int .u32 (X.right : Int), .int .i64 X.size, .int .i64 X.sum, .int .i64 X.mn, .int .i64 X.mx], .int .i64 k] w (Mut I p F (SpQ A rd held tr.ht (tr.ht + 1) l k) w) := by
  obtain ⟨pa, rfl⟩ := I.ptr hP.is
  have hin : (Tryz.prog.info? 111).map (·.size) = some 4 := by kernel_rfl
  have HINF := Lib.hid hin
  have HUN : Hid _ := Lib.hid Tryz.underlying111
  have hs0 := ((Ins.start hP.is).box #[Value.int .i64 X.key, .int .i64 X.val, .int .u32 (X.left : Int), .int .u32 (X.right : Int), .int .i64 X.size, .int .i64 X.sum, .int .i64 X.mn, .int .i64 X.mx] 64).box #[.int .u32 0, .int .i64 0, .bool false, .int .u32 0] 111
  (try simp only [sz_al] at hs0)
  have HK := Lib.hid K
  have HKN := Lib.hid KN
  have HIH : Hid (CutOk I tr) := @ih
  obtain ⟨tl', tr', ll, lr, hnode, rfl, hA, hB, hab⟩ := hP.tree.split hi0
  rw [hX] at hA hB
  injection hnode with _ e1 e2
  subst e1 e2
  have hup := hP.up
  have hwf := hP.wf
  have hsz := hP.size
  have hrd := hP.rd1
  have hro := hP.room
  rw [hX] at hup hwf hsz hrd hro ⊢
  have hht : (Tr.node i' tl tr).ht = 1 + max tl.ht tr.ht := rfl
  have hm1 := Nat.le_max_right tl.ht tr.ht
  obtain ⟨h, hh⟩ : ∃ h, (Tr.node i' tl tr).ht = h := ⟨_, rfl⟩
  rw [hh] at hrd hro hht
  have hhc : tr.ht + 1 ≤ h := by omega
  obtain ⟨c1, c2, c3⟩ := cut_r hup hk
  rw [c1, c2] at hrd hro
  have hup2 := up_app hup
  have hlen : (ll ++ (⟨X.key, X.val⟩ : En) :: lr).length = ll.length + lr.length + 1 := by simp; omega
  rw [hlen] at hsz
  have hlo := low_len lr k
  have hhi := high_len lr k
  have hmon := xh_up (m := (lowE lr k).length) (n := (ll ++ (⟨X.key, X.val⟩ : En) :: lowE lr k).length) (by simp; omega) (by simp; omega)
  have hcat : (ll ++ (⟨X.key, X.val⟩ : En) :: lowE lr k).length = ll.length + (lowE lr k).length + 1 := by simp; omega
  have HMON := Lib.hid hmon
  have HCAT := Lib.hid hcat
  have HP : Hid (A.Inv [] held ∧ A.Agg ∧ (∀ j, held j ≤ 1048300) ∧ At A X.right tr lr ∧ Up lr ∧ WfL lr ∧ i64R k) := ⟨hP.inv, hP.agg, hP.few, by rw [← hX] at *; first | exact hA | exact hB, hup2.2.1, hwf.right.tail, hP.wk⟩
  have HOT : Hid (At A X.left tl ll ∧ WfL ll ∧ (i64R X.key ∧ i64R X.val) ∧ wbL ll lr) := ⟨by first | exact hB | exact hA, hwf.left, hwf (⟨X.key, X.val⟩ : En) (by simp), hab⟩
  have HSZ := Lib.hid hsz
  have HRD0 : Hid (0 ≤ rd) := hP.rd0
  have HRD := Lib.hid hrd
  have HRO := Lib.hid hro
  have HHC := Lib.hid hhc
  have HLO := Lib.hid hlo
  have HHI := Lib.hid hhi
  have HC : Hid (lowE (ll ++ (⟨X.key, X.val⟩ : En) :: lr) k = ll ++ (⟨X.key, X.val⟩ : En) :: lowE lr k ∧ highE (ll ++ (⟨X.key, X.val⟩ : En) :: lr) k = highE lr k ∧ getE (ll ++ (⟨X.key, X.val⟩ : En) :: lr) k = getE lr k) := ⟨c1, c2, c3⟩
  clear hP ih hi0 hX hk K KN hA hB hab hup hwf hsz hrd hro hht hm1 hh hhc c1 c2 c3 hup2 hlen hlo hhi hmon hcat hin
  go_enter Tryz.func101, Tryz.ntmps101
  go_upto_region 1 with fail
  try simp only [sz_al]
  generalize (w.alloc (Obj.cells #[Value.int .i64 X.key, .int .i64 X.val, .int .u32 (X.left : Int), .int .u32 (X.right : Int), .int .i64 X.size, .int .i64 X.sum, .int .i64 X.mn, .int .i64 X.mx] 64)).alloc (Obj.cells #[.int .u32 0, .int .i64 0, .bool false, .int .u32 0] 111) = w1 at hs0 ⊢
  generalize w.heap.size + 1 = q at hs0 ⊢
  generalize w.heap.size = g at hs0 ⊢
  have HS0 := Lib.hid hs0
  clear hs0
  obtain ⟨⟨x0, x1, x2, x3, x4, x5, x6, x7⟩, -⟩ := HS0.out.row8 (g := g) (X := X) (by simp [ndRow])
  go_wp2_with fail
  refine (HS0.out.mut fun F1 hI1 => HIH.out w1 ⟨hI1, HP.out.1, HP.out.2.1, HP.out.2.2.1, HP.out.2.2.2.1, HP.out.2.2.2.2.1, HP.out.2.2.2.2.2.1, HP.out.2.2.2.2.2.2, by have := HSZ.out; omega, HRD0.out, by have h1 := HRD.out; have h2 := HHC.out; have h3 := HMON.out; omega, by have h1 := HRO.out; have h2 := HHC.out; have h3 := HMON.out; omega⟩).mono ?_
  rintro en w2 ⟨B, rd2, ⟨q0, s, q1, q2, x, y, tx, ty, rfl, q3, q4, q5, q6⟩, hs2⟩
  obtain ⟨V, hV⟩ : ∃ V, (getE lr k).elim (0 : Int) (·.val) = V := ⟨_, rfl⟩
  obtain ⟨D, hD⟩ : ∃ D, (getE lr k).isSome = D := ⟨_, rfl⟩
  rw [hV, hD]
  have HVD : Hid ((getE lr k).elim (0 : Int) (·.val) = V ∧ (getE lr k).isSome = D) := ⟨hV, hD⟩
  have HQ : Hid (rd ≤ rd2 ∧ s ≤ xh (lowE lr k).length + xh (highE lr k).length + tr.ht ∧ rd2 ≤ rd + 14 * (s : Int) + 3 * (tr.ht : Int) ∧ A.σ.free.length ≤ B.σ.free.length + 3 * s) := ⟨q0, q1, q2, q6⟩
  have HM2 : Hid (Mid A held B [y, x]) := q3
  have HTX := Lib.hid q4
  have HTY := Lib.hid q5
  have hs3 := hs2.box #[Value.int .u32 (x : Int), .int .i64 V, .bool D, .int .u32 (y : Int)] 111
  clear hV hD q0 q1 q2 q3 q4 q5 q6 hs2 HS0 x0 x1 x2 x3 x4 x5 x6 x7
  go_upto_region 4 with fail
  generalize w2.alloc (Obj.cells #[Value.int .u32 (x : Int), .int .i64 V, .bool D, .int .u32 (y : Int)] 111) = w3 at hs3 ⊢
  generalize w2.heap.size = b at hs3 ⊢
  have HS3 := Lib.hid hs3
  clear hs3
  obtain ⟨⟨p0, p1, p2, p3⟩, -⟩ := cells4_of (HS3.out.boxes _ (List.Mem.head _)).2
  go_upto_region 5 with fail
  clear p0 p1 p2 p3
  have HJ : Hid (∃ J : Nat, jd tl tx = J ∧ s + (J + 1) ≤ xh (ll ++ (⟨X.key, X.val⟩ : En) :: lowE lr k).length + xh (highE lr k).length + (tr.ht + 1)) := by
    have hq := HQ.out.2.1
    have e1 := HTX.out.size
    have e2 := HOT.out.1.size
    have e3 := HSZ.out
    have e4 := HLO.out
    have e5 := HCAT.out
    have e6 := HOT.out.2.2.2.2
    refine ⟨_, rfl, ?_⟩
    have := split_step_r (t := tl) (u := tx) (hi := (highE lr k).length) (h := tr.ht) (s := s) HOT.out.1.bal HTX.out.bal (by omega) (by omega) (by rw [e1]; exact hq)
    rw [show tl.size + tx.size + 1 = (ll ++ (⟨X.key, X.val⟩ : En) :: lowE lr k).length by omega] at this
    omega
  obtain ⟨J, hJ, hsJ⟩ := HJ.out
  have HJJ := Lib.hid hJ
  have HSJ := Lib.hid hsJ
  clear HJ hJ hsJ
  have HCEL : Hid (∀ {wx : World} {C : Ar} {rdx : Int} {P : Array Value}, Ins I w F (.pointer (some pa)) C rdx [] [(b, Obj.cells P 111 (0, 0)), (q, Obj.cells #[.int .u32 0, .int .i64 0, .bool false, .int .u32 0] 111 (0, 0)), (g, Obj.cells #[Value.int .i64 X.key, .int .i64 X.val, .int .u32 (X.left : Int), .int .u32 (X.right : Int), .int .i64 X.size, .int .i64 X.sum, .int .i64 X.mn, .int .i64 X.mx] 64 (0, 0))] wx → wx.cell? ⟨g, 0, none⟩ = some (.int .i64 X.key) ∧ wx.cell? ⟨g, 1, none⟩ = some (.int .i64 X.val) ∧ wx.cell? ⟨g, 2, none⟩ = some (.int .u32 (X.left : Int)) ∧ wx.cell? ⟨g, 3, none⟩ = some (.int .u32 (X.right : Int)) ∧ wx.cell? ⟨g, 4, none⟩ = some (.int .i64 X.size) ∧ wx.cell? ⟨g, 5, none⟩ = some (.int .i64 X.sum) ∧ wx.cell? ⟨g, 6, none⟩ = some (.int .i64 X.mn) ∧ wx.cell? ⟨g, 7, none⟩ = some (.int .i64 X.mx)) := fun {wx C rdx P} hx => by
    obtain ⟨hq, -⟩ := hx.row8 (g := g) (X := X) (by simp [ndRow])
    exact hq
  have hsd := HS3.out.calm (Below.refl _ _).drew
  refine anyG_begin (S := (fun w' => w'.cell? ⟨g, 0, none⟩ = some (.int .i64 X.key) ∧ w'.cell? ⟨g, 1, none⟩ = some (.int .i64 X.val) ∧ w'.cell? ⟨g, 2, none⟩ = some (.int .u32 (X.left : Int)) ∧ w'.cell? ⟨g, 3, none⟩ = some (.int .u32 (X.right : Int)) ∧ w'.cell? ⟨g, 4, none⟩ = some (.int .i64 X.size) ∧ w'.cell? ⟨g, 5, none⟩ = some (.int .i64 X.sum) ∧ w'.cell? ⟨g, 6, none⟩ = some (.int .i64 X.mn) ∧ w'.cell? ⟨g, 7, none⟩ = some (.int .i64 X.mx))) (z := 9999) (by kernel_rfl) (HCEL.out hsd) (fun hHeld => ?_)
  refine anyG_take (k := 0) (o := _) (v := ?_) (some 26) rfl (by kernel_rfl) (by kernel_rfl) (by kernel_rfl) (by kernel_rfl) (fun _ _ _ h => h) (Or.inl ⟨by rfl, ?_⟩) (by assumption) (by kernel_rfl) ?_
  rotate_left
  · intro w hSw; (try dsimp only at hSw); go_simp; try with_reducible rfl
  (try simp only [Act.put, List.setIfInBounds_toArray, List.set_cons_zero, List.set_cons_succ])
  refine anyG_take (k := 1) (o := _) (v := ?_) (some 27) rfl (by kernel_rfl) (by kernel_rfl) (by kernel_rfl) (by kernel_rfl) (fun _ _ _ h => h) (Or.inl ⟨by rfl, ?_⟩) (by assumption) (by kernel_rfl) ?_
  rotate_left
  · intro w hSw; (try dsimp only at hSw); go_simp; try with_reducible rfl
  (try simp only [Act.put, List.setIfInBounds_toArray, List.set_cons_zero, List.set_cons_succ])
  refine anyG_take (k := 2) (o := _) (v := ?_) (some 28) rfl (by kernel_rfl) (by kernel_rfl) (by kernel_rfl) (by kernel_rfl) (fun _ _ _ h => h) (Or.inl ⟨by rfl, ?_⟩) (by assumption) (by kernel_rfl) ?_
  rotate_left
  · intro w hSw; (try dsimp only at hSw); go_simp; try with_reducible rfl
  (try simp only [Act.put, List.setIfInBounds_toArray, List.set_cons_zero, List.set_cons_succ])
  refine anyG_take (k := 3) (o := _) (v := ?_) (some 29) rfl (by kernel_rfl) (by kernel_rfl) (by kernel_rfl) (by kernel_rfl) (fun _ _ _ h => h) (Or.inl ⟨by rfl, ?_⟩) (by assumption) (by kernel_rfl) ?_
  rotate_left
  · intro w hSw; (try dsimp only at hSw); go_simp; try with_reducible rfl
  (try simp only [Act.put, List.setIfInBounds_toArray, List.set_cons_zero, List.set_cons_succ])
  refine anyG_take (k := 5) (o := _) (v := ?_) (some 31) rfl (by kernel_rfl) (by kernel_rfl) (by kernel_rfl) (by kernel_rfl) (fun _ _ _ h => h) (Or.inl ⟨by rfl, ?_⟩) (by assumption) (by kernel_rfl) ?_
  rotate_left
  · intro w hSw; (try dsimp only at hSw); go_simp; try with_reducible rfl
  (try simp only [Act.put, List.setIfInBounds_toArray, List.set_cons_zero, List.set_cons_succ])
  refine anyG_one (k := 4) (o := _) (by kernel_rfl) rfl (fun KT hKT => ?_)
  go_simp
  go_at_call 118
  refine (entryJ_any X _).mono ?_
  rintro eA wA ⟨rfl, hbA⟩
  have hsA := hsd.calm hbA
  try go_wp2_with fail
  refine hKT.out _ _ (HCEL.out hsA) (fun hHeld => ?_)
  clear hKT KT
  (try simp only [Act.put, List.setIfInBounds_toArray, List.set_cons_zero, List.set_cons_succ])
  refine anyG_one (k := 6) (o := _) (by kernel_rfl) rfl (fun KT hKT => ?_)
  go_simp
  go_at_call 68
  refine (hsA.mut fun F1 hI1 => link_all I HK.out HKN.out _ ⟨X.key, X.val⟩ wA ⟨hI1, HM2.out.inv, HM2.out.agg, fun j => Nat.le_trans (plL_le HP.out.2.2.1 [y, x] j) (show 1048300 + 2 ≤ 1048400 by decide), (HOT.out.1.kept HM2.out.kept), (HTX.out), (HOT.out.2.1), (HP.out.2.2.2.2.2.1.low k), HOT.out.2.2.1, by have := HSZ.out; have := HLO.out; omega, by have h1 := HRD0.out; have h2 := HQ.out; omega, by have h1 := HRD.out; have h2 := HQ.out; have h3 := HSJ.out; have h4 := HHC.out; rw [HJJ.out]; omega, by have h1 := HRO.out; have h2 := HQ.out; have h3 := HSJ.out; have h4 := HHC.out; rw [HJJ.out]; omega⟩ (Nat.lt_succ_self _)).mono ?_
  rintro eB wB ⟨C, rdC, ⟨b1, b2, j, t, rfl, b3, b4, b5, -⟩, hsB⟩
  rw [HJJ.out] at b2 b5
  try go_wp2_with fail
  refine hKT.out _ _ (HCEL.out hsB) (fun hHeld => ?_)
  clear hKT KT
  (try simp only [Act.put, List.setIfInBounds_toArray, List.set_cons_zero, List.set_cons_succ])
  refine anyG_take (k := 7) (o := _) (v := ?_) (some 25) rfl (by kernel_rfl) (by kernel_rfl) (by kernel_rfl) (by kernel_rfl) (fun _ _ _ h => h) (Or.inl ⟨by rfl, ?_⟩) (by assumption) (by kernel_rfl) ?_
  rotate_left
  · intro w hSw; (try dsimp only at hSw); go_simp; try with_reducible rfl
  (try simp only [Act.put, List.setIfInBounds_toArray, List.set_cons_zero, List.set_cons_succ])
  refine anyG_take (k := 8) (o := _) (v := ?_) (some 33) rfl (by kernel_rfl) (by kernel_rfl) (by kernel_rfl) (by kernel_rfl) (fun _ _ _ h => h) (Or.inl ⟨by rfl, ?_⟩) (by assumption) (by kernel_rfl) ?_
  rotate_left
  · intro w hSw; (try dsimp only at hSw); go_simp; try with_reducible rfl
  (try simp only [Act.put, List.setIfInBounds_toArray, List.set_cons_zero, List.set_cons_succ])
  refine anyG_take (k := 9) (o := _) (v := ?_) (some 34) rfl (by kernel_rfl) (by kernel_rfl) (by kernel_rfl) (by kernel_rfl) (fun _ _ _ h => h) (Or.inl ⟨by rfl, ?_⟩) (by assumption) (by kernel_rfl) ?_
  rotate_left
  · intro w hSw; (try dsimp only at hSw); go_simp; try with_reducible rfl
  (try simp only [Act.put, List.setIfInBounds_toArray, List.set_cons_zero, List.set_cons_succ])
  refine anyG_take (k := 10) (o := _) (v := ?_) (some 35) rfl (by kernel_rfl) (by kernel_rfl) (by kernel_rfl) (by kernel_rfl) (fun _ _ _ h => h) (Or.inl ⟨by rfl, ?_⟩) (by assumption) (by kernel_rfl) ?_
  rotate_left
  · intro w hSw; (try dsimp only at hSw); go_simp; try with_reducible rfl
  (try simp only [Act.put, List.setIfInBounds_toArray, List.set_cons_zero, List.set_cons_succ])
  refine anyG_one (k := 11) (o := _) (by kernel_rfl) rfl (fun KT hKT => ?_)
  obtain ⟨⟨y0, y1, y2, y3⟩, f0, f1, f2, f3⟩ := cells4_of (hsB.boxes _ (List.Mem.head _)).2
  go_simp
  have hsC := Ins.one (n := 0) hsB (.int .u32 (j : Int))
  try go_wp2_with fail
  refine hKT.out _ _ (HCEL.out hsC) (fun hHeld => ?_)
  clear hKT KT
  (try simp only [Act.put, List.setIfInBounds_toArray, List.set_cons_zero, List.set_cons_succ])
  refine anyG_take (k := 12) (o := _) (v := ?_) (some 9) rfl (by kernel_rfl) (by kernel_rfl) (by kernel_rfl) (by kernel_rfl) (fun _ _ _ h => h) (Or.inl ⟨by rfl, ?_⟩) (by assumption) (by kernel_rfl) ?_
  rotate_left
  · intro w hSw; (try dsimp only at hSw); go_simp; try with_reducible rfl
  (try simp only [Act.put, List.setIfInBounds_toArray, List.set_cons_zero, List.set_cons_succ])
  refine anyG_done (by kernel_rfl) ?_ _
  have hn : Mid A held C ([j] ++ [y, x]) := HM2.out.nest b3
  obtain ⟨u1, u2, u3, u4, u5, u6⟩ := (hn.perm (((List.Perm.swap y j [x]).trans ((List.Perm.swap x j []).cons y)).trans (List.Perm.swap x y [j]))).give
  have hcl : C.Idx y := HTY.out.idx.imp id fun h => b3.kept.on _ h
  have HSC := Lib.hid hsC
  have HU : Hid (C.Inv [x] (plL held [y, j]) ∧ C.Idx x ∧ x < 4294967296) := ⟨u1, u2, idx_lt32 b3.inv u2⟩
  have HQ2 : Hid (SpQ A rd held tr.ht (tr.ht + 1) (ll ++ (⟨X.key, X.val⟩ : En) :: lr) k (.returned (.tuple #[.agg #[Value.int .u32 (j : Int), .int .i64 V, .bool D, .int .u32 (y : Int)], .int .i64 0])) (C.gone x) rdC) := by
    unfold SpQ
    rw [HC.out.1, HC.out.2.1, HC.out.2.2]
    have hq := HQ.out
    refine ⟨by omega, s + (J + 1), HSJ.out, by omega, j, y, t, ty, by rw [HVD.out.1, HVD.out.2], u3, b4.gone u3.inv (u5 j (by simp) b4.idx), (HTY.out.kept b3.kept).gone u3.inv (u5 y (by simp) hcl), by omega⟩
  clear hsC hsB hsA hsd hbA hHeld HCEL b1 b2 b3 b4 b5 hn u1 u2 u3 u4 u5 u6 hcl HS3
  obtain ⟨⟨p0, p1, p2, p3⟩, -⟩ := cells4_of (HSC.out.boxes _ (List.Mem.head _)).2
  go_wp2_with fail
  refine (HSC.out.release HU.out.2.2 HU.out.2.1 HU.out.1).mono ?_
  rintro en w9 ⟨rfl, hs9⟩
  have HS9 := Lib.hid hs9
  clear hs9 HSC p0 p1 p2 p3
  obtain ⟨⟨p0, p1, p2, p3⟩, -⟩ := cells4_of (HS9.out.boxes _ (List.Mem.head _)).2
  have hq1 := (HS9.out.perm (List.Perm.swap _ _ _))
  obtain ⟨⟨y0, y1, y2, y3⟩, f0, f1, f2, f3⟩ := cells4_of (hq1.boxes _ (List.Mem.head _)).2
  have hne : ¬ b = q := (List.pairwise_cons.1 HS9.out.bb).1 _ (List.Mem.head _)
  have hne2 : ¬ q = b := fun e => hne e.symm
  have hp := hq1.putP j V D y
  have HE : Hid ((∃ F', Alters F F' w (putP w9 q j V D y) ∧ I.Is (putP w9 q j V D y) (.pointer (some pa)) (C.gone x) rdC F') ∧ (putP w9 q j V D y).heap[q]? = some (Obj.cells (ptR j V D y) 111 (0, 0))) := ⟨hp.ends, (hp.boxes _ (List.Mem.head _)).2⟩
  clear hp hq1
  go_wp2_with fail
  refine bodyPost_ret (results_row_tmp rfl _ _ q 111 #[Value.int .u32 (j : Int), .int .i64 V, .bool D, .int .u32 (y : Int)] (0, 0) _ rfl HE.out.2 HUN.out rfl HINF.out) rfl ?_
  obtain ⟨F', hal, hI⟩ := HE.out.1
  exact ⟨F', _, rdC, hal, hI, HQ2.out⟩
end Go.Proofs.YtckkmmdibgoajaaGreat
