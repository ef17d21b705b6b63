/- The arenas that ShapeChecks is asked of: any nodes over any nodes; the steps that came in. -/
import Derived.Test.YticfihklfnjeoaaAuPlay1
import Derived.Test.YticfihklfnjeoaaKitMod
import Derived.Test.YticfihklfnjeoaaKitTree
import Derived.Deep.CutRange
import Derived.Deep.RegionHeld3
import Derived.Deep.DeepCutAuto
import Derived.OwnWalk
set_option linter.unusedVariables false
set_option linter.unusedSimpArgs false
namespace Go.Proofs.Yticfihklfnjeoaa
open Go.RowKit
def TBMade7 (I : AImpl) (B : Nat) (w0 : World) (p x : Value) (A : Ar) (l : List Nat) (e : Ending) (w' : World) : Prop :=
  ∃ (A' : Ar) (z : Nat) (er : Int) (l' : List Nat), A'.σ.cap = A.σ.cap ∧ e = .returned (.tuple #[.int .u32 (z : Int), .int .i64 er]) ∧ TB I B w0 w' p x A' (hof l') l ∧ z < 4294967296 ∧
    ((er = 0 ∧ l' = l ++ [z] ∧ A'.σ.free.length + 1 = A.σ.free.length) ∨ (er = 1 ∧ l' = l ∧ A'.σ.free.length = A.σ.free.length))
theorem tb_make7 {I : AImpl} {B : Nat} {w w0 : World} {p x : Value} {A : Ar} {l : List Nat} (h : TB I B w0 w p x A (hof l) l) {key val : Int} {a b : Nat} (k1 : -9223372036854775808 ≤ key ∧ key ≤ 9223372036854775807) (k2 : -9223372036854775808 ≤ val ∧ val ≤ 9223372036854775807) (h1 : a ∈ l) (h2 : b ∈ l) (hf : A.σ.free ≠ []) (hll : l.length ≤ 1000000) :
    Calls Try.prog 34 #[p, .int .i64 key, .int .i64 val, .int .u32 (a : Int), .int .u32 (b : Int)] w (TBMade7 I B w0 p x A l) := by
  obtain ⟨F, g1, g2, g4⟩ := h.has
  have hl := held_idx h.inv (.inr h1)
  have hr := held_idx h.inv (.inr h2)
  refine (I.make p A 0 F key val a b (hof l) w g1 h.inv h.agg (fun j => Nat.le_trans (hof_len l j) (by omega)) k1.1 k1.2 k2.1 k2.2 (idx_lt4 h.inv a h1) (idx_lt4 h.inv b h2)).mono ?_
  rintro e w1 ⟨F', hal, h4, _, h6⟩
  by_cases hs : (A.node key val a b).size ≤ 2147483647
  · cases hfr : A.σ.free with
    | nil => exact absurd hfr hf
    | cons i t =>
      obtain ⟨rfl, h7⟩ := h6 ⟨hl, hr, hs⟩ i t hfr
      have him := (h.inv.ok.free i).1 (by rw [hfr]; simp)
      have hcap := h.inv.ok.cap2
      refine ⟨A.made i t (A.node key val a b), i, 0, l ++ [i], rfl, rfl, ?_, by omega, .inl ⟨rfl, rfl, by rw [hfr]; rfl⟩⟩
      rw [hof_more l (by omega)]
      exact h.step g2 g4 hal h7 (h.inv.made (x := A.node key val a b) hfr hl hr) (h.agg.made h.inv hfr hl hr hs)
  · obtain ⟨rfl, h7⟩ := h4 (fun h => hs h.2.2)
    exact ⟨A, 0, 1, l, rfl, rfl, h.step g2 g4 hal h7 h.inv h.agg, by decide, .inr ⟨rfl, rfl, rfl⟩⟩
/-- the steps that came in -/
structure Step7 (w : World) (a : Option Addr) (k b off : Nat) (key x y : Int) : Prop where
  addr : a = some ⟨b, off, none⟩
  lt : b < w.heap.size
  c0 : w.cell? ⟨b, off + k * 3, none⟩ = some (.int .i64 key)
  c1 : w.cell? ⟨b, off + k * 3 + 1, none⟩ = some (.int .i64 x)
  c2 : w.cell? ⟨b, off + k * 3 + 2, none⟩ = some (.int .i64 y)
def Steps7 (w : World) (a : Option Addr) (n : Nat) : Prop :=
  ∀ r, r < n → ∃ b off key x y, Step7 w a r b off key x y ∧ I64 key ∧ I64 x ∧ I64 y
theorem Step7.below {w w' : World} {a : Option Addr} {k b off : Nat} {key x y : Int} (hc : Step7 w a k b off key x y) (hb : Below w.heap.size w w') : Step7 w' a k b off key x y := by
  have hcell : ∀ o, w'.cell? ⟨b, o, none⟩ = w.cell? ⟨b, o, none⟩ := fun o => hb.cell (p := ⟨b, o, none⟩) hc.lt
  exact ⟨hc.addr, Nat.lt_of_lt_of_le hc.lt hb.size, (hcell _).trans hc.c0, (hcell _).trans hc.c1, (hcell _).trans hc.c2⟩
theorem steps7_in {H : Type} {enc : TypeId × Value → H} {W : World} {a : Option Addr} {n cap fuel : Nat} {z : DataW H × List MemPlace}
    (h : DataW.trod enc Try.prog W 0 (fun _ => true) true fuel 29 (Value.slice a n cap).cells.toList = some z) : n ≤ cap ∧ cap ≤ maxLen ∧ Steps7 W a n := by
  have hf := fields_in Try.underlying29 Try.underlying72 (by kernel_rfl) (by kernel_rfl) h
  refine ⟨hf.1, hf.2.1, fun r hr => ?_⟩
  obtain ⟨b, off, v, y, m, rfl, hlt, h1, h2⟩ := hf.2.2 r hr 0 _ rfl
  obtain ⟨b', off', v', y', m', he, _, h1', h2'⟩ := hf.2.2 r hr 1 _ rfl
  simp only [Option.some.injEq, Addr.mk.injEq, and_true] at he
  obtain ⟨rfl, rfl⟩ := he
  obtain ⟨b', off', v2, y2, m2, he, _, h12, h22⟩ := hf.2.2 r hr 2 _ rfl
  simp only [Option.some.injEq, Addr.mk.injEq, and_true] at he
  obtain ⟨rfl, rfl⟩ := he
  obtain ⟨key, hv, _, hw⟩ := DataW.trod_int Try.underlying2 h2
  obtain ⟨p, hv', _, hw'⟩ := DataW.trod_int Try.underlying3 h2'
  obtain ⟨u, hv2, _, hw2⟩ := DataW.trod_int Try.underlying3 h22
  simp only [List.cons.injEq, and_true] at hv hv' hv2
  subst hv hv' hv2
  exact ⟨b, off, key, p, u, ⟨rfl, hlt, h1, h1', h12⟩, bounds_i64 hw, bounds_i64 hw', bounds_i64 hw2⟩
theorem tmod_in (key : Int) (h : I64 key) : -9223372036854775808 ≤ key.tmod 12 ∧ key.tmod 12 ≤ 9223372036854775807 := by
  rcases Int.le_total 0 key with h0 | h0
  · rw [Int.tmod_eq_emod_of_nonneg h0]; omega
  · obtain ⟨n, rfl⟩ : ∃ n, key = -n := ⟨-key, by omega⟩
    rw [Int.neg_tmod, Int.tmod_eq_emod_of_nonneg (by omega)]; omega
theorem own_one7 {w : World} {B g : Nat} {e : TypeId} {v : Value} (hg : w.heap[g]? = some (.cells #[v] e (0, 0))) (hB : B ≤ g) : w.ownsRow B e 1 (.slice (some ⟨g, 0, none⟩) 1 1) 1 [v] :=
  ⟨rfl, .inr ⟨g, 1, #[v], rfl, hB, hg, Nat.le_refl _, by unfold maxLen; omega, rfl, rfl⟩⟩
/-- the arena and what was made, while the steps are taken -/
def BRel (I : AImpl) (B : Nat) (w0 : World) (p : Value) (k : Nat) (x : Value) (wr : World) : Prop :=
  ∃ (A : Ar) (xa : Option Addr) (xc : Nat) (l : List Nat), A.σ.cap = 60 ∧ 0 < l.length ∧ l.length ≤ k + 1 ∧ A.σ.free.length + l.length = 61 ∧ x = .slice xa l.length xc ∧ TB I B w0 wr p (.slice xa l.length xc) A (hof l) l
def Build7 (I : AImpl) (w : World) (e : Ending) (w' : World) : Prop :=
  ∃ (p : Value) (A : Ar) (xa : Option Addr) (xc : Nat) (l : List Nat), e = .returned (.tuple #[p, .slice xa l.length xc, .bool true]) ∧ A.σ.cap = 60 ∧ 0 < l.length ∧ l.length ≤ 41 ∧ TB I w.heap.size w w' p (.slice xa l.length xc) A (hof l) l
set_option maxHeartbeats 8000000 in
set_option maxRecDepth 100000 in
theorem build7_any (I : AImpl) (a : Option Addr) (m cap : Nat) (w : World) (hl : Steps7 w a m) (hc : m ≤ cap) (hm : cap ≤ maxLen) :
    Calls Try.prog 18 #[.slice a m cap] w (Build7 I w) := by
  obtain ⟨i0, ji, jz0, jz1, jz2⟩ := info_parts uInfo
  unfold maxLen at hm
  have hmi : (m : Int) ≤ 9223372036854775807 := by omega
  have HLI := Lib.hid hl
  clear hl
  go_enter Try.func18, Try.ntmps18
  go_wp2_with fail
  refine (I.new_ok 60 w (by decide) (by decide)).mono ?_
  rintro e w2 ⟨p, F, rfl, hI, hF, hb2⟩
  obtain ⟨pa, rfl⟩ := I.ptr hI
  have hTB : TB I w.heap.size w (w2.alloc (Obj.cells #[Value.int .u32 0] 30)) (.pointer (some pa)) (.slice (some ⟨w2.heap.size, 0, none⟩) 1 1) (Ar.init 60) (hof [0]) [0] := by
    refine ⟨⟨F, I.below hI (below_new7 _ _), hF, fun k hk hf => by simp [Value.ownBlock] at hk; have := I.dom hI _ hf; omega⟩, ?_, Ar.init_agg 60, hb2.trans ((below_new7 w2 _).mono hb2.size), by have := hb2.size; simp; omega, own_one7 (heap_alloc_new w2 _) hb2.size⟩
    have := Ar.init_inv (n := 60) (by decide) (by decide)
    rw [show hof [0] = fun _ => 0 by funext i; simp [hof]; intro h; rw [List.count_eq_zero]; simp; exact h]
    exact this
  have HR0 : Hid (BRel I w.heap.size w (.pointer (some pa)) 0 (.slice (some ⟨w2.heap.size, 0, none⟩) 1 1) (w2.alloc (Obj.cells #[Value.int .u32 0] 30))) := ⟨Ar.init 60, _, _, [0], rfl, by decide, by decide, (by simp [Ar.init, St.init]), rfl, hTB⟩
  clear hTB hI hF hb2
  go_upto_region 5 with fail
  generalize w2.alloc (Obj.cells #[Value.int .u32 0] 30) = w3 at HR0 ⊢
  generalize w2.heap.size = g2 at HR0 ⊢
  go_wp2_with fail
  go_loopw [7, 8] (fun x i wr => ∃ k : Nat, k ≤ m ∧ k ≤ 40 ∧ i = .int .i64 (k : Int) ∧ BRel I w.heap.size w (.pointer (some pa)) k x wr) (fun x i _ => 40 - (intOf i).toNat)
  case atStart => exact ⟨0, Nat.zero_le _, by decide, rfl, HR0.out⟩
  case round =>
    clear HR0
    obtain ⟨k, hk, hk60, rfl, A, xa, xc, l, hcap, hl0, hlk, hfl, rfl, hT⟩ := hrel
    have HT := Lib.hid hT
    have HCAP := Lib.hid hcap
    have HL0 := Lib.hid hl0
    have HLK := Lib.hid hlk
    have HFL := Lib.hid hfl
    have hk0 : (0 : Int) ≤ (k : Int) := by omega
    by_cases hlt : k < m
    · have hki : (k : Int) < (m : Int) := by omega
      by_cases h60 : k < 40
      · have hki6 : (k : Int) < 40 := by omega
        obtain ⟨b, off, key, x, y, hcs0, hb1, hb3, hb4⟩ := HLI.out k hlt
        have HS0 : Hid (∀ wx, Below w.heap.size w wx → Step7 wx a k b off key x y) := fun wx hb => hcs0.below hb
        have hcs := HS0.out _ hT.below
        clear hcs0
        obtain ⟨L, hL⟩ : ∃ L, l.length = L := ⟨_, rfl⟩
        have HLL := Lib.hid hL
        have hrow := hT.row
        rw [hL] at hl0 hlk hrow ⊢
        have hLi : (L : Int) ≤ 41 := by omega
        have hL1 : (1 : Int) ≤ (L : Int) := by omega
        have hx6 := Int.emod_nonneg x (b := (L : Int)) (by omega)
        have hx7 := Int.emod_lt_of_pos x (b := (L : Int)) (by omega)
        have hy6 := Int.emod_nonneg y (b := (L : Int)) (by omega)
        have hy7 := Int.emod_lt_of_pos y (b := (L : Int)) (by omega)
        obtain ⟨i, hi⟩ := Int.eq_ofNat_of_zero_le hx6
        obtain ⟨j, hj⟩ := Int.eq_ofNat_of_zero_le hy6
        have hiL : i < L := by omega
        have hjL : j < L := by omega
        have HMX : Hid (∀ wx, Calls Try.prog 16 #[.int .i64 x, .int .i64 (L : Int)] wx (fun e w' => e = .returned (.int .i64 (i : Int)) ∧ w' = wx)) := fun wx => (mod_any x L wx hb3.1 hb3.2 hL1 (by omega)).mono fun e w' ⟨h1, h2⟩ => ⟨by rw [h1, hi], h2.symm⟩
        have HMY : Hid (∀ wx, Calls Try.prog 16 #[.int .i64 y, .int .i64 (L : Int)] wx (fun e w' => e = .returned (.int .i64 (j : Int)) ∧ w' = wx)) := fun wx => (mod_any y L wx hb4.1 hb4.2 hL1 (by omega)).mono fun e w' ⟨h1, h2⟩ => ⟨by rw [h1, hj], h2.symm⟩
        have HCS := Lib.hid hcs
        obtain ⟨rfl, hbl, c0, c1, c2⟩ := hcs
        have hil : i < l.length := by rw [hL]; exact hiL
        have hjl : j < l.length := by rw [hL]; exact hjL
        have HIL := Lib.hid hil
        have HJL := Lib.hid hjl
        have hii : (i : Int) < (L : Int) := by omega
        have hi0 : (0 : Int) ≤ (i : Int) := by omega
        have hjj : (j : Int) < (L : Int) := by omega
        have hj0 : (0 : Int) ≤ (j : Int) := by omega
        have HI1 := Lib.hid hb1
        obtain ⟨g, rfl, hg, hci⟩ := row_cell hT.row hil
        obtain ⟨g', hgg, _, hcj⟩ := row_cell hT.row hjl
        simp only [Option.some.injEq, Addr.mk.injEq, and_true] at hgg
        subst hgg
        rw [held_get hil] at hci
        rw [held_get hjl] at hcj
        have hmi' := getD_in hil
        have hmj' := getD_in hjl
        have hgi := held_get hil
        have hgj := held_get hjl
        generalize l.getD i 0 = X at hci hmi' hgi
        generalize l.getD j 0 = Y at hcj hmj' hgj
        have HGI := Lib.hid hgi
        have HGJ := Lib.hid hgj
        have HMI := Lib.hid hmi'
        have HMJ := Lib.hid hmj'
        have HNF : Hid (A.σ.free ≠ []) := fun h => by
          have h1 := HFL.out
          rw [h] at h1
          simp at h1
          omega
        clear hT hcap hl0 hx6 hx7 hy6 hy7 hi hj hiL hjL hil hjl hL hb1 hb3 hb4 hrow hmi' hmj' hfl hgi hgj
        go_upto_region 8 with fail
        have hkr : -9223372036854775808 ≤ key.tmod 12 ∧ key.tmod 12 ≤ 9223372036854775807 := tmod_in key HI1.out
        have HKR := Lib.hid hkr
        clear hkr
        go_cut [9, 10] (fun s9 s10 wx => ∃ (A' : Ar) (z : Nat) (er : Int) (l' : List Nat), A'.σ.cap = A.σ.cap ∧ s9 = .int .u32 (z : Int) ∧ s10 = .int .i64 er ∧ TB I w.heap.size w wx (.pointer (some pa)) (.slice (some ⟨g, 0, none⟩) l.length xc) A' (hof l') l ∧ z < 4294967296 ∧ ((er = 0 ∧ l' = l ++ [z] ∧ A'.σ.free.length + 1 = A.σ.free.length) ∨ (er = 1 ∧ l' = l ∧ A'.σ.free.length = A.σ.free.length)))
        case first =>
          go_region_held3 (fun w' => w'.cell? ⟨b, off + k * 3, none⟩ = some (.int .i64 key) ∧ w'.cell? ⟨b, off + k * 3 + 1, none⟩ = some (.int .i64 x) ∧ w'.cell? ⟨b, off + k * 3 + 2, none⟩ = some (.int .i64 y) ∧ w'.cell? ⟨g, i, none⟩ = some (.int .u32 (X : Int)) ∧ w'.cell? ⟨g, j, none⟩ = some (.int .u32 (Y : Int))) (go_keep) (first
            | (go_at_call_of 16 (Value.int .i64 x); refine (HMX.out _).mono ?_; rintro e wM ⟨rfl, rfl⟩)
            | (go_at_call_of 16 (Value.int .i64 y); refine (HMY.out _).mono ?_; rintro e wN ⟨rfl, rfl⟩)
            | (go_at_call 34; refine (tb_make7 (HT.out.calm (Below.refl _ _).drew) HKR.out (by decide) HMI.out HMJ.out HNF.out (by have := HLL.out; omega)).mono ?_; rintro e wx ⟨A', z, er, l', hcap', rfl, hTx, hi4, hor⟩; obtain ⟨_, _, t1x, t2x, t3x⟩ := HS0.out _ hTx.below; have hrx := (hTx.row.cellAt i (by have := HIL.out; omega)).trans HGI.out; have hrx2 := (hTx.row.cellAt j (by have := HJL.out; omega)).trans HGJ.out))
          all_goals (go_wp2_with fail; go_meet; exact ⟨A', z, er, l', hcap', rfl, rfl, hTx, hi4, hor⟩)
        case' rest =>
          rename World => w5
          obtain ⟨A', z, er, l', hcap', rfl, rfl, hT5, hz4, hor⟩ := hcut
          have hcapn : A'.σ.cap = 60 := by rw [hcap', HCAP.out]
          have HCN := Lib.hid hcapn
          clear c0 c1 c2 hci hcj hbl hcap' hcapn
          rcases hor with ⟨rfl, rfl, hfr⟩ | ⟨rfl, hll, hfr⟩
          · have hT6 := hT5.calm (below_new7 w5 (Obj.cells #[Value.int .u32 (z : Int)] 30))
            have hrow := hT6.row
            have hB := hT6.hB
            rw [HLL.out] at hrow
            have HT6 := Lib.hid hT6
            have HFR := Lib.hid hfr
            have hnew := cell_new1 w5 (Value.int .u32 (z : Int)) 30
            clear hT5 hT6 hfr
            go_wp2_with (at_builtin; refine wpList_append_own_at _ rfl (.tmp 67) (.tmp 69) 32 rfl w.heap.size 30 i0 (.int .u32 0) 1 4 Try.underlying32 ji jz0 jz1 jz2 rfl (by decide) _ L (u32s l) rfl hrow ⟨w5.heap.size, 0, none⟩ 1 1 [.int .u32 (z : Int)] rfl rfl hnew (one_cell1 _ _) (by unfold maxLen; omega) (by omega) hB ?_; intro v6 w6 ho6 hg6 _ hv6)
            obtain ⟨va, vc, rfl⟩ := row_val ho6
            have h9 := HT6.out.grew (l' := l ++ [z]) (v := .slice va (l.length + 1) vc) (by rw [List.length_append, u32s_app, HLL.out]; exact ho6) (by rw [HLL.out]; exact hg6) (by rw [HLL.out]; exact hv6)
            have hlen : (l ++ [z]).length = L + 1 := by rw [List.length_append, HLL.out]; rfl
            have HR : Hid (BRel I w.heap.size w (.pointer (some pa)) (k + 1) (.slice va (L + 1) vc) w6) := ⟨A', va, vc, l ++ [z], HCN.out, by omega, by have := HLK.out; have := HLL.out; omega, by have := HFR.out; have := HFL.out; have := HLL.out; omega, by rw [hlen], by rw [hlen]; rw [HLL.out] at h9; exact h9⟩
            clear h9 hlen ho6 hg6 hv6 hrow hB hnew
            go_wp2_with fail
            exact ⟨⟨k + 1, by omega, by omega, by go_num, HR.out⟩, by simp [intOf]; omega⟩
          · rw [hll] at hT5
            rw [HLL.out] at hT5
            have HR : Hid (BRel I w.heap.size w (.pointer (some pa)) (k + 1) (.slice (some ⟨g, 0, none⟩) L xc) w5) := ⟨A', _, xc, l, HCN.out, HL0.out, by have := HLK.out; omega, by rw [hfr]; exact HFL.out, by rw [HLL.out], by rw [HLL.out]; exact hT5⟩
            clear hT5 hll hfr
            go_wp2_with fail
            exact ⟨⟨k + 1, by omega, by omega, by go_num, HR.out⟩, by simp [intOf]; omega⟩
      · have h60i : decide ((k : Int) < 40) = false := decide_eq_false (by omega)
        have hki : (k : Int) < (m : Int) := by omega
        have HR : Hid (Build7 I w (.returned (.tuple #[.pointer (some pa), .slice xa l.length xc, .bool true])) wr) := ⟨_, A, xa, xc, l, rfl, HCAP.out, HL0.out, by have := HLK.out; omega, HT.out⟩
        clear hT hcap hl0 hlk hk0 hlt hk hk60 hfl h60
        go_wp2_with fail
        go_ret3
        exact HR.out
    · have hki : ¬ (k : Int) < (m : Int) := by omega
      have HR : Hid (Build7 I w (.returned (.tuple #[.pointer (some pa), .slice xa l.length xc, .bool true])) wr) := ⟨_, A, xa, xc, l, rfl, HCAP.out, HL0.out, by have := HLK.out; omega, HT.out⟩
      clear hT hcap hl0 hlk hk0 hlt hk hk60 hfl
      go_wp2_with fail
      go_ret3
      exact HR.out
end Go.Proofs.Yticfihklfnjeoaa
