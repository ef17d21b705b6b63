/- The arenas that the laws of rotations are asked of: any nodes over any nodes, and some free slots. A slice of structs with a struct in them, that came in: the cells of each element and how they read. -/
import Derived.Test.YtkhfofpbmnapjaaAuPlay1
import Derived.Test.YtkhfofpbmnapjaaKitMod
import Derived.Test.YtkhfofpbmnapjaaKitTree
import Derived.Test.YtkhfofpbmnapjaaScnMut
import Derived.Test.YtkhfofpbmnapjaaWf
import Derived.Deep.CutRange
import Derived.Deep.RegionHeld3
import Derived.Deep.DeepCutAuto
import Derived.OwnWalk
set_option linter.unusedVariables false
set_option linter.unusedSimpArgs false
namespace Go.Proofs.Ytkhfofpbmnapjaa
open Go.RowKit
def TBMade7 (I : AImpl) (B : Nat) (w0 : World) (p x : Value) (A : Ar) (l : List Nat) (e : Ending) (w' : World) : Prop :=
  ∃ (A' : Ar) (z : Nat) (er : Int) (l' : List Nat), A'.σ.cap = A.σ.cap ∧ e = .returned (.tuple #[.int .u32 (z : Int), .int .i64 er]) ∧ TB I B w0 w' p x A' (hof l') l ∧ z < 4294967296 ∧ (A.Wf → A'.Wf) ∧
    ((er = 0 ∧ l' = l ++ [z] ∧ A'.σ.free.length + 1 = A.σ.free.length) ∨ (er = 1 ∧ l' = l ∧ A'.σ.free.length = A.σ.free.length))
theorem tb_make7 {I : AImpl} {B : Nat} {w w0 : World} {p x : Value} {A : Ar} {l : List Nat} (h : TB I B w0 w p x A (hof l) l) {key val : Int} {a b : Nat} (k1 : -9223372036854775808 ≤ key ∧ key ≤ 9223372036854775807) (k2 : -9223372036854775808 ≤ val ∧ val ≤ 9223372036854775807) (h1 : a ∈ l) (h2 : b ∈ l) (hf : A.σ.free ≠ []) (hll : l.length ≤ 1000000) :
    Calls Try.prog 25 #[p, .int .i64 key, .int .i64 val, .int .u32 (a : Int), .int .u32 (b : Int)] w (TBMade7 I B w0 p x A l) := by
  obtain ⟨F, g1, g2, g4⟩ := h.has
  have hl := held_idx h.inv (.inr h1)
  have hr := held_idx h.inv (.inr h2)
  refine (I.make p A 0 F key val a b (hof l) w g1 h.inv h.agg (fun j => Nat.le_trans (hof_len l j) (by omega)) k1.1 k1.2 k2.1 k2.2 (idx_lt4 h.inv a h1) (idx_lt4 h.inv b h2)).mono ?_
  rintro e w1 ⟨F', hal, h4, _, h6⟩
  by_cases hs : (A.node key val a b).size ≤ 2147483647
  · cases hfr : A.σ.free with
    | nil => exact absurd hfr hf
    | cons i t =>
      obtain ⟨rfl, h7⟩ := h6 ⟨hl, hr, hs⟩ i t hfr
      have him := (h.inv.ok.free i).1 (by rw [hfr]; simp)
      have hcap := h.inv.ok.cap2
      refine ⟨A.made i t (A.node key val a b), i, 0, l ++ [i], rfl, rfl, ?_, by omega, fun hw => hw.made ⟨k1, k2⟩, .inl ⟨rfl, rfl, by rw [hfr]; rfl⟩⟩
      rw [hof_more l (by omega)]
      exact h.step g2 g4 hal h7 (h.inv.made (x := A.node key val a b) hfr hl hr) (h.agg.made h.inv hfr hl hr hs)
  · obtain ⟨rfl, h7⟩ := h4 (fun h => hs h.2.2)
    exact ⟨A, 0, 1, l, rfl, rfl, h.step g2 g4 hal h7 h.inv h.agg, by decide, fun hw => hw, .inr ⟨rfl, rfl, rfl⟩⟩
/-- a node without children is made -/
theorem tb_make0 {I : AImpl} {B : Nat} {w w0 : World} {p x : Value} {A : Ar} {l : List Nat} (h : TB I B w0 w p x A (hof l) l) (hf : A.σ.free ≠ []) (hll : l.length ≤ 1000000) :
    Calls Try.prog 25 #[p, .int .i64 0, .int .i64 0, .int .u32 0, .int .u32 0] w fun e w' => ∃ (A' : Ar) (z : Nat), A'.σ.cap = A.σ.cap ∧ e = .returned (.tuple #[.int .u32 (z : Int), .int .i64 0]) ∧ TB I B w0 w' p x A' (hof (l ++ [z])) l ∧ z < 4294967296 ∧ (A.Wf → A'.Wf) ∧ A'.σ.free.length + 1 = A.σ.free.length := by
  obtain ⟨F, g1, g2, g4⟩ := h.has
  refine (I.make p A 0 F 0 0 0 0 (hof l) w g1 h.inv h.agg (fun j => Nat.le_trans (hof_len l j) (by omega)) (by decide) (by decide) (by decide) (by decide) (by decide) (by decide)).mono ?_
  rintro e w1 ⟨F', hal, h4, _, h6⟩
  have hs : (A.node 0 0 0 0).size ≤ 2147483647 := by show 1 + A.sz 0 + A.sz 0 ≤ _; unfold Ar.sz; rw [if_pos rfl]; decide
  cases hfr : A.σ.free with
  | nil => exact absurd hfr hf
  | cons i t =>
    obtain ⟨rfl, h7⟩ := h6 ⟨.inl rfl, .inl rfl, hs⟩ i t hfr
    have him := (h.inv.ok.free i).1 (by rw [hfr]; simp)
    have hcap := h.inv.ok.cap2
    refine ⟨A.made i t (A.node 0 0 0 0), i, rfl, rfl, ?_, by omega, fun hw => hw.made ⟨⟨by show (-9223372036854775808 : Int) ≤ 0; decide, by show (0 : Int) ≤ _; decide⟩, ⟨by show (-9223372036854775808 : Int) ≤ 0; decide, by show (0 : Int) ≤ _; decide⟩⟩, by rfl⟩
    rw [hof_more l (by omega)]
    exact h.step g2 g4 hal h7 (h.inv.made (x := A.node 0 0 0 0) hfr (.inl rfl) (.inl rfl)) (h.agg.made h.inv hfr (.inl rfl) (.inl rfl) hs)
theorem tb_free {I : AImpl} {B : Nat} {w w0 : World} {p x : Value} {A : Ar} {l : List Nat} {held : Nat → Nat} (h : TB I B w0 w p x A held l) : Calls Try.prog 17 #[p] w fun e w' => e = .returned (.int .i64 (A.σ.free.length : Int)) ∧ TB I B w0 w' p x A held l := by
  obtain ⟨F, h2, _⟩ := h.has
  exact (I.freeN p A 0 F w h2).mono fun e w1 ⟨h3, q, h4⟩ => ⟨h3, by subst h4; exact h.calm (below_drewN (Below.refl _ _) _)⟩
theorem TB.scn {I : AImpl} {B : Nat} {w w0 : World} {p : Value} {xa : Option Addr} {xc L : Nat} {A : Ar} {l : List Nat} {held : Nat → Nat} (hL : l.length = L) (h : TB I B w0 w p (.slice xa L xc) A held l) : Scn I B w0 w p A 0 [⟨28, 1, .slice xa L xc, L, u32s l⟩] [] := by
  subst hL
  obtain ⟨F, h1, h2, h3⟩ := h.has
  refine ⟨⟨⟨F, h1, h2, fun k hk => ?_⟩, h.below, h.hB⟩, fun r hr => ?_, fun b hb => (by cases hb), List.pairwise_singleton _ _, List.Pairwise.nil, fun r hr b hb => (by cases hb)⟩
  · rcases hk with ⟨r, hr, hk⟩ | ⟨b, hb, _⟩
    · simp at hr
      subst hr
      exact ⟨(row_lt h.row k hk).2, h3 k hk⟩
    · cases hb
  · simp at hr
    subst hr
    exact h.row
/-- the steps that came in -/
structure Step12 (w : World) (a : Option Addr) (k b off : Nat) (key val x y : Int) : Prop where
  addr : a = some ⟨b, off, none⟩
  lt : b < w.heap.size
  c0 : w.cell? ⟨b, off + k * 4, none⟩ = some (.int .i64 key)
  c1 : w.cell? ⟨b, off + k * 4 + 1, none⟩ = some (.int .i64 val)
  c2 : w.cell? ⟨b, off + k * 4 + 2, none⟩ = some (.int .i64 x)
  c3 : w.cell? ⟨b, off + k * 4 + 3, none⟩ = some (.int .i64 y)
def Steps12 (w : World) (a : Option Addr) (n : Nat) : Prop :=
  ∀ r, r < n → ∃ b off key val x y, Step12 w a r b off key val x y ∧ I64 key ∧ I64 val ∧ I64 x ∧ I64 y
theorem Step12.below {w w' : World} {a : Option Addr} {k b off : Nat} {key val x y : Int} (hc : Step12 w a k b off key val x y) (hb : Below w.heap.size w w') : Step12 w' a k b off key val x y := by
  have hcell : ∀ o, w'.cell? ⟨b, o, none⟩ = w.cell? ⟨b, o, none⟩ := fun o => hb.cell (p := ⟨b, o, none⟩) hc.lt
  exact ⟨hc.addr, Nat.lt_of_lt_of_le hc.lt hb.size, (hcell _).trans hc.c0, (hcell _).trans hc.c1, (hcell _).trans hc.c2, (hcell _).trans hc.c3⟩
theorem own_one7 {w : World} {B g : Nat} {e : TypeId} {v : Value} (hg : w.heap[g]? = some (.cells #[v] e (0, 0))) (hB : B ≤ g) : w.ownsRow B e 1 (.slice (some ⟨g, 0, none⟩) 1 1) 1 [v] :=
  ⟨rfl, .inr ⟨g, 1, #[v], rfl, hB, hg, Nat.le_refl _, by unfold maxLen; omega, rfl, rfl⟩⟩
/-- the arena and what was made, while the steps are taken -/
def CRel (I : AImpl) (B : Nat) (w0 : World) (p : Value) (T sp k : Nat) (x : Value) (wr : World) : Prop :=
  ∃ (A : Ar) (xa : Option Addr) (xc : Nat) (l : List Nat), A.σ.cap = T + 1 + sp ∧ 0 < l.length ∧ l.length ≤ k + 1 ∧ A.σ.free.length + l.length = T + 2 + sp ∧ x = .slice xa l.length xc ∧ A.Wf ∧ TB I B w0 wr p (.slice xa l.length xc) A (hof l) l
/-- while the rest is filled -/
def DRel (I : AImpl) (B : Nat) (w0 : World) (p : Value) (T sp c : Nat) (x : Value) (wr : World) : Prop :=
  ∃ (A : Ar) (xa : Option Addr) (xc : Nat) (l : List Nat), A.σ.cap = T + 1 + sp ∧ 0 < l.length ∧ l.length ≤ T + 2 ∧ A.σ.free.length + l.length = T + 2 + sp ∧ sp ≤ A.σ.free.length ∧ c + A.σ.free.length ≤ T + 1 + sp ∧ x = .slice xa l.length xc ∧ A.Wf ∧ TB I B w0 wr p (.slice xa l.length xc) A (hof l) l
def Build12 (I : AImpl) (sp : Nat) (w : World) (e : Ending) (w' : World) : Prop :=
  ∃ (p : Value) (A : Ar) (xa : Option Addr) (xc : Nat) (l : List Nat), e = .returned (.tuple #[p, .slice xa l.length xc, .bool true]) ∧ A.σ.free.length = sp ∧ 0 < l.length ∧ l.length ≤ 27 ∧ A.Wf ∧ TB I w.heap.size w w' p (.slice xa l.length xc) A (hof l) l
set_option maxHeartbeats 8000000 in
set_option maxRecDepth 100000 in
theorem build12_any (I : AImpl) (a : Option Addr) (m cap sp : Nat) (w : World) (hl : Steps12 w a m) (hc : m ≤ cap) (hm : cap ≤ maxLen) (hsp : sp ≤ 5) :
    Calls Try.prog 7 #[.slice a m cap, .int .i64 (sp : Int)] w (Build12 I sp w) := by
  obtain ⟨i0, ji, jz0, jz1, jz2⟩ := info_parts uInfo
  unfold maxLen at hm
  have hmi : (m : Int) ≤ 9223372036854775807 := by omega
  have HLI := Lib.hid hl
  clear hl
  obtain ⟨T, hT⟩ : ∃ T : Nat, min (m : Int) 25 = (T : Int) := ⟨(min (m : Int) 25).toNat, by omega⟩
  have hTm : T ≤ m := by omega
  have hT25 : T ≤ 25 := by omega
  have HTM : Hid (T ≤ m ∧ T ≤ 25) := ⟨hTm, hT25⟩
  have HSP := Lib.hid hsp
  have v1 : IntKind.i64.wrap ((T : Int) + 1) = (T : Int) + 1 := by rw [IntKind.wrap_i64]; omega
  obtain ⟨N, hN⟩ : ∃ N, T + 1 + sp = N := ⟨_, rfl⟩
  have v2 : IntKind.i64.wrap ((T : Int) + 1 + (sp : Int)) = (N : Int) := by rw [IntKind.wrap_i64]; omega
  have HNN := Lib.hid hN
  have hTi : (T : Int) ≤ 25 := by omega
  have hmn : ∀ (w : World) (ts : Array TypeId) (t : TypeId), (Builtin.min_ ts t #[.int .i64 (m : Int), .int .i64 25]).run Try.prog w = .ok (.int .i64 (T : Int)) w := fun w ts t => by
    have h : (if (25 : Int) < (m : Int) then (25 : Int) else (m : Int)) = (T : Int) := by rw [← hT, Int.min_def]; split <;> split <;> omega
    rw [← h]
    simp [Builtin.min_, Builtin.min2]
  clear hTm hT25 hT hN
  go_enter Try.func7, Try.ntmps7
  go_wp2_with fail
  refine (I.new_ok N w (by have := HNN.out; omega) (by have := HSP.out; have := HTM.out; have := HNN.out; omega)).mono ?_
  rintro e w2 ⟨p, F, rfl, hI, hF, hb2⟩
  obtain ⟨pa, rfl⟩ := I.ptr hI
  have hTB : TB I w.heap.size w (w2.alloc (Obj.cells #[Value.int .u32 0] 28)) (.pointer (some pa)) (.slice (some ⟨w2.heap.size, 0, none⟩) 1 1) (Ar.init N) (hof [0]) [0] := by
    refine ⟨⟨F, I.below hI (below_new7 _ _), hF, fun k hk hf => by simp [Value.ownBlock] at hk; have := I.dom hI _ hf; omega⟩, ?_, Ar.init_agg N, hb2.trans ((below_new7 w2 _).mono hb2.size), by have := hb2.size; simp; omega, own_one7 (heap_alloc_new w2 _) hb2.size⟩
    have := Ar.init_inv (n := N) (by have := HNN.out; omega) (by have := HSP.out; have := HTM.out; have := HNN.out; omega)
    rw [show hof [0] = fun _ => 0 by funext i; simp [hof]; intro h; rw [List.count_eq_zero]; simp; exact h]
    exact this
  have HR0 : Hid (CRel I w.heap.size w (.pointer (some pa)) T sp 0 (.slice (some ⟨w2.heap.size, 0, none⟩) 1 1) (w2.alloc (Obj.cells #[Value.int .u32 0] 28))) := ⟨Ar.init N, _, _, [0], HNN.out.symm, by decide, by decide, (by have := HNN.out; simp [Ar.init, St.init]; omega), rfl, Ar.wf_init N, hTB⟩
  clear hTB hI hF hb2
  go_upto_region 6 with fail
  generalize w2.alloc (Obj.cells #[Value.int .u32 0] 28) = w3 at HR0 ⊢
  generalize w2.heap.size = g2 at HR0 ⊢
  clear v1 v2
  go_wp2_with fail
  go_loopw [10, 11] (fun x i wr => ∃ k : Nat, k ≤ T ∧ i = .int .i64 (k : Int) ∧ CRel I w.heap.size w (.pointer (some pa)) T sp k x wr) (fun x i _ => T - (intOf i).toNat)
  case atStart => exact ⟨0, Nat.zero_le _, rfl, HR0.out⟩
  case round =>
    clear HR0
    obtain ⟨k, hk, rfl, A, xa, xc, l, hcap, hl0, hlk, hfl, rfl, hwfa, hT⟩ := hrel
    have HT := Lib.hid hT
    have HWFA := Lib.hid hwfa
    clear hwfa
    have HCAP := Lib.hid hcap
    have HL0 := Lib.hid hl0
    have HLK := Lib.hid hlk
    have HFL := Lib.hid hfl
    have hk0 : (0 : Int) ≤ (k : Int) := by omega
    by_cases hlt : k < T
    · have hki : (k : Int) < (T : Int) := by omega
      · have hkm : (k : Int) < (m : Int) := by have := HTM.out; omega
        have HLTK := Lib.hid hlt
        obtain ⟨b, off, key, val, x, y, hcs0, hb1, hb2v, hb3, hb4⟩ := HLI.out k (by have := HTM.out; omega)
        have HBV := Lib.hid hb2v
        have HS0 : Hid (∀ wx, Below w.heap.size w wx → Step12 wx a k b off key val x y) := fun wx hb => hcs0.below hb
        have hcs := HS0.out _ hT.below
        clear hcs0
        obtain ⟨L, hL⟩ : ∃ L, l.length = L := ⟨_, rfl⟩
        have HLL := Lib.hid hL
        have hrow := hT.row
        rw [hL] at hl0 hlk hrow ⊢
        have hLi : (L : Int) ≤ 41 := by have := HTM.out; omega
        have hL1 : (1 : Int) ≤ (L : Int) := by omega
        have hx6 := Int.emod_nonneg x (b := (L : Int)) (by omega)
        have hx7 := Int.emod_lt_of_pos x (b := (L : Int)) (by omega)
        have hy6 := Int.emod_nonneg y (b := (L : Int)) (by omega)
        have hy7 := Int.emod_lt_of_pos y (b := (L : Int)) (by omega)
        obtain ⟨i, hi⟩ := Int.eq_ofNat_of_zero_le hx6
        obtain ⟨j, hj⟩ := Int.eq_ofNat_of_zero_le hy6
        have hiL : i < L := by omega
        have hjL : j < L := by omega
        have HMX : Hid (∀ wx, Calls Try.prog 9 #[.int .i64 x, .int .i64 (L : Int)] wx (fun e w' => e = .returned (.int .i64 (i : Int)) ∧ w' = wx)) := fun wx => (mod_any x L wx hb3.1 hb3.2 hL1 (by omega)).mono fun e w' ⟨h1, h2⟩ => ⟨by rw [h1, hi], h2.symm⟩
        have HMY : Hid (∀ wx, Calls Try.prog 9 #[.int .i64 y, .int .i64 (L : Int)] wx (fun e w' => e = .returned (.int .i64 (j : Int)) ∧ w' = wx)) := fun wx => (mod_any y L wx hb4.1 hb4.2 hL1 (by omega)).mono fun e w' ⟨h1, h2⟩ => ⟨by rw [h1, hj], h2.symm⟩
        have HCS := Lib.hid hcs
        obtain ⟨rfl, hbl, c0, c1, c2, c3⟩ := hcs
        have hil : i < l.length := by rw [hL]; exact hiL
        have hjl : j < l.length := by rw [hL]; exact hjL
        have HIL := Lib.hid hil
        have HJL := Lib.hid hjl
        have hii : (i : Int) < (L : Int) := by omega
        have hi0 : (0 : Int) ≤ (i : Int) := by omega
        have hjj : (j : Int) < (L : Int) := by omega
        have hj0 : (0 : Int) ≤ (j : Int) := by omega
        have HI1 := Lib.hid hb1
        obtain ⟨g, rfl, hg, hci⟩ := row_cell hT.row hil
        obtain ⟨g', hgg, _, hcj⟩ := row_cell hT.row hjl
        simp only [Option.some.injEq, Addr.mk.injEq, and_true] at hgg
        subst hgg
        rw [held_get hil] at hci
        rw [held_get hjl] at hcj
        have hmi' := getD_in hil
        have hmj' := getD_in hjl
        have hgi := held_get hil
        have hgj := held_get hjl
        generalize l.getD i 0 = X at hci hmi' hgi
        generalize l.getD j 0 = Y at hcj hmj' hgj
        have HGI := Lib.hid hgi
        have HGJ := Lib.hid hgj
        have HMI := Lib.hid hmi'
        have HMJ := Lib.hid hmj'
        have HNF : Hid (A.σ.free ≠ []) := fun h => by
          have h1 := HFL.out
          rw [h] at h1
          simp at h1
          have h2 := HLK.out
          have h3 := HLTK.out
          omega
        clear hT hcap hl0 hx6 hx7 hy6 hy7 hi hj hiL hjL hil hjl hL hb1 hb3 hb4 hrow hmi' hmj' hfl hgi hgj hlt hb2v
        go_upto_region 9 with fail
        go_cut [12, 13] (fun s9 s10 wx => ∃ (A' : Ar) (z : Nat) (er : Int) (l' : List Nat), A'.σ.cap = A.σ.cap ∧ s9 = .int .u32 (z : Int) ∧ s10 = .int .i64 er ∧ TB I w.heap.size w wx (.pointer (some pa)) (.slice (some ⟨g, 0, none⟩) l.length xc) A' (hof l') l ∧ z < 4294967296 ∧ (A.Wf → A'.Wf) ∧ ((er = 0 ∧ l' = l ++ [z] ∧ A'.σ.free.length + 1 = A.σ.free.length) ∨ (er = 1 ∧ l' = l ∧ A'.σ.free.length = A.σ.free.length)))
        case first =>
          go_region_held3 (fun w' => w'.cell? ⟨b, off + k * 4, none⟩ = some (.int .i64 key) ∧ w'.cell? ⟨b, off + k * 4 + 1, none⟩ = some (.int .i64 val) ∧ w'.cell? ⟨b, off + k * 4 + 2, none⟩ = some (.int .i64 x) ∧ w'.cell? ⟨b, off + k * 4 + 3, none⟩ = some (.int .i64 y) ∧ w'.cell? ⟨g, i, none⟩ = some (.int .u32 (X : Int)) ∧ w'.cell? ⟨g, j, none⟩ = some (.int .u32 (Y : Int))) (go_keep) (first
            | (go_at_call_of 9 (Value.int .i64 x); refine (HMX.out _).mono ?_; rintro e wM ⟨rfl, rfl⟩)
            | (go_at_call_of 9 (Value.int .i64 y); refine (HMY.out _).mono ?_; rintro e wN ⟨rfl, rfl⟩)
            | (go_at_call 25; refine (tb_make7 (HT.out.calm (Below.refl _ _).drew) HI1.out HBV.out HMI.out HMJ.out HNF.out (by have := HLL.out; omega)).mono ?_; rintro e wx ⟨A', z, er, l', hcap', rfl, hTx, hi4, hwx, hor⟩; obtain ⟨_, _, t1x, t2x, t3x, t4x⟩ := HS0.out _ hTx.below; have hrx := (hTx.row.cellAt i (by have := HIL.out; omega)).trans HGI.out; have hrx2 := (hTx.row.cellAt j (by have := HJL.out; omega)).trans HGJ.out))
          all_goals (go_wp2_with fail; go_meet; exact ⟨A', z, er, l', hcap', rfl, rfl, hTx, hi4, hwx, hor⟩)
        case' rest =>
          rename World => w5
          obtain ⟨A', z, er, l', hcap', rfl, rfl, hT5, hz4, hwx, hor⟩ := hcut
          have hcapn : A'.σ.cap = T + 1 + sp := by rw [hcap', HCAP.out]
          have HCN := Lib.hid hcapn
          have HWX := Lib.hid (hwx HWFA.out)
          clear hwx
          clear c0 c1 c2 c3 hci hcj hbl hcap' hcapn
          rcases hor with ⟨rfl, rfl, hfr⟩ | ⟨rfl, hll, hfr⟩
          · have hT6 := hT5.calm (below_new7 w5 (Obj.cells #[Value.int .u32 (z : Int)] 28))
            have hrow := hT6.row
            have hB := hT6.hB
            rw [HLL.out] at hrow
            have HT6 := Lib.hid hT6
            have HFR := Lib.hid hfr
            have hnew := cell_new1 w5 (Value.int .u32 (z : Int)) 28
            clear hT5 hT6 hfr
            go_wp2_with (at_builtin; refine wpList_append_own_at _ rfl (.tmp 81) (.tmp 83) 24 rfl w.heap.size 28 i0 (.int .u32 0) 1 4 Try.underlying24 ji jz0 jz1 jz2 rfl (by decide) _ L (u32s l) rfl hrow ⟨w5.heap.size, 0, none⟩ 1 1 [.int .u32 (z : Int)] rfl rfl hnew (one_cell1 _ _) (by unfold maxLen; omega) (by omega) hB ?_; intro v6 w6 ho6 hg6 _ hv6)
            obtain ⟨va, vc, rfl⟩ := row_val ho6
            have h9 := HT6.out.grew (l' := l ++ [z]) (v := .slice va (l.length + 1) vc) (by rw [List.length_append, u32s_app, HLL.out]; exact ho6) (by rw [HLL.out]; exact hg6) (by rw [HLL.out]; exact hv6)
            have hlen : (l ++ [z]).length = L + 1 := by rw [List.length_append, HLL.out]; rfl
            have HR : Hid (CRel I w.heap.size w (.pointer (some pa)) T sp (k + 1) (.slice va (L + 1) vc) w6) := ⟨A', va, vc, l ++ [z], HCN.out, by omega, by have := HLK.out; have := HLL.out; omega, by have := HFR.out; have := HFL.out; have := HLL.out; omega, by rw [hlen], HWX.out, by rw [hlen]; rw [HLL.out] at h9; exact h9⟩
            clear h9 hlen ho6 hg6 hv6 hrow hB hnew
            go_wp2_with fail
            exact ⟨⟨k + 1, by have := HLTK.out; omega, by go_num, HR.out⟩, by have := HLTK.out; simp [intOf]; omega⟩
          · rw [hll] at hT5
            rw [HLL.out] at hT5
            have HR : Hid (CRel I w.heap.size w (.pointer (some pa)) T sp (k + 1) (.slice (some ⟨g, 0, none⟩) L xc) w5) := ⟨A', _, xc, l, HCN.out, HL0.out, by have := HLK.out; omega, by rw [hfr]; exact HFL.out, by rw [HLL.out], HWX.out, by rw [HLL.out]; exact hT5⟩
            clear hT5 hll hfr
            go_wp2_with fail
            exact ⟨⟨k + 1, by have := HLTK.out; omega, by go_num, HR.out⟩, by have := HLTK.out; simp [intOf]; omega⟩
    · obtain rfl : k = T := by omega
      have hki : ¬ (k : Int) < (k : Int) := by omega
      have HD0 : Hid (DRel I w.heap.size w (.pointer (some pa)) k sp 0 (.slice xa l.length xc) wr) := ⟨A, xa, xc, l, hcap, hl0, by omega, hfl, by omega, by omega, rfl, HWFA.out, hT⟩
      clear hT hcap hl0 hlk hlt hk hfl
      go_wp2_with fail
      go_loopw [10, 14] (fun x c wr => ∃ cc : Nat, c = .int .i64 (cc : Int) ∧ DRel I w.heap.size w (.pointer (some pa)) k sp cc x wr) (fun _ c _ => 60 - (intOf c).toNat)
      case atStart => exact ⟨0, rfl, HD0.out⟩
      case round =>
        clear HD0
        obtain ⟨c, rfl, A, xa, xc, l, hcap, hl0, hlk, hfl, hspf, hcf, rfl, hwfa, hT⟩ := hrel
        have HT := Lib.hid hT
        have HWFA := Lib.hid hwfa
        clear hwfa
        have HF : Hid (A.σ.cap = k + 1 + sp ∧ 0 < l.length ∧ l.length ≤ k + 2 ∧ A.σ.free.length + l.length = k + 2 + sp ∧ sp ≤ A.σ.free.length ∧ c + A.σ.free.length ≤ k + 1 + sp) := ⟨hcap, hl0, hlk, hfl, hspf, hcf⟩
        have hc60 : (c : Int) < 60 := by have := HTM.out; have := HSP.out; omega
        have hc0 : (0 : Int) ≤ (c : Int) := by omega
        by_cases hgt : sp < A.σ.free.length
        · have hgi : decide ((A.σ.free.length : Int) > (sp : Int)) = true := decide_eq_true (by omega)
          have hgj : decide ((sp : Int) < (A.σ.free.length : Int)) = true := decide_eq_true (by omega)
          have hgk : decide (sp < A.σ.free.length) = true := decide_eq_true hgt
          have HGT := Lib.hid hgt
          obtain ⟨L, hL⟩ : ∃ L, l.length = L := ⟨_, rfl⟩
          have HLL := Lib.hid hL
          rw [hL]
          have hLi : (L : Int) ≤ 41 := by have := HTM.out; omega
          clear hT hcap hl0 hlk hfl hspf hcf hgt hL
          go_wp2_with fail
          refine (tb_free HT.out).mono ?_
          rintro e w4 ⟨rfl, hT4⟩
          have HT4 := Lib.hid hT4
          clear hT4 HT
          go_wp2_with fail
          refine (tb_make0 HT4.out (fun h => by have := HGT.out; rw [h] at this; simp at this) (by have := HF.out; have := HTM.out; omega)).mono ?_
          rintro e w5 ⟨A', z, hcap', rfl, hT5, hz4, hwx, hfr⟩
          have HWX := Lib.hid (hwx HWFA.out)
          clear hwx
          have hT6 := hT5.calm (below_new7 w5 (Obj.cells #[Value.int .u32 (z : Int)] 28))
          have hrow := hT6.row
          have hB := hT6.hB
          rw [HLL.out] at hrow
          have HT6 := Lib.hid hT6
          have HFR : Hid (A'.σ.cap = A.σ.cap ∧ A'.σ.free.length + 1 = A.σ.free.length) := ⟨hcap', hfr⟩
          have hnew := cell_new1 w5 (Value.int .u32 (z : Int)) 28
          clear hT5 hT6 hfr hcap' HT4 hgi hgj hgk
          go_wp2_with (at_builtin; refine wpList_append_own_at _ rfl (.tmp 104) (.tmp 106) 24 rfl w.heap.size 28 i0 (.int .u32 0) 1 4 Try.underlying24 ji jz0 jz1 jz2 rfl (by decide) _ L (u32s l) rfl hrow ⟨w5.heap.size, 0, none⟩ 1 1 [.int .u32 (z : Int)] rfl rfl hnew (one_cell1 _ _) (by unfold maxLen; omega) (by omega) hB ?_; intro v6 w6 ho6 hg6 _ hv6)
          obtain ⟨va, vc, rfl⟩ := row_val ho6
          have h9 := HT6.out.grew (l' := l ++ [z]) (v := .slice va (l.length + 1) vc) (by rw [List.length_append, u32s_app, HLL.out]; exact ho6) (by rw [HLL.out]; exact hg6) (by rw [HLL.out]; exact hv6)
          have hlen : (l ++ [z]).length = L + 1 := by rw [List.length_append, HLL.out]; rfl
          have HR : Hid (DRel I w.heap.size w (.pointer (some pa)) k sp (c + 1) (.slice va (L + 1) vc) w6) := by
            have f1 := HF.out; have f2 := HFR.out; have f3 := HLL.out; have f4 := HGT.out
            exact ⟨A', va, vc, l ++ [z], by omega, by omega, by omega, by omega, by omega, by omega, by rw [hlen], HWX.out, by rw [hlen]; rw [HLL.out] at h9; exact h9⟩
          clear h9 hlen ho6 hg6 hv6 hrow hB hnew
          go_wp2_with fail
          exact ⟨⟨c + 1, by go_num, HR.out⟩, by simp [intOf]; omega⟩
        · have hgi : decide ((A.σ.free.length : Int) > (sp : Int)) = false := decide_eq_false (by omega)
          have hgj : decide ((sp : Int) < (A.σ.free.length : Int)) = false := decide_eq_false (by omega)
          have hgk : decide (sp < A.σ.free.length) = false := decide_eq_false hgt
          have hfe : A.σ.free.length = sp := by omega
          have HFE := Lib.hid hfe
          clear hT hcap hl0 hlk hfl hspf hcf hgt hfe
          go_wp2_with fail
          refine (tb_free HT.out).mono ?_
          rintro e w4 ⟨rfl, hT4⟩
          have HR : Hid (Build12 I sp w (.returned (.tuple #[.pointer (some pa), .slice xa l.length xc, .bool true])) w4) := ⟨_, A, xa, xc, l, rfl, HFE.out, HF.out.2.1, by have := HF.out; have := HTM.out; omega, HWFA.out, hT4⟩
          clear hT4 HT
          go_wp2_with fail
          go_ret3
          exact HR.out
end Go.Proofs.Ytkhfofpbmnapjaa
set_option linter.unusedVariables false
set_option linter.unusedSimpArgs false
namespace Go.Proofs.Ytkhfofpbmnapjaa
open Go.RowKit
open Go.Deep in
theorem rows_in {H : Type} {enc : TypeId × Value → H} {P : Program} {W : World} {t e : TypeId} {s : Nat} {a : Option Addr} {n cap fuel : Nat} {x : DataW H × List MemPlace}
    (ht : P.underlying t = some (.slice e)) (hC : P.cellsOf e = s) (hs : 0 < s)
    (h : DataW.trod enc P W 0 (fun _ => true) true fuel t (Value.slice a n cap).cells.toList = some x) :
    n ≤ cap ∧ cap ≤ maxLen ∧ ∀ i, i < n → ∃ b off cs k y, a = some ⟨b, off, none⟩ ∧ b < W.heap.size ∧ cs.length = s ∧ (∀ j, j < s → W.cell? ⟨b, off + (i * s + j), none⟩ = cs[j]?) ∧ DataW.trod enc P W 0 (fun _ => true) true k e cs = some y := by
  rcases open_slice ht h with ⟨hcs, _⟩ | ⟨a', n', cap', m, k, D, Pl, hcs, _, hl, hm, hmm, _, hx⟩
  · simp [Value.cells] at hcs
    obtain ⟨rfl, rfl, rfl⟩ := hcs
    exact ⟨Nat.le_refl _, Nat.zero_le _, fun i hi => by omega⟩
  · simp [Value.cells] at hcs
    obtain ⟨rfl, rfl, rfl⟩ := hcs
    simp only [if_true] at hmm
    refine ⟨hl, hm, fun i hi => ?_⟩
    obtain ⟨cs, h1, h2⟩ := hx i (by omega)
    rw [hC] at h1
    obtain ⟨_, hl2, hat⟩ := World.cells?_some h1
    obtain ⟨b, off, spot⟩ := a'
    have h0 := hat 0 hs
    rw [List.getElem?_eq_getElem (by omega), add_add] at h0
    have hspot : spot = none := by
      obtain ⟨cs0, g1, _⟩ := hx 0 (by omega)
      rw [hC] at g1
      obtain ⟨_, gl, gat⟩ := World.cells?_some g1
      have g0 := gat 0 hs
      rw [List.getElem?_eq_getElem (by omega), add_add] at g0
      simpa [Addr.add] using World.cell?_spot g0
    subst hspot
    have ea : ∀ j, (⟨b, off, none⟩ : Addr).add j = ⟨b, off + j, none⟩ := fun j => by unfold Addr.add; split <;> simp_all
    refine ⟨b, off, cs, k, _, rfl, ?_, hl2, fun j hj => ?_, h2⟩
    · rw [ea] at h0
      exact World.block_lt_of_cell? W _ h0
    · have h4 := hat j hj
      rw [add_add, ea] at h4
      exact h4
theorem steps12_in {H : Type} {enc : TypeId × Value → H} {W : World} {a : Option Addr} {n cap fuel : Nat} {z : DataW H × List MemPlace}
    (h : DataW.trod enc Try.prog W 0 (fun _ => true) true fuel 22 (Value.slice a n cap).cells.toList = some z) : n ≤ cap ∧ cap ≤ maxLen ∧ Steps12 W a n := by
  obtain ⟨hn, hm, hr⟩ := rows_in Try.underlying22 (s := 4) (by kernel_rfl) (by decide) h
  refine ⟨hn, hm, fun r hr' => ?_⟩
  obtain ⟨b, off, cs, k, y, rfl, hlt, hlen, hc, hy⟩ := hr r hr'
  obtain ⟨c0, c1, c2, c3, rfl⟩ : ∃ c0 c1 c2 c3, cs = [c0, c1, c2, c3] := by
    match cs, hlen with
    | [a, b, c, d], _ => exact ⟨a, b, c, d, rfl⟩
  obtain ⟨xs, k1, _, _, _, hxl, hg⟩ := DataW.trod_struct Try.underlying62 hy
  have e2 : Try.prog.cellsOf 60 = 2 := by kernel_rfl
  have e1 : Try.prog.cellsOf 3 = 1 := by kernel_rfl
  have e0 : Try.prog.cellsOf 2 = 1 := by kernel_rfl
  have g0 : DataW.trod enc Try.prog W 0 (fun _ => true) true k1 60 (([c0, c1, c2, c3].drop 0).take (Try.prog.cellsOf 60)) = xs[0]? := hg 0 _ rfl
  have g1 : DataW.trod enc Try.prog W 0 (fun _ => true) true k1 3 (([c0, c1, c2, c3].drop 2).take (Try.prog.cellsOf 3)) = xs[1]? := hg 1 _ rfl
  have g2 : DataW.trod enc Try.prog W 0 (fun _ => true) true k1 3 (([c0, c1, c2, c3].drop 3).take (Try.prog.cellsOf 3)) = xs[2]? := hg 2 _ rfl
  simp only [e2, e1, List.drop_zero, List.take_succ_cons, List.take_zero, List.drop_succ_cons] at g0 g1 g2
  obtain ⟨x0, hx0⟩ : ∃ x, xs[0]? = some x := ⟨_, List.getElem?_eq_getElem (by rw [hxl]; decide)⟩
  obtain ⟨x1, hx1⟩ : ∃ x, xs[1]? = some x := ⟨_, List.getElem?_eq_getElem (by rw [hxl]; decide)⟩
  obtain ⟨x2, hx2⟩ : ∃ x, xs[2]? = some x := ⟨_, List.getElem?_eq_getElem (by rw [hxl]; decide)⟩
  rw [hx0] at g0
  rw [hx1] at g1
  rw [hx2] at g2
  obtain ⟨ys, k2, _, _, _, hyl, hge⟩ := DataW.trod_struct Try.underlying60 g0
  have q0 : DataW.trod enc Try.prog W 0 (fun _ => true) true k2 2 (([c0, c1].drop 0).take (Try.prog.cellsOf 2)) = ys[0]? := hge 0 _ rfl
  have q1 : DataW.trod enc Try.prog W 0 (fun _ => true) true k2 2 (([c0, c1].drop 1).take (Try.prog.cellsOf 2)) = ys[1]? := hge 1 _ rfl
  simp only [e0, List.drop_zero, List.take_succ_cons, List.take_zero, List.drop_succ_cons] at q0 q1
  obtain ⟨y0, hy0⟩ : ∃ x, ys[0]? = some x := ⟨_, List.getElem?_eq_getElem (by rw [hyl]; decide)⟩
  obtain ⟨y1, hy1⟩ : ∃ x, ys[1]? = some x := ⟨_, List.getElem?_eq_getElem (by rw [hyl]; decide)⟩
  rw [hy0] at q0
  rw [hy1] at q1
  obtain ⟨key, hv0, _, hw0⟩ := DataW.trod_int Try.underlying2 q0
  obtain ⟨val, hv1, _, hw1⟩ := DataW.trod_int Try.underlying2 q1
  obtain ⟨p, hv2, _, hw2⟩ := DataW.trod_int Try.underlying3 g1
  obtain ⟨u, hv3, _, hw3⟩ := DataW.trod_int Try.underlying3 g2
  simp only [List.cons.injEq, and_true] at hv0 hv1 hv2 hv3
  subst hv0 hv1 hv2 hv3
  exact ⟨b, off, key, val, p, u, ⟨rfl, hlt, by have := hc 0 (by decide); simpa using this, by have := hc 1 (by decide); simpa [Nat.add_assoc] using this, by have := hc 2 (by decide); simpa [Nat.add_assoc] using this, by have := hc 3 (by decide); simpa [Nat.add_assoc] using this⟩, bounds_i64 hw0, bounds_i64 hw1, bounds_i64 hw2, bounds_i64 hw3⟩
end Go.Proofs.Ytkhfofpbmnapjaa
