/- The sums on both sides of a range keep their contracts. -/
import Derived.Test.YtbjmblfifnjafaaSmAgg
import Derived.Test.YtbjmblfifnjafaaRkOk1
import Derived.Test.YtbjmblfifnjafaaHeldG
set_option linter.unusedVariables false
set_option linter.unusedSimpArgs false
namespace Go.Proofs.Ytbjmblfifnjafaa
open Go.RowKit

theorem longestS_any (I : AImpl) {p : Value} {A : Ar} {rd : Int} {F : Nat → Prop} {U : Nat} (w : World) (hI : I.Is w p A rd F) (hU : U + A.σ.free.length = A.σ.cap) :
    Calls Try.prog 39 #[p] w (Calm w (.int .i64 (U : Int))) := by
  obtain ⟨pa, rfl⟩ := I.ptr hI
  have hcap := (I.ok hI).cap2
  have hw64 : IntKind.i64.wrap ((A.σ.cap : Int) - (A.σ.free.length : Int)) = (U : Int) := by rw [IntKind.wrap_i64]; omega
  have HCP : Hid (∀ w', Below w.heap.size w w' → Calls Try.prog 51 #[.pointer (some pa)] w' (Quiet w' (.int .i64 (A.σ.cap : Int)))) := fun w' hb => I.capacity _ _ _ _ _ (I.below hI hb)
  have HFR : Hid (∀ w', Below w.heap.size w w' → Calls Try.prog 52 #[.pointer (some pa)] w' (Quiet w' (.int .i64 (A.σ.free.length : Int)))) := fun w' hb => I.freeN _ _ _ _ _ (I.below hI hb)
  clear hI hU hcap
  go_enter Try.func39, Try.ntmps39
  go_wp2_with fail
  refine (HCP.out w (Below.refl _ _)).mono ?_
  rintro e w2 ⟨rfl, n2, hn2⟩
  have hb2 : Below w.heap.size w w2 := by rw [hn2]; exact below_drewN (Below.refl _ _) n2
  clear hn2
  go_wp2_with fail
  refine (HFR.out w2 hb2).mono ?_
  rintro e w3 ⟨rfl, n3, hn3⟩
  have hb3 : Below w.heap.size w w3 := hb2.trans ((by rw [hn3]; exact below_drewN (Below.refl _ _) n3 : Below w2.heap.size w2 w3).mono hb2.size)
  have HB3 := Lib.hid hb3
  clear hn3 hb2 hb3 HCP HFR
  go_wp2_with fail
  go_ret
  exact ⟨rfl, HB3.out⟩
/-! ### plain -/
theorem fil_none {l : List En} {q : En → Bool} (h : ∀ e ∈ l, q e = false) : l.filter q = [] := by rw [List.filter_eq_nil_iff]; intro e he; rw [h e he]; simp
theorem fil_all {l : List En} {q : En → Bool} (h : ∀ e ∈ l, q e = true) : l.filter q = l := List.filter_eq_self.2 h
def geE (l : List En) (k : Int) : List En := l.filter fun e => decide (k ≤ e.key)
def leE (l : List En) (k : Int) : List En := l.filter fun e => decide (e.key ≤ k)
theorem geE_node {L R : List En} {e : En} (h : Up (L ++ e :: R)) (k : Int) : geE (L ++ e :: R) k = if e.key < k then geE R k else geE L k ++ e :: R := by
  obtain ⟨-, -, h3, h4⟩ := up_app h
  unfold geE
  rw [List.filter_append, List.filter_cons]
  by_cases hk : e.key < k
  · rw [if_pos hk, if_neg (by simp; omega), fil_none (l := L) (fun x hx => by have := h3 x hx; simp; omega)]; rfl
  · rw [if_neg hk, if_pos (by simp; omega), fil_all (l := R) (fun x hx => by have := h4 x hx; simp; omega)]
theorem leE_node {L R : List En} {e : En} (h : Up (L ++ e :: R)) (k : Int) : leE (L ++ e :: R) k = if k < e.key then leE L k else L ++ e :: leE R k := by
  obtain ⟨-, -, h3, h4⟩ := up_app h
  unfold leE
  rw [List.filter_append, List.filter_cons]
  by_cases hk : k < e.key
  · rw [if_pos hk, if_neg (by simp; omega), fil_none (l := R) (fun x hx => by have := h4 x hx; simp; omega), List.append_nil]
  · rw [if_neg hk, if_pos (by simp; omega), fil_all (l := L) (fun x hx => by have := h3 x hx; simp; omega)]
theorem geE_len (l : List En) (k : Int) : (geE l k).length ≤ l.length := List.length_filter_le _ _
theorem leE_len (l : List En) (k : Int) : (leE l k).length ≤ l.length := List.length_filter_le _ _
theorem geE_mem {l : List En} {k : Int} {e : En} (h : e ∈ geE l k) : e ∈ l := (List.mem_filter.1 h).1
theorem leE_mem {l : List En} {k : Int} {e : En} (h : e ∈ leE l k) : e ∈ l := (List.mem_filter.1 h).1
/-- the values are of 64 bits, and there are at most so many -/
def Few (l : List En) : Prop := (∀ e ∈ l, i64R e.val) ∧ l.length ≤ 65536
theorem Few.wf {l : List En} (h : Few l) : (sumE l).wf := sumE_wf h.1 (by have := h.2; omega)
theorem Few.sub {l m : List En} (h : Few l) (hs : ∀ e ∈ m, e ∈ l) (hl : m.length ≤ l.length) : Few m := ⟨fun e he => h.1 e (hs e he), Nat.le_trans hl h.2⟩
theorem Few.left {a b : List En} (h : Few (a ++ b)) : Few a := h.sub (fun e he => by simp [he]) (by simp)
theorem Few.right {a b : List En} (h : Few (a ++ b)) : Few b := h.sub (fun e he => by simp [he]) (by simp)
theorem Few.app {a b : List En} (h : Few (a ++ b)) : addS (sumE a) (sumE b) = sumE (a ++ b) := sum_app a b (by have := h.2; rw [List.length_append] at this; omega)
theorem Few.swap {a b : List En} (h : Few (a ++ b)) : addS (sumE b) (sumE a) = sumE (a ++ b) := sum_swap a b (by have := h.2; rw [List.length_append] at this; omega)
theorem TreeAt.few {A : Ar} {i : Nat} {t : Tr} {l : List En} (h : TreeAt A i t l) (hv : ∀ e ∈ l, i64R e.val) : Few l := ⟨hv, h.len⟩
def Way_atLeast (I : AImpl) (w : World) (F : Nat → Prop) (p : Value) (A : Ar) (rd0 k : Int) (R : List En) (top : Int) (U g0 g1 : Nat) (x c : Value) (wr : World) : Prop :=
  ∃ (i n : Nat) (u : Tr) (acc : List En) (rd : Int), x = .int .u32 (i : Int) ∧ c = .int .i64 (n : Int) ∧ Sub A i u ∧ Up (u.ents A.nd) ∧ Few (u.ents A.nd) ∧ geE (u.ents A.nd) k ++ acc = R ∧ rd0 ≤ rd ∧ rd + 2 * (u.ht : Int) ≤ top ∧ n + u.size ≤ U ∧
    Ins I w F p A rd [] [(g1, Obj.cells (smA (sumE acc)) 25 (0, 0)), (g0, Obj.cells (smA .z) 25 (0, 0))] wr
set_option maxHeartbeats 8000000 in
set_option maxRecDepth 100000 in
theorem atLeast_any (I : AImpl) {p : Value} {A : Ar} {rd : Int} {F : Nat → Prop} {i : Nat} {t : Tr} {l : List En} (k : Int) (w : World) (hI : I.Is w p A rd F) (hT : TreeAt A i t l) (h0 : 0 ≤ rd) (h1 : rd ≤ 2199023255552) (hv : ∀ e ∈ l, i64R e.val) :
    Calls Try.prog 35 #[p, .int .u32 (i : Int), .int .i64 k] w (ReadsTo I p A rd F (2 * (t.ht : Int)) (.agg (smA (sumE (geE l k)))) w) := by
  obtain ⟨pa, rfl⟩ := I.ptr hI
  have hin : (Try.prog.info? 25).map (·.size) = some 4 := by kernel_rfl
  have HINF := Lib.hid hin
  have HUN : Hid _ := Lib.hid Try.underlying25
  have hLL := hT.len
  have hb := hT.bound
  have hfew := hT.few hv
  obtain ⟨R, hR⟩ : ∃ R, geE l k = R := ⟨_, rfl⟩
  have HFW : Hid (Few R) := by rw [← hR]; exact hfew.sub (fun e he => geE_mem he) (geE_len l k)
  rw [hR]
  obtain ⟨held, hiv⟩ := hT.inv
  have hcap := hiv.ok.cap2
  have hhd := hT.held
  obtain ⟨U, hU⟩ : ∃ U, U + A.σ.free.length = A.σ.cap := ⟨A.σ.cap - A.σ.free.length, by omega⟩
  have HLP := fun (wx : World) (F1 : Nat → Prop) (hx : I.Is wx (.pointer (some pa)) A rd F1) => longestS_any I wx hx hU
  have HLP := Lib.hid HLP
  have HU : Hid (U ≤ 65536 ∧ t.size ≤ U) := ⟨by omega, by omega⟩
  have HAG := Lib.hid hT.agg
  have HOK := Lib.hid hiv.ok
  have HRD : Hid (0 ≤ rd ∧ rd ≤ 2199023255552 ∧ t.ht ≤ 65536) := ⟨h0, h1, hb.2⟩
  have HS0 := Lib.hid (((Ins.start hI).box #[.int .i64 0, .int .i64 0, .int .i64 0, .int .i64 0] 25).box #[.int .i64 0, .int .i64 0, .int .i64 0, .int .i64 0] 25)
  have HW0 : Hid (∀ g0 g1 w', Ins I w F (.pointer (some pa)) A rd [] [(g1, Obj.cells #[.int .i64 0, .int .i64 0, .int .i64 0, .int .i64 0] 25 (0, 0)), (g0, Obj.cells #[.int .i64 0, .int .i64 0, .int .i64 0, .int .i64 0] 25 (0, 0))] w' → Way_atLeast I w F (.pointer (some pa)) A rd k R (rd + 2 * (t.ht : Int)) U g0 g1 (.int .u32 (i : Int)) (.int .i64 0) w') := fun g0 g1 w' hs => ⟨i, 0, t, [], rd, rfl, rfl, hT.sub, by rw [hT.ents]; exact hT.up, by rw [hT.ents]; exact hfew, by rw [hT.ents, ← hR]; simp, Int.le_refl _, Int.le_refl _, by omega, by rw [sumE_nil]; exact hs⟩
  clear hI hT h0 h1 hb hR hiv hcap hhd hU hLL hfew hin hv
  go_enter Try.func35, Try.ntmps35
  go_upto_region 2 with fail
  rw [show (w.alloc (Obj.cells #[.int .i64 0, .int .i64 0, .int .i64 0, .int .i64 0] 25)).heap.size = w.heap.size + 1 by simp] at HS0
  generalize (w.alloc (Obj.cells #[.int .i64 0, .int .i64 0, .int .i64 0, .int .i64 0] 25)).alloc (Obj.cells #[.int .i64 0, .int .i64 0, .int .i64 0, .int .i64 0] 25) = w2 at HS0 ⊢
  obtain ⟨g0, hg0⟩ : ∃ g, w.heap.size = g := ⟨_, rfl⟩
  obtain ⟨g1, hg1⟩ : ∃ g, w.heap.size + 1 = g := ⟨_, rfl⟩
  rw [hg1, hg0] at HS0
  rw [hg1, hg0]
  clear hg0 hg1
  go_wp2_with fail
  obtain ⟨F1, f1, -, -⟩ := HS0.out.mr.has
  refine (HLP.out w2 F1 f1).mono ?_
  rintro e w3 ⟨rfl, hb3⟩
  have HW1 := Lib.hid (HW0.out g0 g1 w3 (HS0.out.calm hb3))
  clear hb3 HW0 HS0 HLP f1 F1
  go_wp2_with fail
  go_loopw [8, 14] (fun x c wr => Way_atLeast I w F (.pointer (some pa)) A rd k R (rd + 2 * (t.ht : Int)) U g0 g1 x c wr) (fun _ c _ => U - (intOf c).toNat)
  case atStart => exact HW1.out
  case round =>
    clear HW1
    obtain ⟨i, n, u, acc, rd1, rfl, rfl, hu, hup, hfu, hg, hr0, hr1, hn, hs⟩ := hrel
    rcases Nat.lt_or_ge n U with hnu | hnu
    rotate_left
    · have hnu2 : decide ((n : Int) < (U : Int)) = false := decide_eq_false (by omega)
      have hu0 : u = .nil := by
        cases u with
        | nil => rfl
        | node i l r =>
          have : (Tr.node i l r).size = l.size + r.size + 1 := rfl
          omega
      subst hu0
      obtain rfl : acc = R := by rw [← hg]; rfl
      have hUn : ¬ n < U := Nat.not_lt.2 hnu
      obtain ⟨⟨a0, a1, a2, a3⟩, -⟩ := row4_of (hs.boxes _ (List.Mem.head _)).2
      obtain ⟨⟨z0, z1, z2, z3⟩, f0, f1, f2, f3⟩ := row4_of (hs.boxes _ (List.Mem.tail _ (List.Mem.head _))).2
      have HE := Lib.hid (put4_same (X := .z) (Y := sumE acc) (hs.boxes _ (List.Mem.tail _ (List.Mem.head _))).2)
      have HS4 := Lib.hid (Ins.put4 (X := .z) (Y := sumE acc) (hs.perm (List.Perm.swap _ _ _)))
      have HR1 : Hid (rd ≤ rd1 ∧ rd1 ≤ rd + 2 * (t.ht : Int)) := ⟨hr0, by have : (Tr.nil.ht : Nat) = 0 := rfl; omega⟩
      clear hu hup hfu hg hr0 hr1 hs hn hnu
      go_wp2_with fail
      refine bodyPost_ret (results_cell_row rfl _ _ g0 25 (smA (sumE acc)) (0, 0) _ rfl HE.out HUN.out rfl HINF.out) rfl ?_
      obtain ⟨F', hal, hI⟩ := HS4.out.ends
      exact ⟨F', rd1, rfl, hal, hI, HR1.out.1, HR1.out.2⟩
    have hnu2 : decide ((n : Int) < (U : Int)) = true := decide_eq_true (by omega)
    have hnu3 : (n : Int) < (U : Int) := by omega
    have hU4 : (U : Int) ≤ 65536 := by have := HU.out.1; omega
    have hn0 : (0 : Int) ≤ (n : Int) := by omega
    cases u with
    | nil =>
      obtain rfl : i = 0 := by
        cases hu with
        | nil => rfl
      obtain rfl : acc = R := by rw [← hg]; rfl
      have HR1 : Hid (rd ≤ rd1 ∧ rd1 ≤ rd + 2 * (t.ht : Int)) := ⟨hr0, by have : (Tr.nil.ht : Nat) = 0 := rfl; omega⟩
      have HS := Lib.hid hs
      have hoff : A.σ.on 0 = false := by
        cases hc : A.σ.on 0 with
        | false => rfl
        | true => have := HOK.out.on 0 hc; omega
      have HOFF := Lib.hid hoff
      clear hu hup hfu hg hr0 hr1 hs hn hoff
      go_wp2_with fail
      refine (HS.out.node_no (by have := HR1.out; have := HRD.out; omega) (by have := HR1.out; have := HRD.out; omega) (by omega) HOFF.out).mono ?_
      rintro e w1 ⟨rfl, hs1⟩
      have hs2 := hs1.calm (below_new7 w1 (Obj.cells (ndRow Nd.zero) 68))
      clear hs1 HS
      unfold ndRow at hs2 ⊢
      go_upto_region 6 with fail
      generalize w1.alloc (Obj.cells #[Value.int .i64 Nd.zero.key, .int .i64 Nd.zero.val, .int .u32 (Nd.zero.left : Int), .int .u32 (Nd.zero.right : Int), .int .i64 Nd.zero.size, .int .i64 Nd.zero.sum, .int .i64 Nd.zero.mn, .int .i64 Nd.zero.mx] 68) = w2 at hs2 ⊢
      obtain ⟨⟨a0, a1, a2, a3⟩, -⟩ := row4_of (hs2.boxes _ (List.Mem.head _)).2
      obtain ⟨⟨z0, z1, z2, z3⟩, f0, f1, f2, f3⟩ := row4_of (hs2.boxes _ (List.Mem.tail _ (List.Mem.head _))).2
      have HE := Lib.hid (put4_same (X := .z) (Y := sumE acc) (hs2.boxes _ (List.Mem.tail _ (List.Mem.head _))).2)
      have HS4 := Lib.hid (Ins.put4 (X := .z) (Y := sumE acc) (hs2.perm (List.Perm.swap _ _ _)))
      clear hs2
      go_wp2_with fail
      refine bodyPost_ret (results_cell_row rfl _ _ g0 25 (smA (sumE acc)) (0, 0) _ rfl HE.out HUN.out rfl HINF.out) rfl ?_
      obtain ⟨F', hal, hI⟩ := HS4.out.ends
      exact ⟨F', rd1, rfl, hal, hI, HR1.out.1, HR1.out.2⟩
    | node i2 l2 r2 =>
      obtain ⟨rfl, h0, hon, hsl, hsr⟩ : i2 = i ∧ i ≠ 0 ∧ A.σ.on i = true ∧ Sub A (A.nd i).left l2 ∧ Sub A (A.nd i).right r2 := by
        cases hu with
        | node _ _ _ h1 h2 h3 h4 => exact ⟨rfl, h1, h2, h3, h4⟩
      have hi4 : i2 < 4294967296 := by have := HOK.out.on i2 hon; have := HOK.out.cap2; omega
      have hl4 : (A.nd i2).left < 4294967296 := by rcases hsl.idx with h9 | h9; omega; have := HOK.out.on _ h9; have := HOK.out.cap2; omega
      have hr4 : (A.nd i2).right < 4294967296 := by rcases hsr.idx with h9 | h9; omega; have := HOK.out.on _ h9; have := HOK.out.cap2; omega
      have hht : (Tr.node i2 l2 r2).ht = 1 + max l2.ht r2.ht := rfl
      rw [show (Tr.node i2 l2 r2).size = l2.size + r2.size + 1 from rfl] at hn
      rw [Tr.ents_node] at hup hg hfu
      rw [geE_node hup] at hg
      obtain ⟨hul, hur, -, -⟩ := up_app hup
      obtain ⟨L, hL⟩ : ∃ L, l2.ents A.nd = L := ⟨_, rfl⟩
      obtain ⟨Q, hQ⟩ : ∃ Q, r2.ents A.nd = Q := ⟨_, rfl⟩
      rw [hL] at hul
      rw [hQ] at hur
      rw [hL, hQ] at hg hfu
      have HUL : Hid (Up L ∧ Up Q ∧ Few L ∧ Few Q ∧ l2.ents A.nd = L ∧ r2.ents A.nd = Q) := ⟨hul, hur, hfu.left, (show Few ((L ++ [_]) ++ Q) by simpa using hfu).right, hL, hQ⟩
      have HFE : Hid (Few [(⟨(A.nd i2).key, (A.nd i2).val⟩ : En)]) := hfu.sub (fun e he => by simp at he; simp [he]) (by simp; omega)
      have HFU := Lib.hid hfu
      have HSL := Lib.hid hsl
      have HSR := Lib.hid hsr
      have HON := Lib.hid hon
      have HI4 : Hid (i2 < 4294967296 ∧ (A.nd i2).left < 4294967296 ∧ (A.nd i2).right < 4294967296) := ⟨hi4, hl4, hr4⟩
      have HNN : Hid (n + 1 + l2.size ≤ U ∧ n + 1 + r2.size ≤ U) := ⟨by omega, by omega⟩
      have HR1 : Hid (rd ≤ rd1 ∧ rd1 + 2 + 2 * (l2.ht : Int) ≤ rd + 2 * (t.ht : Int) ∧ rd1 + 2 + 2 * (r2.ht : Int) ≤ rd + 2 * (t.ht : Int)) := ⟨hr0, by omega, by omega⟩
      have HS := Lib.hid hs
      have HG := Lib.hid hg
      clear hu hup hul hur hfu hg hr0 hr1 hs h0 hon hsl hsr hi4 hl4 hr4 hht hn hL hQ
      go_wp2_with fail
      refine (HS.out.node (by have := HR1.out; have := HRD.out; omega) (by have := HR1.out; have := HRD.out; omega) HI4.out.1 HON.out).mono ?_
      rintro e w1 ⟨rfl, hs1⟩
      have hs2 := hs1.box (ndRow (A.nd i2)) 68
      clear hs1 HS
      unfold ndRow
      go_upto_region 6 with fail
      rw [show #[Value.int .i64 (A.nd i2).key, .int .i64 (A.nd i2).val, .int .u32 ((A.nd i2).left : Int), .int .u32 ((A.nd i2).right : Int), .int .i64 (A.nd i2).size, .int .i64 (A.nd i2).sum, .int .i64 (A.nd i2).mn, .int .i64 (A.nd i2).mx] = ndRow (A.nd i2) from rfl]
      generalize w1.alloc (Obj.cells (ndRow (A.nd i2)) 68) = w2 at hs2 ⊢
      generalize w1.heap.size = g at hs2 ⊢
      obtain ⟨K, hK⟩ : ∃ K, (A.nd i2).key = K := ⟨_, rfl⟩
      obtain ⟨V, hV⟩ : ∃ V, (A.nd i2).val = V := ⟨_, rfl⟩
      obtain ⟨lf, hlf⟩ : ∃ x, (A.nd i2).left = x := ⟨_, rfl⟩
      obtain ⟨rt, hrt⟩ : ∃ x, (A.nd i2).right = x := ⟨_, rfl⟩
      obtain ⟨⟨x0, x1, x2, x3, -⟩, -⟩ := row8_of (hs2.boxes _ (List.Mem.head _)).2
      rw [hK] at x0
      rw [hV] at x1
      rw [hlf] at x2
      rw [hrt] at x3
      have hg := HG.out
      rw [hK, hV] at hg
      rw [hK, hV] at HFE HFU
      have HC8 : Hid (∀ (wx : World) (rdx : Int) (bs : List (Nat × Obj)), Ins I w F (.pointer (some pa)) A rdx [] ((g, Obj.cells (ndRow (A.nd i2)) 68 (0, 0)) :: bs) wx → wx.cell? ⟨g, 0, none⟩ = some (.int .i64 K) ∧ wx.cell? ⟨g, 1, none⟩ = some (.int .i64 V) ∧ wx.cell? ⟨g, 2, none⟩ = some (.int .u32 (lf : Int)) ∧ wx.cell? ⟨g, 3, none⟩ = some (.int .u32 (rt : Int))) := fun wx rdx bs hx => by
        obtain ⟨⟨x0, x1, x2, x3, -⟩, -⟩ := row8_of (hx.boxes _ (List.Mem.head _)).2
        exact ⟨hK ▸ x0, hV ▸ x1, hlf ▸ x2, hrt ▸ x3⟩
      have HNF : Hid ((A.nd i2).key = K ∧ (A.nd i2).val = V ∧ (A.nd i2).left = lf ∧ (A.nd i2).right = rt) := ⟨hK, hV, hlf, hrt⟩
      have HS2 := Lib.hid hs2
      have hlt : K < k ∨ ¬ K < k := Decidable.em _
      rcases hlt with hlt | hlt
      · rw [if_pos hlt] at hg
        have hqq : decide (K < k) = true := decide_eq_true hlt
        have hqq2 : decide (K < k) = true := decide_eq_true hlt
        have HEND : Hid (Way_atLeast I w F (.pointer (some pa)) A rd k R (rd + 2 * (t.ht : Int)) U g0 g1 (.int .u32 (rt : Int)) (.int .i64 ((n + 1 : Nat) : Int)) w2) :=
          ⟨_, n + 1, r2, acc, rd1 + 1, rfl, rfl, by rw [← HNF.out.2.2.2]; exact HSR.out, by rw [HUL.out.2.2.2.2.2]; exact HUL.out.2.1, by rw [HUL.out.2.2.2.2.2]; exact HUL.out.2.2.2.1, by rw [HUL.out.2.2.2.2.2]; exact hg, by have := HR1.out; omega, by have := HR1.out; omega, HNN.out.2, HS2.out.less (List.Sublist.refl _) (List.sublist_cons_self _ _)⟩
        clear hlt hg hK hV hlf hrt hs2 HC8
        go_wp2_with fail
        exact ⟨by rw [show ((n : Int) + 1) = ((n + 1 : Nat) : Int) by omega]; exact HEND.out, by simp [intOf]; omega⟩
      · rw [if_neg hlt] at hg
        have hqq : decide (K < k) = false := decide_eq_false hlt
        have hqq2 : decide (K < k) = false := decide_eq_false hlt
        have HFA : Hid (Few acc ∧ Few ((⟨K, V⟩ : En) :: Q) ∧ Few (((⟨K, V⟩ : En) :: Q) ++ acc)) := by
          have h9 := HFW.out
          rw [← hg] at h9
          exact by
            rw [List.append_assoc] at h9
            exact ⟨h9.right.right, h9.right.left, h9.right⟩
        have HG2 := Lib.hid hg
        clear hlt hg hK hV hlf hrt x0 x1 x2 x3
        obtain ⟨x0, x1, x2, x3⟩ := HC8.out _ _ _ hs2
        obtain ⟨T, hTT⟩ : ∃ T, sumE (((⟨K, V⟩ : En) :: Q) ++ acc) = T := ⟨_, rfl⟩
        have HTT := Lib.hid hTT
        have HSUM : Hid (addS (sumE Q) (oneS V) = sumE ((⟨K, V⟩ : En) :: Q) ∧ addS (sumE acc) (sumE ((⟨K, V⟩ : En) :: Q)) = T ∧ (oneS V).wf) := by
          have h8 := oneS_sum (e := (⟨K, V⟩ : En)) (HFE.out.1 _ (by simp))
          rw [show (⟨K, V⟩ : En).val = V from rfl] at h8
          rw [← h8, ← hTT]
          exact ⟨(show Few ([(⟨K, V⟩ : En)] ++ Q) from HFA.out.2.1).swap, HFA.out.2.2.swap, HFE.out.wf⟩
        clear hTT
        have HOT : Hid (∀ (wx : World) (F1 : Nat → Prop), I.Is wx (.pointer (some pa)) A (rd1 + 1) F1 → Calls Try.prog 41 #[.pointer (some pa), .int .u32 (rt : Int)] wx (ReadsTo I (.pointer (some pa)) A (rd1 + 1) F1 1 (.agg (smA (sumE Q))) wx)) := fun wx F1 hx => by
          have h7 := ofTree_any I wx hx HAG.out HSR.out HI4.out.2.2 (by have := HR1.out; have := HRD.out; omega) (by have := HR1.out; have := HRD.out; omega)
          rw [HUL.out.2.2.2.2.2, HNF.out.2.2.2] at h7
          exact h7
        have HCEL : Hid (∀ (wx : World) (rdx : Int), Ins I w F (.pointer (some pa)) A rdx [] [(g, Obj.cells (ndRow (A.nd i2)) 68 (0, 0)), (g1, Obj.cells (smA (sumE acc)) 25 (0, 0)), (g0, Obj.cells (smA .z) 25 (0, 0))] wx →
            (wx.cell? ⟨g1, 0, none⟩ = some (.int .i64 (sumE acc).n) ∧ wx.cell? ⟨g1, 1, none⟩ = some (.int .i64 (sumE acc).s) ∧ wx.cell? ⟨g1, 2, none⟩ = some (.int .i64 (sumE acc).mn) ∧ wx.cell? ⟨g1, 3, none⟩ = some (.int .i64 (sumE acc).mx)) ∧ wx.cell? ⟨g, 1, none⟩ = some (.int .i64 V) ∧ wx.cell? ⟨g, 3, none⟩ = some (.int .u32 (rt : Int))) := fun wx rdx hx => by
          obtain ⟨x0, x1, x2, x3⟩ := HC8.out _ _ _ hx
          exact ⟨(row4_of (hx.boxes _ (List.Mem.tail _ (List.Mem.head _))).2).1, x1, x3⟩
        go_upto_region 9 with fail
        have hsd := hs2.calm (Below.refl _ _).drew
        refine anyG_begin (S := (fun w' => (w'.cell? ⟨g1, 0, none⟩ = some (.int .i64 (sumE acc).n) ∧ w'.cell? ⟨g1, 1, none⟩ = some (.int .i64 (sumE acc).s) ∧ w'.cell? ⟨g1, 2, none⟩ = some (.int .i64 (sumE acc).mn) ∧ w'.cell? ⟨g1, 3, none⟩ = some (.int .i64 (sumE acc).mx)) ∧ w'.cell? ⟨g, 1, none⟩ = some (.int .i64 V) ∧ w'.cell? ⟨g, 3, none⟩ = some (.int .u32 (rt : Int)))) (z := 10) (by kernel_rfl) (HCEL.out _ _ hsd) (fun hHeld => ?_)
        refine anyG_take (k := 0) (o := _) (v := ?_) (some 30) rfl (by kernel_rfl) (by kernel_rfl) (by kernel_rfl) (by kernel_rfl) (fun _ _ _ h => h) (Or.inl ⟨by rfl, ?_⟩) (by assumption) (by kernel_rfl) ?_
        rotate_left
        · intro w hSw; (try dsimp only at hSw); go_simp; try with_reducible rfl
        (try simp only [Act.put, List.setIfInBounds_toArray, List.set_cons_zero, List.set_cons_succ])
        refine anyG_take (k := 1) (o := _) (v := ?_) (some 31) rfl (by kernel_rfl) (by kernel_rfl) (by kernel_rfl) (by kernel_rfl) (fun _ _ _ h => h) (Or.inl ⟨by rfl, ?_⟩) (by assumption) (by kernel_rfl) ?_
        rotate_left
        · intro w hSw; (try dsimp only at hSw); go_simp; try with_reducible rfl
        (try simp only [Act.put, List.setIfInBounds_toArray, List.set_cons_zero, List.set_cons_succ])
        refine anyG_take (k := 2) (o := _) (v := ?_) (some 32) rfl (by kernel_rfl) (by kernel_rfl) (by kernel_rfl) (by kernel_rfl) (fun _ _ _ h => h) (Or.inl ⟨by rfl, ?_⟩) (by assumption) (by kernel_rfl) ?_
        rotate_left
        · intro w hSw; (try dsimp only at hSw); go_simp; try with_reducible rfl
        (try simp only [Act.put, List.setIfInBounds_toArray, List.set_cons_zero, List.set_cons_succ])
        refine anyG_take (k := 3) (o := _) (v := ?_) (some 33) rfl (by kernel_rfl) (by kernel_rfl) (by kernel_rfl) (by kernel_rfl) (fun _ _ _ h => h) (Or.inl ⟨by rfl, ?_⟩) (by assumption) (by kernel_rfl) ?_
        rotate_left
        · intro w hSw; (try dsimp only at hSw); go_simp; try with_reducible rfl
        (try simp only [Act.put, List.setIfInBounds_toArray, List.set_cons_zero, List.set_cons_succ])
        refine anyG_take (k := 5) (o := _) (v := ?_) (some 35) rfl (by kernel_rfl) (by kernel_rfl) (by kernel_rfl) (by kernel_rfl) (fun _ _ _ h => h) (Or.inl ⟨by rfl, ?_⟩) (by assumption) (by kernel_rfl) ?_
        rotate_left
        · intro w hSw; (try dsimp only at hSw); go_simp; try with_reducible rfl
        (try simp only [Act.put, List.setIfInBounds_toArray, List.set_cons_zero, List.set_cons_succ])
        refine anyG_take (k := 6) (o := _) (v := ?_) (some 36) rfl (by kernel_rfl) (by kernel_rfl) (by kernel_rfl) (by kernel_rfl) (fun _ _ _ h => h) (Or.inl ⟨by rfl, ?_⟩) (by assumption) (by kernel_rfl) ?_
        rotate_left
        · intro w hSw; (try dsimp only at hSw); go_simp; try with_reducible rfl
        (try simp only [Act.put, List.setIfInBounds_toArray, List.set_cons_zero, List.set_cons_succ])
        refine anyG_one (k := 4) (o := _) (by kernel_rfl) rfl (fun KT hKT => ?_)
        go_simp
        go_at_call 41
        refine (hsd.call fun F1 hx => HOT.out _ F1 hx).mono ?_
        rintro eA wA ⟨rfl, rdA, hsA, hA1, hA2⟩
        try go_wp2_with fail
        refine hKT.out _ _ (HCEL.out _ _ hsA) (fun hHeld => ?_)
        clear hKT KT
        (try simp only [Act.put, List.setIfInBounds_toArray, List.set_cons_zero, List.set_cons_succ])
        refine anyG_one (k := 7) (o := _) (by kernel_rfl) rfl (fun KT hKT => ?_)
        go_simp
        go_at_call 26
        refine (ofValue_any V _).mono ?_
        rintro eB wB ⟨rfl, hbB⟩
        have hsB := hsA.calm hbB
        try go_wp2_with fail
        refine hKT.out _ _ (HCEL.out _ _ hsB) (fun hHeld => ?_)
        clear hKT KT
        (try simp only [Act.put, List.setIfInBounds_toArray, List.set_cons_zero, List.set_cons_succ])
        refine anyG_one (k := 8) (o := _) (by kernel_rfl) rfl (fun KT hKT => ?_)
        go_simp
        go_at_call 12
        refine (addP_any (sumE Q) (oneS V) _ HUL.out.2.2.2.1.wf HSUM.out.2.2).mono ?_
        rintro eC wC ⟨rfl, hbC⟩
        rw [HSUM.out.1]
        have hsC := hsB.calm hbC
        try go_wp2_with fail
        refine hKT.out _ _ (HCEL.out _ _ hsC) (fun hHeld => ?_)
        clear hKT KT
        (try simp only [Act.put, List.setIfInBounds_toArray, List.set_cons_zero, List.set_cons_succ])
        refine anyG_one (k := 9) (o := _) (by kernel_rfl) rfl (fun KT hKT => ?_)
        go_simp
        go_at_call 12
        refine (addP_any (sumE acc) (sumE ((⟨K, V⟩ : En) :: Q)) _ HFA.out.1.wf HFA.out.2.1.wf).mono ?_
        rintro eD wD ⟨rfl, hbD⟩
        rw [HSUM.out.2.1, smA_at]
        have hsD := hsC.calm hbD
        try go_wp2_with fail
        refine hKT.out _ _ (HCEL.out _ _ hsD) (fun hHeld => ?_)
        clear hKT KT
        (try simp only [Act.put, List.setIfInBounds_toArray, List.set_cons_zero, List.set_cons_succ])
        refine anyG_last (o := _) (by kernel_rfl) (by kernel_rfl) rfl (fun KT hKT => ?_)
        obtain ⟨⟨q0, q1, q2, q3⟩, p0, p1, p2, p3⟩ := row4_of (hsD.boxes _ (List.Mem.tail _ (List.Mem.head _))).2
        go_simp
        refine hKT.out _ _ ?_
        clear hKT KT
        (try simp only [Act.put, List.setIfInBounds_toArray, List.set_cons_zero, List.set_cons_succ])
        change Exit.then _ _ _ _ (put4 wD g1 T)
        have hsE : Ins I w F (.pointer (some pa)) A rdA [] [(g, Obj.cells (ndRow (A.nd i2)) 68 (0, 0)), (g1, Obj.cells (smA T) 25 (0, 0)), (g0, Obj.cells (smA .z) 25 (0, 0))] (put4 wD g1 T) := (Ins.put4 (X := sumE acc) (Y := T) (hsD.perm (List.Perm.swap _ _ _))).perm (List.Perm.swap _ _ _)
        generalize put4 wD g1 T = wE at hsE ⊢
        obtain ⟨x0, x1, x2, x3⟩ := HC8.out _ _ _ hsE
        have HEND : Hid (Way_atLeast I w F (.pointer (some pa)) A rd k R (rd + 2 * (t.ht : Int)) U g0 g1 (.int .u32 (lf : Int)) (.int .i64 ((n + 1 : Nat) : Int)) wE) :=
          ⟨_, n + 1, l2, ((⟨K, V⟩ : En) :: Q) ++ acc, rdA, rfl, rfl, by rw [← HNF.out.2.2.1]; exact HSL.out, by rw [HUL.out.2.2.2.2.1]; exact HUL.out.1, by rw [HUL.out.2.2.2.2.1]; exact HUL.out.2.2.1, by rw [HUL.out.2.2.2.2.1, ← HG2.out]; simp, by have := HR1.out; omega, by have := HR1.out; omega, HNN.out.1, by rw [HTT.out]; exact hsE.less (List.Sublist.refl _) (List.sublist_cons_self _ _)⟩
        clear hsE hsD hsC hsB hsA hsd hHeld HS2 HC8 HCEL hA1 hA2 hbB hbC hbD
        go_wp2_with fail
        exact ⟨by rw [show ((n : Int) + 1) = ((n + 1 : Nat) : Int) by omega]; exact HEND.out, by simp [intOf]; omega⟩
def Way_atMost (I : AImpl) (w : World) (F : Nat → Prop) (p : Value) (A : Ar) (rd0 k : Int) (R : List En) (top : Int) (U g0 g1 : Nat) (x c : Value) (wr : World) : Prop :=
  ∃ (i n : Nat) (u : Tr) (acc : List En) (rd : Int), x = .int .u32 (i : Int) ∧ c = .int .i64 (n : Int) ∧ Sub A i u ∧ Up (u.ents A.nd) ∧ Few (u.ents A.nd) ∧ acc ++ leE (u.ents A.nd) k = R ∧ rd0 ≤ rd ∧ rd + 2 * (u.ht : Int) ≤ top ∧ n + u.size ≤ U ∧
    Ins I w F p A rd [] [(g1, Obj.cells (smA (sumE acc)) 25 (0, 0)), (g0, Obj.cells (smA .z) 25 (0, 0))] wr
set_option maxHeartbeats 8000000 in
set_option maxRecDepth 100000 in
theorem atMost_any (I : AImpl) {p : Value} {A : Ar} {rd : Int} {F : Nat → Prop} {i : Nat} {t : Tr} {l : List En} (k : Int) (w : World) (hI : I.Is w p A rd F) (hT : TreeAt A i t l) (h0 : 0 ≤ rd) (h1 : rd ≤ 2199023255552) (hv : ∀ e ∈ l, i64R e.val) :
    Calls Try.prog 36 #[p, .int .u32 (i : Int), .int .i64 k] w (ReadsTo I p A rd F (2 * (t.ht : Int)) (.agg (smA (sumE (leE l k)))) w) := by
  obtain ⟨pa, rfl⟩ := I.ptr hI
  have hin : (Try.prog.info? 25).map (·.size) = some 4 := by kernel_rfl
  have HINF := Lib.hid hin
  have HUN : Hid _ := Lib.hid Try.underlying25
  have hLL := hT.len
  have hb := hT.bound
  have hfew := hT.few hv
  obtain ⟨R, hR⟩ : ∃ R, leE l k = R := ⟨_, rfl⟩
  have HFW : Hid (Few R) := by rw [← hR]; exact hfew.sub (fun e he => leE_mem he) (leE_len l k)
  rw [hR]
  obtain ⟨held, hiv⟩ := hT.inv
  have hcap := hiv.ok.cap2
  have hhd := hT.held
  obtain ⟨U, hU⟩ : ∃ U, U + A.σ.free.length = A.σ.cap := ⟨A.σ.cap - A.σ.free.length, by omega⟩
  have HLP := fun (wx : World) (F1 : Nat → Prop) (hx : I.Is wx (.pointer (some pa)) A rd F1) => longestS_any I wx hx hU
  have HLP := Lib.hid HLP
  have HU : Hid (U ≤ 65536 ∧ t.size ≤ U) := ⟨by omega, by omega⟩
  have HAG := Lib.hid hT.agg
  have HOK := Lib.hid hiv.ok
  have HRD : Hid (0 ≤ rd ∧ rd ≤ 2199023255552 ∧ t.ht ≤ 65536) := ⟨h0, h1, hb.2⟩
  have HS0 := Lib.hid (((Ins.start hI).box #[.int .i64 0, .int .i64 0, .int .i64 0, .int .i64 0] 25).box #[.int .i64 0, .int .i64 0, .int .i64 0, .int .i64 0] 25)
  have HW0 : Hid (∀ g0 g1 w', Ins I w F (.pointer (some pa)) A rd [] [(g1, Obj.cells #[.int .i64 0, .int .i64 0, .int .i64 0, .int .i64 0] 25 (0, 0)), (g0, Obj.cells #[.int .i64 0, .int .i64 0, .int .i64 0, .int .i64 0] 25 (0, 0))] w' → Way_atMost I w F (.pointer (some pa)) A rd k R (rd + 2 * (t.ht : Int)) U g0 g1 (.int .u32 (i : Int)) (.int .i64 0) w') := fun g0 g1 w' hs => ⟨i, 0, t, [], rd, rfl, rfl, hT.sub, by rw [hT.ents]; exact hT.up, by rw [hT.ents]; exact hfew, by rw [hT.ents, ← hR]; simp, Int.le_refl _, Int.le_refl _, by omega, by rw [sumE_nil]; exact hs⟩
  clear hI hT h0 h1 hb hR hiv hcap hhd hU hLL hfew hin hv
  go_enter Try.func36, Try.ntmps36
  go_upto_region 2 with fail
  rw [show (w.alloc (Obj.cells #[.int .i64 0, .int .i64 0, .int .i64 0, .int .i64 0] 25)).heap.size = w.heap.size + 1 by simp] at HS0
  generalize (w.alloc (Obj.cells #[.int .i64 0, .int .i64 0, .int .i64 0, .int .i64 0] 25)).alloc (Obj.cells #[.int .i64 0, .int .i64 0, .int .i64 0, .int .i64 0] 25) = w2 at HS0 ⊢
  obtain ⟨g0, hg0⟩ : ∃ g, w.heap.size = g := ⟨_, rfl⟩
  obtain ⟨g1, hg1⟩ : ∃ g, w.heap.size + 1 = g := ⟨_, rfl⟩
  rw [hg1, hg0] at HS0
  rw [hg1, hg0]
  clear hg0 hg1
  go_wp2_with fail
  obtain ⟨F1, f1, -, -⟩ := HS0.out.mr.has
  refine (HLP.out w2 F1 f1).mono ?_
  rintro e w3 ⟨rfl, hb3⟩
  have HW1 := Lib.hid (HW0.out g0 g1 w3 (HS0.out.calm hb3))
  clear hb3 HW0 HS0 HLP f1 F1
  go_wp2_with fail
  go_loopw [8, 14] (fun x c wr => Way_atMost I w F (.pointer (some pa)) A rd k R (rd + 2 * (t.ht : Int)) U g0 g1 x c wr) (fun _ c _ => U - (intOf c).toNat)
  case atStart => exact HW1.out
  case round =>
    clear HW1
    obtain ⟨i, n, u, acc, rd1, rfl, rfl, hu, hup, hfu, hg, hr0, hr1, hn, hs⟩ := hrel
    rcases Nat.lt_or_ge n U with hnu | hnu
    rotate_left
    · have hnu2 : decide ((n : Int) < (U : Int)) = false := decide_eq_false (by omega)
      have hu0 : u = .nil := by
        cases u with
        | nil => rfl
        | node i l r =>
          have : (Tr.node i l r).size = l.size + r.size + 1 := rfl
          omega
      subst hu0
      obtain rfl : acc = R := by rw [← hg]; exact (List.append_nil _).symm
      have hUn : ¬ n < U := Nat.not_lt.2 hnu
      obtain ⟨⟨a0, a1, a2, a3⟩, -⟩ := row4_of (hs.boxes _ (List.Mem.head _)).2
      obtain ⟨⟨z0, z1, z2, z3⟩, f0, f1, f2, f3⟩ := row4_of (hs.boxes _ (List.Mem.tail _ (List.Mem.head _))).2
      have HE := Lib.hid (put4_same (X := .z) (Y := sumE acc) (hs.boxes _ (List.Mem.tail _ (List.Mem.head _))).2)
      have HS4 := Lib.hid (Ins.put4 (X := .z) (Y := sumE acc) (hs.perm (List.Perm.swap _ _ _)))
      have HR1 : Hid (rd ≤ rd1 ∧ rd1 ≤ rd + 2 * (t.ht : Int)) := ⟨hr0, by have : (Tr.nil.ht : Nat) = 0 := rfl; omega⟩
      clear hu hup hfu hg hr0 hr1 hs hn hnu
      go_wp2_with fail
      refine bodyPost_ret (results_cell_row rfl _ _ g0 25 (smA (sumE acc)) (0, 0) _ rfl HE.out HUN.out rfl HINF.out) rfl ?_
      obtain ⟨F', hal, hI⟩ := HS4.out.ends
      exact ⟨F', rd1, rfl, hal, hI, HR1.out.1, HR1.out.2⟩
    have hnu2 : decide ((n : Int) < (U : Int)) = true := decide_eq_true (by omega)
    have hnu3 : (n : Int) < (U : Int) := by omega
    have hU4 : (U : Int) ≤ 65536 := by have := HU.out.1; omega
    have hn0 : (0 : Int) ≤ (n : Int) := by omega
    cases u with
    | nil =>
      obtain rfl : i = 0 := by
        cases hu with
        | nil => rfl
      obtain rfl : acc = R := by rw [← hg]; exact (List.append_nil _).symm
      have HR1 : Hid (rd ≤ rd1 ∧ rd1 ≤ rd + 2 * (t.ht : Int)) := ⟨hr0, by have : (Tr.nil.ht : Nat) = 0 := rfl; omega⟩
      have HS := Lib.hid hs
      have hoff : A.σ.on 0 = false := by
        cases hc : A.σ.on 0 with
        | false => rfl
        | true => have := HOK.out.on 0 hc; omega
      have HOFF := Lib.hid hoff
      clear hu hup hfu hg hr0 hr1 hs hn hoff
      go_wp2_with fail
      refine (HS.out.node_no (by have := HR1.out; have := HRD.out; omega) (by have := HR1.out; have := HRD.out; omega) (by omega) HOFF.out).mono ?_
      rintro e w1 ⟨rfl, hs1⟩
      have hs2 := hs1.calm (below_new7 w1 (Obj.cells (ndRow Nd.zero) 68))
      clear hs1 HS
      unfold ndRow at hs2 ⊢
      go_upto_region 6 with fail
      generalize w1.alloc (Obj.cells #[Value.int .i64 Nd.zero.key, .int .i64 Nd.zero.val, .int .u32 (Nd.zero.left : Int), .int .u32 (Nd.zero.right : Int), .int .i64 Nd.zero.size, .int .i64 Nd.zero.sum, .int .i64 Nd.zero.mn, .int .i64 Nd.zero.mx] 68) = w2 at hs2 ⊢
      obtain ⟨⟨a0, a1, a2, a3⟩, -⟩ := row4_of (hs2.boxes _ (List.Mem.head _)).2
      obtain ⟨⟨z0, z1, z2, z3⟩, f0, f1, f2, f3⟩ := row4_of (hs2.boxes _ (List.Mem.tail _ (List.Mem.head _))).2
      have HE := Lib.hid (put4_same (X := .z) (Y := sumE acc) (hs2.boxes _ (List.Mem.tail _ (List.Mem.head _))).2)
      have HS4 := Lib.hid (Ins.put4 (X := .z) (Y := sumE acc) (hs2.perm (List.Perm.swap _ _ _)))
      clear hs2
      go_wp2_with fail
      refine bodyPost_ret (results_cell_row rfl _ _ g0 25 (smA (sumE acc)) (0, 0) _ rfl HE.out HUN.out rfl HINF.out) rfl ?_
      obtain ⟨F', hal, hI⟩ := HS4.out.ends
      exact ⟨F', rd1, rfl, hal, hI, HR1.out.1, HR1.out.2⟩
    | node i2 l2 r2 =>
      obtain ⟨rfl, h0, hon, hsl, hsr⟩ : i2 = i ∧ i ≠ 0 ∧ A.σ.on i = true ∧ Sub A (A.nd i).left l2 ∧ Sub A (A.nd i).right r2 := by
        cases hu with
        | node _ _ _ h1 h2 h3 h4 => exact ⟨rfl, h1, h2, h3, h4⟩
      have hi4 : i2 < 4294967296 := by have := HOK.out.on i2 hon; have := HOK.out.cap2; omega
      have hl4 : (A.nd i2).left < 4294967296 := by rcases hsl.idx with h9 | h9; omega; have := HOK.out.on _ h9; have := HOK.out.cap2; omega
      have hr4 : (A.nd i2).right < 4294967296 := by rcases hsr.idx with h9 | h9; omega; have := HOK.out.on _ h9; have := HOK.out.cap2; omega
      have hht : (Tr.node i2 l2 r2).ht = 1 + max l2.ht r2.ht := rfl
      rw [show (Tr.node i2 l2 r2).size = l2.size + r2.size + 1 from rfl] at hn
      rw [Tr.ents_node] at hup hg hfu
      rw [leE_node hup] at hg
      obtain ⟨hul, hur, -, -⟩ := up_app hup
      obtain ⟨L, hL⟩ : ∃ L, l2.ents A.nd = L := ⟨_, rfl⟩
      obtain ⟨Q, hQ⟩ : ∃ Q, r2.ents A.nd = Q := ⟨_, rfl⟩
      rw [hL] at hul
      rw [hQ] at hur
      rw [hL, hQ] at hg hfu
      have HUL : Hid (Up L ∧ Up Q ∧ Few L ∧ Few Q ∧ l2.ents A.nd = L ∧ r2.ents A.nd = Q) := ⟨hul, hur, hfu.left, (show Few ((L ++ [_]) ++ Q) by simpa using hfu).right, hL, hQ⟩
      have HFE : Hid (Few [(⟨(A.nd i2).key, (A.nd i2).val⟩ : En)]) := hfu.sub (fun e he => by simp at he; simp [he]) (by simp; omega)
      have HFU := Lib.hid hfu
      have HSL := Lib.hid hsl
      have HSR := Lib.hid hsr
      have HON := Lib.hid hon
      have HI4 : Hid (i2 < 4294967296 ∧ (A.nd i2).left < 4294967296 ∧ (A.nd i2).right < 4294967296) := ⟨hi4, hl4, hr4⟩
      have HNN : Hid (n + 1 + l2.size ≤ U ∧ n + 1 + r2.size ≤ U) := ⟨by omega, by omega⟩
      have HR1 : Hid (rd ≤ rd1 ∧ rd1 + 2 + 2 * (l2.ht : Int) ≤ rd + 2 * (t.ht : Int) ∧ rd1 + 2 + 2 * (r2.ht : Int) ≤ rd + 2 * (t.ht : Int)) := ⟨hr0, by omega, by omega⟩
      have HS := Lib.hid hs
      have HG := Lib.hid hg
      clear hu hup hul hur hfu hg hr0 hr1 hs h0 hon hsl hsr hi4 hl4 hr4 hht hn hL hQ
      go_wp2_with fail
      refine (HS.out.node (by have := HR1.out; have := HRD.out; omega) (by have := HR1.out; have := HRD.out; omega) HI4.out.1 HON.out).mono ?_
      rintro e w1 ⟨rfl, hs1⟩
      have hs2 := hs1.box (ndRow (A.nd i2)) 68
      clear hs1 HS
      unfold ndRow
      go_upto_region 6 with fail
      rw [show #[Value.int .i64 (A.nd i2).key, .int .i64 (A.nd i2).val, .int .u32 ((A.nd i2).left : Int), .int .u32 ((A.nd i2).right : Int), .int .i64 (A.nd i2).size, .int .i64 (A.nd i2).sum, .int .i64 (A.nd i2).mn, .int .i64 (A.nd i2).mx] = ndRow (A.nd i2) from rfl]
      generalize w1.alloc (Obj.cells (ndRow (A.nd i2)) 68) = w2 at hs2 ⊢
      generalize w1.heap.size = g at hs2 ⊢
      obtain ⟨K, hK⟩ : ∃ K, (A.nd i2).key = K := ⟨_, rfl⟩
      obtain ⟨V, hV⟩ : ∃ V, (A.nd i2).val = V := ⟨_, rfl⟩
      obtain ⟨lf, hlf⟩ : ∃ x, (A.nd i2).left = x := ⟨_, rfl⟩
      obtain ⟨rt, hrt⟩ : ∃ x, (A.nd i2).right = x := ⟨_, rfl⟩
      obtain ⟨⟨x0, x1, x2, x3, -⟩, -⟩ := row8_of (hs2.boxes _ (List.Mem.head _)).2
      rw [hK] at x0
      rw [hV] at x1
      rw [hlf] at x2
      rw [hrt] at x3
      have hg := HG.out
      rw [hK, hV] at hg
      rw [hK, hV] at HFE HFU
      have HC8 : Hid (∀ (wx : World) (rdx : Int) (bs : List (Nat × Obj)), Ins I w F (.pointer (some pa)) A rdx [] ((g, Obj.cells (ndRow (A.nd i2)) 68 (0, 0)) :: bs) wx → wx.cell? ⟨g, 0, none⟩ = some (.int .i64 K) ∧ wx.cell? ⟨g, 1, none⟩ = some (.int .i64 V) ∧ wx.cell? ⟨g, 2, none⟩ = some (.int .u32 (lf : Int)) ∧ wx.cell? ⟨g, 3, none⟩ = some (.int .u32 (rt : Int))) := fun wx rdx bs hx => by
        obtain ⟨⟨x0, x1, x2, x3, -⟩, -⟩ := row8_of (hx.boxes _ (List.Mem.head _)).2
        exact ⟨hK ▸ x0, hV ▸ x1, hlf ▸ x2, hrt ▸ x3⟩
      have HNF : Hid ((A.nd i2).key = K ∧ (A.nd i2).val = V ∧ (A.nd i2).left = lf ∧ (A.nd i2).right = rt) := ⟨hK, hV, hlf, hrt⟩
      have HS2 := Lib.hid hs2
      have hlt : k < K ∨ ¬ k < K := Decidable.em _
      rcases hlt with hlt | hlt
      · rw [if_pos hlt] at hg
        have hqq : decide (K > k) = true := decide_eq_true hlt
        have hqq2 : decide (k < K) = true := decide_eq_true hlt
        have HEND : Hid (Way_atMost I w F (.pointer (some pa)) A rd k R (rd + 2 * (t.ht : Int)) U g0 g1 (.int .u32 (lf : Int)) (.int .i64 ((n + 1 : Nat) : Int)) w2) :=
          ⟨_, n + 1, l2, acc, rd1 + 1, rfl, rfl, by rw [← HNF.out.2.2.1]; exact HSL.out, by rw [HUL.out.2.2.2.2.1]; exact HUL.out.1, by rw [HUL.out.2.2.2.2.1]; exact HUL.out.2.2.1, by rw [HUL.out.2.2.2.2.1]; exact hg, by have := HR1.out; omega, by have := HR1.out; omega, HNN.out.1, HS2.out.less (List.Sublist.refl _) (List.sublist_cons_self _ _)⟩
        clear hlt hg hK hV hlf hrt hs2 HC8
        go_wp2_with fail
        exact ⟨by rw [show ((n : Int) + 1) = ((n + 1 : Nat) : Int) by omega]; exact HEND.out, by simp [intOf]; omega⟩
      · rw [if_neg hlt] at hg
        have hqq : decide (K > k) = false := decide_eq_false hlt
        have hqq2 : decide (k < K) = false := decide_eq_false hlt
        have HFA : Hid (Few acc ∧ Few (L ++ [(⟨K, V⟩ : En)]) ∧ Few (acc ++ (L ++ [(⟨K, V⟩ : En)]))) := by
          have h9 := HFW.out
          rw [← hg] at h9
          exact by
            rw [show acc ++ (L ++ (⟨K, V⟩ : En) :: leE Q k) = (acc ++ (L ++ [(⟨K, V⟩ : En)])) ++ leE Q k by simp] at h9
            exact ⟨h9.left.left, h9.left.right, h9.left⟩
        have HG2 := Lib.hid hg
        clear hlt hg hK hV hlf hrt x0 x1 x2 x3
        obtain ⟨x0, x1, x2, x3⟩ := HC8.out _ _ _ hs2
        obtain ⟨T, hTT⟩ : ∃ T, sumE (acc ++ (L ++ [(⟨K, V⟩ : En)])) = T := ⟨_, rfl⟩
        have HTT := Lib.hid hTT
        have HSUM : Hid (addS (sumE L) (oneS V) = sumE (L ++ [(⟨K, V⟩ : En)]) ∧ addS (sumE acc) (sumE (L ++ [(⟨K, V⟩ : En)])) = T ∧ (oneS V).wf) := by
          have h8 := oneS_sum (e := (⟨K, V⟩ : En)) (HFE.out.1 _ (by simp))
          rw [show (⟨K, V⟩ : En).val = V from rfl] at h8
          rw [← h8, ← hTT]
          exact ⟨HFA.out.2.1.app, HFA.out.2.2.app, HFE.out.wf⟩
        clear hTT
        have HOT : Hid (∀ (wx : World) (F1 : Nat → Prop), I.Is wx (.pointer (some pa)) A (rd1 + 1) F1 → Calls Try.prog 41 #[.pointer (some pa), .int .u32 (lf : Int)] wx (ReadsTo I (.pointer (some pa)) A (rd1 + 1) F1 1 (.agg (smA (sumE L))) wx)) := fun wx F1 hx => by
          have h7 := ofTree_any I wx hx HAG.out HSL.out HI4.out.2.1 (by have := HR1.out; have := HRD.out; omega) (by have := HR1.out; have := HRD.out; omega)
          rw [HUL.out.2.2.2.2.1, HNF.out.2.2.1] at h7
          exact h7
        have HCEL : Hid (∀ (wx : World) (rdx : Int), Ins I w F (.pointer (some pa)) A rdx [] [(g, Obj.cells (ndRow (A.nd i2)) 68 (0, 0)), (g1, Obj.cells (smA (sumE acc)) 25 (0, 0)), (g0, Obj.cells (smA .z) 25 (0, 0))] wx →
            (wx.cell? ⟨g1, 0, none⟩ = some (.int .i64 (sumE acc).n) ∧ wx.cell? ⟨g1, 1, none⟩ = some (.int .i64 (sumE acc).s) ∧ wx.cell? ⟨g1, 2, none⟩ = some (.int .i64 (sumE acc).mn) ∧ wx.cell? ⟨g1, 3, none⟩ = some (.int .i64 (sumE acc).mx)) ∧ wx.cell? ⟨g, 1, none⟩ = some (.int .i64 V) ∧ wx.cell? ⟨g, 2, none⟩ = some (.int .u32 (lf : Int))) := fun wx rdx hx => by
          obtain ⟨x0, x1, x2, x3⟩ := HC8.out _ _ _ hx
          exact ⟨(row4_of (hx.boxes _ (List.Mem.tail _ (List.Mem.head _))).2).1, x1, x2⟩
        go_upto_region 9 with fail
        have hsd := hs2.calm (Below.refl _ _).drew
        refine anyG_begin (S := (fun w' => (w'.cell? ⟨g1, 0, none⟩ = some (.int .i64 (sumE acc).n) ∧ w'.cell? ⟨g1, 1, none⟩ = some (.int .i64 (sumE acc).s) ∧ w'.cell? ⟨g1, 2, none⟩ = some (.int .i64 (sumE acc).mn) ∧ w'.cell? ⟨g1, 3, none⟩ = some (.int .i64 (sumE acc).mx)) ∧ w'.cell? ⟨g, 1, none⟩ = some (.int .i64 V) ∧ w'.cell? ⟨g, 2, none⟩ = some (.int .u32 (lf : Int)))) (z := 10) (by kernel_rfl) (HCEL.out _ _ hsd) (fun hHeld => ?_)
        refine anyG_take (k := 0) (o := _) (v := ?_) (some 30) rfl (by kernel_rfl) (by kernel_rfl) (by kernel_rfl) (by kernel_rfl) (fun _ _ _ h => h) (Or.inl ⟨by rfl, ?_⟩) (by assumption) (by kernel_rfl) ?_
        rotate_left
        · intro w hSw; (try dsimp only at hSw); go_simp; try with_reducible rfl
        (try simp only [Act.put, List.setIfInBounds_toArray, List.set_cons_zero, List.set_cons_succ])
        refine anyG_take (k := 1) (o := _) (v := ?_) (some 31) rfl (by kernel_rfl) (by kernel_rfl) (by kernel_rfl) (by kernel_rfl) (fun _ _ _ h => h) (Or.inl ⟨by rfl, ?_⟩) (by assumption) (by kernel_rfl) ?_
        rotate_left
        · intro w hSw; (try dsimp only at hSw); go_simp; try with_reducible rfl
        (try simp only [Act.put, List.setIfInBounds_toArray, List.set_cons_zero, List.set_cons_succ])
        refine anyG_take (k := 2) (o := _) (v := ?_) (some 32) rfl (by kernel_rfl) (by kernel_rfl) (by kernel_rfl) (by kernel_rfl) (fun _ _ _ h => h) (Or.inl ⟨by rfl, ?_⟩) (by assumption) (by kernel_rfl) ?_
        rotate_left
        · intro w hSw; (try dsimp only at hSw); go_simp; try with_reducible rfl
        (try simp only [Act.put, List.setIfInBounds_toArray, List.set_cons_zero, List.set_cons_succ])
        refine anyG_take (k := 3) (o := _) (v := ?_) (some 33) rfl (by kernel_rfl) (by kernel_rfl) (by kernel_rfl) (by kernel_rfl) (fun _ _ _ h => h) (Or.inl ⟨by rfl, ?_⟩) (by assumption) (by kernel_rfl) ?_
        rotate_left
        · intro w hSw; (try dsimp only at hSw); go_simp; try with_reducible rfl
        (try simp only [Act.put, List.setIfInBounds_toArray, List.set_cons_zero, List.set_cons_succ])
        refine anyG_take (k := 5) (o := _) (v := ?_) (some 35) rfl (by kernel_rfl) (by kernel_rfl) (by kernel_rfl) (by kernel_rfl) (fun _ _ _ h => h) (Or.inl ⟨by rfl, ?_⟩) (by assumption) (by kernel_rfl) ?_
        rotate_left
        · intro w hSw; (try dsimp only at hSw); go_simp; try with_reducible rfl
        (try simp only [Act.put, List.setIfInBounds_toArray, List.set_cons_zero, List.set_cons_succ])
        refine anyG_take (k := 6) (o := _) (v := ?_) (some 36) rfl (by kernel_rfl) (by kernel_rfl) (by kernel_rfl) (by kernel_rfl) (fun _ _ _ h => h) (Or.inl ⟨by rfl, ?_⟩) (by assumption) (by kernel_rfl) ?_
        rotate_left
        · intro w hSw; (try dsimp only at hSw); go_simp; try with_reducible rfl
        (try simp only [Act.put, List.setIfInBounds_toArray, List.set_cons_zero, List.set_cons_succ])
        refine anyG_one (k := 4) (o := _) (by kernel_rfl) rfl (fun KT hKT => ?_)
        go_simp
        go_at_call 41
        refine (hsd.call fun F1 hx => HOT.out _ F1 hx).mono ?_
        rintro eA wA ⟨rfl, rdA, hsA, hA1, hA2⟩
        try go_wp2_with fail
        refine hKT.out _ _ (HCEL.out _ _ hsA) (fun hHeld => ?_)
        clear hKT KT
        (try simp only [Act.put, List.setIfInBounds_toArray, List.set_cons_zero, List.set_cons_succ])
        refine anyG_one (k := 7) (o := _) (by kernel_rfl) rfl (fun KT hKT => ?_)
        go_simp
        go_at_call 26
        refine (ofValue_any V _).mono ?_
        rintro eB wB ⟨rfl, hbB⟩
        have hsB := hsA.calm hbB
        try go_wp2_with fail
        refine hKT.out _ _ (HCEL.out _ _ hsB) (fun hHeld => ?_)
        clear hKT KT
        (try simp only [Act.put, List.setIfInBounds_toArray, List.set_cons_zero, List.set_cons_succ])
        refine anyG_one (k := 8) (o := _) (by kernel_rfl) rfl (fun KT hKT => ?_)
        go_simp
        go_at_call 12
        refine (addP_any (sumE L) (oneS V) _ HUL.out.2.2.1.wf HSUM.out.2.2).mono ?_
        rintro eC wC ⟨rfl, hbC⟩
        rw [HSUM.out.1]
        have hsC := hsB.calm hbC
        try go_wp2_with fail
        refine hKT.out _ _ (HCEL.out _ _ hsC) (fun hHeld => ?_)
        clear hKT KT
        (try simp only [Act.put, List.setIfInBounds_toArray, List.set_cons_zero, List.set_cons_succ])
        refine anyG_one (k := 9) (o := _) (by kernel_rfl) rfl (fun KT hKT => ?_)
        go_simp
        go_at_call 12
        refine (addP_any (sumE acc) (sumE (L ++ [(⟨K, V⟩ : En)])) _ HFA.out.1.wf HFA.out.2.1.wf).mono ?_
        rintro eD wD ⟨rfl, hbD⟩
        rw [HSUM.out.2.1, smA_at]
        have hsD := hsC.calm hbD
        try go_wp2_with fail
        refine hKT.out _ _ (HCEL.out _ _ hsD) (fun hHeld => ?_)
        clear hKT KT
        (try simp only [Act.put, List.setIfInBounds_toArray, List.set_cons_zero, List.set_cons_succ])
        refine anyG_last (o := _) (by kernel_rfl) (by kernel_rfl) rfl (fun KT hKT => ?_)
        obtain ⟨⟨q0, q1, q2, q3⟩, p0, p1, p2, p3⟩ := row4_of (hsD.boxes _ (List.Mem.tail _ (List.Mem.head _))).2
        go_simp
        refine hKT.out _ _ ?_
        clear hKT KT
        (try simp only [Act.put, List.setIfInBounds_toArray, List.set_cons_zero, List.set_cons_succ])
        change Exit.then _ _ _ _ (put4 wD g1 T)
        have hsE : Ins I w F (.pointer (some pa)) A rdA [] [(g, Obj.cells (ndRow (A.nd i2)) 68 (0, 0)), (g1, Obj.cells (smA T) 25 (0, 0)), (g0, Obj.cells (smA .z) 25 (0, 0))] (put4 wD g1 T) := (Ins.put4 (X := sumE acc) (Y := T) (hsD.perm (List.Perm.swap _ _ _))).perm (List.Perm.swap _ _ _)
        generalize put4 wD g1 T = wE at hsE ⊢
        obtain ⟨x0, x1, x2, x3⟩ := HC8.out _ _ _ hsE
        have HEND : Hid (Way_atMost I w F (.pointer (some pa)) A rd k R (rd + 2 * (t.ht : Int)) U g0 g1 (.int .u32 (rt : Int)) (.int .i64 ((n + 1 : Nat) : Int)) wE) :=
          ⟨_, n + 1, r2, acc ++ (L ++ [(⟨K, V⟩ : En)]), rdA, rfl, rfl, by rw [← HNF.out.2.2.2]; exact HSR.out, by rw [HUL.out.2.2.2.2.2]; exact HUL.out.2.1, by rw [HUL.out.2.2.2.2.2]; exact HUL.out.2.2.2.1, by rw [HUL.out.2.2.2.2.2, ← HG2.out]; simp, by have := HR1.out; omega, by have := HR1.out; omega, HNN.out.2, by rw [HTT.out]; exact hsE.less (List.Sublist.refl _) (List.sublist_cons_self _ _)⟩
        clear hsE hsD hsC hsB hsA hsd hHeld HS2 HC8 HCEL hA1 hA2 hbB hbC hbD
        go_wp2_with fail
        exact ⟨by rw [show ((n : Int) + 1) = ((n + 1 : Nat) : Int) by omega]; exact HEND.out, by simp [intOf]; omega⟩
end Go.Proofs.Ytbjmblfifnjafaa
