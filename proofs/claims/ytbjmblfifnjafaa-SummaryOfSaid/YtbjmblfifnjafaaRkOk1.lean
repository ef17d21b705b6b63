/- The program's count of lesser keys keeps its contract; reads of sizes inside a call. -/
import Derived.Test.YtbjmblfifnjafaaLkOk2
import Derived.Test.YtbjmblfifnjafaaRkCon
set_option linter.unusedVariables false
set_option linter.unusedSimpArgs false
namespace Go.Proofs.Ytbjmblfifnjafaa
open Go.RowKit
/-! ### plain -/
theorem rank_node {A B : List En} {e : En} (h : Up (A ++ e :: B)) (k : Int) : rankE (A ++ e :: B) k = if e.key < k then A.length + 1 + rankE B k else rankE A k := by
  obtain ⟨h1, h2, h3, h4⟩ := up_app h
  rw [rankE_app, rankE_cons]
  by_cases hk : e.key < k
  · rw [if_pos hk, if_pos hk, rankE_all (A := A) (fun x hx => by have := h3 x hx; omega)]; omega
  · rw [if_neg hk, if_neg hk, rankE_zero (t := B) (fun y hy => by have := h4 y hy; omega)]; omega
theorem sel_node (A B : List En) (e : En) (j : Int) : selE (A ++ e :: B) j = if j < (A.length : Int) then selE A j else if j = (A.length : Int) then some e else selE B (j - ((A.length : Int) + 1)) := by
  unfold selE
  by_cases h0 : 0 ≤ j
  · obtain ⟨n, rfl⟩ := Int.eq_ofNat_of_zero_le h0
    rw [if_pos h0, if_pos h0, Int.toNat_natCast]
    by_cases h1 : n < A.length
    · rw [if_pos (by omega), List.getElem?_append_left h1]
    · rw [if_neg (by omega), List.getElem?_append_right (by omega)]
      by_cases h2 : n = A.length
      · rw [if_pos (by omega), h2, Nat.sub_self]; rfl
      · rw [if_neg (by omega), if_pos (by omega), show n - A.length = (n - A.length - 1) + 1 by omega, List.getElem?_cons_succ]
        congr 1
        omega
  · rw [if_neg h0, if_pos (by omega), if_neg h0]
theorem TreeAt.len {A : Ar} {i : Nat} {t : Tr} {l : List En} (h : TreeAt A i t l) : l.length ≤ 65536 := by
  obtain ⟨held, hv⟩ := h.inv
  have := h.held
  have := hv.ok.cap2
  rw [← h.size]
  omega
section
variable {I : AImpl} {w wr wx : World} {F : Nat → Prop} {p : Value} {A : Ar} {rd : Int} {X : Nat → Prop}
theorem In.sizeOf (h : In I w F p A rd X wr) (ha : A.Agg) (h0 : 0 ≤ rd) (h1 : rd ≤ 4398046511104) {i : Nat} {u : Tr} (hu : Sub A i u) (hi : i < 4294967296) :
    Calls Try.prog 55 #[p, .int .u32 (i : Int)] wr fun e w' => e = .returned (.int .i64 (u.size : Int)) ∧ ∃ rd', In I w F p A rd' X w' ∧ Keeps X wr w' ∧ rd ≤ rd' ∧ rd' ≤ rd + 1 := by
  obtain ⟨F1, f1, f2, f3⟩ := h.mr.has
  refine (I.size p A rd F1 i wr f1 h0 (by omega) hi).mono ?_
  rintro e w1 ⟨F', hal, h5, h6⟩
  cases hc : A.σ.on i with
  | false =>
    obtain ⟨rfl, h7⟩ := h5 hc
    have hst := h.mr.step f2 f3 hal h7
    have hs : u.size = 0 := by
      cases hu with
      | nil => rfl
      | node _ _ _ h1 h2 h3 h4 => rw [hc] at h2; cases h2
    exact ⟨by rw [hs]; rfl, rd, ⟨hst.1, fun k hk => (hst.2 k (.inl hk)).trans (h.kp k hk)⟩, fun k hk => hst.2 k (.inr hk), by omega, by omega⟩
  | true =>
    obtain ⟨rfl, h7⟩ := h6 hc
    have hst := h.mr.step f2 f3 hal h7
    have hs : (A.nd i).size = (u.size : Int) := by
      have hh := hu.size ha
      have h9 : i ≠ 0 := by have := (I.ok f1).on i hc; omega
      unfold Ar.sz at hh
      rw [if_neg h9] at hh
      omega
    exact ⟨by rw [hs], rd + 1, ⟨hst.1, fun k hk => (hst.2 k (.inl hk)).trans (h.kp k hk)⟩, fun k hk => hst.2 k (.inr hk), by omega, by omega⟩
end
theorem longestR_any (I : AImpl) {p : Value} {A : Ar} {rd : Int} {F : Nat → Prop} {U : Nat} (w : World) (hI : I.Is w p A rd F) (hU : U + A.σ.free.length = A.σ.cap) :
    Calls Try.prog 54 #[p] w (Calm w (.int .i64 (U : Int))) := by
  obtain ⟨pa, rfl⟩ := I.ptr hI
  have hcap := (I.ok hI).cap2
  have hw64 : IntKind.i64.wrap ((A.σ.cap : Int) - (A.σ.free.length : Int)) = (U : Int) := by rw [IntKind.wrap_i64]; omega
  have HCP : Hid (∀ w', Below w.heap.size w w' → Calls Try.prog 51 #[.pointer (some pa)] w' (Quiet w' (.int .i64 (A.σ.cap : Int)))) := fun w' hb => I.capacity _ _ _ _ _ (I.below hI hb)
  have HFR : Hid (∀ w', Below w.heap.size w w' → Calls Try.prog 52 #[.pointer (some pa)] w' (Quiet w' (.int .i64 (A.σ.free.length : Int)))) := fun w' hb => I.freeN _ _ _ _ _ (I.below hI hb)
  clear hI hU hcap
  go_enter Try.func54, Try.ntmps54
  go_wp2_with fail
  refine (HCP.out w (Below.refl _ _)).mono ?_
  rintro e w2 ⟨rfl, n2, hn2⟩
  have hb2 : Below w.heap.size w w2 := by rw [hn2]; exact below_drewN (Below.refl _ _) n2
  clear hn2
  go_wp2_with fail
  refine (HFR.out w2 hb2).mono ?_
  rintro e w3 ⟨rfl, n3, hn3⟩
  have hb3 : Below w.heap.size w w3 := hb2.trans ((by rw [hn3]; exact below_drewN (Below.refl _ _) n3 : Below w2.heap.size w2 w3).mono hb2.size)
  have HB3 := Lib.hid hb3
  clear hn3 hb2 hb3 HCP HFR
  go_wp2_with fail
  go_ret
  exact ⟨rfl, HB3.out⟩
def WayC (I : AImpl) (w : World) (F : Nat → Prop) (p : Value) (A : Ar) (rd0 kk : Int) (R : Nat) (top : Int) (U : Nat) (cv x c : Value) (wr : World) : Prop :=
  ∃ (i n m : Nat) (u : Tr) (rd : Int), cv = .int .i64 (m : Int) ∧ x = .int .u32 (i : Int) ∧ c = .int .i64 (n : Int) ∧ Sub A i u ∧ Up (u.ents A.nd) ∧ m + rankE (u.ents A.nd) kk = R ∧ rd0 ≤ rd ∧ rd + 2 * (u.ht : Int) ≤ top ∧ n + u.size ≤ U ∧ In I w F p A rd (fun _ => False) wr
set_option maxHeartbeats 4000000 in
set_option maxRecDepth 100000 in
theorem countB_any (I : AImpl) {p : Value} {A : Ar} {rd : Int} {F : Nat → Prop} {i : Nat} {t : Tr} {l : List En} (k : Int) (eq : Bool) (w : World) (hI : I.Is w p A rd F) (hT : TreeAt A i t l) (h0 : 0 ≤ rd) (h1 : rd ≤ 1099511628776) :
    Calls Try.prog 42 #[p, .int .u32 (i : Int), .int .i64 k, .bool eq] w (ReadsTo I p A rd F (mostJ l.length) (.int .i64 (rankE l (k + if eq then 1 else 0) : Int)) w) := by
  obtain ⟨pa, rfl⟩ := I.ptr hI
  have hb := hT.bound
  obtain ⟨kk, hkk⟩ : ∃ kk, k + (if eq then 1 else 0) = kk := ⟨_, rfl⟩
  rw [hkk]
  have hRL := rankE_le l kk
  have hLL := hT.len
  obtain ⟨R, hR⟩ : ∃ R, rankE l kk = R := ⟨_, rfl⟩
  rw [hR] at hRL ⊢
  have hM2 : 2 * (t.ht : Int) ≤ mostJ l.length := by have := hb.1; unfold mostI at this; unfold mostJ; have := (xh_spec (n := l.length) (by omega)).2.1; have h8 := hT.ht (by omega); omega
  obtain ⟨M, hM⟩ : ∃ M, mostJ l.length = M := ⟨_, rfl⟩
  rw [hM] at hM2 ⊢
  obtain ⟨held, hv⟩ := hT.inv
  have hcap := hv.ok.cap2
  have hhd := hT.held
  obtain ⟨U, hU⟩ : ∃ U, U + A.σ.free.length = A.σ.cap := ⟨A.σ.cap - A.σ.free.length, by omega⟩
  have HLP := Lib.hid (longestR_any I w hI hU)
  have HU : Hid (U ≤ 65536 ∧ t.size ≤ U ∧ R ≤ 65536) := ⟨by omega, by omega, by omega⟩
  have HAG := Lib.hid hT.agg
  have HOK := Lib.hid hv.ok
  have HRD : Hid (0 ≤ rd ∧ rd ≤ 1099511628776 ∧ 2 * (t.ht : Int) ≤ M ∧ t.ht ≤ 65536) := ⟨h0, h1, hM2, hb.2⟩
  have HW0 : Hid (∀ w', Below w.heap.size w w' → WayC I w F (.pointer (some pa)) A rd kk R (rd + 2 * (t.ht : Int)) U (.int .i64 0) (.int .u32 (i : Int)) (.int .i64 0) w') := fun w' hb' => ⟨i, 0, 0, t, rd, rfl, rfl, rfl, hT.sub, by rw [hT.ents]; exact hT.up, by rw [hT.ents, hR]; omega, Int.le_refl _, Int.le_refl _, by omega, (In.start hI).calm hb'⟩
  have HKK := Lib.hid hkk
  clear hI hT h0 h1 hkk hb hR hM hv hcap hhd hU hRL hLL hM2
  go_enter Try.func42, Try.ntmps42
  go_wp2_with fail
  refine HLP.out.mono ?_
  rintro e w0 ⟨rfl, hb0⟩
  have HW1 := Lib.hid (HW0.out w0 hb0)
  clear hb0 HW0 HLP
  go_wp2_with fail
  go_loopw [9, 10, 16] (fun cv x c wr => WayC I w F (.pointer (some pa)) A rd kk R (rd + 2 * (t.ht : Int)) U cv x c wr) (fun _ _ c _ => U - (intOf c).toNat)
  case atStart => exact HW1.out
  case round =>
    clear HW1
    obtain ⟨i, n, m, u, rd1, rfl, rfl, rfl, hu, hup, hg, hr0, hr1, hn, hin⟩ := hrel
    rcases Nat.lt_or_ge n U with hnu | hnu
    rotate_left
    · have hnu2 : decide ((n : Int) < (U : Int)) = false := decide_eq_false (by omega)
      have hu0 : u = .nil := by
        cases u with
        | nil => rfl
        | node i l r =>
          have : (Tr.node i l r).size = l.size + r.size + 1 := rfl
          omega
      subst hu0
      obtain rfl : m = R := hg
      have HE : Hid (ReadsTo I (.pointer (some pa)) A rd F M (.int .i64 (m : Int)) w (.returned (.int .i64 (m : Int))) wr) := hin.ends hr0 (by have := HRD.out; omega)
      have hUn : ¬ n < U := Nat.not_lt.2 hnu
      clear hu hup hr0 hr1 hin hn hnu
      go_wp2_with fail
      go_ret
      exact HE.out
    have hnu2 : decide ((n : Int) < (U : Int)) = true := decide_eq_true (by omega)
    have hnu3 : (n : Int) < (U : Int) := by omega
    have hU4 : (U : Int) ≤ 65536 := by have := HU.out.1; omega
    have hn0 : (0 : Int) ≤ (n : Int) := by omega
    cases u with
    | nil =>
      obtain rfl : i = 0 := by
        cases hu with
        | nil => rfl
      obtain rfl : m = R := hg
      have HR1 : Hid (rd ≤ rd1 ∧ rd1 ≤ rd + 2 * (t.ht : Int)) := ⟨hr0, by have : (Tr.nil.ht : Nat) = 0 := rfl; omega⟩
      have HIN := Lib.hid hin
      clear hu hup hr0 hr1 hin hn
      go_wp2_with fail
      refine (HIN.out.off (by have := HR1.out; have := HRD.out; omega) (by have := HR1.out; have := HRD.out; omega)).mono ?_
      rintro e w1 ⟨rfl, hin1, -⟩
      have HIN1 := Lib.hid (hin1.calm (below_new7 w1 (Obj.cells (ndRow Nd.zero) 68)))
      clear hin1 HIN
      unfold ndRow
      go_upto_region 6 with fail
      rw [show #[Value.int .i64 Nd.zero.key, .int .i64 Nd.zero.val, .int .u32 (Nd.zero.left : Int), .int .u32 (Nd.zero.right : Int), .int .i64 Nd.zero.size, .int .i64 Nd.zero.sum, .int .i64 Nd.zero.mn, .int .i64 Nd.zero.mx] = ndRow Nd.zero from rfl]
      generalize w1.alloc (Obj.cells (ndRow Nd.zero) 68) = w2 at HIN1 ⊢
      have HE : Hid (ReadsTo I (.pointer (some pa)) A rd F M (.int .i64 (m : Int)) w (.returned (.int .i64 (m : Int))) w2) := HIN1.out.ends HR1.out.1 (by have := HR1.out; have := HRD.out; omega)
      clear HIN1
      go_wp2_with fail
      go_ret
      exact HE.out
    | node i2 l2 r2 =>
      obtain ⟨rfl, h0, hon, hsl, hsr⟩ : i2 = i ∧ i ≠ 0 ∧ A.σ.on i = true ∧ Sub A (A.nd i).left l2 ∧ Sub A (A.nd i).right r2 := by
        cases hu with
        | node _ _ _ h1 h2 h3 h4 => exact ⟨rfl, h1, h2, h3, h4⟩
      have hi4 : i2 < 4294967296 := by have := HOK.out.on i2 hon; have := HOK.out.cap2; omega
      have hl4 : (A.nd i2).left < 4294967296 := by rcases hsl.idx with h9 | h9; omega; have := HOK.out.on _ h9; have := HOK.out.cap2; omega
      have hht : (Tr.node i2 l2 r2).ht = 1 + max l2.ht r2.ht := rfl
      rw [show (Tr.node i2 l2 r2).size = l2.size + r2.size + 1 from rfl] at hn
      rw [Tr.ents_node] at hup hg
      rw [rank_node hup, Tr.ents_len] at hg
      obtain ⟨hul, hur, -, -⟩ := up_app hup
      have HUL := Lib.hid hul
      have HUR := Lib.hid hur
      have HSL := Lib.hid hsl
      have HSR := Lib.hid hsr
      have HON := Lib.hid hon
      have HI4 : Hid (i2 < 4294967296 ∧ (A.nd i2).left < 4294967296) := ⟨hi4, hl4⟩
      have HNN : Hid (n + 1 + l2.size ≤ U ∧ n + 1 + r2.size ≤ U ∧ l2.size ≤ 65536) := ⟨by omega, by omega, by have := HU.out; omega⟩
      have HR1 : Hid (rd ≤ rd1 ∧ rd1 + 2 + 2 * (l2.ht : Int) ≤ rd + 2 * (t.ht : Int) ∧ rd1 + 2 + 2 * (r2.ht : Int) ≤ rd + 2 * (t.ht : Int)) := ⟨hr0, by omega, by omega⟩
      have HIN := Lib.hid hin
      have HG := Lib.hid hg
      clear hu hup hul hur hg hr0 hr1 hin h0 hon hsl hsr hi4 hl4 hht hn
      go_wp2_with fail
      refine (HIN.out.node (by have := HR1.out; have := HRD.out; omega) (by have := HR1.out; have := HRD.out; omega) HI4.out.1 HON.out).mono ?_
      rintro e w1 ⟨rfl, hin1, -⟩
      have HIN1 := Lib.hid hin1
      clear hin1 HIN
      unfold ndRow
      go_upto_region 6 with fail
      rw [show #[Value.int .i64 (A.nd i2).key, .int .i64 (A.nd i2).val, .int .u32 ((A.nd i2).left : Int), .int .u32 ((A.nd i2).right : Int), .int .i64 (A.nd i2).size, .int .i64 (A.nd i2).sum, .int .i64 (A.nd i2).mn, .int .i64 (A.nd i2).mx] = ndRow (A.nd i2) from rfl]
      have hin2 := HIN1.out.alloc (Obj.cells (ndRow (A.nd i2)) 68)
      have hbx := heap_alloc_new w1 (Obj.cells (ndRow (A.nd i2)) 68)
      generalize w1.alloc (Obj.cells (ndRow (A.nd i2)) 68) = w2 at hin2 hbx ⊢
      generalize w1.heap.size = g at hin2 hbx ⊢
      have x0 : w2.cell? ⟨g, 0, none⟩ = some (.int .i64 (A.nd i2).key) := by rw [cell_of_row _ _ _ _ _ _ hbx]; rfl
      have x2 : w2.cell? ⟨g, 2, none⟩ = some (.int .u32 ((A.nd i2).left : Int)) := by rw [cell_of_row _ _ _ _ _ _ hbx]; rfl
      have x3 : w2.cell? ⟨g, 3, none⟩ = some (.int .u32 ((A.nd i2).right : Int)) := by rw [cell_of_row _ _ _ _ _ _ hbx]; rfl
      have HX := Lib.hid hbx
      have HIN2 := Lib.hid hin2
      clear hin2 hbx HIN1
      have hg := HG.out
      have hkk := HKK.out
      have hlt : (A.nd i2).key < kk ∨ ¬ (A.nd i2).key < kk := by omega
      rcases hlt with hlt | hlt
      · rw [if_pos hlt] at hg
        have hm1 : m + l2.size + 1 ≤ 65536 := by have := HU.out; omega
        obtain ⟨m2, hm2⟩ : ∃ m2, m + (l2.size + 1) = m2 := ⟨_, rfl⟩
        have HG2 : Hid (m2 + rankE (r2.ents A.nd) kk = R) := by show _ = _; omega
        have hwr1 : IntKind.i64.wrap ((l2.size : Int) + 1) = (l2.size : Int) + 1 := by rw [IntKind.wrap_i64]; omega
        have hwr2 : IntKind.i64.wrap ((m : Int) + ((l2.size : Int) + 1)) = (m2 : Int) := by rw [IntKind.wrap_i64]; omega
        have hend : ∀ w3, (∃ rd', In I w F (.pointer (some pa)) A rd' (fun k => (fun _ => False) k ∨ k = g) w3 ∧ rd1 + 1 ≤ rd' ∧ rd' ≤ rd1 + 2) → WayC I w F (.pointer (some pa)) A rd kk R (rd + 2 * (t.ht : Int)) U (.int .i64 (m2 : Int)) (.int .u32 ((A.nd i2).right : Int)) (.int .i64 ((n + 1 : Nat) : Int)) w3 := by
          rintro w3 ⟨rd', h3, h4, h5⟩
          exact ⟨_, n + 1, _, r2, rd', rfl, rfl, rfl, HSR.out, HUR.out, HG2.out, by have := HR1.out; omega, by have := HR1.out; omega, HNN.out.2.1, h3.less fun k hk => hk.elim⟩
        have HEND := Lib.hid hend
        have HLS := Lib.hid (HIN2.out.sizeOf HAG.out (by have := HR1.out; have := HRD.out; omega) (by have := HR1.out; have := HRD.out; omega) HSL.out HI4.out.2)
        have HQ : Hid ((A.nd i2).key < k ∨ (eq = true ∧ (A.nd i2).key = k)) := by
          show _ ∨ _
          cases eq with
          | true => rcases Int.lt_trichotomy (A.nd i2).key k with h | h | h; exact .inl h; exact .inr ⟨rfl, h⟩; (simp at hkk; omega)
          | false => left; simp at hkk; omega
        clear hlt hg hkk hm1 hm2 hend
        rcases HQ.out with hq | ⟨rfl, hq⟩
        · have q1 : decide ((A.nd i2).key < k) = true := decide_eq_true hq
          have q4 : ((A.nd i2).key == k) = false := by simp; omega
          clear hq HQ
          cases eq
          all_goals
            go_wp2_with fail
            refine HLS.out.mono ?_
            rintro e w3 ⟨rfl, rd3, hin3, hk3, h31, h32⟩
            have hx3 := (hk3 g (.inr rfl)).trans HX.out
            clear x0 x2 x3
            have x3 : w3.cell? ⟨g, 3, none⟩ = some (.int .u32 ((A.nd i2).right : Int)) := by rw [cell_of_row _ _ _ _ _ _ hx3]; rfl
            have HE3 := Lib.hid (HEND.out w3 ⟨rd3, hin3, h31, by omega⟩)
            clear hin3 hk3 h31 h32 hx3 HEND HLS HX HIN2
            go_wp2_with fail
            exact ⟨by rw [show ((n : Int) + 1) = ((n + 1 : Nat) : Int) by omega]; exact HE3.out, by simp [intOf]; omega⟩
        · have q1 : decide ((A.nd i2).key < k) = false := decide_eq_false (by omega)
          have q4 : ((A.nd i2).key == k) = true := by simp; omega
          clear hq HQ
          go_wp2_with fail
          refine HLS.out.mono ?_
          rintro e w3 ⟨rfl, rd3, hin3, hk3, h31, h32⟩
          have hx3 := (hk3 g (.inr rfl)).trans HX.out
          clear x0 x2 x3
          have x3 : w3.cell? ⟨g, 3, none⟩ = some (.int .u32 ((A.nd i2).right : Int)) := by rw [cell_of_row _ _ _ _ _ _ hx3]; rfl
          have HE3 := Lib.hid (HEND.out w3 ⟨rd3, hin3, h31, by omega⟩)
          clear hin3 hk3 h31 h32 hx3 HEND HLS HX HIN2
          go_wp2_with fail
          exact ⟨by rw [show ((n : Int) + 1) = ((n + 1 : Nat) : Int) by omega]; exact HE3.out, by simp [intOf]; omega⟩
      · rw [if_neg hlt] at hg
        have HE : Hid (WayC I w F (.pointer (some pa)) A rd kk R (rd + 2 * (t.ht : Int)) U (.int .i64 (m : Int)) (.int .u32 ((A.nd i2).left : Int)) (.int .i64 ((n + 1 : Nat) : Int)) w2) :=
          ⟨_, n + 1, m, l2, rd1 + 1, rfl, rfl, rfl, HSL.out, HUL.out, hg, by have := HR1.out; omega, by have := HR1.out; omega, HNN.out.1, HIN2.out.less fun k hk => hk.elim⟩
        have q1 : decide ((A.nd i2).key < k) = false := decide_eq_false (by cases eq <;> simp at hkk <;> omega)
        cases eq with
        | true =>
          have q4 : ((A.nd i2).key == k) = false := by simp; simp at hkk; omega
          clear hg hkk hlt HX HIN2
          go_wp2_with fail
          exact ⟨by rw [show ((n : Int) + 1) = ((n + 1 : Nat) : Int) by omega]; exact HE.out, by simp [intOf]; omega⟩
        | false =>
          clear hg hkk hlt HX HIN2
          go_wp2_with fail
          exact ⟨by rw [show ((n : Int) + 1) = ((n + 1 : Nat) : Int) by omega]; exact HE.out, by simp [intOf]; omega⟩
end Go.Proofs.Ytbjmblfifnjafaa
