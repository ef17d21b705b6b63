/- Of the proofs of BulkBuilds, BulkLists, BulkSlicesRank: BkOk2, BkAsc, InsPath, BkOk3, BkOk, EnsIn, BkPl, BkShp, BkAw, RefSame. -/
import Derived.Test.YtnimbgcploohiaaPk1
import Derived.Test.YtnimbgcploohiaaPk2
import Derived.Test.YtnimbgcploohiaaPk3
import Derived.Test.YtnimbgcploohiaaPk4
import Derived.Test.YtnimbgcploohiaaPk5
import Derived.Test.YtnimbgcploohiaaPk6
import Derived.Deep.QuietTactic
set_option linter.unusedVariables false
set_option linter.unusedSimpArgs false
namespace Go.Proofs.Ytnimbgcploohiaa
open Go.RowKit
section
variable {I : AImpl} {w wr : World} {F : Nat → Prop} {p : Value} {A : Ar} {rd : Int} {rs : List Row} {bs : List (Nat × Obj)}
theorem Ins.nilrow (h : Ins I w F p A rd rs bs wr) (e : TypeId) (s : Nat) : Ins I w F p A rd (⟨e, s, .slice none 0 0, 0, []⟩ :: rs) bs wr := by
  have hno : ∀ k, Value.ownBlock (.slice none 0 0) ≠ some k := fun k hk => by simp [Value.ownBlock] at hk
  refine ⟨h.mr.less fun k hk => ?_, h.kp, fun r hr => ?_, h.boxes, List.pairwise_cons.2 ⟨fun r hr k hk => absurd hk (hno k), h.rr⟩, h.bb, fun r hr b hb => ?_⟩
  · rcases hk with hk | ⟨r, hr, hk⟩ | hk
    · exact .inl hk
    · rcases List.mem_cons.1 hr with rfl | hr
      · exact absurd hk (hno k)
      · exact .inr (.inl ⟨r, hr, hk⟩)
    · exact .inr (.inr hk)
  · rcases List.mem_cons.1 hr with rfl | hr
    · exact World.ownsRow_nil _ _ _ _
    · exact h.rows r hr
  · rcases List.mem_cons.1 hr with rfl | hr
    · exact hno b.1
    · exact h.rb r hr b hb
/-- the call ends with a row of entries -/
theorem Ins.ensRes {rd0 bd : Int} {va : Option Addr} {n vc : Nat} {P : List En} (h : Ins I w F p A rd (⟨58, 2, .slice va n vc, n, ensV P⟩ :: rs) bs wr) (hn : P.length = n) (h0 : rd0 ≤ rd) (h1 : rd ≤ rd0 + bd) :
    EnsRes I p A rd0 F bd P w (.returned (.slice va n vc)) wr := by
  subst hn
  obtain ⟨F', f1, f2, f3⟩ := h.mr.has
  refine ⟨F', rd, va, vc, rfl, ⟨h.mr.below.os, h.mr.below.tape, h.mr.below.output, h.mr.below.size, fun k hlt hF => h.kp k ⟨hlt, hF⟩, fun k hF' => ?_⟩, f1, h0, h1, h.rows ⟨58, 2, .slice va P.length vc, P.length, ensV P⟩ (List.Mem.head _), fun g hg => (f3 g (.inr (.inl ⟨_, List.Mem.head _, hg⟩))).2⟩
  by_cases hlt : k < w.heap.size
  · by_cases hF : F k
    · exact .inl hF
    · exact absurd hF' (f3 k (.inl ⟨hlt, hF⟩)).2
  · exact .inr (by omega)
theorem Ins.capacity (h : Ins I w F p A rd rs bs wr) : Calls Try.prog 48 #[p] wr fun e w' => e = .returned (.int .i64 (A.σ.cap : Int)) ∧ Ins I w F p A rd rs bs w' := by
  obtain ⟨F1, f1, _⟩ := h.mr.has
  exact (I.capacity p A rd F1 wr f1).mono fun e w1 ⟨h3, q, h4⟩ => ⟨h3, by subst h4; exact h.calm (below_drewN (Below.refl _ _) _)⟩
/-- a call that reads and gives a row of entries -/
theorem Ins.ensB {bd : Int} {P : List En} {f : FuncId} {args : Array Value} (h : Ins I w F p A rd rs bs wr) (hc : ∀ F1, I.Is wr p A rd F1 → Calls Try.prog f args wr (EnsRes I p A rd F1 bd P wr)) :
    Calls Try.prog f args wr fun e w' => ∃ rd' a n c, e = .returned (.slice a n c) ∧ P.length = n ∧ Ins I w F p A rd' (⟨58, 2, .slice a n c, n, ensV P⟩ :: rs) bs w' ∧ rd ≤ rd' ∧ rd' ≤ rd + bd := by
  obtain ⟨F1, f1, f2, f3⟩ := h.mr.has
  refine (hc F1 f1).mono ?_
  rintro e w1 ⟨F', rd', a, c, rfl, hal, hI, h0, h1, hrow, hnF⟩
  have hst := h.mr.stepA f2 f3 hal hI
  refine ⟨rd', a, P.length, c, rfl, rfl, ⟨⟨⟨F', hI, fun _ _ => Nat.zero_le _, fun k hk => ?_⟩, hst.1.below, hst.1.hB⟩, fun k hk => (hst.2 k (.inl hk)).trans (h.kp k hk), fun r hr => ?_, fun b hb => ⟨(h.boxes b hb).1, (hst.2 b.1 (.inr (.inr ⟨b, hb, rfl⟩))).trans (h.boxes b hb).2⟩, List.pairwise_cons.2 ⟨fun r hr k hk e => ?_, h.rr⟩, h.bb, fun r hr b hb => ?_⟩, h0, h1⟩
  · rcases hk with hk | ⟨r, hr, hk⟩ | ⟨b, hb, rfl⟩
    · exact hal.apart f3 k (.inl hk)
    · rcases List.mem_cons.1 hr with rfl | hr
      · exact ⟨(row_lt hrow k hk).2, hnF k hk⟩
      · exact hal.apart f3 k (.inr (.inl ⟨r, hr, hk⟩))
    · exact hal.apart f3 b.1 (.inr (.inr ⟨b, hb, rfl⟩))
  · rcases List.mem_cons.1 hr with rfl | hr
    · exact row_mono hrow h.size
    · exact row_keep (h.rows r hr) fun k hk' => hst.2 k (.inr (.inl ⟨r, hr, hk'⟩))
  · have h1 := row_from hrow k hk
    have h2 := h.lt (.inl ⟨r, hr, e⟩)
    omega
  · rcases List.mem_cons.1 hr with rfl | hr
    · intro e
      have h1 := row_from hrow b.1 e
      have h2 := h.lt (.inr ⟨b, hb, rfl⟩)
      omega
    · exact h.rb r hr b hb
end
set_option maxHeartbeats 16000000 in
set_option maxRecDepth 100000 in
theorem rangeB_any (I : AImpl) {p : Value} {A : Ar} {rd : Int} {F : Nat → Prop} {i : Nat} {t : Tr} {l : List En} (lo hi lim : Int) (w : World) (hI : I.Is w p A rd F) (hT : TreeAt A i t l) (h0 : 0 ≤ rd) (h1 : rd ≤ 1099509100000) :
    Calls Try.prog 20 #[p, .int .u32 (i : Int), .int .i64 lo, .int .i64 hi, .int .i64 lim] w (EnsRes I p A rd F (2 * (xh l.length : Int) + ((firstE (betE l lo hi) lim).length : Int)) (firstE (betE l lo hi) lim) w) := by
  obtain ⟨pa, rfl⟩ := I.ptr hI
  have HS0 := Lib.hid (Ins.start hI)
  obtain ⟨held, hv⟩ := hT.inv
  have hcap := hv.ok.cap2
  have hhd := hT.held
  obtain ⟨U, hU⟩ : ∃ U, U + A.σ.free.length = A.σ.cap := ⟨A.σ.cap - A.σ.free.length, by omega⟩
  have hw64 : IntKind.i64.wrap ((A.σ.cap : Int) - (A.σ.free.length : Int)) = (U : Int) := by rw [IntKind.wrap_i64]; omega
  have hlen : l.length ≤ 2147483647 := by have := hT.size; omega
  have hht := hT.ht hlen
  have hgot : gotC A.nd lo hi t (lim - ((0 : Nat) : Int)).toNat = firstE (betE l lo hi) lim := by
    rw [gotC_spec A.nd lo hi t _ (by rw [hT.ents]; exact hT.up), hT.ents, show lim - ((0 : Nat) : Int) = lim by omega]
    rfl
  have hvis := vis_all A.nd lo hi t (lim - ((0 : Nat) : Int)).toNat (by rw [hT.ents]; exact hT.up)
  have hvs := visC_size A.nd lo hi t (lim - ((0 : Nat) : Int)).toNat
  rw [hgot] at hvis
  obtain ⟨P, hP⟩ : ∃ P, firstE (betE l lo hi) lim = P := ⟨_, rfl⟩
  rw [hP] at hgot hvis ⊢
  have HV : Hid (A.σ.Ok ∧ Sub A i t ∧ t.size ≤ U ∧ U ≤ 65536) := ⟨hv.ok, hT.sub, by omega, by omega⟩
  have HRD : Hid (0 ≤ rd ∧ rd ≤ 1099509100000) := ⟨h0, h1⟩
  have HG := Lib.hid hgot
  have HVI : Hid ((visC A.nd lo hi t (lim - ((0 : Nat) : Int)).toNat : Int) ≤ 2 * (xh l.length : Int) + (P.length : Int)) := by show _ ≤ _; omega
  clear hI hT hv hcap hhd hU hlen hht hgot hvis hvs hP h0 h1
  go_enter Try.func20, Try.ntmps20
  go_wp2_with fail
  refine HS0.out.capacity.mono ?_
  rintro e w1 ⟨rfl, hs1⟩
  have HS1 := Lib.hid hs1
  clear hs1 HS0
  go_wp2_with fail
  refine HS1.out.free.mono ?_
  rintro e w2 ⟨rfl, hs2⟩
  have hs3 := (hs2.nilrow 58 2).box #[.pointer (some pa), .int .i64 lo, .int .i64 hi, .int .i64 lim, .int .i64 (U : Int), .slice none 0 0] 94
  clear hs2 HS1
  go_upto_region 2 with fail
  generalize w2.alloc (Obj.cells #[.pointer (some pa), .int .i64 lo, .int .i64 hi, .int .i64 lim, .int .i64 (U : Int), .slice none 0 0] 94) = w3 at hs3 ⊢
  generalize w2.heap.size = g at hs3 ⊢
  have HS3 : Hid (ColS I w F (.pointer (some pa)) A [] [] g lo hi lim rd U 0 [] w3) := ⟨rfl, none, 0, hs3⟩
  clear hs3
  go_wp2_with fail
  refine (col_all I t w3 HS3.out HV.out.1 HV.out.2.1 HV.out.2.2.1 HV.out.2.2.2 (by have := HV.out; omega) HRD.out.1 (by have := HRD.out; have := HV.out; omega)).mono ?_
  rintro e w4 ⟨rfl, n', hn', va, vc, hs4⟩
  rw [HG.out, List.nil_append] at hs4 hn'
  have HQ : Hid (EnsRes I (.pointer (some pa)) A rd F (2 * (xh l.length : Int) + (P.length : Int)) P w (.returned (.slice va n' vc)) w4) := hs4.ensRes hn' (by omega) (by have := HVI.out; omega)
  unfold colA at hs4
  obtain ⟨⟨c0, c1, c2, c3, c4, c5⟩, f4, f5⟩ := cells6_of (hs4.boxes _ (List.Mem.head _)).2
  clear hs4 hn' HS3
  go_wp2_with fail
  go_ret
  exact HQ.out
theorem EnsRes.more {I : AImpl} {p : Value} {A : Ar} {rd : Int} {F : Nat → Prop} {bd bd' : Int} {P : List En} {w : World} {e : Ending} {w' : World} (h : EnsRes I p A rd F bd P w e w') (hb : bd ≤ bd') : EnsRes I p A rd F bd' P w e w' := by
  obtain ⟨F', rd', a, c, h1, h2, h3, h4, h5, h6⟩ := h
  exact ⟨F', rd', a, c, h1, h2, h3, h4, by omega, h6⟩
theorem bet_all64 {l : List En} (hw : WfL l) : betE l (-9223372036854775808) 9223372036854775807 = l := bet_all_of fun x hx => (hw x hx).1
set_option maxHeartbeats 4000000 in
set_option maxRecDepth 100000 in
theorem listB_any (I : AImpl) {p : Value} {A : Ar} {rd : Int} {F : Nat → Prop} {i : Nat} {t : Tr} {l : List En} (w : World) (hI : I.Is w p A rd F) (hT : TreeAt A i t l) (hw : WfL l) (h0 : 0 ≤ rd) (h1 : rd ≤ 1099509000000) :
    Calls Try.prog 28 #[p, .int .u32 (i : Int)] w (EnsRes I p A rd F (bulkBd l.length l.length) l w) := by
  obtain ⟨pa, rfl⟩ := I.ptr hI
  have hlen : l.length ≤ 65536 := by
    obtain ⟨held, hv⟩ := hT.inv
    have := hv.ok.cap2
    have := hT.held
    have := hT.size
    omega
  have e : firstE (betE l (-9223372036854775808) 9223372036854775807) 9223372036854775807 = l := by
    rw [bet_all64 hw]
    exact List.take_of_length_le (by omega)
  have HC := Lib.hid (rangeB_any I (-9223372036854775808) 9223372036854775807 9223372036854775807 w hI hT h0 (by omega))
  rw [e] at HC
  have HB : Hid (2 * (xh l.length : Int) + (l.length : Int) ≤ bulkBd l.length l.length) := by show _ ≤ _; unfold bulkBd; omega
  clear hI hT hw h0 h1 hlen e
  go_enter Try.func28, Try.ntmps28
  go_wp2_with fail
  refine HC.out.mono ?_
  rintro e w1 h
  obtain ⟨F', rd', a, c, rfl, h2, h3, h4, h5, h6⟩ := h
  have HQ : Hid (EnsRes I (.pointer (some pa)) A rd F (bulkBd l.length l.length) l w (.returned (.slice a l.length c)) w1) := ⟨F', rd', a, c, rfl, h2, h3, h4, by have := HB.out; omega, h6⟩
  clear h2 h3 h4 h5 h6 HC
  go_wp2_with fail
  go_ret
  exact HQ.out
theorem slice_drop {l : List En} (hu : Up l) (hw : WfL l) {f : Nat} {e : En} (he : l[f]? = some e) (k : Int) : firstE (betE l e.key 9223372036854775807) k = (l.drop f).take k.toNat := by
  obtain ⟨hf, rfl⟩ := List.getElem?_eq_some_iff.1 he
  unfold firstE
  congr 1
  have h1 : l = l.take f ++ l.drop f := (List.take_append_drop f l).symm
  have h2 : l.drop f = l[f] :: l.drop (f + 1) := List.drop_eq_getElem_cons hf
  have h3 : Up (l.take f ++ l[f] :: l.drop (f + 1)) := by rw [← h2, ← h1]; exact hu
  obtain ⟨-, -, h4, h5⟩ := up_app h3
  have e1 : betE (l.take f) l[f].key 9223372036854775807 = [] := bet_nil_of fun x hx => .inl (h4 x hx)
  have e2 : betE (l.drop f) l[f].key 9223372036854775807 = l.drop f := bet_all_of fun x hx => by
    have hm := (hw x (List.mem_of_mem_drop hx)).1.2
    rw [h2] at hx
    rcases List.mem_cons.1 hx with rfl | hx
    · exact ⟨Int.le_refl _, hm⟩
    · have := h5 x hx
      exact ⟨by omega, hm⟩
  calc betE l l[f].key 9223372036854775807 = betE (l.take f ++ l.drop f) l[f].key 9223372036854775807 := by rw [← h1]
    _ = l.drop f := by rw [bet_app, e1, e2, List.nil_append]
set_option maxHeartbeats 16000000 in
set_option maxRecDepth 100000 in
theorem sliceB_any (I : AImpl) {p : Value} {A : Ar} {rd : Int} {F : Nat → Prop} {i : Nat} {t : Tr} {l : List En} (f g : Int) (w : World) (hI : I.Is w p A rd F) (hT : TreeAt A i t l) (hw : WfL l) (h0 : 0 ≤ rd) (h1 : rd ≤ 1099509000000) (hf : i64R f) (hg : i64R g) :
    Calls Try.prog 26 #[p, .int .u32 (i : Int), .int .i64 f, .int .i64 g] w (EnsRes I p A rd F (bulkBd l.length (sliceE l f g).length) (sliceE l f g) w) := by
  obtain ⟨pa, rfl⟩ := I.ptr hI
  have HS0 := Lib.hid (Ins.start hI)
  have HT := Lib.hid hT
  have HW := Lib.hid hw
  have hz : A.sz i = (l.length : Int) := by rw [hT.sub.size hT.agg, hT.size]
  have hlen : l.length ≤ 65536 := by
    obtain ⟨held, hv⟩ := hT.inv
    have := hv.ok.cap2
    have := hT.held
    have := hT.size
    omega
  have HZ : Hid (A.sz i = (l.length : Int) ∧ A.Idx i ∧ i < 4294967296 ∧ A.σ.Ok ∧ l.length ≤ 65536) := by
    obtain ⟨held, hv⟩ := hT.inv
    exact ⟨hz, hT.sub.idx, hT.idx, hv.ok, hlen⟩
  have HRD : Hid (0 ≤ rd ∧ rd ≤ 1099509000000) := ⟨h0, h1⟩
  have HX : Hid (0 ≤ (xh l.length : Int) ∧ (xh l.length : Int) < 80) := ⟨by omega, by have := (xh_spec (n := l.length) (by omega)).2.1; omega⟩
  have HFG : Hid (i64R f ∧ i64R g) := ⟨hf, hg⟩
  have hnil : ∀ (rd' : Int) (wx : World), Ins I w F (.pointer (some pa)) A rd' [] [] wx → rd ≤ rd' → rd' ≤ rd + 6 * ((xh l.length : Int) + 2) + 1 → sliceE l f g = [] → EnsRes I (.pointer (some pa)) A rd F (bulkBd l.length (sliceE l f g).length) (sliceE l f g) w (.returned (.slice none 0 0)) wx := fun rd' wx h q1 q2 q3 => by
    rw [q3]
    refine (h.nilrow 58 2).ensRes (P := []) rfl q1 ?_
    unfold bulkBd
    simp only [List.length_nil]
    omega
  have HNIL := Lib.hid hnil
  clear hI hT hw h0 h1 hf hg hz hlen hnil
  go_enter Try.func26, Try.ntmps26
  by_cases hfg : g ≤ f
  · have d1 : decide (g ≤ f) = true := decide_eq_true hfg
    have HE : Hid (sliceE l f g = []) := by
      show _ = _
      unfold sliceE
      by_cases h : 0 ≤ f ∧ f ≤ g ∧ g ≤ (l.length : Int)
      · rw [if_pos h, show g.toNat - f.toNat = 0 by omega, List.take_zero]
      · rw [if_neg h]
    clear hfg
    go_wp2_with fail
    go_ret
    exact HNIL.out _ _ HS0.out (Int.le_refl _) (by have := HX.out; omega) HE.out
  have d1 : decide (g ≤ f) = false := decide_eq_false hfg
  have HFG2 : Hid (f < g) := Int.not_le.1 hfg
  clear hfg
  go_wp2_with fail
  refine (HS0.out.sz HRD.out.1 (by have := HRD.out; omega) HZ.out.2.2.1 HZ.out.2.1 HZ.out.2.2.2.1).mono ?_
  rintro e w1 ⟨rfl, hs1⟩
  rw [HZ.out.1]
  obtain ⟨rd1, hrd1⟩ : ∃ r, (rd + if i = 0 then 0 else 1) = r := ⟨_, rfl⟩
  have HR1 : Hid (rd ≤ rd1 ∧ rd1 ≤ rd + 1) := by
    show rd ≤ rd1 ∧ rd1 ≤ rd + 1
    rw [← hrd1]
    split <;> omega
  rw [hrd1] at hs1
  have HS1 := Lib.hid hs1
  clear hs1 hrd1 HS0
  by_cases hgl : (l.length : Int) < g
  · have d2 : decide ((l.length : Int) < g) = true := decide_eq_true hgl
    have HE : Hid (sliceE l f g = []) := by
      show _ = _
      unfold sliceE
      rw [if_neg (by omega)]
    clear hgl
    go_wp2_with fail
    go_ret
    exact HNIL.out _ _ HS1.out HR1.out.1 (by have := HX.out; have := HR1.out; omega) HE.out
  have d2 : decide ((l.length : Int) < g) = false := decide_eq_false hgl
  have HGL : Hid (g ≤ (l.length : Int)) := Int.not_lt.1 hgl
  clear hgl
  go_wp2_with fail
  refine (HS1.out.call fun F1 hI1 => (rkImpl I).select f w1 hI1 HT.out (by have := HRD.out; have := HR1.out; omega) (by have := HRD.out; have := HR1.out; omega) HFG.out.1).mono ?_
  rintro e w2 ⟨rfl, rd2, hs2, r1, r2⟩
  have HR2 : Hid (rd ≤ rd2 ∧ rd2 ≤ rd + 6 * ((xh l.length : Int) + 2) + 1) := ⟨by have := HR1.out; omega, by have := HR1.out; unfold mostJ at r2; omega⟩
  obtain ⟨O, hO⟩ : ∃ O, selE l f = O := ⟨_, rfl⟩
  rw [hO]
  have HO := Lib.hid hO
  unfold enR enA
  have hs3 := hs2.box #[Value.int .i64 (O.elim 0 (·.key)), .int .i64 (O.elim 0 (·.val))] 58
  clear hs2 r1 r2 hO HS1
  go_upto_region 4 with fail
  generalize w2.alloc (Obj.cells #[Value.int .i64 (O.elim 0 (·.key)), .int .i64 (O.elim 0 (·.val))] 58) = w3 at hs3 ⊢
  generalize w2.heap.size = q at hs3 ⊢
  have HS3 := Lib.hid hs3
  clear hs3
  cases O with
  | none =>
    have HE : Hid (sliceE l f g = []) := by
      show _ = _
      unfold sliceE
      by_cases h : 0 ≤ f ∧ f ≤ g ∧ g ≤ (l.length : Int)
      · exfalso
        have h1 := HO.out
        unfold selE at h1
        rw [if_pos h.1, List.getElem?_eq_none_iff] at h1
        have := HFG2.out
        omega
      · rw [if_neg h]
    have HIN := Lib.hid (HS3.out.less (List.Sublist.refl _) (List.sublist_cons_self _ _))
    clear HS3
    go_wp2_with fail
    go_ret
    exact HNIL.out _ _ HIN.out HR2.out.1 HR2.out.2 HE.out
  | some x =>
    have hx : 0 ≤ f ∧ l[f.toNat]? = some x := by
      have h1 := HO.out
      unfold selE at h1
      by_cases h : 0 ≤ f
      · rw [if_pos h] at h1; exact ⟨h, h1⟩
      · rw [if_neg h] at h1; cases h1
    have hxk : i64R x.key := (HW.out x (List.mem_of_getElem? hx.2)).1
    have HE : Hid (firstE (betE l x.key 9223372036854775807) (g - f) = sliceE l f g) := by
      show _ = _
      have h1 := HFG2.out
      have h2 := HGL.out
      rw [slice_drop HT.out.up HW.out hx.2]
      unfold sliceE
      rw [if_pos ⟨hx.1, by omega, h2⟩, show (g - f).toNat = g.toNat - f.toNat by omega]
    have hw2 : IntKind.i64.wrap (g - f) = g - f := by
      have h1 := HFG2.out
      have h2 := HGL.out
      have h3 := HZ.out
      have h4 := hx.1
      rw [IntKind.wrap_i64]; omega
    obtain ⟨y0, y1⟩ := two_ofE (HS3.out.boxes _ (List.Mem.head _)).2
    clear hx hxk
    show _
    go_wp2_with fail
    refine (HS3.out.ensB fun F1 hI1 => rangeB_any I x.key 9223372036854775807 (g - f) w3 hI1 HT.out (by have := HRD.out; have := HR2.out; omega) (by have := HRD.out; have := HR2.out; have := HX.out; omega)).mono ?_
    rintro e w4 ⟨rd4, va, n, vc, rfl, hn, hs4, q1, q2⟩
    have HQ : Hid (EnsRes I (.pointer (some pa)) A rd F (bulkBd l.length (sliceE l f g).length) (sliceE l f g) w (.returned (.slice va n vc)) w4) := by
      rw [HE.out] at hs4 hn q2
      refine hs4.ensRes hn (by have := HR2.out; omega) ?_
      have := HR2.out
      unfold bulkBd
      omega
    clear hs4 hn q1 q2 HS3 y0 y1
    go_wp2_with fail
    go_ret
    exact HQ.out
end Go.Proofs.Ytnimbgcploohiaa
set_option linter.unusedVariables false
set_option linter.unusedSimpArgs false
namespace Go.Proofs.Ytnimbgcploohiaa
open Go.RowKit
theorem up_adj : ∀ {l : List En}, (∀ (j : Nat) (x y : En), l[j]? = some x → l[j + 1]? = some y → x.key < y.key) → Up l
  | [], _ => List.Pairwise.nil
  | [x], _ => List.pairwise_singleton _ _
  | x :: y :: t, h => by
    have ih : Up (y :: t) := up_adj fun j a b ha hb => h (j + 1) a b ha hb
    have hxy := h 0 x y rfl rfl
    refine List.pairwise_cons.2 ⟨fun z hz => ?_, ih⟩
    rcases List.mem_cons.1 hz with rfl | hz
    · exact hxy
    · have := (List.pairwise_cons.1 ih).1 z hz
      omega
theorem adj_up {l : List En} (h : Up l) {j : Nat} {x y : En} (hx : l[j]? = some x) (hy : l[j + 1]? = some y) : x.key < y.key := by
  obtain ⟨h1, rfl⟩ := List.getElem?_eq_some_iff.1 hx
  obtain ⟨h2, rfl⟩ := List.getElem?_eq_some_iff.1 hy
  exact List.pairwise_iff_getElem.1 h j (j + 1) h1 h2 (by omega)
def AscTo (l : List En) (k : Nat) : Prop := ∀ (j : Nat) (x y : En), j + 1 < k → l[j]? = some x → l[j + 1]? = some y → x.key < y.key
end Go.Proofs.Ytnimbgcploohiaa
set_option linter.unusedVariables false
set_option linter.unusedSimpArgs false
namespace Go.Proofs.Ytnimbgcploohiaa
open Go.RowKit
section
variable {I : AImpl} {w wr : World} {F F1 : Nat → Prop} {p : Value} {A : Ar} {rd : Int} {rs : List Row} {bs : List (Nat × Obj)} {a : Option Addr} {c : Nat} {P : List Nat}
/-- a call that alters the arena, and what is known of the arena's place -/
theorem Ins.mutO {f : FuncId} {args : Array Value} {Q : Ending → Ar → Int → Prop} (h : Ins I w F p A rd rs bs wr) (hc : ∀ F1, I.Is wr p A rd F1 → (∀ k, (OldI w F k ∨ SG rs bs k) → k < wr.heap.size ∧ ¬ F1 k) → Calls Try.prog f args wr (Mut I p F1 Q wr)) :
    Calls Try.prog f args wr fun e w' => ∃ A' rd', Q e A' rd' ∧ Ins I w F p A' rd' rs bs w' := by
  obtain ⟨F1, f1, f2, f3⟩ := h.mr.has
  refine (hc F1 f1 f3).mono ?_
  rintro e w1 ⟨F', A', rd', hal, hI, hq⟩
  have hst := h.mr.stepA f2 f3 hal hI
  exact ⟨A', rd', hq, hst.1, fun k hk => (hst.2 k (.inl hk)).trans (h.kp k hk), fun r hr => row_keep (h.rows r hr) fun k hk' => hst.2 k (.inr (.inl ⟨r, hr, hk'⟩)), fun b hb => ⟨(h.boxes b hb).1, (hst.2 b.1 (.inr (.inr ⟨b, hb, rfl⟩))).trans (h.boxes b hb).2⟩, h.rr, h.bb, h.rb⟩
end
end Go.Proofs.Ytnimbgcploohiaa
set_option linter.unusedVariables false
set_option linter.unusedSimpArgs false
namespace Go.Proofs.Ytnimbgcploohiaa
open Go.RowKit
set_option maxHeartbeats 2000000 in
set_option maxRecDepth 100000 in
theorem ascB_any {w : World} {a : Option Addr} {n c : Nat} {l : List En} (h : EnsAt w a l) (hn : l.length = n) (hl : n ≤ 1000000) {v : Bool} (hv : v = true ↔ Up l) :
    Calls Try.prog 37 #[.slice a n c] w (Calm w (.bool v)) := by
  have hni : (n : Int) ≤ 1000000 := by omega
  have HH := Lib.hid h
  have HN := Lib.hid hn
  have HV := Lib.hid hv
  clear h hn hv
  go_enter Try.func37, Try.ntmps37
  go_wp2_with fail
  go_loopw [3] (fun i wr => ∃ k : Nat, 1 ≤ k ∧ k ≤ n + 1 ∧ i = .int .i64 (k : Int) ∧ AscTo l k ∧ ∃ q, wr = w.drewN q) (fun i _ => n + 1 - (intOf i).toNat)
  case atStart => exact ⟨1, Nat.le_refl _, by omega, rfl, fun j x y hj => by omega, 0, rfl⟩
  case round =>
    obtain ⟨k, hk1, hk, rfl, hA, q, rfl⟩ := hrel
    have HA := Lib.hid hA
    have hk1i : (1 : Int) ≤ (k : Int) := by omega
    clear hA
    by_cases hlt : k < n
    · have hki : (k : Int) < (n : Int) := by omega
      have hk0 : (0 : Int) ≤ (k : Int) := by omega
      obtain ⟨j, hj⟩ : ∃ j, k = j + 1 := ⟨k - 1, by omega⟩
      obtain ⟨y, hy⟩ : ∃ e, l[k]? = some e := ⟨_, List.getElem?_eq_getElem (by have := HN.out; omega)⟩
      obtain ⟨x, hx⟩ : ∃ e, l[j]? = some e := ⟨_, List.getElem?_eq_getElem (by have := HN.out; omega)⟩
      obtain ⟨g, off, rfl, hb, c0, c1⟩ := HH.out.at hy
      obtain ⟨g', off', hgg, hb', d0, d1⟩ := HH.out.at hx
      obtain ⟨rfl, rfl⟩ : g = g' ∧ off = off' := by simpa using hgg
      have hji : IntKind.i64.wrap ((k : Int) - 1) = (j : Int) := by rw [IntKind.wrap_i64]; omega
      have hj0 : (0 : Int) ≤ (j : Int) := by omega
      have hjn : (j : Int) < (n : Int) := by omega
      have HXY : Hid (l[k]? = some y ∧ l[j]? = some x ∧ k = j + 1) := ⟨hy, hx, hj⟩
      have HLT := Lib.hid hlt
      clear hb hb' hgg hy hx hlt c1 d1 hj
      by_cases hle : y.key ≤ x.key
      · have q1 : decide (y.key ≤ x.key) = true := decide_eq_true hle
        have HR : Hid (v = false) := by
          show _ = _
          cases hv : v with
          | false => rfl
          | true =>
            have h1 := HXY.out.1
            rw [HXY.out.2.2] at h1
            have := adj_up (HV.out.1 hv) HXY.out.2.1 h1
            omega
        clear hle
        go_upto_region 4 with fail
        go_quiet (fail)
        rename Nat => d
        go_wp2_with fail
        go_ret
        exact ⟨by rw [HR.out]; rfl, below_drewN (below_drewN (Below.refl _ _) _) _⟩
      · have q1 : decide (y.key ≤ x.key) = false := decide_eq_false hle
        have HAA : Hid (AscTo l (k + 1)) := fun j' x' y' hj' hx' hy' => by
          by_cases h1 : j' + 1 < k
          · exact HA.out j' x' y' h1 hx' hy'
          · have e1 : j' = j := by have := HXY.out.2.2; omega
            subst e1
            have h2 := HXY.out.1
            rw [HXY.out.2.2] at h2
            rw [HXY.out.2.1] at hx'
            rw [h2] at hy'
            cases hx'
            cases hy'
            omega
        clear hle
        go_upto_region 4 with fail
        go_quiet (fail)
        rename Nat => d
        go_wp2_with fail
        exact ⟨⟨k + 1, by omega, by have := HLT.out; omega, by go_num, HAA.out, _, rfl⟩, by have := HLT.out; simp [intOf]; omega⟩
    · have hki : ¬ (k : Int) < (n : Int) := by omega
      have HR : Hid (v = true) := HV.out.2 (up_adj fun j x y hx hy => HA.out j x y (by have := (List.getElem?_eq_some_iff.1 hy).1; have := HN.out; omega) hx hy)
      clear hlt
      go_wp2_with fail
      go_ret
      exact ⟨by rw [HR.out]; rfl, below_drewN (Below.refl _ _) _⟩
theorem EnsAt.ins {I : AImpl} {w wr : World} {F : Nat → Prop} {p : Value} {A : Ar} {rd : Int} {rs : List Row} {bs : List (Nat × Obj)} {b off : Nat} {l : List En} (h : EnsAt w (some ⟨b, off, none⟩) l) (hF : ¬ F b) (hb : b < w.heap.size) (hi : Ins I w F p A rd rs bs wr) : EnsAt wr (some ⟨b, off, none⟩) l := by
  have hk := hi.kp b ⟨hb, hF⟩
  have hlt : b < wr.heap.size := Nat.lt_of_lt_of_le hb hi.size
  refine ⟨fun j e he => ?_, h.wf⟩
  obtain ⟨b', off', hab, _, h1, h2⟩ := h.cell j e he
  simp at hab
  obtain ⟨rfl, rfl⟩ := hab
  exact ⟨b, off, rfl, hlt, by rw [← h1]; exact World.cell?_of_block (a := ⟨b, off + j * 2, none⟩) hk, by rw [← h2]; exact World.cell?_of_block (a := ⟨b, off + j * 2 + 1, none⟩) hk⟩
theorem idx_okB {A : Ar} (h : A.σ.Ok) {x : Nat} (hx : A.Idx x) : x < 4294967296 := by
  rcases hx with hx | hx
  · omega
  · have := h.on x hx; have := h.cap2; omega
/-- what build leaves -/
def BldQ (A : Ar) (rd : Int) (held : Nat → Nat) (l : List En) (en : Ending) (B : Ar) (rd' : Int) : Prop :=
  rd' = rd ∧ ∃ (j : Nat) (t : Tr), en = .returned (.int .u32 (j : Int)) ∧ Planted A held l B j t ∧ t.mid ∧ ∀ i, A.σ.on i = true → B.σ.gen i = A.σ.gen i
structure BldP (I : AImpl) (D : Nat) (w : World) (p : Value) (A : Ar) (rd : Int) (F : Nat → Prop) (held : Nat → Nat) (a : Option Addr) (n c : Nat) (l : List En) : Prop where
  is : I.Is w p A rd F
  inv : A.Inv [] held
  agg : A.Agg
  few : ∀ j, held j + D + 1 ≤ 1048576
  ens : EnsAt w a l
  len : l.length = n
  small : n < 2 ^ D
  off : n ≠ 0 → ∀ b o, a = some ⟨b, o, none⟩ → ¬ F b
  cap : n ≤ c ∧ c ≤ maxLen
  room : n ≤ A.σ.free.length
def BldOk (I : AImpl) (D : Nat) : Prop := ∀ {p : Value} {A : Ar} {rd : Int} {F : Nat → Prop} {held : Nat → Nat} {a : Option Addr} {n c : Nat} {l : List En} (w : World), BldP I D w p A rd F held a n c l →
    Calls Try.prog 38 #[p, .slice a n c] w (Mut I p F (BldQ A rd held l) w)
theorem bld_node {A A1 A2 : Ar} {held : Nat → Nat} {l1 l2 : List En} {e : En} {il ir i : Nat} {tl tr : Tr} {fr : List Nat} (h1 : Planted A held l1 A1 il tl) (h2 : Planted A1 (pls held il) l2 A2 ir tr) (hf : A2.σ.free = i :: fr) (hw : i64R e.key ∧ i64R e.val)
    (hn : l1.length = (l1.length + l2.length + 1) / 2) (hs : l1.length + l2.length + 1 ≤ 65536) (hm1 : tl.mid) (hm2 : tr.mid) (hg1 : ∀ i, A.σ.on i = true → A1.σ.gen i = A.σ.gen i) (hg2 : ∀ i, A1.σ.on i = true → A2.σ.gen i = A1.σ.gen i) :
    (Planted A held (l1 ++ e :: l2) (A2.over i fr (A2.node e.key e.val il ir)) i (.node i tl tr) ∧ (A2.node e.key e.val il ir).size ≤ 2147483647) ∧ (Tr.node i tl tr).mid ∧ ∀ j, A.σ.on j = true → (A2.over i fr (A2.node e.key e.val il ir)).σ.gen j = A.σ.gen j := by
  have hb : Proofs.Ytnimbgcploohiaa.bal (l1.length : Int) (l2.length : Int) = true := by
    exact decide_eq_true ⟨by omega, by omega, by omega, by omega, by omega, by omega⟩
  have hN := Planted.node (e := e) h1 h2 hf rfl hb (by omega)
  refine ⟨hN, ⟨by rw [h1.size, h2.size]; exact hn, hm1, hm2⟩, fun j hj => ?_⟩
  have hj1 := h1.kept.on j hj
  have hj2 := h2.kept.on j hj1
  have hi := (h2.inv.ok.free i).1 (by rw [hf]; simp)
  have hne : j ≠ i := fun q => by subst q; rw [hi.2.2] at hj2; cases hj2
  have ho := over_ok rfl h2.inv h2.agg hf (h1.sub.kept h2.kept).idx h2.sub.idx hN.2
  rw [ho.2.2.2.1, ← hg1 j hj, ← hg2 j hj1]
  unfold St.take
  simp [hne]
set_option maxHeartbeats 16000000 in
set_option maxRecDepth 100000 in
theorem bld_step (I : AImpl) {D : Nat} (ih : BldOk I D) : BldOk I (D + 1) := by
  intro p A rd F held a n c l w hP
  obtain ⟨pa, rfl⟩ := I.ptr hP.is
  have HS0 := Lib.hid (Ins.start hP.is)
  by_cases h0 : n = 0
  · have hl : l = [] := List.eq_nil_of_length_eq_zero (by have := hP.len; omega)
    have HQ : Hid (BldQ A rd held l (.returned (.int .u32 ((0 : Nat) : Int))) A rd) := ⟨rfl, 0, .nil, rfl, by rw [hl]; exact .nil hP.inv hP.agg, trivial, fun _ _ => rfl⟩
    subst h0
    have HE := Lib.hid HS0.out.ends
    clear hP ih hl HS0
    go_enter Try.func38, Try.ntmps38
    go_wp2_with fail
    go_ret
    obtain ⟨F', hal, hI⟩ := HE.out
    exact ⟨F', A, rd, hal, hI, HQ.out⟩
  obtain ⟨b, off, rfl⟩ : ∃ b off, a = some ⟨b, off, none⟩ := by
    obtain ⟨b, off, h1, _⟩ := hP.ens.cell 0 (l[0]'(by have := hP.len; omega)) (List.getElem?_eq_getElem _)
    exact ⟨b, off, h1⟩
  have hlb : b < w.heap.size := by
    obtain ⟨b', off', h1, h2, _⟩ := hP.ens.cell 0 (l[0]'(by have := hP.len; omega)) (List.getElem?_eq_getElem _)
    simp at h1
    rw [h1.1]; exact h2
  obtain ⟨k, hk⟩ : ∃ k, n / 2 = k := ⟨_, rfl⟩
  obtain ⟨en, hen⟩ : ∃ en, l[k]? = some en := ⟨_, List.getElem?_eq_getElem (by have := hP.len; omega)⟩
  have HEN : Hid (l[k]? = some en ∧ i64R en.key ∧ i64R en.val) := ⟨hen, hP.ens.wf en (List.mem_of_getElem? hen)⟩
  have hl6 : n ≤ 65536 := by have := hP.room; have := hP.inv.ok.len; have := hP.inv.ok.cap2; omega
  have HIH : Hid (BldOk I D) := @ih
  have HP : Hid (A.Inv [] held ∧ A.Agg ∧ (∀ j, held j + (D + 1) + 1 ≤ 1048576) ∧ n ≤ A.σ.free.length) := ⟨hP.inv, hP.agg, hP.few, hP.room⟩
  have HP2 : Hid (n < 2 * 2 ^ D ∧ n ≤ 65536) := ⟨by have := hP.small; rw [Nat.pow_succ] at this; omega, hl6⟩
  have HE := Lib.hid hP.ens
  have HFB : Hid (¬ F b ∧ b < w.heap.size) := ⟨hP.off h0 b off rfl, hlb⟩
  have HK : Hid ((l.take k).length = k ∧ (l.drop (k + 1)).length = n - (k + 1) ∧ k + 1 ≤ n ∧ n ≤ 2 * k + 1 ∧ 2 * k ≤ n) := ⟨by rw [List.length_take]; have := hP.len; omega, by rw [List.length_drop]; have := hP.len; omega, by omega, by omega, by omega⟩
  have HC : Hid (n ≤ c ∧ c ≤ maxLen) := hP.cap
  have hne : ((n : Int) == 0) = false := by simp; exact h0
  have hne1 : ¬ n = 0 := h0
  have hne2 : decide ((n : Int) = 0) = false := decide_eq_false (by omega)
  have hq : (n : Int).tdiv 2 = (k : Int) := by rw [Int.tdiv_eq_ediv_of_nonneg (by omega)]; omega
  have hqw : IntKind.i64.wrap (k : Int) = (k : Int) := by rw [IntKind.wrap_i64]; omega
  have hqw2 : IntKind.i64.wrap ((k : Int) + 1) = ((k + 1 : Nat) : Int) := by rw [IntKind.wrap_i64]; omega
  have hc1 := hP.cap
  have hki : (k : Int) ≤ (c : Int) := by omega
  have hkn : (k : Int) < (n : Int) := by omega
  have hk0 : (0 : Int) ≤ (k : Int) := by omega
  have hk1 : ((k + 1 : Nat) : Int) ≤ (n : Int) := by omega
  have hk2 : (0 : Int) ≤ (k : Int) + 1 := by omega
  have hk3 : (k : Int) + 1 ≤ (n : Int) := by omega
  clear hP ih hlb hen hl6 hk hc1
  go_enter Try.func38, Try.ntmps38
  go_upto_region 4 with fail
  have hsd := HS0.out.calm (Below.refl _ _).drew
  clear HS0
  refine anyG_begin (S := (fun _ => True)) (z := 9999) (by kernel_rfl) trivial (fun hHeld => ?_)
  refine anyG_take (k := 0) (o := _) (v := ?_) (some 16) rfl (by kernel_rfl) (by kernel_rfl) (by kernel_rfl) (by kernel_rfl) (fun _ _ _ h => h) (Or.inl ⟨by rfl, ?_⟩) (by assumption) (by kernel_rfl) ?_
  rotate_left
  · intro w hSw; (try dsimp only at hSw); go_simp; try with_reducible rfl
  (try simp only [Act.put, List.setIfInBounds_toArray, List.set_cons_zero, List.set_cons_succ])
  refine anyG_take (k := 1) (o := _) (v := ?_) (some 17) rfl (by kernel_rfl) (by kernel_rfl) (by kernel_rfl) (by kernel_rfl) (fun _ _ _ h => h) (Or.inl ⟨by rfl, ?_⟩) (by assumption) (by kernel_rfl) ?_
  rotate_left
  · intro w hSw; (try dsimp only at hSw); go_simp; try with_reducible rfl
  (try simp only [Act.put, List.setIfInBounds_toArray, List.set_cons_zero, List.set_cons_succ])
  refine anyG_take (k := 2) (o := _) (v := ?_) (some 18) rfl (by kernel_rfl) (by kernel_rfl) (by kernel_rfl) (by kernel_rfl) (fun _ _ _ h => h) (Or.inl ⟨by rfl, ?_⟩) (by assumption) (by kernel_rfl) ?_
  rotate_left
  · intro w hSw; (try dsimp only at hSw); go_simp; try with_reducible rfl
  (try simp only [Act.put, List.setIfInBounds_toArray, List.set_cons_zero, List.set_cons_succ])
  refine anyG_take (k := 3) (o := _) (v := ?_) (some 19) rfl (by kernel_rfl) (by kernel_rfl) (by kernel_rfl) (by kernel_rfl) (fun _ _ _ h => h) (Or.inl ⟨by rfl, ?_⟩) (by assumption) (by kernel_rfl) ?_
  rotate_left
  · intro w hSw; (try dsimp only at hSw); go_simp; try with_reducible rfl
  (try simp only [Act.put, List.setIfInBounds_toArray, List.set_cons_zero, List.set_cons_succ])
  refine anyG_take (k := 5) (o := _) (v := ?_) (some 21) rfl (by kernel_rfl) (by kernel_rfl) (by kernel_rfl) (by kernel_rfl) (fun _ _ _ h => h) (Or.inl ⟨by rfl, ?_⟩) (by assumption) (by kernel_rfl) ?_
  rotate_left
  · intro w hSw; (try dsimp only at hSw); go_simp; try with_reducible rfl
  (try simp only [Act.put, List.setIfInBounds_toArray, List.set_cons_zero, List.set_cons_succ])
  refine anyG_take (k := 6) (o := _) (v := ?_) (some 22) rfl (by kernel_rfl) (by kernel_rfl) (by kernel_rfl) (by kernel_rfl) (fun _ _ _ h => h) (Or.inl ⟨by rfl, ?_⟩) (by assumption) (by kernel_rfl) ?_
  rotate_left
  · intro w hSw; (try dsimp only at hSw); go_simp; try with_reducible rfl
  (try simp only [Act.put, List.setIfInBounds_toArray, List.set_cons_zero, List.set_cons_succ])
  refine anyG_take (k := 7) (o := _) (v := ?_) (some 23) rfl (by kernel_rfl) (by kernel_rfl) (by kernel_rfl) (by kernel_rfl) (fun _ _ _ h => h) (Or.inl ⟨by rfl, ?_⟩) (by assumption) (by kernel_rfl) ?_
  rotate_left
  · intro w hSw; (try dsimp only at hSw); go_simp; try with_reducible rfl
  (try simp only [Act.put, List.setIfInBounds_toArray, List.set_cons_zero, List.set_cons_succ])
  refine anyG_take (k := 8) (o := _) (v := ?_) (some 24) rfl (by kernel_rfl) (by kernel_rfl) (by kernel_rfl) (by kernel_rfl) (fun _ _ _ h => h) (Or.inl ⟨by rfl, ?_⟩) (by assumption) (by kernel_rfl) ?_
  rotate_left
  · intro w hSw; (try dsimp only at hSw); go_simp; try with_reducible rfl
  (try simp only [Act.put, List.setIfInBounds_toArray, List.set_cons_zero, List.set_cons_succ])
  refine anyG_take (k := 9) (o := _) (v := ?_) (some 25) rfl (by kernel_rfl) (by kernel_rfl) (by kernel_rfl) (by kernel_rfl) (fun _ _ _ h => h) (Or.inl ⟨by rfl, ?_⟩) (by assumption) (by kernel_rfl) ?_
  rotate_left
  · intro w hSw; (try dsimp only at hSw); go_simp; try with_reducible rfl
  (try simp only [Act.put, List.setIfInBounds_toArray, List.set_cons_zero, List.set_cons_succ])
  refine anyG_one (k := 4) (o := _) (by kernel_rfl) rfl (fun KT hKT => ?_)
  go_simp
  go_at_call 38
  obtain ⟨ap, hap⟩ : ∃ ap, (if c = k + 1 then some (⟨b, off, none⟩ : Addr) else some ⟨b, off + (k + 1) * 2, none⟩) = ap := ⟨_, rfl⟩
  rw [hap]
  have HAP := Lib.hid hap
  clear hap
  refine (hsd.mutO fun F1 hI1 hF1 => HIH.out _ ⟨hI1, HP.out.1, HP.out.2.1, fun j => by have := HP.out.2.2.1 j; omega, (HE.out.ins HFB.out.1 HFB.out.2 hsd).take k, HK.out.1, by have := HK.out; have := HP2.out; omega, fun _ b' o' q => by cases q; exact (hF1 _ (.inl ⟨HFB.out.2, HFB.out.1⟩)).2, ⟨by have := HK.out; have := HC.out; omega, HC.out.2⟩, by have := HK.out; have := HP.out; omega⟩).mono ?_
  rintro eA wA ⟨A1, rd1, ⟨rfl, il, tl, rfl, hP1, hM1, hG1⟩, hsA⟩
  try go_wp2_with fail
  refine hKT.out _ _ trivial (fun hHeld => ?_)
  clear hKT KT
  (try simp only [Act.put, List.setIfInBounds_toArray, List.set_cons_zero, List.set_cons_succ])
  refine anyG_one (k := 10) (o := _) (by kernel_rfl) rfl (fun KT hKT => ?_)
  go_simp
  go_at_call 38
  have hE2 : EnsAt wA (if c = k + 1 then some ⟨b, off, none⟩ else some ⟨b, off + (k + 1) * 2, none⟩) (l.drop (k + 1)) := by
    by_cases q : c = k + 1
    · rw [if_pos q, show l.drop (k + 1) = [] from List.eq_nil_of_length_eq_zero (by rw [HK.out.2.1]; have := HC.out; omega)]
      exact EnsAt.nil _ _
    · rw [if_neg q]
      exact (HE.out.ins HFB.out.1 HFB.out.2 hsA).drop (k + 1)
  have hB2 : ∀ b' o', (if c = k + 1 then some (⟨b, off, none⟩ : Addr) else some ⟨b, off + (k + 1) * 2, none⟩) = some ⟨b', o', none⟩ → b' = b := fun b' o' q => by
    split at q <;> · cases q; rfl
  rw [HAP.out] at hE2 hB2
  refine (hsA.mutO fun F1 hI1 hF1 => HIH.out _ ⟨hI1, hP1.inv, hP1.agg, fun j => by rw [pls_at]; have := HP.out.2.2.1 j; split <;> omega, hE2, HK.out.2.1, by have := HK.out; have := HP2.out; omega, fun _ b' o' q => by rw [hB2 b' o' q]; exact (hF1 _ (.inl ⟨HFB.out.2, HFB.out.1⟩)).2, ⟨by have := HK.out; have := HC.out; omega, by have := HC.out; omega⟩, by have := hP1.free; have := HK.out; have := HP.out; omega⟩).mono ?_
  rintro eB wB ⟨A2, rd2, ⟨rfl, ir, tr, rfl, hP2, hM2, hG2⟩, hsB⟩
  try go_wp2_with fail
  refine hKT.out _ _ trivial (fun hHeld => ?_)
  clear hKT KT
  (try simp only [Act.put, List.setIfInBounds_toArray, List.set_cons_zero, List.set_cons_succ])
  refine anyG_take (k := 11) (o := _) (v := ?_) (some 6) rfl (by kernel_rfl) (by kernel_rfl) (by kernel_rfl) (by kernel_rfl) (fun _ _ _ h => h) (Or.inl ⟨by rfl, ?_⟩) (by assumption) (by kernel_rfl) ?_
  rotate_left
  · intro w hSw; (try dsimp only at hSw); go_simp; try with_reducible rfl
  (try simp only [Act.put, List.setIfInBounds_toArray, List.set_cons_zero, List.set_cons_succ])
  refine anyG_take (k := 12) (o := _) (v := ?_) (some 7) rfl (by kernel_rfl) (by kernel_rfl) (by kernel_rfl) (by kernel_rfl) (fun _ _ _ h => h) (Or.inl ⟨by rfl, ?_⟩) (by assumption) (by kernel_rfl) ?_
  rotate_left
  · intro w hSw; (try dsimp only at hSw); go_simp; try with_reducible rfl
  (try simp only [Act.put, List.setIfInBounds_toArray, List.set_cons_zero, List.set_cons_succ])
  refine anyG_done (by kernel_rfl) ?_ _
  have HM12 : Hid (Planted A held (l.take k) A1 il tl ∧ tl.mid ∧ ∀ i, A.σ.on i = true → A1.σ.gen i = A.σ.gen i) := ⟨hP1, hM1, hG1⟩
  have HPB : Hid (Planted A held (l.take k) A1 il tl ∧ Planted A1 (pls held il) (l.drop (k + 1)) A2 ir tr ∧ tr.mid ∧ ∀ i, A1.σ.on i = true → A2.σ.gen i = A1.σ.gen i) := ⟨hP1, hP2, hM2, hG2⟩
  obtain ⟨i, fr, hfr⟩ : ∃ i fr, A2.σ.free = i :: fr := by
    have h1 := hP1.free
    have h2 := hP2.free
    have h3 := HK.out
    have h4 := HP.out.2.2.2
    cases hq : A2.σ.free with
    | nil => rw [hq] at h2; simp only [List.length_nil] at h2; omega
    | cons i fr => exact ⟨i, fr, rfl⟩
  have HFR := Lib.hid hfr
  have hND := bld_node (e := en) hP1 hP2 hfr HEN.out.2 (by have := HK.out; omega) (by have := HK.out; have := HP2.out; omega) hM1 hM2 hG1 hG2
  rw [show l.take k ++ en :: l.drop (k + 1) = l from (split_at HEN.out.1).symm] at hND
  have HND := Lib.hid hND
  have hsl := hP1.sub.kept hP2.kept
  have HIX : Hid (A2.Idx il ∧ A2.Idx ir) := ⟨hsl.idx, hP2.sub.idx⟩
  have HOV := Lib.hid (over_ok (key := en.key) (val := en.val) rfl hP2.inv hP2.agg hfr hsl.idx hP2.sub.idx hND.1.2)
  have HE3 := Lib.hid (HE.out.ins HFB.out.1 HFB.out.2 hsB)
  have HSB := Lib.hid hsB
  clear hfr hND hsl hP1 hP2 hM1 hM2 hG1 hG2 hsA hsB hsd hHeld hE2 hB2
  have HCE : Hid (∀ {wx : World} {C : Ar} {rdx : Int}, Ins I w F (.pointer (some pa)) C rdx [] [] wx → wx.cell? ⟨b, off + k * 2, none⟩ = some (.int .i64 en.key) ∧ wx.cell? ⟨b, off + k * 2 + 1, none⟩ = some (.int .i64 en.val)) := fun {wx C rdx} hx => (HE.out.ins HFB.out.1 HFB.out.2 hx).two HEN.out.1
  have hkt : ((k : Int)).toNat = k := Int.toNat_natCast _
  go_upto_region 5 with fail
  have hsd := HSB.out.calm (Below.refl _ _).drew
  clear HSB HE3
  refine anyG_begin (S := (fun w' => w'.cell? ⟨b, off + k * 2, none⟩ = some (.int .i64 en.key) ∧ w'.cell? ⟨b, off + k * 2 + 1, none⟩ = some (.int .i64 en.val))) (z := 9999) (by kernel_rfl) (HCE.out hsd) (fun hHeld => ?_)
  refine anyG_take (k := 0) (o := _) (v := ?_) (some 28) rfl (by kernel_rfl) (by kernel_rfl) (by kernel_rfl) (by kernel_rfl) (fun _ _ _ h => h) (Or.inl ⟨by rfl, ?_⟩) (by assumption) (by kernel_rfl) ?_
  rotate_left
  · intro w hSw; (try dsimp only at hSw); go_simp; try with_reducible rfl
  (try simp only [Act.put, List.setIfInBounds_toArray, List.set_cons_zero, List.set_cons_succ])
  refine anyG_take (k := 1) (o := _) (v := ?_) (some 29) rfl (by kernel_rfl) (by kernel_rfl) (by kernel_rfl) (by kernel_rfl) (fun _ _ _ h => h) (Or.inl ⟨by rfl, ?_⟩) (by assumption) (by kernel_rfl) ?_
  rotate_left
  · intro w hSw; (try dsimp only at hSw); go_simp; try with_reducible rfl
  (try simp only [Act.put, List.setIfInBounds_toArray, List.set_cons_zero, List.set_cons_succ])
  refine anyG_take (k := 2) (o := _) (v := ?_) (some 30) rfl (by kernel_rfl) (by kernel_rfl) (by kernel_rfl) (by kernel_rfl) (fun _ _ _ h => h) (Or.inl ⟨by rfl, ?_⟩) (by assumption) (by kernel_rfl) ?_
  rotate_left
  · intro w hSw; (try dsimp only at hSw); go_simp; try with_reducible rfl
  (try simp only [Act.put, List.setIfInBounds_toArray, List.set_cons_zero, List.set_cons_succ])
  refine anyG_take (k := 3) (o := _) (v := ?_) (some 31) rfl (by kernel_rfl) (by kernel_rfl) (by kernel_rfl) (by kernel_rfl) (fun _ _ _ h => h) (Or.inl ⟨by rfl, ?_⟩) (by assumption) (by kernel_rfl) ?_
  rotate_left
  · intro w hSw; (try dsimp only at hSw); go_simp; try with_reducible rfl
  (try simp only [Act.put, List.setIfInBounds_toArray, List.set_cons_zero, List.set_cons_succ])
  refine anyG_take (k := 4) (o := _) (v := ?_) (some 32) rfl (by kernel_rfl) (by kernel_rfl) (by kernel_rfl) (by kernel_rfl) (fun _ _ _ h => h) (Or.inl ⟨by rfl, ?_⟩) (by assumption) (by kernel_rfl) ?_
  rotate_left
  · intro w hSw; (try dsimp only at hSw); go_simp; try with_reducible rfl
  (try simp only [Act.put, List.setIfInBounds_toArray, List.set_cons_zero, List.set_cons_succ])
  refine anyG_take (k := 5) (o := _) (v := ?_) (some 33) rfl (by kernel_rfl) (by kernel_rfl) (by kernel_rfl) (by kernel_rfl) (fun _ _ _ h => h) (Or.inl ⟨by rfl, ?_⟩) (by assumption) (by kernel_rfl) ?_
  rotate_left
  · intro w hSw; (try dsimp only at hSw); go_simp; try with_reducible rfl
  (try simp only [Act.put, List.setIfInBounds_toArray, List.set_cons_zero, List.set_cons_succ])
  refine anyG_take (k := 6) (o := _) (v := ?_) (some 34) rfl (by kernel_rfl) (by kernel_rfl) (by kernel_rfl) (by kernel_rfl) (fun _ _ _ h => h) (Or.inl ⟨by rfl, ?_⟩) (by assumption) (by kernel_rfl) ?_
  rotate_left
  · intro w hSw; (try dsimp only at hSw); go_simp; try with_reducible rfl
  (try simp only [Act.put, List.setIfInBounds_toArray, List.set_cons_zero, List.set_cons_succ])
  refine anyG_take (k := 7) (o := _) (v := ?_) (some 35) rfl (by kernel_rfl) (by kernel_rfl) (by kernel_rfl) (by kernel_rfl) (fun _ _ _ h => h) (Or.inl ⟨by rfl, ?_⟩) (by assumption) (by kernel_rfl) ?_
  rotate_left
  · intro w hSw; (try dsimp only at hSw); go_simp; try with_reducible rfl
  (try simp only [Act.put, List.setIfInBounds_toArray, List.set_cons_zero, List.set_cons_succ])
  refine anyG_take (k := 8) (o := _) (v := ?_) (some 36) rfl (by kernel_rfl) (by kernel_rfl) (by kernel_rfl) (by kernel_rfl) (fun _ _ _ h => h) (Or.inl ⟨by rfl, ?_⟩) (by assumption) (by kernel_rfl) ?_
  rotate_left
  · intro w hSw; (try dsimp only at hSw); go_simp; try with_reducible rfl
  (try simp only [Act.put, List.setIfInBounds_toArray, List.set_cons_zero, List.set_cons_succ])
  refine anyG_take (k := 9) (o := _) (v := ?_) (some 37) rfl (by kernel_rfl) (by kernel_rfl) (by kernel_rfl) (by kernel_rfl) (fun _ _ _ h => h) (Or.inl ⟨by rfl, ?_⟩) (by assumption) (by kernel_rfl) ?_
  rotate_left
  · intro w hSw; (try dsimp only at hSw); go_simp; try with_reducible rfl
  (try simp only [Act.put, List.setIfInBounds_toArray, List.set_cons_zero, List.set_cons_succ])
  refine anyG_take (k := 10) (o := _) (v := ?_) (some 38) rfl (by kernel_rfl) (by kernel_rfl) (by kernel_rfl) (by kernel_rfl) (fun _ _ _ h => h) (Or.inl ⟨by rfl, ?_⟩) (by assumption) (by kernel_rfl) ?_
  rotate_left
  · intro w hSw; (try dsimp only at hSw); go_simp; try with_reducible rfl
  (try simp only [Act.put, List.setIfInBounds_toArray, List.set_cons_zero, List.set_cons_succ])
  refine anyG_take (k := 11) (o := _) (v := ?_) (some 39) rfl (by kernel_rfl) (by kernel_rfl) (by kernel_rfl) (by kernel_rfl) (fun _ _ _ h => h) (Or.inl ⟨by rfl, ?_⟩) (by assumption) (by kernel_rfl) ?_
  rotate_left
  · intro w hSw; (try dsimp only at hSw); go_simp; try with_reducible rfl
  (try simp only [Act.put, List.setIfInBounds_toArray, List.set_cons_zero, List.set_cons_succ])
  refine anyG_take (k := 12) (o := _) (v := ?_) (some 40) rfl (by kernel_rfl) (by kernel_rfl) (by kernel_rfl) (by kernel_rfl) (fun _ _ _ h => h) (Or.inl ⟨by rfl, ?_⟩) (by assumption) (by kernel_rfl) ?_
  rotate_left
  · intro w hSw; (try dsimp only at hSw); go_simp; try with_reducible rfl
  (try simp only [Act.put, List.setIfInBounds_toArray, List.set_cons_zero, List.set_cons_succ])
  refine anyG_one (k := 13) (o := _) (by kernel_rfl) rfl (fun KT hKT => ?_)
  go_simp
  go_at_call 57
  refine (hsd.make HPB.out.2.1.inv HPB.out.2.1.agg (fun j => by rw [pls_at, pls_at]; have := HP.out.2.2.1 j; split <;> split <;> omega) HEN.out.2.1 HEN.out.2.2 HIX.out.1 HIX.out.2 HND.out.1.2 HFR.out).mono ?_
  rintro eC wC ⟨rfl, hsC⟩
  try go_wp2_with fail
  refine hKT.out _ _ (HCE.out hsC) (fun hHeld => ?_)
  clear hKT KT
  (try simp only [Act.put, List.setIfInBounds_toArray, List.set_cons_zero, List.set_cons_succ])
  refine anyG_take (k := 14) (o := _) (v := ?_) (some 27) rfl (by kernel_rfl) (by kernel_rfl) (by kernel_rfl) (by kernel_rfl) (fun _ _ _ h => h) (Or.inl ⟨by rfl, ?_⟩) (by assumption) (by kernel_rfl) ?_
  rotate_left
  · intro w hSw; (try dsimp only at hSw); go_simp; try with_reducible rfl
  (try simp only [Act.put, List.setIfInBounds_toArray, List.set_cons_zero, List.set_cons_succ])
  refine anyG_take (k := 15) (o := _) (v := ?_) (some 42) rfl (by kernel_rfl) (by kernel_rfl) (by kernel_rfl) (by kernel_rfl) (fun _ _ _ h => h) (Or.inl ⟨by rfl, ?_⟩) (by assumption) (by kernel_rfl) ?_
  rotate_left
  · intro w hSw; (try dsimp only at hSw); go_simp; try with_reducible rfl
  (try simp only [Act.put, List.setIfInBounds_toArray, List.set_cons_zero, List.set_cons_succ])
  refine anyG_take (k := 16) (o := _) (v := ?_) (some 43) rfl (by kernel_rfl) (by kernel_rfl) (by kernel_rfl) (by kernel_rfl) (fun _ _ _ h => h) (Or.inl ⟨by rfl, ?_⟩) (by assumption) (by kernel_rfl) ?_
  rotate_left
  · intro w hSw; (try dsimp only at hSw); go_simp; try with_reducible rfl
  (try simp only [Act.put, List.setIfInBounds_toArray, List.set_cons_zero, List.set_cons_succ])
  refine anyG_take (k := 17) (o := _) (v := ?_) (some 8) rfl (by kernel_rfl) (by kernel_rfl) (by kernel_rfl) (by kernel_rfl) (fun _ _ _ h => h) (Or.inl ⟨by rfl, ?_⟩) (by assumption) (by kernel_rfl) ?_
  rotate_left
  · intro w hSw; (try dsimp only at hSw); go_simp; try with_reducible rfl
  (try simp only [Act.put, List.setIfInBounds_toArray, List.set_cons_zero, List.set_cons_succ])
  refine anyG_take (k := 18) (o := _) (v := ?_) (some 9) rfl (by kernel_rfl) (by kernel_rfl) (by kernel_rfl) (by kernel_rfl) (fun _ _ _ h => h) (Or.inl ⟨by rfl, ?_⟩) (by assumption) (by kernel_rfl) ?_
  rotate_left
  · intro w hSw; (try dsimp only at hSw); go_simp; try with_reducible rfl
  (try simp only [Act.put, List.setIfInBounds_toArray, List.set_cons_zero, List.set_cons_succ])
  refine anyG_done (by kernel_rfl) ?_ _
  have HSC := Lib.hid hsC
  obtain ⟨o1, o2, o3, o4, o5, o6, o7, o8, o9, o10⟩ := HOV.out
  have HR1 : Hid (il < 4294967296 ∧ (A2.made i fr (A2.node en.key en.val il ir)).Idx il ∧ (A2.made i fr (A2.node en.key en.val il ir)).Inv [il] (mns (more (pls (pls held il) ir) i) il)) := ⟨idx_okB (o7 o8).ok o8, o8, o7 o8⟩
  have HR2 : Hid (ir < 4294967296 ∧ ((A2.made i fr (A2.node en.key en.val il ir)).gone il).Idx ir ∧ ((A2.made i fr (A2.node en.key en.val il ir)).gone il).Inv [ir] (mns (mns (more (pls (pls held il) ir) i) il) ir)) := ⟨idx_okB (o9 o10).ok o10, o10, o9 o10⟩
  clear o1 o2 o3 o4 o5 o6 o7 o8 o9 o10 hsC hsd hHeld HCE
  go_wp2_with fail
  refine (HSC.out.release HR1.out.1 HR1.out.2.1 HR1.out.2.2).mono ?_
  rintro e w6 ⟨rfl, hs6⟩
  have HS6 := Lib.hid hs6
  clear hs6 HSC
  go_wp2_with fail
  refine (HS6.out.release HR2.out.1 HR2.out.2.1 HR2.out.2.2).mono ?_
  rintro e w7 ⟨rfl, hs7⟩
  have HE7 := Lib.hid hs7.ends
  have HQ : Hid (BldQ A rd2 held l (.returned (.int .u32 (i : Int))) (A2.over i fr (A2.node en.key en.val il ir)) rd2) := ⟨rfl, i, _, rfl, HND.out.1.1, HND.out.2.1, HND.out.2.2⟩
  clear hs7 HS6
  go_wp2_with fail
  go_ret
  obtain ⟨F', hal, hI⟩ := HE7.out
  exact ⟨F', _, rd2, hal, hI, HQ.out⟩
theorem bld_zero (I : AImpl) : BldOk I 0 := by
  intro p A rd F held a n c l w hP
  obtain ⟨pa, rfl⟩ := I.ptr hP.is
  have h0 : n = 0 := by have := hP.small; omega
  have HS0 := Lib.hid (Ins.start hP.is)
  have hl : l = [] := List.eq_nil_of_length_eq_zero (by have := hP.len; omega)
  have HQ : Hid (BldQ A rd held l (.returned (.int .u32 ((0 : Nat) : Int))) A rd) := ⟨rfl, 0, .nil, rfl, by rw [hl]; exact .nil hP.inv hP.agg, trivial, fun _ _ => rfl⟩
  subst h0
  have HE := Lib.hid HS0.out.ends
  clear hP hl HS0
  go_enter Try.func38, Try.ntmps38
  go_wp2_with fail
  go_ret
  obtain ⟨F', hal, hI⟩ := HE.out
  exact ⟨F', A, rd, hal, hI, HQ.out⟩
theorem bld_all (I : AImpl) : ∀ D, BldOk I D
  | 0 => bld_zero I
  | D + 1 => bld_step I (bld_all I D)
set_option maxHeartbeats 16000000 in
set_option maxRecDepth 100000 in
theorem buildB_any (I : AImpl) {p : Value} {A : Ar} {rd : Int} {F : Nat → Prop} {held : Nat → Nat} {a : Option Addr} {n c : Nat} {l : List En} (w : World) (hI : I.Is w p A rd F) (hv : A.Inv [] held) (ha : A.Agg) (hm : ∀ j, held j ≤ 1048000) (hE : EnsAt w a l) (hn : l.length = n) (hn6 : n ≤ 65536) (hF : n ≠ 0 → ∀ b off, a = some ⟨b, off, none⟩ → ¬ F b) (hc : n ≤ c) (hcm : c ≤ maxLen) :
    Calls Try.prog 10 #[p, .slice a n c] w (Mut I p F (BuildQ A rd held l) w) := by
  obtain ⟨pa, rfl⟩ := I.ptr hI
  have HS0 := Lib.hid (Ins.start hI)
  have HP : Hid (A.Inv [] held ∧ A.Agg ∧ (∀ j, held j ≤ 1048000) ∧ EnsAt w a l ∧ l.length = n ∧ n ≤ 65536 ∧ (n ≠ 0 → ∀ b off, a = some ⟨b, off, none⟩ → ¬ F b) ∧ n ≤ c ∧ c ≤ maxLen) := ⟨hv, ha, hm, hE, hn, hn6, hF, hc, hcm⟩
  have hbd : (0 : Int) ≤ 16 * (l.length : Int) + 64 := by omega
  have HBD := Lib.hid hbd
  clear hI hv ha hm hE hn hF hc hcm hbd
  obtain ⟨v, hv⟩ : ∃ v : Bool, v = true ↔ Up l := by
    by_cases h : Up l
    · exact ⟨true, ⟨fun _ => h, fun _ => rfl⟩⟩
    · exact ⟨false, ⟨fun q => (by cases q), fun q => absurd q h⟩⟩
  have HV := Lib.hid hv
  have HA := Lib.hid (ascB_any (c := c) (w := w) HP.out.2.2.2.1 HP.out.2.2.2.2.1 (by omega) hv)
  clear hv
  go_enter Try.func10, Try.ntmps10
  go_wp2_with fail
  refine HA.out.mono ?_
  rintro e w1 ⟨rfl, hb1⟩
  have HS1 := Lib.hid (HS0.out.calm hb1)
  clear HA
  cases v with
  | false =>
    have HQ : Hid (BuildQ A rd held l (.returned (.tuple #[.int .u32 0, .int .i64 7])) A rd) := ⟨Int.le_refl _, by have := HBD.out; omega, .inl ⟨fun q => (by have := HV.out.2 q; cases this), rfl, rfl⟩⟩
    have HE := Lib.hid HS1.out.ends
    clear hb1 HS0 HS1
    go_wp2_with fail
    go_ret2
    obtain ⟨F', hal, hI⟩ := HE.out
    exact ⟨F', A, rd, hal, hI, HQ.out⟩
  | true =>
    have HUP : Hid (Up l) := HV.out.1 rfl
    clear hb1 HS0
    go_wp2_with fail
    refine HS1.out.free.mono ?_
    rintro e w2 ⟨rfl, hs2⟩
    have HS2 := Lib.hid hs2
    clear hs2 HS1
    by_cases hfr : A.σ.free.length < n
    · have d1 : decide ((A.σ.free.length : Int) < (n : Int)) = true := decide_eq_true (by omega)
      have d2 : A.σ.free.length < n := hfr
      have HQ : Hid (BuildQ A rd held l (.returned (.tuple #[.int .u32 0, .int .i64 2])) A rd) := ⟨Int.le_refl _, by have := HBD.out; omega, .inr (.inl ⟨HUP.out, by rw [HP.out.2.2.2.2.1]; exact hfr, rfl, rfl⟩)⟩
      have HE := Lib.hid HS2.out.ends
      clear HS2 hfr
      go_wp2_with fail
      go_ret2
      obtain ⟨F', hal, hI⟩ := HE.out
      exact ⟨F', A, rd, hal, hI, HQ.out⟩
    · have d1 : decide ((A.σ.free.length : Int) < (n : Int)) = false := decide_eq_false (by omega)
      have d2 : ¬ A.σ.free.length < n := hfr
      have HRM : Hid (n ≤ A.σ.free.length) := Nat.not_lt.1 hfr
      clear hfr
      go_wp2_with fail
      refine (HS2.out.mutO fun F1 hI1 hF1 => bld_all I 17 w2 ⟨hI1, HP.out.1, HP.out.2.1, fun j => by have := HP.out.2.2.1 j; omega, ?_, HP.out.2.2.2.2.1, by have := HP.out.2.2.2.2.2.1; omega, ?_, HP.out.2.2.2.2.2.2.2, HRM.out⟩).mono ?_
      · by_cases h0 : n = 0
        · have : l = [] := List.eq_nil_of_length_eq_zero (by have := HP.out.2.2.2.2.1; omega)
          rw [this]; exact EnsAt.nil _ _
        · obtain ⟨b, off, h1, h2, _⟩ := HP.out.2.2.2.1.cell 0 (l[0]'(by have := HP.out.2.2.2.2.1; omega)) (List.getElem?_eq_getElem _)
          subst h1
          exact HP.out.2.2.2.1.ins (HP.out.2.2.2.2.2.2.1 h0 b off rfl) h2 HS2.out
      · intro h0 b off q
        obtain ⟨b', off', h1, h2, _⟩ := HP.out.2.2.2.1.cell 0 (l[0]'(by have := HP.out.2.2.2.2.1; omega)) (List.getElem?_eq_getElem _)
        have hbb : b' = b := by rw [h1] at q; cases q; rfl
        subst hbb
        exact (hF1 _ (.inl ⟨h2, HP.out.2.2.2.2.2.2.1 h0 b' off' h1⟩)).2
      rintro e w3 ⟨B, rd3, ⟨rfl, j, t, rfl, hPl, hMd, hGn⟩, hs3⟩
      have HQ : Hid (BuildQ A rd3 held l (.returned (.tuple #[.int .u32 (j : Int), .int .i64 0])) B rd3) := ⟨Int.le_refl _, by have := HBD.out; omega, .inr (.inr ⟨HUP.out, by rw [HP.out.2.2.2.2.1]; exact HRM.out, j, t, rfl, ⟨hPl.kept, hGn, hPl.inv, hPl.agg, hPl.sub, hPl.ents, hPl.bal⟩, hMd, hPl.free⟩)⟩
      have HE := Lib.hid hs3.ends
      clear hs3 hPl hMd hGn HS2
      go_wp2_with fail
      go_ret2
      obtain ⟨F', hal, hI⟩ := HE.out
      exact ⟨F', B, rd3, hal, hI, HQ.out⟩
end Go.Proofs.Ytnimbgcploohiaa
set_option linter.unusedVariables false
set_option linter.unusedSimpArgs false
namespace Go.Proofs.Ytnimbgcploohiaa
theorem bkImpl (I : AImpl) : BkImpl I where
  build := fun w hI hv ha hm hE hn hn6 hF hc hcm h0 h1 => buildB_any I w hI hv ha hm hE hn hn6 hF hc hcm
  list := fun w hI hT hw h0 h1 => listB_any I w hI hT hw h0 h1
  range := fun {p A rd F i t l} lo hi lim w hI hT h0 h1 _ _ _ => (rangeB_any I lo hi lim w hI hT h0 (by omega)).mono fun e w' h => h.more (by unfold bulkBd; omega)
  slice := fun f g w hI hT hw h0 h1 hf hg => sliceB_any I f g w hI hT hw h0 h1 hf hg
end Go.Proofs.Ytnimbgcploohiaa
set_option linter.unusedVariables false
namespace Go.Proofs.Ytnimbgcploohiaa
open Go.RowKit
theorem ens_in {H : Type} {enc : TypeId × Value → H} {W : World} {a : Option Addr} {n cap fuel : Nat} {z : DataW H × List MemPlace}
    (h : DataW.trod enc Try.prog W 0 (fun _ => true) true fuel 22 (Value.slice a n cap).cells.toList = some z) : n ≤ cap ∧ cap ≤ maxLen ∧ ∃ raw : List En, raw.length = n ∧ EnsAt W a raw := by
  have hf := fields_in Try.underlying22 Try.underlying58 (by kernel_rfl) (by kernel_rfl) h
  have hx : ∀ r, r < n → ∃ e : En, (∃ b off, a = some ⟨b, off, none⟩ ∧ b < W.heap.size ∧ W.cell? ⟨b, off + r * 2, none⟩ = some (.int .i64 e.key) ∧ W.cell? ⟨b, off + r * 2 + 1, none⟩ = some (.int .i64 e.val)) ∧ i64R e.key ∧ i64R e.val := by
    intro r hr
    obtain ⟨b, off, v, y, m, rfl, hlt, h1, h2⟩ := hf.2.2 r hr 0 _ rfl
    obtain ⟨b', off', v', y', m', he, _, h1', h2'⟩ := hf.2.2 r hr 1 _ rfl
    simp only [Option.some.injEq, Addr.mk.injEq, and_true] at he
    obtain ⟨rfl, rfl⟩ := he
    obtain ⟨key, hv, _, hw⟩ := DataW.trod_int Try.underlying2 h2
    obtain ⟨val, hv', _, hw'⟩ := DataW.trod_int Try.underlying2 h2'
    simp only [List.cons.injEq, and_true] at hv hv'
    subst hv hv'
    exact ⟨⟨key, val⟩, ⟨b, off, rfl, hlt, h1, h1'⟩, bounds_i64 hw, bounds_i64 hw'⟩
  clear hf
  obtain ⟨f, hff⟩ : ∃ f : Nat → En, ∀ r, r < n → (∃ b off, a = some ⟨b, off, none⟩ ∧ b < W.heap.size ∧ W.cell? ⟨b, off + r * 2, none⟩ = some (.int .i64 (f r).key) ∧ W.cell? ⟨b, off + r * 2 + 1, none⟩ = some (.int .i64 (f r).val)) ∧ i64R (f r).key ∧ i64R (f r).val := by
    classical
    refine ⟨fun r => if h : r < n then (hx r h).choose else ⟨0, 0⟩, fun r hr => ?_⟩
    simp only [dif_pos hr]
    exact (hx r hr).choose_spec
  have hg : n ≤ cap ∧ cap ≤ maxLen := ⟨(fields_in Try.underlying22 Try.underlying58 (by kernel_rfl) (by kernel_rfl) h).1, (fields_in Try.underlying22 Try.underlying58 (by kernel_rfl) (by kernel_rfl) h).2.1⟩
  refine ⟨hg.1, hg.2, (List.range n).map f, by simp, ⟨fun j e he => ?_, fun e he => ?_⟩⟩
  · rw [List.getElem?_map] at he
    obtain ⟨x, hx1, hx2⟩ := Option.map_eq_some_iff.1 he
    have hj : j < n := by have := (List.getElem?_eq_some_iff.1 hx1).1; simpa using this
    have hxj : x = j := by rw [List.getElem?_range hj] at hx1; exact (Option.some.inj hx1).symm
    subst hxj
    rw [← hx2]
    exact (hff x hj).1
  · obtain ⟨x, hx1, hx2⟩ := List.mem_map.1 he
    rw [← hx2]
    exact (hff x (List.mem_range.1 hx1)).2
end Go.Proofs.Ytnimbgcploohiaa
set_option linter.unusedVariables false
set_option linter.unusedSimpArgs false
namespace Go.Proofs.Ytnimbgcploohiaa
open Go.RowKit
theorem bet_wf {l : List En} (hw : WfL l) (lo hi : Int) : WfL (betE l lo hi) := fun y hy => hw y ((List.mem_filter.1 hy).1)
end Go.Proofs.Ytnimbgcploohiaa
set_option linter.unusedVariables false
set_option linter.unusedSimpArgs false
namespace Go.Proofs.Ytnimbgcploohiaa
open Go.RowKit
/-- the root of a tree that is built -/
theorem mid_root {nd : Nat → Nd} {t : Tr} {l : List En} (hm : t.mid) (he : t.ents nd = l) (h0 : l ≠ []) : ∃ (i : Nat) (u v : Tr), t = .node i u v ∧ l[l.length / 2]? = some ⟨(nd i).key, (nd i).val⟩ := by
  cases t with
  | nil => exact absurd he.symm h0
  | node i u v =>
    refine ⟨i, u, v, rfl, ?_⟩
    have h1 := hm.1
    rw [Tr.ents_node] at he
    have hlen : l.length = u.size + v.size + 1 := by rw [← he, List.length_append, List.length_cons, Tr.ents_len, Tr.ents_len]; omega
    rw [hlen, ← h1, ← he, List.getElem?_append_right (by rw [Tr.ents_len]; exact Nat.le_refl _), Tr.ents_len, Nat.sub_self]
    rfl
def l1234 : List En := [⟨1, 0⟩, ⟨2, 0⟩, ⟨3, 0⟩, ⟨4, 0⟩]
theorem l1234_up : Up l1234 := by unfold Up l1234; simp
theorem l1234_wf : WfL l1234 := by
  intro y hy
  simp [l1234] at hy
  rcases hy with rfl | rfl | rfl | rfl <;> exact ⟨⟨by decide, by decide⟩, ⟨by decide, by decide⟩⟩
theorem l1234_at (w : World) (t : TypeId) : EnsAt (w.alloc (.cells #[.int .i64 1, .int .i64 0, .int .i64 2, .int .i64 0, .int .i64 3, .int .i64 0, .int .i64 4, .int .i64 0] t)) (some ⟨w.heap.size, 0, none⟩) l1234 := by
  have hr := heap_alloc_new w (.cells #[.int .i64 1, .int .i64 0, .int .i64 2, .int .i64 0, .int .i64 3, .int .i64 0, .int .i64 4, .int .i64 0] t)
  refine ⟨fun j e he => ⟨w.heap.size, 0, rfl, by simp, ?_⟩, l1234_wf⟩
  match j, he with
  | 0, he => cases he; constructor <;> (rw [cell_of_row _ _ _ _ _ _ hr]; rfl)
  | 1, he => cases he; constructor <;> (rw [cell_of_row _ _ _ _ _ _ hr]; rfl)
  | 2, he => cases he; constructor <;> (rw [cell_of_row _ _ _ _ _ _ hr]; rfl)
  | 3, he => cases he; constructor <;> (rw [cell_of_row _ _ _ _ _ _ hr]; rfl)
  | j + 4, he => simp [l1234] at he
theorem TreeAt.top {A : Ar} {i : Nat} {t : Tr} {l : List En} (h : TreeAt A i t l) (hl : l ≠ []) : i < 4294967296 ∧ A.σ.on i = true ∧ (A.nd i).size = (l.length : Int) := by
  refine ⟨h.idx, ?_⟩
  have hs := h.sub.size h.agg
  rw [h.size] at hs
  rcases h.sub.idx with h0 | h0
  · have hp := List.length_pos_iff.2 hl
    unfold Ar.sz at hs
    rw [if_pos h0] at hs
    omega
  · refine ⟨h0, ?_⟩
    obtain ⟨held, hv⟩ := h.inv
    have := (hv.ok.on i h0).1
    unfold Ar.sz at hs
    rw [if_neg (by omega)] at hs
    exact hs
/-- a call that alters the arena, told what is not the arena's -/
theorem Scn.mutF {I : AImpl} {B : Nat} {w0 w : World} {p : Value} {A : Ar} {rd : Int} {rs : List Row} {bs : List (Nat × Obj)} {f : FuncId} {args : Array Value} {Q : Ending → Ar → Int → Prop} (h : Scn I B w0 w p A rd rs bs) (hc : ∀ F, I.Is w p A rd F → (∀ k, F k → B ≤ k) → (∀ k, SG rs bs k → ¬ F k) → Calls Try.prog f args w (Mut I p F Q w)) :
    Calls Try.prog f args w fun e w' => ∃ A' rd', Q e A' rd' ∧ Scn I B w0 w' p A' rd' rs bs := by
  obtain ⟨F, f1, f2, f3⟩ := h.mr.has
  refine (hc F f1 f2 fun k hk => (f3 k hk).2).mono ?_
  rintro e w1 ⟨F', A', rd', hal, hI, hq⟩
  have hst := h.mr.stepA f2 f3 hal hI
  exact ⟨A', rd', hq, h.stepA hst.1 hst.2⟩
end Go.Proofs.Ytnimbgcploohiaa
set_option linter.unusedVariables false
set_option linter.unusedSimpArgs false
namespace Go.Proofs.Ytnimbgcploohiaa
open Go.RowKit
set_option maxHeartbeats 4000000 in
set_option maxRecDepth 100000 in
theorem awake15_any (I : AImpl) (K : BkImpl I) (w : World) : Calls Try.prog 6 #[] w (Calm w (.bool true)) := by
  have HK := Lib.hid K
  clear K
  go_enter Try.func6, Try.ntmps6
  go_wp2_with fail
  refine (I.new_ok 8 w (by decide) (by decide)).mono ?_
  rintro e w1 ⟨p, F, rfl, hI, hF, hb1⟩
  obtain ⟨pa, rfl⟩ := I.ptr hI
  have HS1 : Hid (Scn I w.heap.size w w1 (.pointer (some pa)) (Ar.init 8) 0 [] []) := Scn.start ⟨⟨F, hI, hF, fun k hk => hk.elim⟩, hb1, hb1.size⟩
  have HAT := Lib.hid (l1234_at w1 58)
  have HS2 := Lib.hid (HS1.out.box #[.int .i64 1, .int .i64 0, .int .i64 2, .int .i64 0, .int .i64 3, .int .i64 0, .int .i64 4, .int .i64 0] 58)
  have HUP : Hid (Up l1234 ∧ l1234.length = 4 ∧ (Ar.init 8).σ.free.length = 8) := ⟨l1234_up, rfl, by show (List.range' 1 8).length = _; simp⟩
  clear hI hF hb1 HS1
  go_wp2_with fail
  generalize w1.alloc (.cells #[.int .i64 1, .int .i64 0, .int .i64 2, .int .i64 0, .int .i64 3, .int .i64 0, .int .i64 4, .int .i64 0] 58) = w2 at HAT HS2 ⊢
  generalize w1.heap.size = g at HAT HS2 ⊢
  refine (HS2.out.mutF fun F hI hF hG => HK.out.build w2 hI (Ar.init_inv (by decide) (by decide)) (Ar.init_agg _) (fun j => by show (0 : Nat) ≤ _; omega) HAT.out HUP.out.2.1 (by decide) (fun _ b off h => by simp at h; rw [← h.1]; exact hG _ (.inr ⟨_, List.mem_cons_self, rfl⟩)) (by decide) (by unfold maxLen; decide) (by decide) (by decide)).mono ?_
  rintro e w3 ⟨B, rd3, ⟨h30, h31, hq⟩, hs3⟩
  rcases hq with ⟨q1, -⟩ | ⟨-, q2, -⟩ | ⟨-, -, j, t, rfl, hg, hm, -⟩
  · exact absurd HUP.out.1 q1
  · exact absurd q2 (by have := HUP.out; omega)
  have hT := hg.tree HUP.out.1
  obtain ⟨j2, u, v, ht, hat⟩ := mid_root hm hg.ents (by simp [l1234])
  have hj : j2 = j := by have := hg.sub; rw [ht] at this; cases this; rfl
  subst hj
  have htop := hT.top (by simp [l1234])
  have HS3 := Lib.hid hs3
  have HT := Lib.hid hT
  have HJ : Hid (j2 < 4294967296 ∧ B.σ.on j2 = true ∧ (B.nd j2).size = 4 ∧ (B.nd j2).key = 3) := ⟨htop.1, htop.2.1, by rw [htop.2.2]; rfl, by
    have h3 : l1234[l1234.length / 2]? = some ⟨3, 0⟩ := rfl
    rw [h3] at hat
    have := Option.some.inj hat
    exact (congrArg En.key this).symm⟩
  have HRD3 : Hid (0 ≤ rd3 ∧ rd3 ≤ 10000) := ⟨h30, by have := HUP.out.2.1; omega⟩
  clear hs3 hg hm hT ht hat htop h30 h31 HS2 HAT
  go_wp2_with fail
  refine (HS3.out.node HRD3.out.1 (by have := HRD3.out; omega) HJ.out.1 HJ.out.2.1).mono ?_
  rintro e w4 ⟨rfl, hs4⟩
  have hs5 := hs4.box (ndRow (B.nd j2)) 66
  unfold ndRow
  go_upto_region 6 with fail
  rw [show #[Value.int .i64 (B.nd j2).key, .int .i64 (B.nd j2).val, .int .u32 ((B.nd j2).left : Int), .int .u32 ((B.nd j2).right : Int), .int .i64 (B.nd j2).size, .int .i64 (B.nd j2).sum, .int .i64 (B.nd j2).mn, .int .i64 (B.nd j2).mx] = ndRow (B.nd j2) from rfl]
  generalize w4.alloc (Obj.cells (ndRow (B.nd j2)) 66) = w5 at hs5 ⊢
  generalize w4.heap.size = q at hs5 ⊢
  have hbx := (hs5.boxes (q, .cells (ndRow (B.nd j2)) 66 (0, 0)) (by simp)).2
  have x0 : w5.cell? ⟨q, 0, none⟩ = some (.int .i64 3) := by rw [cell_of_row _ _ _ _ _ _ hbx, ← HJ.out.2.2.2]; rfl
  have x4 : w5.cell? ⟨q, 4, none⟩ = some (.int .i64 4) := by rw [cell_of_row _ _ _ _ _ _ hbx, ← HJ.out.2.2.1]; rfl
  have HS5 := Lib.hid hs5
  clear hs4 hs5 hbx HS3
  go_wp2_with fail
  refine (HS5.out.ens (fun F hI => HK.out.list w5 hI HT.out (by intro y hy; simp [l1234] at hy; unfold i64R; rcases hy with rfl | rfl | rfl | rfl <;> simp) (by have := HRD3.out; omega) (by have := HRD3.out; omega)) HUP.out.2.1).mono ?_
  rintro e w6 ⟨a6, c6, rd6, rfl, hs6, -, -⟩
  have HB6 := Lib.hid hs6.below
  clear hs6 HS5 x0 x4
  go_wp2_with fail
  go_ret
  exact ⟨rfl, HB6.out⟩
end Go.Proofs.Ytnimbgcploohiaa
set_option linter.unusedVariables false
set_option linter.unusedSimpArgs false
namespace Go.Proofs.Ytnimbgcploohiaa
open Go.RowKit
set_option maxHeartbeats 2000000 in
set_option maxRecDepth 100000 in
theorem same_ens {w : World} {a b : Option Addr} {n c d : Nat} {l : List En} (h : EnsAt w a l) (h' : EnsAt w b l) (hn : l.length = n) (hl : n ≤ 1000000) :
    Calls Try.prog 21 #[.slice a n c, .slice b n d] w (Calm w (.bool true)) := by
  have hni : (n : Int) ≤ 1000000 := by omega
  have HH := Lib.hid h
  have HH' := Lib.hid h'
  have HN := Lib.hid hn
  clear h h' hn
  go_enter Try.func21, Try.ntmps21
  go_wp2_with fail
  go_loopw [5] (fun i wr => ∃ k : Nat, k ≤ n ∧ i = .int .i64 (k : Int) ∧ ∃ q, wr = w.drewN q) (fun i _ => n - (intOf i).toNat)
  case atStart => exact ⟨0, Nat.zero_le _, rfl, 0, rfl⟩
  case round =>
    obtain ⟨k, hk, rfl, q, rfl⟩ := hrel
    by_cases hlt : k < n
    · have hki : (k : Int) < (n : Int) := by omega
      have hk0 : (0 : Int) ≤ (k : Int) := by omega
      obtain ⟨e, he⟩ : ∃ e, l[k]? = some e := ⟨_, List.getElem?_eq_getElem (by have := HN.out; omega)⟩
      obtain ⟨g, off, rfl, hb, c0, c1⟩ := HH.out.at he
      obtain ⟨g', off', rfl, hb', d0, d1⟩ := HH'.out.at he
      generalize e.key = x0 at c0 d0
      generalize e.val = x1 at c1 d1
      have HLT := Lib.hid hlt
      clear he hb hb' hk hlt
      go_wp2_with fail
      go_quiet (fail)
      go_wp2_with fail
      exact ⟨⟨k + 1, by have := HLT.out; omega, by go_num, _, rfl⟩, by have := HLT.out; simp [intOf]; omega⟩
    · have hki : ¬ (k : Int) < (n : Int) := by omega
      clear hlt hk
      go_wp2_with fail
      go_ret
      exact ⟨rfl, below_drewN (Below.refl _ _) q⟩
end Go.Proofs.Ytnimbgcploohiaa
