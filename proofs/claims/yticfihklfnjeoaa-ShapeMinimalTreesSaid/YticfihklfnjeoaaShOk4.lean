/- The program's Measure and Check keep their contracts. -/
import Derived.Test.YticfihklfnjeoaaShOk3
set_option linter.unusedVariables false
set_option linter.unusedSimpArgs false
namespace Go.Proofs.Yticfihklfnjeoaa
open Go.RowKit
set_option maxHeartbeats 4000000 in
set_option maxRecDepth 100000 in
theorem vis_nil {I : AImpl} {B : Nat} {w0 : World} {pa : Addr} {A : Ar} {q : Nat} : VisSpec I B w0 (.pointer (some pa)) A q 0 .nil := by
  intro u s b top X w hw ht0 ht1 hu
  have HU : Hid _ := Lib.hid Try.underlying42
  have hin : (Try.prog.info? 42).map (·.size) = some 2 := by kernel_rfl
  have HIN := Lib.hid hin
  have HB : Hid (B ≤ w.heap.size) := hw.ms.hB
  have HG : Hid (¬ X w.heap.size) := fun hx => Nat.lt_irrefl _ (hw.lt hx)
  have hw1 := hw.alloc (Obj.cells #[Value.int .i64 0, .int .i64 0] 42)
  have hr1 := heap_alloc_new w (Obj.cells #[Value.int .i64 0, .int .i64 0] 42)
  have hk1 : Keeps X w (w.alloc (Obj.cells #[Value.int .i64 0, .int .i64 0] 42)) := hw.keeps (below_new7 w _)
  clear hw ht0 ht1 hin hu
  go_enter Try.func43, Try.ntmps43
  go_upto_region 1 with fail
  generalize w.alloc (Obj.cells #[Value.int .i64 0, .int .i64 0] 42) = w1 at hw1 hr1 hk1 ⊢
  generalize w.heap.size = g at hw1 hr1 HB HG ⊢
  obtain ⟨r0, r1⟩ := two_of hr1
  have f0 := frozen_of_row _ _ 0 _ _ hr1
  have f1 := frozen_of_row _ _ 1 _ _ hr1
  have HW1 := Lib.hid hw1
  have HR1 := Lib.hid hr1
  have HK1 := Lib.hid hk1
  clear hw1 hr1 hk1
  go_wp2_with fail
  refine bodyPost_ret (results_row_tmp rfl _ _ g 42 #[.int .i64 0, .int .i64 0] (0, 0) _ rfl (row_set2 HR1.out) HU.out rfl HIN.out) rfl ?_
  refine ⟨fun k hk => (keeps_set2 HG.out _ _ k hk).trans (HK1.out k hk), .inl ⟨s, rfl, rfl, Nat.zero_le _, ?_⟩⟩
  have h6 := (((HW1.out.cell (.inr rfl) HB.out 0 (.int .i64 0)).cell (.inr rfl) HB.out 1 (.int .i64 0)).less (Y := X) fun k hk => .inl hk).le (top' := top + ((Tr.nil.size : Nat) : Int)) (by simp [Tr.size])
  rw [show (b || !balT A .nil) = b by show (b || !true) = b; cases b <;> rfl]
  exact h6
theorem vis_any {I : AImpl} {B : Nat} {w0 : World} {pa : Addr} {A : Ar} {q : Nat} (hok : A.σ.Ok) (ha : A.Agg) {i : Nat} {t : Tr} (h : Sub A i t) : VisSpec I B w0 (.pointer (some pa)) A q i t := by
  induction h with
  | nil => exact vis_nil
  | node i l r h0 h1 hl hr ihl ihr => exact vis_node hok ha h0 h1 hl hr ihl ihr
set_option maxHeartbeats 4000000 in
set_option maxRecDepth 100000 in
theorem vis_off {I : AImpl} {B : Nat} {w0 w : World} {pa : Addr} {A : Ar} {q u i : Nat} {s : Option Int} {b : Bool} {top : Int} {X : Nat → Prop} (hw : TW I B w0 w (.pointer (some pa)) A top q u s b X) (ht : top ≤ 4398046511104) (hi : i < 4294967296) (h0 : i ≠ 0) (hon : A.σ.on i = false) :
    Calls Try.prog 43 #[.pointer (some ⟨q, 0, none⟩), .int .u32 (i : Int)] w fun e w' => e = .returned (.tuple #[.agg #[.int .i64 0, .int .i64 0], .int .i64 1]) ∧ TW I B w0 w' (.pointer (some pa)) A top q u s b X ∧ Keeps X w w' := by
  have HU : Hid _ := Lib.hid Try.underlying42
  have hin : (Try.prog.info? 42).map (·.size) = some 2 := by kernel_rfl
  have HIN := Lib.hid hin
  have HT := Lib.hid ht
  have HI := Lib.hid hi
  have HON := Lib.hid hon
  have hne0 : ((i : Int) == 0) = false := by simp; exact h0
  have HB : Hid (B ≤ w.heap.size) := hw.ms.hB
  have HG : Hid (¬ X w.heap.size) := fun hx => Nat.lt_irrefl _ (hw.lt hx)
  have hw1 := hw.alloc (Obj.cells #[Value.int .i64 0, .int .i64 0] 42)
  have hr1 := heap_alloc_new w (Obj.cells #[Value.int .i64 0, .int .i64 0] 42)
  have hk1 : Keeps X w (w.alloc (Obj.cells #[Value.int .i64 0, .int .i64 0] 42)) := hw.keeps (below_new7 w _)
  clear hw ht hi hin h0 hon
  go_enter Try.func43, Try.ntmps43
  go_upto_region 1 with fail
  generalize w.alloc (Obj.cells #[Value.int .i64 0, .int .i64 0] 42) = w1 at hw1 hr1 hk1 ⊢
  generalize w.heap.size = g at hw1 hr1 HB HG ⊢
  have HW1 := Lib.hid hw1
  have HR1 := Lib.hid hr1
  have HK1 := Lib.hid hk1
  clear hw1 hr1 hk1
  go_wp2_with fail
  refine (read_off HW1.out HT.out HI.out HON.out).mono ?_
  rintro e w2 ⟨rfl, hw2, hk2⟩
  have hr2 := (hk2 g (.inr rfl)).trans HR1.out
  have hkk2 : Keeps X w w2 := fun k hk => (hk2 k (.inl hk)).trans (HK1.out k hk)
  unfold ndRow
  go_upto_region 4 with fail
  rw [show #[Value.int .i64 Nd.zero.key, .int .i64 Nd.zero.val, .int .u32 (Nd.zero.left : Int), .int .u32 (Nd.zero.right : Int), .int .i64 Nd.zero.size, .int .i64 Nd.zero.sum, .int .i64 Nd.zero.mn, .int .i64 Nd.zero.mx] = ndRow Nd.zero from rfl]
  have hb8 := below_new7 w2 (Obj.cells (ndRow Nd.zero) 47)
  have hw8 := hw2.calm hb8
  have hr8 := (hw2.keeps hb8 g (.inr rfl)).trans hr2
  have hk8 : Keeps X w (w2.alloc (Obj.cells (ndRow Nd.zero) 47)) := fun k hk => (hw2.keeps hb8 k (.inl hk)).trans (hkk2 k hk)
  generalize w2.alloc (Obj.cells (ndRow Nd.zero) 47) = w8 at hw8 hr8 hk8 ⊢
  obtain ⟨r0, r1⟩ := two_of hr8
  have f0 := frozen_of_row _ _ 0 _ _ hr8
  have f1 := frozen_of_row _ _ 1 _ _ hr8
  have HW8 := Lib.hid hw8
  have HR8 := Lib.hid hr8
  have HK8 := Lib.hid hk8
  clear hb8 hw8 hr8 hk8 hw2 hk2 hr2 hkk2 HW1 HR1 HK1
  go_wp2_with fail
  refine bodyPost_ret (results_row_tmp rfl _ _ g 42 #[.int .i64 0, .int .i64 0] (0, 0) _ rfl (row_set2 HR8.out) HU.out rfl HIN.out) rfl ?_
  exact ⟨rfl, ((HW8.out.cell (.inr rfl) HB.out 0 (.int .i64 0)).cell (.inr rfl) HB.out 1 (.int .i64 0)).less (Y := X) fun k hk => .inl hk, fun k hk => (keeps_set2 HG.out _ _ k hk).trans (HK8.out k hk)⟩
section
variable {I : AImpl} {w w' w0 : World} {p : Value} {A : Ar} {top : Int} {F G : Nat → Prop} {B : Nat}
/-- what lay there and is none of the arena's -/
def Old (w : World) (F : Nat → Prop) (k : Nat) : Prop := k < w.heap.size ∧ ¬ F k
theorem old_start {rd : Int} (h : I.Is w p A rd F) (h0 : 0 ≤ rd) : MS I 0 w w p A rd (Old w F) := ⟨⟨rd, F, h, h0, Int.le_refl _, fun _ _ => Nat.zero_le _, fun k hk => hk⟩, Below.refl _ _, Nat.zero_le _⟩
theorem old_end (h : MS I 0 w w' p A top (Old w F)) (hk : Keeps (Old w F) w w') : ∃ F' rd', Alters F F' w w' ∧ I.Is w' p A rd' F' ∧ 0 ≤ rd' ∧ rd' ≤ top := by
  obtain ⟨rd, F', h1, h2, h3, h4, h5⟩ := h.has
  refine ⟨F', rd, ⟨h.below.os, h.below.tape, h.below.output, h.below.size, fun k hlt hF => hk k ⟨hlt, hF⟩, fun k hF' => ?_⟩, h1, h2, h3⟩
  by_cases hlt : k < w.heap.size
  · by_cases hF : F k
    · exact .inl hF
    · exact absurd hF' (h5 k ⟨hlt, hF⟩).2
  · exact .inr (by omega)
end
def AnsQ (A : Ar) (i : Nat) (x y er : Int) : Prop := (¬ A.Idx i → x = 0 ∧ y = 0 ∧ er = 1) ∧ ∀ t, Sub A i t → x = shK A t ∧ y = shH A t ∧ er = errT A t
theorem ansQ_of {A : Ar} {i : Nat} {t : Tr} (h : Sub A i t) {x y er : Int} (he : errT A t = er) (hx : x = if er = 0 then (t.size : Int) else 0) (hy : y = if er = 0 then (t.ht : Int) else 0) : AnsQ A i x y er := by
  refine ⟨fun hn => absurd h.idx hn, fun t' ht' => ?_⟩
  obtain rfl := h.unique ht'
  unfold shK shH
  rw [he]
  exact ⟨hx, hy, rfl⟩
def MeasPost (I : AImpl) (p : Value) (A : Ar) (rd : Int) (F : Nat → Prop) (i : Nat) (w : World) (e : Ending) (w' : World) : Prop :=
  ∃ F' rd', Alters F F' w w' ∧ I.Is w' p A rd' F' ∧ 0 ≤ rd' ∧ rd' ≤ rd + 16777216 ∧
      (¬ A.Idx i → e = .returned (.tuple #[.agg #[.int .i64 0, .int .i64 0], .int .i64 1])) ∧
      (∀ t, Sub A i t → e = .returned (.tuple #[.agg #[.int .i64 (shK A t), .int .i64 (shH A t)], .int .i64 (errT A t)]))
/-- the traversal's answer at the root -/
theorem vis_root {A : Ar} {t : Tr} {i u : Nat} (hok : A.σ.Ok) (hs : Sub A i t) (hu : A.above none ≤ u) (h : ordT A.nd t none = none ∨ u < t.size) : errT A t = 7 := by
  cases ho : ordT A.nd t none with
  | none => unfold errT; rw [ho]
  | some s' =>
    have h1 := ord_above hok hs ho
    rcases h with h | h
    · rw [ho] at h; cases h
    · omega
set_option maxHeartbeats 4000000 in
set_option maxRecDepth 100000 in
theorem measure_any (I : AImpl) (p : Value) (A : Ar) (rd : Int) (F : Nat → Prop) (i : Nat) (held : Nat → Nat) (w : World) (hI : I.Is w p A rd F) (hv : A.Inv [] held) (ha : A.Agg) (h0 : 0 ≤ rd) (h1 : rd ≤ 1099511627776) (hi : i < 4294967296) :
    Calls Try.prog 21 #[p, .int .u32 (i : Int)] w (MeasPost I p A rd F i w) := by
  obtain ⟨pa, rfl⟩ := I.ptr hI
  have hin : (Try.prog.info? 42).map (·.size) = some 2 := by kernel_rfl
  have HIN := Lib.hid hin
  have HU : Hid _ := Lib.hid Try.underlying42
  have hm0 := old_start hI h0
  have hm1 := hm0.alloc (Obj.cells #[Value.int .i64 0, .int .i64 0] 42)
  have hr1 := heap_alloc_new w (Obj.cells #[Value.int .i64 0, .int .i64 0] 42)
  have hk1 : Keeps (Old w F) w (w.alloc (Obj.cells #[Value.int .i64 0, .int .i64 0] 42)) := hm0.keeps (below_new7 w _)
  have HNR : Hid (¬ Old w F w.heap.size) := fun h => Nat.lt_irrefl _ h.1
  have HRD : Hid (0 ≤ rd ∧ rd ≤ 1099511627776) := ⟨h0, h1⟩
  have HV := Lib.hid hv
  have HA := Lib.hid ha
  have HI4 := Lib.hid hi
  have hcap := hv.ok.cap2
  have hlen := hv.ok.len
  obtain ⟨U, hU⟩ : ∃ U, A.σ.cap - A.σ.free.length = U := ⟨_, rfl⟩
  have HUA : Hid (A.above none ≤ U ∧ U ≤ 65536) := ⟨by have := above_free hv.ok; omega, by omega⟩
  have hw64 : IntKind.i64.wrap ((A.σ.cap : Int) - (A.σ.free.length : Int)) = (U : Int) := by rw [IntKind.wrap_i64]; omega
  clear hI hv ha h0 h1 hi hin hm0 hcap hlen hU
  -- how it ends
  have HFIN : Hid (∀ (wx : World) (top : Int) (x y : Int) (er : Int) (x0 y0 : Value), MS I 0 w wx (.pointer (some pa)) A top (fun k => Old w F k ∨ k = w.heap.size) → Keeps (Old w F) w wx → top ≤ rd + 16777216 →
      wx.heap[w.heap.size]? = some (.cells #[x0, y0] 42 (0, 0)) → AnsQ A i x y er →
      MeasPost I (.pointer (some pa)) A rd F i w (.returned (.tuple #[.agg #[.int .i64 x, .int .i64 y], .int .i64 er])) ((wx.setCell ⟨w.heap.size, 0, none⟩ (.int .i64 x)).setCell ⟨w.heap.size, 1, none⟩ (.int .i64 y))) := by
    intro wx top x y er x0 y0 hms hk ht hb hans
    have hm2 := ((hms.cell (g := w.heap.size) (.inr rfl) (Nat.zero_le _) 0 (.int .i64 x)).cell (g := w.heap.size) (.inr rfl) (Nat.zero_le _) 1 (.int .i64 y)).less (G' := Old w F) (fun k hk => .inl hk)
    have hk2 : Keeps (Old w F) w ((wx.setCell ⟨w.heap.size, 0, none⟩ (.int .i64 x)).setCell ⟨w.heap.size, 1, none⟩ (.int .i64 y)) := fun k hk' => (keeps_set2 HNR.out _ _ k hk').trans (hk k hk')
    obtain ⟨F', rd', h1, h2, h3, h4⟩ := old_end hm2 hk2
    refine ⟨F', rd', h1, h2, h3, by omega, fun hn => ?_, fun t hs => ?_⟩
    · obtain ⟨rfl, rfl, rfl⟩ := hans.1 hn; rfl
    · obtain ⟨rfl, rfl, rfl⟩ := hans.2 t hs; rfl
  have HM1 := Lib.hid hm1
  have HR1 := Lib.hid hr1
  have HK1 := Lib.hid hk1
  clear hm1 hr1 hk1
  go_enter Try.func21, Try.ntmps21
  go_upto_region 1 with fail
  generalize w.alloc (Obj.cells #[Value.int .i64 0, .int .i64 0] 42) = w1 at HM1 HR1 HK1 ⊢
  have HCP : Hid (∀ w', Below w1.heap.size w1 w' → Calls Try.prog 41 #[.pointer (some pa)] w' (Quiet w' (.int .i64 (A.σ.cap : Int)))) := fun w' hb => by
    obtain ⟨rd1, F1, f1, f2⟩ := HM1.out.has
    exact I.capacity _ _ _ _ _ (I.below f1 hb)
  have HFR : Hid (∀ w', Below w1.heap.size w1 w' → Calls Try.prog 42 #[.pointer (some pa)] w' (Quiet w' (.int .i64 (A.σ.free.length : Int)))) := fun w' hb => by
    obtain ⟨rd1, F1, f1, f2⟩ := HM1.out.has
    exact I.freeN _ _ _ _ _ (I.below f1 hb)
  go_wp2_with fail
  refine (HCP.out w1 (Below.refl _ _)).mono ?_
  rintro e w2 ⟨rfl, n2, hn2⟩
  have hb2 : Below w1.heap.size w1 w2 := by rw [hn2]; exact below_drewN (Below.refl _ _) n2
  clear hn2
  go_wp2_with fail
  refine (HFR.out w2 hb2).mono ?_
  rintro e w3 ⟨rfl, n3, hn3⟩
  have hb3 : Below w1.heap.size w1 w3 := calm_trans hb2 (by rw [hn3]; exact below_drewN (Below.refl _ _) n3)
  have hm3 := HM1.out.calm hb3
  have hr3 := (HM1.out.keeps hb3 w.heap.size (.inr rfl)).trans HR1.out
  have hk3 : Keeps (Old w F) w w3 := fun k hk => (HM1.out.keeps hb3 k (.inl hk)).trans (HK1.out k hk)
  have hw4 : TW I 0 w (w3.alloc (Obj.cells #[.pointer (some pa), .int .i64 (U : Int), .bool false, .int .i64 0, .bool false] 88)) (.pointer (some pa)) A rd w3.heap.size U none false (fun k => Old w F k ∨ k = w.heap.size) :=
    ⟨(hm3.alloc _).less fun k hk => by (rcases hk with hk | hk; exact .inr hk; exact .inl hk), heap_alloc_new w3 _, fun h => Nat.lt_irrefl _ (hm3.lt h), Nat.zero_le _⟩
  have hb4 := below_new7 w3 (Obj.cells #[.pointer (some pa), .int .i64 (U : Int), .bool false, .int .i64 0, .bool false] 88)
  have hr4 := (hm3.keeps hb4 w.heap.size (.inr rfl)).trans hr3
  have hk4 : Keeps (Old w F) w (w3.alloc (Obj.cells #[.pointer (some pa), .int .i64 (U : Int), .bool false, .int .i64 0, .bool false] 88)) := fun k hk => (hm3.keeps hb4 k (.inl hk)).trans (hk3 k hk)
  clear hn3 hb2 hb3 hm3 hr3 hk3 HCP HFR HM1 HR1 HK1 hb4
  go_upto_region 2 with fail
  generalize w3.alloc (Obj.cells #[.pointer (some pa), .int .i64 (U : Int), .bool false, .int .i64 0, .bool false] 88) = w4 at hw4 hr4 hk4 ⊢
  generalize w3.heap.size = q at hw4 ⊢
  have HW4 := Lib.hid hw4
  have HR4 := Lib.hid hr4
  have HK4 := Lib.hid hk4
  clear hw4 hr4 hk4
  go_wp2_with fail
  -- the error's end, whatever the error
  by_cases hx : A.Idx i
  · obtain ⟨t, hst⟩ := Sub.get HV.out HA.out hx
    have HST := Lib.hid hst
    clear hst hx
    refine (vis_any HV.out.ok HA.out HST.out U none false rd (fun k => Old w F k ∨ k = w.heap.size) w4 HW4.out HRD.out.1 (by have := HRD.out; have := HUA.out; omega) HUA.out.2).mono ?_
    rintro e w5 ⟨hk5, hres⟩
    have hr5 := (hk5 w.heap.size (.inr rfl)).trans HR4.out
    have hkk5 : Keeps (Old w F) w w5 := fun k hk => (hk5 k (.inl hk)).trans (HK4.out k hk)
    clear hk5 HW4 HR4 HK4
    rcases hres with ⟨s5, rfl, ho5, hz5, hw5⟩ | ⟨u', s', b', rfl, ho5, hw5⟩
    · have HERR : Hid (errT A t = if balT A t = true then 0 else 8) := by
        show errT A t = _
        unfold errT
        rw [ho5]
      have HZ := Lib.hid hz5
      have hb6 := below_new7 w5 (Obj.cells #[Value.int .i64 (t.size : Int), .int .i64 (t.ht : Int)] 42)
      have hw6 := hw5.calm hb6
      have hx6 := heap_alloc_new w5 (Obj.cells #[Value.int .i64 (t.size : Int), .int .i64 (t.ht : Int)] 42)
      have hr6 := (hw5.keeps hb6 w.heap.size (.inr rfl)).trans hr5
      have hk6 : Keeps (Old w F) w (w5.alloc (Obj.cells #[Value.int .i64 (t.size : Int), .int .i64 (t.ht : Int)] 42)) := fun k hk => (hw5.keeps hb6 k (.inl hk)).trans (hkk5 k hk)
      clear ho5 hz5 hw5 hr5 hkk5 hb6
      go_upto_region 3 with fail
      generalize w5.alloc (Obj.cells #[Value.int .i64 (t.size : Int), .int .i64 (t.ht : Int)] 42) = w6 at hw6 hx6 hr6 hk6 ⊢
      generalize w5.heap.size = gs at hx6 ⊢
      have HW6 := Lib.hid hw6
      have HX6 := Lib.hid hx6
      have HR6 := Lib.hid hr6
      have HK6 := Lib.hid hk6
      obtain ⟨-, -, -, -, c4⟩ := hw6.cells
      obtain ⟨r0, r1⟩ := two_of hr6
      obtain ⟨y0, y1⟩ := two_of hx6
      have f0 := frozen_of_row _ _ 0 _ _ hr6
      have f1 := frozen_of_row _ _ 1 _ _ hr6
      clear hw6 hx6 hr6 hk6
      cases hbt : balT A t with
      | true =>
        have HANS : Hid (AnsQ A i (t.size : Int) (t.ht : Int) 0) := ansQ_of HST.out (by rw [HERR.out, hbt]; rfl) (by rw [if_pos rfl]) (by rw [if_pos rfl])
        have c4' : w6.cell? ⟨q, 4, none⟩ = some (.bool false) := by rw [c4, hbt]; rfl
        clear hbt HERR c4
        go_wp2_with fail
        refine bodyPost_ret (results_row_tmp rfl _ _ w.heap.size 42 #[.int .i64 (t.size : Int), .int .i64 (t.ht : Int)] (0, 0) _ rfl (row_set2 HR6.out) HU.out rfl HIN.out) rfl ?_
        exact HFIN.out w6 _ _ _ 0 _ _ (HW6.out.ms.less fun k hk => .inr hk) HK6.out (by have := HZ.out; have := HUA.out; omega) HR6.out HANS.out
      | false =>
        have HANS : Hid (AnsQ A i 0 0 8) := ansQ_of HST.out (by rw [HERR.out, hbt]; rfl) rfl rfl
        have c4' : w6.cell? ⟨q, 4, none⟩ = some (.bool true) := by rw [c4, hbt]; rfl
        clear hbt HERR c4
        go_wp2_with fail
        refine bodyPost_ret (results_row_tmp rfl _ _ w.heap.size 42 #[.int .i64 0, .int .i64 0] (0, 0) _ rfl (row_set2 HR6.out) HU.out rfl HIN.out) rfl ?_
        exact HFIN.out w6 _ 0 0 8 _ _ (HW6.out.ms.less fun k hk => .inr hk) HK6.out (by have := HZ.out; have := HUA.out; omega) HR6.out HANS.out
    · have HANS : Hid (AnsQ A i 0 0 7) := ansQ_of HST.out (vis_root HV.out.ok HST.out HUA.out.1 ho5) rfl rfl
      have hb6 := below_new7 w5 (Obj.cells #[Value.int .i64 0, .int .i64 0] 42)
      have hw6 := hw5.calm hb6
      have hr6 := (hw5.keeps hb6 w.heap.size (.inr rfl)).trans hr5
      have hk6 : Keeps (Old w F) w (w5.alloc (Obj.cells #[Value.int .i64 0, .int .i64 0] 42)) := fun k hk => (hw5.keeps hb6 k (.inl hk)).trans (hkk5 k hk)
      clear ho5 hw5 hr5 hkk5 hb6
      go_upto_region 3 with fail
      generalize w5.alloc (Obj.cells #[Value.int .i64 0, .int .i64 0] 42) = w6 at hw6 hr6 hk6 ⊢
      have HW6 := Lib.hid hw6
      have HR6 := Lib.hid hr6
      have HK6 := Lib.hid hk6
      obtain ⟨r0, r1⟩ := two_of hr6
      have f0 := frozen_of_row _ _ 0 _ _ hr6
      have f1 := frozen_of_row _ _ 1 _ _ hr6
      clear hw6 hr6 hk6
      go_wp2_with fail
      refine bodyPost_ret (results_row_tmp rfl _ _ w.heap.size 42 #[.int .i64 0, .int .i64 0] (0, 0) _ rfl (row_set2 HR6.out) HU.out rfl HIN.out) rfl ?_
      exact HFIN.out w6 _ 0 0 7 _ _ (HW6.out.ms.less fun k hk => .inr hk) HK6.out (by have := HUA.out; omega) HR6.out HANS.out
  · have HANS : Hid (AnsQ A i 0 0 1) := ⟨fun _ => ⟨rfl, rfl, rfl⟩, fun t hs => absurd hs.idx hx⟩
    have HX : Hid (i ≠ 0 ∧ A.σ.on i = false) := ⟨fun h => hx (.inl h), by cases ho : A.σ.on i with
      | false => rfl
      | true => exact absurd (.inr ho) hx⟩
    clear hx
    refine (vis_off HW4.out (by have := HRD.out; omega) HI4.out HX.out.1 HX.out.2).mono ?_
    rintro e w5 ⟨rfl, hw5, hk5⟩
    have hr5 := (hk5 w.heap.size (.inr rfl)).trans HR4.out
    have hkk5 : Keeps (Old w F) w w5 := fun k hk => (hk5 k (.inl hk)).trans (HK4.out k hk)
    have hb6 := below_new7 w5 (Obj.cells #[Value.int .i64 0, .int .i64 0] 42)
    have hw6 := hw5.calm hb6
    have hr6 := (hw5.keeps hb6 w.heap.size (.inr rfl)).trans hr5
    have hk6 : Keeps (Old w F) w (w5.alloc (Obj.cells #[Value.int .i64 0, .int .i64 0] 42)) := fun k hk => (hw5.keeps hb6 k (.inl hk)).trans (hkk5 k hk)
    clear hw5 hk5 hr5 hkk5 hb6 HW4 HR4 HK4
    go_upto_region 3 with fail
    generalize w5.alloc (Obj.cells #[Value.int .i64 0, .int .i64 0] 42) = w6 at hw6 hr6 hk6 ⊢
    have HW6 := Lib.hid hw6
    have HR6 := Lib.hid hr6
    have HK6 := Lib.hid hk6
    obtain ⟨r0, r1⟩ := two_of hr6
    have f0 := frozen_of_row _ _ 0 _ _ hr6
    have f1 := frozen_of_row _ _ 1 _ _ hr6
    clear hw6 hr6 hk6
    go_wp2_with fail
    refine bodyPost_ret (results_row_tmp rfl _ _ w.heap.size 42 #[.int .i64 0, .int .i64 0] (0, 0) _ rfl (row_set2 HR6.out) HU.out rfl HIN.out) rfl ?_
    exact HFIN.out w6 _ 0 0 1 _ _ (HW6.out.ms.less fun k hk => .inr hk) HK6.out (by omega) HR6.out HANS.out
set_option maxHeartbeats 1000000 in
theorem checkP_any (I : AImpl) (p : Value) (A : Ar) (rd : Int) (F : Nat → Prop) (i : Nat) (held : Nat → Nat) (w : World) (hI : I.Is w p A rd F) (hv : A.Inv [] held) (ha : A.Agg) (h0 : 0 ≤ rd) (h1 : rd ≤ 1099511627776) (hi : i < 4294967296) :
    Calls Try.prog 22 #[p, .int .u32 (i : Int)] w fun e w' => ∃ F' rd', Alters F F' w w' ∧ I.Is w' p A rd' F' ∧ 0 ≤ rd' ∧ rd' ≤ rd + 16777216 ∧
      (¬ A.Idx i → e = .returned (.int .i64 1)) ∧ (∀ t, Sub A i t → e = .returned (.int .i64 (errT A t))) := by
  obtain ⟨pa, rfl⟩ := I.ptr hI
  obtain ⟨x, y, er, hans⟩ : ∃ x y er : Int, AnsQ A i x y er := by
    by_cases hx : A.Idx i
    · obtain ⟨t, ht⟩ := Sub.get hv ha hx
      exact ⟨_, _, _, ansQ_of ht rfl rfl rfl⟩
    · exact ⟨0, 0, 1, fun _ => ⟨rfl, rfl, rfl⟩, fun t ht => absurd ht.idx hx⟩
  have HANS := Lib.hid hans
  have hM := (measure_any I (.pointer (some pa)) A rd F i held w hI hv ha h0 h1 hi).mono (R' := fun e w' => e = .returned (.tuple #[.agg #[.int .i64 x, .int .i64 y], .int .i64 er]) ∧ ∃ F' rd', Alters F F' w w' ∧ I.Is w' (.pointer (some pa)) A rd' F' ∧ 0 ≤ rd' ∧ rd' ≤ rd + 16777216) (by
    rintro e w1 ⟨F', rd', h1, h2, h3, h4, h5, h6⟩
    refine ⟨?_, F', rd', h1, h2, h3, h4⟩
    by_cases hx : A.Idx i
    · obtain ⟨t, ht⟩ := Sub.get hv ha hx
      obtain ⟨rfl, rfl, rfl⟩ := hans.2 t ht
      exact h6 t ht
    · obtain ⟨rfl, rfl, rfl⟩ := hans.1 hx
      exact h5 hx)
  have HM := Lib.hid hM
  clear hM hI hv ha h0 h1 hi hans
  go_enter Try.func22, Try.ntmps22
  go_wp2_with fail
  refine HM.out.mono ?_
  rintro e w1 ⟨rfl, F', rd', h1, h2, h3, h4⟩
  have HP : Hid (∃ F' rd', Alters F F' w (w1.alloc (Obj.cells #[Value.int .i64 x, .int .i64 y] 42)) ∧ I.Is (w1.alloc (Obj.cells #[Value.int .i64 x, .int .i64 y] 42)) (.pointer (some pa)) A rd' F' ∧ 0 ≤ rd' ∧ rd' ≤ rd + 16777216) :=
    ⟨F', rd', h1.trans (Alters.of_below (below_new7 w1 _)), I.below h2 (below_new7 w1 _), h3, h4⟩
  clear h1 h2 h3 h4
  go_wp2_with fail
  go_ret
  obtain ⟨F', rd', g1, g2, g3, g4⟩ := HP.out
  refine ⟨F', rd', g1, g2, g3, g4, fun hx => ?_, fun t ht => ?_⟩
  · obtain ⟨_, _, rfl⟩ := HANS.out.1 hx; rfl
  · obtain ⟨_, _, rfl⟩ := HANS.out.2 t ht; rfl
theorem measImpl (I : AImpl) : ShMeas I := ⟨checkP_any I, measure_any I⟩
end Go.Proofs.Yticfihklfnjeoaa
