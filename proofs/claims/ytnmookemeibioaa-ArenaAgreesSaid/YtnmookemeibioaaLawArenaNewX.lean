/- The walk of ArenaNew; two dumps are compared. Condition: the program's functions and the reference's Dump keep their contracts. -/
import Derived.Test.YtnmookemeibioaaDumpC
import Derived.Test.YtnmookemeibioaaSlotsCon
import Derived.Deep.QuietTactic
import Derived.Test.YtnmookemeibioaaRefDump0
import Derived.Test.YtnmookemeibioaaArenaLaw
import Derived.Test.YtnmookemeibioaaSoundW
import Derived.Deep.DeepCutAuto
set_option linter.unusedVariables false
namespace Go.Proofs.Ytnmookemeibioaa
open Go.RowKit
set_option maxHeartbeats 2000000 in
set_option maxRecDepth 100000 in
theorem same_slots {w : World} {a a' : Option Addr} {n c c' : Nat} {S : Nat → Sl} (h : SlotsAt w a n S) (h' : SlotsAt w a' n S) (hn : n ≤ 65536) :
    Calls Try.prog 43 #[.slice a n c, .slice a' n c'] w (Calm w (.bool true)) := by
  have hni : (n : Int) ≤ 65536 := by omega
  have HH := Lib.hid h
  have HH' := Lib.hid h'
  clear h h'
  go_enter Try.func43, Try.ntmps43
  go_wp2
  go_loopw [5] (fun i wr => ∃ k : Nat, k ≤ n ∧ i = .int .i64 (k : Int) ∧ ∃ d, wr = w.drewN d) (fun i _ => n - (intOf i).toNat)
  case atStart => exact ⟨0, Nat.zero_le _, rfl, 0, rfl⟩
  case round =>
    obtain ⟨k, hk, rfl, d, rfl⟩ := hrel
    by_cases hlt : k < n
    · have hki : (k : Int) < (n : Int) := by omega
      have hk0 : (0 : Int) ≤ (k : Int) := by omega
      obtain ⟨b, off, rfl, hb, d0, d1, d2, d3, d4, d5, d6, d7, d8, d9, d10⟩ := HH.out.all hlt
      obtain ⟨b', off', rfl, hb', e0, e1, e2, e3, e4, e5, e6, e7, e8, e9, e10⟩ := HH'.out.all hlt
      generalize (S k).on = x0 at d0 e0
      generalize (S k).cnt = x1 at d1 e1
      generalize (S k).gen = x2 at d2 e2
      generalize (S k).nd.key = x3 at d3 e3
      generalize (S k).nd.val = x4 at d4 e4
      generalize ((S k).nd.left : Int) = x5 at d5 e5
      generalize ((S k).nd.right : Int) = x6 at d6 e6
      generalize (S k).nd.size = x7 at d7 e7
      generalize (S k).nd.sum = x8 at d8 e8
      generalize (S k).nd.mn = x9 at d9 e9
      generalize (S k).nd.mx = x10 at d10 e10
      go_wp2
      go_quiet (fail)
      go_wp2
      exact ⟨⟨k + 1, by omega, by go_num, _, rfl⟩, by simp [intOf]; omega⟩
    · obtain rfl : k = n := by omega
      go_wp2
      go_ret
      exact ⟨rfl, below_drewN (Below.refl _ _) d⟩
end Go.Proofs.Ytnmookemeibioaa
set_option linter.unusedVariables false
namespace Go.Proofs.Ytnmookemeibioaa
open Go.RowKit
theorem u32s_nth {l : List Nat} {j : Nat} (h : j < l.length) : (u32s l)[j]? = some (.int .u32 ((l.getD j 0 : Nat) : Int)) := by
  simp [u32s, List.getD_eq_getElem?_getD, h]
set_option maxHeartbeats 400000 in
theorem same_rows {B B' : Nat} {a a' : Option Addr} {c c' : Nat} (l : List Nat) (w : World) (hl : (l.length : Int) ≤ 65536) (h : w.ownsRow B 41 1 (.slice a l.length c) l.length (u32s l)) (h' : w.ownsRow B' 41 1 (.slice a' l.length c') l.length (u32s l)) :
    Calls Try.prog 44 #[.slice a l.length c, .slice a' l.length c'] w (Calm w (.bool true)) := by
  have HH := Lib.hid h
  have HH' := Lib.hid h'
  clear h h'
  obtain ⟨n, hn⟩ : ∃ n, n = l.length := ⟨_, rfl⟩
  rw [← hn] at hl ⊢
  have HN := Lib.hid hn
  clear hn
  go_enter Try.func44, Try.ntmps44
  go_wp2
  go_loopw [5] (fun i wr => ∃ k : Nat, k ≤ n ∧ i = .int .i64 k ∧ ∃ q, wr = w.drewN q) (fun i _ => n - (intOf i).toNat)
  case atStart => exact ⟨0, Nat.zero_le _, rfl, 0, rfl⟩
  case round =>
    obtain ⟨k, hk, rfl, q, rfl⟩ := hrel
    by_cases hlt : k < n
    · have hk2 : k < l.length := by rw [← HN.out]; exact hlt
      obtain ⟨b, rfl, hbb, hc⟩ := row_cell HH.out hk2
      obtain ⟨b', rfl, hbb', hc'⟩ := row_cell HH'.out hk2
      rw [u32s_nth hk2] at hc hc'
      have hlt' : (k : Int) < (n : Int) := by omega
      have hk0 : (0 : Int) ≤ (k : Int) := by omega
      generalize ((l.getD k 0 : Nat) : Int) = x at hc hc'
      have hne : (x != x) = false := by simp
      clear hk2
      go_wp2
      go_quiet (fail)
      go_wp2
      exact ⟨⟨k + 1, by omega, by go_num, _, rfl⟩, by simp [intOf]; omega⟩
    · obtain rfl : k = n := by omega
      go_wp2
      go_ret
      exact ⟨rfl, below_drewN (Below.refl _ _) q⟩
end Go.Proofs.Ytnmookemeibioaa
set_option linter.unusedVariables false
namespace Go.Proofs.Ytnmookemeibioaa
open Go.RowKit
theorem same_rows_at {B B' M : Nat} {a a' : Option Addr} {c c' : Nat} (l : List Nat) {w : World} (hM : l.length = M) (hl : (M : Int) ≤ 65536) (h : w.ownsRow B 41 1 (.slice a M c) M (u32s l)) (h' : w.ownsRow B' 41 1 (.slice a' M c') M (u32s l)) :
    Calls Try.prog 44 #[.slice a M c, .slice a' M c'] w (Calm w (.bool true)) := by
  subst hM
  exact same_rows l w hl h h'
set_option maxHeartbeats 2000000 in
set_option maxRecDepth 100000 in
theorem same_dump {w : World} {a a' b b' : Option Addr} {c c' d d' n M B B' : Nat} {S : Nat → Sl} (fr : List Nat) (hM : fr.length = M) (h : SlotsAt w a n S) (h' : SlotsAt w a' n S) (hf : w.ownsRow B 41 1 (.slice b M d) M (u32s fr)) (hf' : w.ownsRow B' 41 1 (.slice b' M d') M (u32s fr)) (hn : n ≤ 65536) (hm : M ≤ 65536) :
    Calls Try.prog 16 #[.agg #[.slice a n c, .slice b M d], .agg #[.slice a' n c', .slice b' M d']] w (Calm w (.bool true)) := by
  have hb1 := below_new5 w (Obj.cells #[Value.slice a n c, Value.slice b M d] 35)
  have hb2 := below_new5 (w.alloc (Obj.cells #[Value.slice a n c, Value.slice b M d] 35)) (Obj.cells #[Value.slice a' n c', Value.slice b' M d'] 35)
  have hbb := below_chain hb1 hb2
  have hx1 := two_cells (heap_alloc2_old w (Obj.cells #[Value.slice a n c, Value.slice b M d] 35) (Obj.cells #[Value.slice a' n c', Value.slice b' M d'] 35))
  have hx2 := two_cells (heap_alloc2_new w (Obj.cells #[Value.slice a n c, Value.slice b M d] 35) (Obj.cells #[Value.slice a' n c', Value.slice b' M d'] 35))
  have HS := Lib.hid (h.below hbb)
  have HS' := Lib.hid (h'.below hbb)
  have HF := Lib.hid (row_below hf hbb)
  have HF' := Lib.hid (row_below hf' hbb)
  have HB := Lib.hid hbb
  have HX1 := Lib.hid (heap_alloc2_old w (Obj.cells #[Value.slice a n c, Value.slice b M d] 35) (Obj.cells #[Value.slice a' n c', Value.slice b' M d'] 35))
  have HX2 := Lib.hid (heap_alloc2_new w (Obj.cells #[Value.slice a n c, Value.slice b M d] 35) (Obj.cells #[Value.slice a' n c', Value.slice b' M d'] 35))
  obtain ⟨c0, c1⟩ := hx1
  obtain ⟨e0, e1⟩ := hx2
  clear h h' hf hf' hb1 hb2 hbb
  go_enter Try.func16, Try.ntmps16
  go_upto_region 1 with fail
  generalize (w.alloc (Obj.cells #[Value.slice a n c, Value.slice b M d] 35)).alloc (Obj.cells #[Value.slice a' n c', Value.slice b' M d'] 35) = w1 at HS HS' HF HF' HB HX1 HX2 c0 c1 e0 e1 ⊢
  have hlt1 : w.heap.size < w1.heap.size := (Array.getElem?_eq_some_iff.1 HX1.out).1
  have hlt2 : w.heap.size + 1 < w1.heap.size := (Array.getElem?_eq_some_iff.1 HX2.out).1
  obtain ⟨p, hp⟩ : ∃ p, w.heap.size = p := ⟨_, rfl⟩
  rw [hp] at HX1 HX2 HB c0 c1 e0 e1 hlt1 hlt2 ⊢
  have HPP := Lib.hid hp
  clear hp
  go_wp2_with fail
  refine (same_slots HS.out HS'.out hn).mono ?_
  rintro e w2 ⟨rfl, hb2⟩
  have hY1 := (hb2.block _ hlt1).trans HX1.out
  have hY2 := (hb2.block _ hlt2).trans HX2.out
  clear c0 c1 e0 e1
  obtain ⟨c0, c1⟩ := two_cells hY1
  obtain ⟨e0, e1⟩ := two_cells hY2
  have HG := Lib.hid (row_below HF.out hb2)
  have HG' := Lib.hid (row_below HF'.out hb2)
  have HBB := Lib.hid (HB.out.trans (hb2.mono (by rw [← HPP.out]; exact HB.out.size)))
  clear hY1 hY2 hb2 hlt1 hlt2
  go_wp2_with fail
  refine (same_rows_at fr hM (by omega) HG.out HG'.out).mono ?_
  rintro e w3 ⟨rfl, hb3⟩
  have HB3 := Lib.hid (HBB.out.trans (hb3.mono (by rw [← HPP.out]; exact HBB.out.size)))
  clear hb3 c0 c1 e0 e1
  go_wp2_with fail
  go_ret
  exact ⟨rfl, by rw [HPP.out]; exact HB3.out⟩
set_option maxHeartbeats 4000000 in
set_option maxRecDepth 100000 in
theorem arnew_walk (hdump : RefDumpSpec) (I : AImpl) (c s : Int) (w : World) (hc1 : -9223372036854775808 ≤ c) (hc2 : c ≤ 9223372036854775807) (hs1 : -9223372036854775808 ≤ s) (hs2 : s ≤ 9223372036854775807) :
    Calls Try.prog 3 #[.int .i64 c, .int .i64 s] w fun e w' => e = .returned (.bool true) ∧ Below w.heap.size w w' := by
  have hr := Int.emod_nonneg s (b := 30) (by omega)
  have hr2 := Int.emod_lt_of_pos s (b := 30) (by omega)
  obtain ⟨r, hr3⟩ := Int.eq_ofNat_of_zero_le hr
  rw [hr3] at hr2
  have hr4 : r < 30 := by omega
  have HR := Lib.hid hr3
  obtain ⟨n, hn⟩ : ∃ n : Nat, n = r + 1 := ⟨_, rfl⟩
  have HN : Hid ((1 : Int) + (r : Int) = (n : Int)) := by show (1 : Int) + (r : Int) = (n : Int); omega
  have hn1 : 1 ≤ n := by omega
  have hn2 : n ≤ 30 := by omega
  clear hr hr2 hr3 hn
  -- what follows behind the first test, from any world
  have hrest : True := trivial
  go_enter Try.func3, Try.ntmps3
  go_upto_region 1 with fail
  go_cut [5, 6] (fun s5 s6 wx => Below w.heap.size w wx ∧ ((1 ≤ c ∧ c ≤ 65536 ∧ (∃ pa, s5 = .pointer (some pa)) ∧ s6 = .int .i64 0) ∨ (¬ (1 ≤ c ∧ c ≤ 65536) ∧ s5 = .pointer none ∧ s6 = .int .i64 1)))
  case first =>
    by_cases h : 1 ≤ c ∧ c ≤ 65536
    · obtain ⟨m, hm⟩ := Int.eq_ofNat_of_zero_le (show 0 ≤ c by omega)
      have HM := Lib.hid hm
      have hm1 : 1 ≤ m := by omega
      have hm2 : m ≤ 65536 := by omega
      clear hm
      go_wp2_with fail
      refine (ta_new I m c w hm1 hm2 HM.out).mono ?_
      rintro e w1 ⟨a, rfl, hT⟩
      have HB := Lib.hid hT.below
      clear hT
      go_wp2_with fail
      go_meet
      exact ⟨HB.out, .inl ⟨h.1, h.2, ⟨a, rfl⟩, rfl⟩⟩
    · go_wp2_with fail
      refine (I.new_bad c w hc1 hc2 (by omega)).mono ?_
      rintro e w1 ⟨rfl, hb⟩
      have HB := Lib.hid hb
      clear hb
      go_wp2_with fail
      go_meet
      exact ⟨HB.out, .inr ⟨h, rfl, rfl⟩⟩
  case' rest =>
    rename World => w1
    obtain ⟨hb1, hor⟩ := hcut
    have HB1 := Lib.hid hb1
    clear hb1
    go_upto_region 2 with fail
    go_cut [38] (fun s38 wx => s38 = .bool false ∧ w1 = wx)
    case first =>
      rcases hor with ⟨h1, h2, ⟨pa, rfl⟩, rfl⟩ | ⟨h1, rfl, rfl⟩
      · go_wp2_with fail
        go_meet
        exact ⟨rfl, rfl⟩
      · rcases (show c < 1 ∨ 65536 < c by omega) with h2 | h2
        · have h3 : decide ((1 : Int) ≤ c) = false := decide_eq_false (by omega)
          clear h1
          go_wp2_with fail
          go_meet
          exact ⟨rfl, rfl⟩
        · have h3 : (1 : Int) ≤ c := by omega
          have h4 : decide (c ≤ (65536 : Int)) = false := decide_eq_false (by omega)
          clear h1
          go_wp2_with fail
          go_meet
          exact ⟨rfl, rfl⟩
    case' rest =>
      obtain ⟨rfl, rfl⟩ := hcut
      clear hor
      go_wp2_with fail
      refine (mod_any s 30 _ hs1 hs2 (by decide) (by decide)).mono ?_
      rintro e w2 ⟨rfl, rfl⟩
      rw [HR.out]
      go_wp2_with fail
      rw [HN.out]
      refine (ta_new I n n _ hn1 (by omega) rfl).mono ?_
      rintro e w2 ⟨a, rfl, hT⟩
      go_wp2_with fail
      refine (awake_any I _).mono ?_
      rintro e w3 ⟨rfl, hb3⟩
      have hT3 := hT.calm hb3
      have HT3 := Lib.hid hT3
      have hnn : ((n : Int) == (n : Int)) = true := by simp
      clear hT hb3 hT3
      go_wp2_with fail
      refine (ta_free HT3.out).mono ?_
      rintro e w4 ⟨rfl, hT4⟩
      have hfl : (Ar.init n).σ.free.length = n := by simp [Ar.init, St.init]
      rw [hfl]
      have HFL := Lib.hid hfl
      have HT4 := Lib.hid hT4
      clear hT4 hfl
      obtain ⟨F4, hI4, _⟩ := HT4.out.has
      go_wp2_with fail
      refine (I.capacity _ _ _ _ _ hI4).mono ?_
      rintro e w5 ⟨rfl, d5, rfl⟩
      have hT5 := HT4.out.calm (below_drewN (Below.refl w4.heap.size w4) d5)
      have HT5 := Lib.hid hT5
      clear hI4 hT5
      generalize w4.drewN d5 = w5 at HT5 ⊢
      rw [show ((Ar.init n).σ.cap : Int) = (n : Int) from rfl]
      obtain ⟨F5, hI5, _⟩ := HT5.out.has
      go_wp2_with fail
      refine (I.reads _ _ _ _ _ hI5).mono ?_
      rintro e w6 ⟨rfl, d6, rfl⟩
      have hT6 := HT5.out.calm (below_drewN (Below.refl w5.heap.size w5) d6)
      have HT6 := Lib.hid hT6
      clear hI5 hT6
      generalize w5.drewN d6 = w6 at HT6 ⊢
      obtain ⟨F6, hI6, _⟩ := HT6.out.has
      go_wp2_with fail
      refine (I.dump _ _ _ _ _ hI6).mono ?_
      rintro e w7 ⟨da, dc, db, dd, rfl, hs7, hf7, hb7⟩
      have hok := HT6.out.inv
      have HS7 := Lib.hid hs7
      have HF7 := Lib.hid hf7
      have HB7 := Lib.hid (HT6.out.below.trans (hb7.mono HT6.out.hB))
      have HINV := Lib.hid hok
      rw [HFL.out] at HF7 ⊢
      clear hI6 hs7 hf7 hb7 hok
      rw [show (Ar.init n).σ.cap = n from rfl]
      go_wp2_with fail
      refine (rar_new n _ hn1 (by omega)).mono ?_
      rintro e w8 ⟨rq, rr, rfl, hRA, hb8⟩
      have HRA := Lib.hid hRA
      have HB8 := Lib.hid hb8
      clear hRA hb8
      go_wp2_with fail
      refine (hdump _ _ _ _ _ _ HRA.out HINV.out.ok).mono ?_
      rintro e w9 ⟨ea, ec, eb, ed, rfl, hs9, hf9, hb9⟩
      rw [HFL.out] at hf9 ⊢
      have h79 := below_chain HB8.out hb9
      have HS9 := Lib.hid hs9
      have HF9 := Lib.hid hf9
      have H79 := Lib.hid h79
      clear hs9 hf9 hb9 h79
      rw [show (Ar.init n).σ.cap = n from rfl]
      go_wp2_with fail
      refine (same_dump (S := (Ar.init n).sl) (Ar.init n).σ.free HFL.out (slots_at HINV.out (row_below HS7.out H79.out)) (slots_at HINV.out HS9.out) (row_below HF7.out H79.out) HF9.out (show (Ar.init n).σ.cap ≤ 65536 from (show n ≤ 65536 by omega)) (by omega)).mono ?_
      rintro e w10 ⟨rfl, hb10⟩
      have HB10 := Lib.hid (below_chain H79.out hb10)
      clear hb10
      go_wp2_with fail
      go_ret
      refine ⟨rfl, HB1.out.trans ((HB7.out.trans (HB10.out.mono HB7.out.size)).mono HB1.out.size)⟩
end Go.Proofs.Ytnmookemeibioaa
