/- The program's audit: InEdges. -/
import Derived.Test.YticmaddcomemhaaAuOk0
set_option linter.unusedVariables false
namespace Go.Proofs.Yticmaddcomemhaa
open Go.RowKit

theorem plus1_ph0 (S : Nat → Sl) (k : Nat) (h : (S k).on = true) : (fun j => plus1 (fun i => eg S k (i + 1)) (S k).nd.left j) = fun i => eg S k (i + 1) + ph 1 (S k) (i + 1) := by
  funext j
  rw [ph_succ, ph_zero]
  unfold plus1 kd
  simp [h]
theorem plus1_ph1 (S : Nat → Sl) (k : Nat) (h : (S k).on = true) : (fun j => plus1 (fun i => eg S k (i + 1) + ph 1 (S k) (i + 1)) (S k).nd.right j) = fun i => eg S (k + 1) (i + 1) := by
  funext j
  rw [eg_succ, ph_succ]
  unfold plus1 kd
  simp [h, Nat.add_assoc]
theorem eg_off (S : Nat → Sl) (k : Nat) (h : (S k).on = false) : (fun i => eg S (k + 1) (i + 1)) = fun i => eg S k (i + 1) := by
  funext j
  rw [eg_succ]
  unfold ph
  simp [h]
set_option maxHeartbeats 2000000 in
set_option maxRecDepth 100000 in
theorem pInEdges_any {w : World} {a b : Option Addr} {n c m d : Nat} {S : Nat → Sl} (h : SlotsAt w a n S) (hn : n ≤ 65536) :
    Calls Try.prog 11 #[.agg #[.slice a n c, .slice b m d]] w (MadeRow w n fun i => eg S n (i + 1)) := by
  obtain ⟨i0, hi, hz0, hz1, hz2⟩ := info_parts i64sInfo
  have hni : (n : Int) ≤ 65536 := by omega
  have hni0 : (0 : Int) ≤ (n : Int) := by omega
  have hb1 : Below w.heap.size w (w.alloc (Obj.cells #[Value.slice a n c, Value.slice b m d] 25)) := (Below.refl _ _).alloc (Nat.le_refl _) _
  have HB := Lib.hid hb1
  have HS := Lib.hid (h.below hb1)
  have HX := Lib.hid (DBox.new w a b n c m d)
  have hsz : (w.alloc (Obj.cells #[Value.slice a n c, Value.slice b m d] 25)).heap.size = w.heap.size + 1 := by simp
  have HZ := Lib.hid hsz
  obtain ⟨hc0, hc1⟩ := HX.out.cells
  clear hb1 h hsz
  go_enter Try.func11, Try.ntmps11
  go_upto_region 1 with fail
  generalize hW1 : w.alloc (Obj.cells #[Value.slice a n c, Value.slice b m d] 25) = w1 at *
  clear hW1
  generalize hQ : w.heap.size = q at *
  have HQ := Lib.hid hQ
  clear hQ
  go_upto_region 2 with (refine wpList_make_full _ rfl (.tmp 7) (.tmp 7) 29 rfl (q + 1) 3 i0 (.int .i64 0) 1 Try.underlying29 hi hz0 hz1 .i64 .i64 (n : Int) (n : Int) n rfl rfl rfl rfl (by rw [hz2]; omega) (by unfold maxLen; omega) (Nat.le_of_eq HZ.out.symm) ?_; intro w2 ho2 hg2)
  rw [natR_zero, HZ.out] at ho2
  rw [HZ.out]
  have hb2 : Below (q + 1) w1 w2 := (Below.refl _ _).grown hg2 (Nat.le_of_eq HZ.out.symm) (fun k hk => by cases hk)
  have HE : Hid (EdgeRel S n q w1 (fun i => eg S 0 (i + 1)) w2) := ⟨by simpa [eg] using ho2, hb2⟩
  have hX2 := HX.out.below hb2 (Nat.lt_succ_self q)
  clear hg2 ho2 hb2 hc0 hc1
  obtain ⟨hc0, hc1⟩ := hX2.cells
  clear hX2
  go_wp2_with fail
  clear hc0 hc1
  go_loopw [12] (fun i wr => ∃ k : Nat, k ≤ n ∧ i = .int .i64 (k : Int) ∧ EdgeRel S n q w1 (fun i => eg S k (i + 1)) wr) (fun i _ => n - (intOf i).toNat)
  case atStart => exact ⟨0, Nat.zero_le _, rfl, HE.out⟩
  case round =>
    clear HE
    obtain ⟨k, hk, rfl, hE⟩ := hrel
    have hb := hE.2
    have hs := hb.size
    have hX := HX.out.below hb (by omega)
    by_cases hlt : k < n
    · obtain ⟨hc0, hc1⟩ := hX.cells
      have hki : (k : Int) < (n : Int) := by omega
      have hki0 : (0 : Int) ≤ (k : Int) := by omega
      have hS := HS.out.below (hb.mono (Nat.le_of_eq HZ.out))
      obtain ⟨b', off, rfl, hlb, d0, d1, d2, d3, d4, d5, d6, d7, d8, d9, d10⟩ := hS.all hlt
      obtain ⟨hl1, hl2⟩ := hS.kid k hlt
      have HE := Lib.hid hE
      have HSS := Lib.hid hS
      clear hS hE hX
      cases ho : (S k).on
      · rw [ho] at d0
        have he := eg_off S k ho
        have HEG := Lib.hid he
        clear ho he
        go_wp2
        exact ⟨⟨k + 1, by omega, by go_num, by rw [HEG.out]; exact HE.out⟩, by simp [intOf]; omega⟩
      · rw [ho] at d0
        have HON := Lib.hid ho
        clear ho
        have hle : ∀ j, eg S k (j + 1) ≤ 4000000 := fun j => by have := eg_le S k (j + 1); omega
        have HLE := Lib.hid hle
        have hle1 : ∀ j, eg S k (j + 1) + ph 1 (S k) (j + 1) ≤ 4000000 := fun j => by have := eg_le S k (j + 1); have := ph_le 1 (S k) (j + 1); omega
        have HLE1 := Lib.hid hle1
        clear hle hle1
        go_wp2_with fail
        refine (addOne_any _ HE.out.1 hl1 hn HLE.out).mono ?_
        rintro e w3 ⟨rfl, ho3, hr3⟩
        have hE3 : EdgeRel S n q w1 (fun i => eg S k (i + 1) + ph 1 (S k) (i + 1)) w3 := ⟨by rw [← plus1_ph0 S k HON.out]; exact hr3, ho3.below HE.out.2 (Nat.le_refl _)⟩
        have hb3 := hE3.2
        obtain ⟨hc0', hc1'⟩ := (HX.out.below hb3 (by omega)).cells
        obtain ⟨b2, off2, hbo, hlb2, e0, e1, e2, e3, e4, e5, e6, _⟩ := (HS.out.below (hb3.mono (Nat.le_of_eq HZ.out))).all hlt
        simp only [Option.some.injEq, Addr.mk.injEq, and_true] at hbo
        obtain ⟨rfl, rfl⟩ := hbo
        have HE3 := Lib.hid hE3
        clear hE3 hr3 ho3 hb3 hc0 hc1 d0 d1 d2 d3 d4 d5 d6 d7 d8 d9 d10 e1 e2 e3 e4
        go_wp2_with fail
        refine (addOne_any _ HE3.out.1 hl2 hn HLE1.out).mono ?_
        rintro e w4 ⟨rfl, ho4, hr4⟩
        have hE4 : EdgeRel S n q w1 (fun i => eg S (k + 1) (i + 1)) w4 := ⟨by rw [← plus1_ph1 S k HON.out]; exact hr4, ho4.below HE3.out.2 (Nat.le_refl _)⟩
        have HE4 := Lib.hid hE4
        clear hE4 hr4 ho4 hc0' hc1' e0 e5 e6
        go_wp2
        exact ⟨⟨k + 1, by omega, by go_num, HE4.out⟩, by simp [intOf]; omega⟩
    · obtain rfl : k = n := by omega
      have HE := Lib.hid hE
      have HBB := Lib.hid hb
      clear hE hX
      go_wp2
      go_ret
      exact ⟨_, rfl, row_mono HE.out.1 (by rw [HQ.out]; omega), by rw [HQ.out]; exact HB.out.trans (HBB.out.mono (by omega))⟩
end Go.Proofs.Yticmaddcomemhaa
