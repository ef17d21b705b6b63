/- The program's table of 256 words holds what each byte adds to a checksum. -/
import Derived.Test.YtdaenfhedepiaaaRefCrc
import Derived.Laws.Rows
import Derived.Laws.CopyOwn
set_option linter.unusedVariables false
namespace Go.Proofs.Ytdaenfhedepiaaa
open Go.RowKit

def bt (m : Nat) : Nat := 128 / 2 ^ m
def sp (m : Nat) : Nat := 256 / 2 ^ m
def rs (m : Nat) : Nat := if m = 0 then 1 else st8 (bt (m - 1))
def zero256 : Array Value := Array.replicate 256 (.int .u32 0)
def tabV : Array Value := (Array.range 256).map fun j => .int .u32 ((st8 j : Nat) : Int)
theorem rs_step (m : Nat) (h : m < 8) : st1 (rs m) = st8 (bt m) := by
  have : (List.range 8).all (fun m => st1 (rs m) == st8 (bt m)) = true := by kernel_rfl
  have := List.all_eq_true.1 this m (by simpa using h)
  simpa using this
theorem bt_half (m : Nat) (h : m < 8) : 1 ≤ bt m ∧ bt m ≤ 128 ∧ bt (m + 1) = bt m / 2 ∧ sp m = 2 * bt m ∧ sp (m + 1) = bt m ∧ 256 % (2 * bt m) = 0 := by
  match m, h with
  | 0, _ => decide
  | 1, _ => decide
  | 2, _ => decide
  | 3, _ => decide
  | 4, _ => decide
  | 5, _ => decide
  | 6, _ => decide
  | 7, _ => decide
theorem tab_step (m i : Nat) (h : m < 8) (hi : i < 256) (hd : i % (2 * bt m) = 0) : st8 i ^^^ st8 (bt m) = st8 (i + bt m) := by
  have : (List.range 8).all (fun m => (List.range 256).all fun i => i % (2 * bt m) != 0 || (i ^^^ bt m == i + bt m)) = true := by kernel_rfl
  have := List.all_eq_true.1 (List.all_eq_true.1 this m (by simpa using h)) i (by simpa using hi)
  have e : i ^^^ bt m = i + bt m := by simpa [hd] using this
  rw [← st8_xor, e]
theorem rs_lt (m : Nat) (h : m ≤ 8) : rs m < 4294967296 := by
  match m, h with
  | 0, _ => decide
  | 1, _ => decide
  | 2, _ => decide
  | 3, _ => decide
  | 4, _ => decide
  | 5, _ => decide
  | 6, _ => decide
  | 7, _ => decide
  | 8, _ => decide
/-- one bit's step, as the program takes it -/
theorem crc_bit (R : Nat) (h : R < 4294967296) : bits .xor .u32 ((R : Int) / 2) (bits .and .u32 (R : Int) 1 * 2197175160 % 4294967296) = ((st1 R : Nat) : Int) := by
  have e : bits .and .u32 (R : Int) 1 = (R : Int) % 2 := bits_mask .u32 32 (by decide) wraps_u32 1 (by decide) (R : Int) (by omega) (by omega)
  rw [e]
  by_cases ho : R % 2 = 1
  · have h2 : (R : Int) % 2 = 1 := by omega
    rw [h2, show (1 : Int) * 2197175160 % 4294967296 = 2197175160 by decide]
    exact step_odd R h ho
  · have h2 : (R : Int) % 2 = 0 := by omega
    rw [h2, show (0 : Int) * 2197175160 % 4294967296 = 0 by decide]
    rw [u32_xor _ _ (by omega) (by omega) (by decide) (by decide)]
    have := step_even R (by omega)
    have e3 : ((R : Int) / 2).toNat ^^^ (0 : Int).toNat = ((R : Int) / 2).toNat := by simp
    rw [e3]
    omega
theorem st8_zero : st8 0 = 0 := by decide
theorem zero48 : ∀ w, (zeroValue 48).run Try.prog w = .ok (.agg zero256) w := by
  have h : (Try.prog.info? 48).map (·.zero) = some (some (.agg zero256)) := by kernel_rfl
  intro w
  cases hi : Try.prog.info? 48 with
  | none => simp [hi] at h
  | some i =>
    have hz : i.zero = some (.agg zero256) := by simpa [hi] using h
    simp [zeroValue, typeInfo, hi, hz]
/-- the table as the loops fill it: all multiples of d below n hold their words -/
def Filled (T : Array Value) (d n : Nat) : Prop := ∀ j, j < n → j < 256 → j % d = 0 → T[j]? = some (.int .u32 ((st8 j : Nat) : Int))
theorem filled_all {T : Array Value} (hs : T.size = 256) (h : Filled T 1 256) : T = tabV := by
  apply Array.ext
  · simp [tabV, hs]
  · intro j h1 h2
    have := h j (by omega) (by omega) (Nat.mod_one j)
    rw [Array.getElem?_eq_getElem h1] at this
    simp only [Option.some.injEq] at this
    rw [this]
    simp [tabV]
theorem tabV_at (j : Nat) (h : j < 256) : tabV[j]? = some (.int .u32 ((st8 j : Nat) : Int)) := by simp [tabV, h]

def InRel (w : World) (b : Nat) (i : Value) (wr : World) : Prop :=
  ∃ (k : Nat) (T : Array Value), k ≤ 256 ∧ i = .int .i64 (k : Int) ∧ k % (2 * b) = 0 ∧ T.size = 256 ∧ Filled T (2 * b) 256 ∧ Filled T b k ∧
          wr.heap[w.heap.size]? = some (.cells zero256 48 (0, 0)) ∧ wr.heap[w.heap.size + 1]? = some (.cells T 48 (0, 0)) ∧ Below w.heap.size w wr
def left256 (v : Value) : Nat := 256 - (intOf v).toNat
theorem tabV_one : tabV.all (·.oneCell') = true := by
  rw [Array.all_eq_true]
  intro i h
  simp [tabV, Value.oneCell']
theorem slot_in {k b : Nat} (hb : 256 % (2 * b) = 0) (hk : k % (2 * b) = 0) (h : k < 256) (h1 : 1 ≤ b) : k + 2 * b ≤ 256 := by
  obtain ⟨c, hc⟩ := Nat.dvd_of_mod_eq_zero hb
  obtain ⟨d, hd⟩ := Nat.dvd_of_mod_eq_zero hk
  have h2 : 2 * b * d < 2 * b * c := by omega
  have h3 : d + 1 ≤ c := Nat.lt_of_mul_lt_mul_left h2
  have h4 := Nat.mul_le_mul_left (2 * b) h3
  rw [Nat.mul_add, Nat.mul_one] at h4
  omega
theorem mid_not {k b : Nat} (hk : k % (2 * b) = 0) (h1 : 1 ≤ b) : (k + b) % (2 * b) ≠ 0 := by
  rw [Nat.add_mod, hk, Nat.zero_add, Nat.mod_mod, Nat.mod_eq_of_lt (by omega)]
  omega
theorem mult_two {k b : Nat} (hk : k % (2 * b) = 0) : k % b = 0 := by
  obtain ⟨d, hd⟩ := Nat.dvd_of_mod_eq_zero hk
  rw [hd, Nat.mul_comm 2 b, Nat.mul_assoc]
  exact Nat.mul_mod_right _ _
theorem between {j k b : Nat} (hk : k % b = 0) (hj : j % b = 0) (h0 : k ≤ j) (h1 : j < k + 2 * b) : j = k ∨ j = k + b := by
  obtain ⟨c, hc⟩ := Nat.dvd_of_mod_eq_zero hk
  obtain ⟨d, hd⟩ := Nat.dvd_of_mod_eq_zero hj
  subst hc hd
  have e : b * c + 2 * b = b * (c + 2) := by rw [Nat.mul_add, Nat.mul_comm 2 b]
  rw [e] at h1
  have h2 : d < c + 2 := Nat.lt_of_mul_lt_mul_left h1
  rcases Nat.lt_or_ge d c with h | h
  · have := Nat.mul_le_mul_left b (show d + 1 ≤ c from h)
    rw [Nat.mul_add, Nat.mul_one] at this
    rcases Nat.eq_zero_or_pos b with hb | hb
    · subst hb; simp
    · omega
  · have hd : d = c ∨ d = c + 1 := by omega
    rcases hd with rfl | rfl
    · exact .inl rfl
    · exact .inr (by rw [Nat.mul_add, Nat.mul_one])
theorem in_step {w wr : World} {b k : Nat} {T : Array Value} {v : Value} (h256 : 256 % (2 * b) = 0) (h1 : 1 ≤ b) (hk : k < 256) (hkd : k % (2 * b) = 0) (hT : T.size = 256) (hF : Filled T (2 * b) 256) (hFk : Filled T b k)
    (H0 : wr.heap[w.heap.size]? = some (.cells zero256 48 (0, 0))) (H1 : wr.heap[w.heap.size + 1]? = some (.cells T 48 (0, 0))) (hB : Below w.heap.size w wr)
    (hv : v = .int .u32 ((st8 (k + b) : Nat) : Int)) : InRel w b (.int .i64 ((k : Int) + 2 * (b : Int))) (wr.setCell ⟨w.heap.size + 1, k + b, none⟩ v) := by
  have hs := slot_in h256 hkd hk h1
  have hm := mid_not hkd h1
  have hd := mult_two hkd
  subst hv
  refine ⟨k + 2 * b, T.setIfInBounds (k + b) (.int .u32 ((st8 (k + b) : Nat) : Int)), hs, by congr 1, ?_, by simp [hT], ?_, ?_, ?_, ?_, hB.setCell (by show w.heap.size ≤ w.heap.size + 1; omega) _⟩
  · rw [Nat.add_mod, hkd, Nat.mod_self]; rfl
  · intro j hj1 hj2 hj3
    have : k + b ≠ j := fun e => by subst e; exact hm hj3
    rw [Array.getElem?_setIfInBounds_ne this]
    exact hF j hj1 hj2 hj3
  · intro j hj1 hj2 hj3
    by_cases e : k + b = j
    · subst e
      rw [Array.getElem?_setIfInBounds_self_of_lt (by omega)]
    · rw [Array.getElem?_setIfInBounds_ne e]
      rcases Nat.lt_or_ge j k with hl | hl
      · exact hFk j hl hj2 hj3
      · rcases between hd hj3 hl hj1 with rfl | rfl
        · exact hF j hj2 hj2 hkd
        · exact absurd rfl e
  · rw [heap_setCell_other _ _ _ _ (by show w.heap.size ≠ w.heap.size + 1; omega)]
    exact H0
  · exact heap_setCell_same wr (w.heap.size + 1) (k + b) T _ _ H1
set_option maxHeartbeats 1000000 in
set_option maxRecDepth 100000 in
theorem remainders_any (w : World) : Calls Try.prog 25 #[] w fun e w' => e = .returned (.agg tabV) ∧ Below w.heap.size w w' := by
  have hz := zero48
  have hu : (Try.prog.underlying 48) = some (.array 256 23) := by kernel_rfl
  have hi : (Try.prog.info? 48).map (·.size) = some 256 := by kernel_rfl
  have HU := Lib.hid hu
  have HI := Lib.hid hi
  clear hu hi
  go_enter Try.func25, Try.ntmps25
  go_wp2
  have hs0 : zero256.size = 256 := by simp [zero256]
  have hB0 : Below w.heap.size w ((w.alloc (Obj.cells zero256 48)).alloc (Obj.cells zero256 48)) := ((Below.refl _ _).alloc (Nat.le_refl _) _).alloc (by simp) _
  have h0 := heap_alloc2_old w (Obj.cells zero256 48) (Obj.cells zero256 48)
  have h1 := heap_alloc2_new w (Obj.cells zero256 48) (Obj.cells zero256 48)
  clear hz
  go_loopw [2, 3] (fun r b wr => ∃ (m : Nat) (T : Array Value), m ≤ 8 ∧ r = .int .u32 ((rs m : Nat) : Int) ∧ b = .int .i64 ((bt m : Nat) : Int) ∧ T.size = 256 ∧ Filled T (sp m) 256 ∧
      wr.heap[w.heap.size]? = some (.cells zero256 48 (0, 0)) ∧ wr.heap[w.heap.size + 1]? = some (.cells T 48 (0, 0)) ∧ Below w.heap.size w wr)
    (fun _ b _ => (intOf b).toNat)
  case atStart => exact ⟨0, zero256, by omega, rfl, rfl, hs0, fun j h1 h2 h3 => by (obtain rfl : j = 0 := by (simp [sp] at h3; omega)); simp [zero256, st8_zero], h0, h1, hB0⟩
  case round =>
    clear h0 h1 hB0 hs0
    obtain ⟨m, T, hm, rfl, rfl, hT, hF, h0, h1, hB⟩ := hrel
    have HT := Lib.hid hT
    have HF := Lib.hid hF
    have H0 := Lib.hid h0
    have H1 := Lib.hid h1
    clear hT hF h0 h1
    by_cases hlt : m < 8
    · obtain ⟨b1, b2, b3, b4, b5, b6⟩ := bt_half m hlt
      have HM := Lib.hid b3
      have HS1 := Lib.hid b4
      have HS2 := Lib.hid b5
      have HB6 := Lib.hid b6
      have HRS := Lib.hid (rs_step m hlt)
      have hTS := tab_step m
      have HTS := Lib.hid hTS
      have hr := rs_lt m (by omega)
      have HC := Lib.hid (crc_bit (rs m) hr)
      clear b3 b4 b5 b6 hTS
      generalize rs m = R at HRS HC hr ⊢
      generalize hbm : bt m = b at HM HS1 HS2 HB6 HRS HTS b1 b2 ⊢
      have HBM := Lib.hid hbm
      clear hbm
      have hb00 : (0 : Int) < (b : Int) := by omega
      go_wp2
      rw [HC.out, HRS.out]
      obtain ⟨wo, rfl⟩ : ∃ wo : World, wo = wr := ⟨_, rfl⟩
      have hS := st8_lt (x := b) (by omega)
      have hb0 : (0 : Int) < (b : Int) := by omega
      generalize hSb : st8 b = S at hS HRS HTS ⊢
      have HSB := Lib.hid hSb
      clear hSb
      go_loopw [4] (fun i wr => InRel w b i wr) (fun i _ => left256 i)
      case atStart => exact ⟨0, T, by omega, rfl, by simp, HT.out, by rw [← HS1.out]; exact HF.out, fun j h => by omega, H0.out, H1.out, hB⟩
      case round =>
        clear HT HF H0 H1 hB HRS HC
        obtain ⟨k, T, hk, rfl, hkd, hT, hF, hFk, h0, h1, hB⟩ := hrel
        have HT := Lib.hid hT
        have HF := Lib.hid hF
        have HFK := Lib.hid hFk
        have H0 := Lib.hid h0
        have H1 := Lib.hid h1
        have HKD := Lib.hid hkd
        clear hT hF hFk h0 h1 hkd
        by_cases hk2 : k < 256
        · have hkb : k + b < 256 := by (have := slot_in HB6.out HKD.out hk2 b1; omega)
          have hcell : wr.cell? ⟨w.heap.size + 1, k, none⟩ = some (.int .u32 ((st8 k : Nat) : Int)) := by
            rw [cell_of_row _ _ _ _ _ _ H1.out]
            exact HF.out k (by omega) hk2 HKD.out
          obtain ⟨y, hy⟩ : ∃ y, T[k + b]? = some y := ⟨_, Array.getElem?_eq_getElem (by rw [HT.out]; exact hkb)⟩
          have hcell2 : wr.cell? ⟨w.heap.size + 1, k + b, none⟩ = some y := by
            rw [cell_of_row _ _ _ _ _ _ H1.out]
            exact hy
          have hfz := frozen_of_row wr (w.heap.size + 1) (k + b) T _ H1.out
          have hkl := st8_lt (x := k) (by omega)
          generalize hX : st8 k = X at hcell hkl
          have HX := Lib.hid hX
          have HK := Lib.hid hk
          have HK2 := Lib.hid hk2
          have HKB := Lib.hid hkb
          have HBB := Lib.hid b2
          have hki : (k : Int) < 256 := by omega
          have hkbi : (k : Int) + (b : Int) < 256 := by omega
          have hbi : (b : Int) ≤ 128 := by omega
          clear hX hk hk2 hkb b2 hy
          go_wp2
          have hx : bits .xor .u32 (X : Int) (S : Int) = ((st8 (k + b) : Nat) : Int) := by
            rw [u32_xor_nat X S hkl hS, ← HX.out, HTS.out k hlt HK2.out HKD.out]
          refine ⟨in_step HB6.out b1 HK2.out HKD.out HT.out HF.out HFK.out H0.out H1.out hB (by rw [hx]), ?_⟩
          have := HK2.out
          simp only [left256, intOf]
          omega
        · have HK := Lib.hid hk
          have HK2 := Lib.hid hk2
          have HBB := Lib.hid b2
          have hki : (256 : Int) ≤ (k : Int) := by omega
          have hki2 : (k : Int) ≤ 256 := by omega
          have hbi : (b : Int) ≤ 128 := by omega
          clear hk hk2 b2
          go_wp2
          refine ⟨⟨m + 1, T, by omega, ?_, ?_, HT.out, by rw [HS2.out]; exact fun j h1 h2 h3 => HFK.out j (by omega) h2 h3, H0.out, H1.out, hB⟩, by simp [intOf]; omega⟩
          · rw [show rs (m + 1) = st8 (bt m) from rfl, HBM.out, HSB.out]
          · rw [HM.out]; congr 1
    · obtain rfl : m = 8 := by omega
      have e : bt 8 = 0 := by decide
      rw [e]
      clear e
      generalize rs 8 = R
      obtain rfl : T = tabV := filled_all HT.out HF.out
      have hsz : tabV.size = 256 := HT.out
      have HZ := Lib.hid hsz
      clear hsz
      go_wp2_with (first
        | refine wpList_load_row rfl 48 _ rfl (w.heap.size + 1) rfl 48 tabV (0, 0) _ H1.out HU.out rfl (by rw [HI.out, HZ.out]) ?_
        | refine wpList_store_row rfl 48 _ _ rfl w.heap.size tabV rfl rfl 48 zero256 H0.out (by rw [HI.out, HZ.out]) (by rw [HZ.out]; simp [zero256]) tabV_one ?_)
      exact bodyPost_ret (v := .agg tabV) (results_cell_row rfl _ _ w.heap.size 48 tabV (0, 0) _ rfl (setRow_heap _ _ _ _ _ _ H0.out) HU.out rfl (by rw [HI.out, HZ.out])) rfl ⟨rfl, below_setRow hB (Nat.le_refl _) _⟩
end Go.Proofs.Ytdaenfhedepiaaa
