/- What the two functions that compare slices of bytes return, for every input that reads: Same says whether they are equal, less whether the first of two strings of eight bytes comes first. They read, and write nothing. -/
import Derived.Test.YtcdajfdagdiodaaMem
set_option linter.unusedVariables false
namespace Go.Proofs.Ytcdajfdagdiodaa
open Go.RowKit

/-- the call returned v and at most drew -/
def Quiet (w : World) (v : Value) (e : Ending) (w' : World) : Prop := e = .returned v ∧ ∃ q, w' = w.drewN q
theorem take_eq_snoc {xs ys : List Int} {k n : Nat} (hx : xs.length = n) (hy : ys.length = n) (hk : k < n) (h : xs.take k = ys.take k) (e : xs[k]?.getD 0 = ys[k]?.getD 0) : xs.take (k + 1) = ys.take (k + 1) := by
  rw [List.take_succ_eq_append_getElem (by omega), List.take_succ_eq_append_getElem (by omega), h]
  rw [List.getElem?_eq_getElem (by omega), List.getElem?_eq_getElem (by omega)] at e
  have e2 : xs[k] = ys[k] := by simpa using e
  rw [e2]

set_option maxHeartbeats 400000 in
theorem same_any (a c : Option Addr) (n cap m cp : Nat) (xs ys : List Int) (w : World) (h : Bs w a n cap xs) (h' : Bs w c m cp ys) (hn : n ≤ 281474976710656) :
    Calls Try.prog 20 #[.slice a n cap, .slice c m cp] w (Quiet w (.bool (decide (xs = ys)))) := by
  by_cases hnm : n = m
  · subst hnm
    have HH := Lib.hid h
    have HH' := Lib.hid h'
    clear h h'
    go_enter Try.func20, Try.ntmps20
    go_wp2
    go_loopw [5] (fun i wr => ∃ k : Nat, k ≤ n ∧ i = .int .i64 k ∧ xs.take k = ys.take k ∧ ∃ q, wr = w.drewN q) (fun i _ => n - (intOf i).toNat)
    case atStart => exact ⟨0, Nat.zero_le _, rfl, rfl, 0, rfl⟩
    case round =>
      obtain ⟨k, hk, rfl, he, q, rfl⟩ := hrel
      have HE := Lib.hid he
      clear he
      by_cases hlt : k < n
      · obtain ⟨b, off, rfl, hbb, hcell⟩ := HH.out.at_ (by omega)
        obtain ⟨b', off', rfl, hbb', hcell'⟩ := HH'.out.at_ (by omega)
        have hc := hcell k hlt
        have hc' := hcell' k hlt
        have hlt' : (k : Int) < (n : Int) := by omega
        have hk0 : (0 : Int) ≤ (k : Int) := by omega
        clear hcell hcell'
        go_wp2
        go_quiet (fail)
        go_wp2
        · go_ret
          have hx : (xs[k]?.getD 0 != ys[k]?.getD 0) = true := by assumption
          have e : ¬ xs = ys := by intro e; subst e; simp at hx
          exact ⟨by rw [decide_eq_false e]; rfl, q + nq, by rw [World.drewN_drewN]⟩
        · have hx : (xs[k]?.getD 0 != ys[k]?.getD 0) = false := by assumption
          exact ⟨⟨k + 1, by omega, by go_num, take_eq_snoc HH.out.len HH'.out.len hlt HE.out (by simpa using hx), _, rfl⟩, by simp [intOf]; omega⟩
      · obtain rfl : k = n := by omega
        go_wp2
        go_ret
        have e : xs = ys := by
          have := HE.out
          rw [List.take_of_length_le (by rw [HH.out.len]; exact Nat.le_refl _), List.take_of_length_le (by rw [HH'.out.len]; exact Nat.le_refl _)] at this
          exact this
        exact ⟨by rw [decide_eq_true e]; rfl, q, rfl⟩
  · have hne : ((n : Int) != (m : Int)) = true := by simp; omega
    have HH := Lib.hid h
    have HH' := Lib.hid h'
    clear h h' hnm
    go_enter Try.func20, Try.ntmps20
    go_wp2
    go_ret
    have e : ¬ xs = ys := by
      intro e
      have h1 := HH.out.len
      have h2 := HH'.out.len
      rw [e, h2] at h1
      subst h1
      simp at hne
    exact ⟨by rw [decide_eq_false e]; rfl, 0, rfl⟩

set_option maxHeartbeats 400000 in
/-- less at the bytes of two words -/
theorem less_any (a c : Option Addr) (cap cp : Nat) (X Y : Int) (w : World) (hX0 : 0 ≤ X) (hX1 : X < 18446744073709551616) (hY0 : 0 ≤ Y) (hY1 : Y < 18446744073709551616) (h : Bs w a 8 cap (be 8 X)) (h' : Bs w c 8 cp (be 8 Y)) :
    Calls Try.prog 29 #[.slice a 8 cap, .slice c 8 cp] w (Quiet w (.bool (decide (X < Y)))) := by
  obtain ⟨b, off, rfl, hbb, hcell⟩ := h.at_ (by omega)
  obtain ⟨b', off', rfl, hbb', hcell'⟩ := h'.at_ (by omega)
  have HC := Lib.hid hcell
  have HC' := Lib.hid hcell'
  clear hcell hcell' h h'
  go_enter Try.func29, Try.ntmps29
  go_wp2
  go_loopw [5] (fun i wr => ∃ k : Nat, k ≤ 8 ∧ i = .int .i64 k ∧ X / 2 ^ (64 - 8 * k) = Y / 2 ^ (64 - 8 * k) ∧ ∃ q, wr = w.drewN q) (fun i _ => 8 - (intOf i).toNat)
  case atStart => exact ⟨0, Nat.zero_le _, rfl, by rw [lex_zero X hX0 hX1, lex_zero Y hY0 hY1], 0, rfl⟩
  case round =>
    obtain ⟨k, hk, rfl, he, q, rfl⟩ := hrel
    have HE := Lib.hid he
    clear he
    by_cases hlt : k < 8
    · have hc := HC.out k hlt
      have hc' := HC'.out k hlt
      have hlt' : (k : Int) < 8 := by omega
      have hk0 : (0 : Int) ≤ (k : Int) := by omega
      have ex := be8_get X k hlt
      have ey := be8_get Y k hlt
      rw [List.getD_eq_getElem?_getD, ex] at hc
      rw [List.getD_eq_getElem?_getD, ey] at hc'
      clear ex ey
      by_cases hne : X / 2 ^ (56 - 8 * k) % 256 = Y / 2 ^ (56 - 8 * k) % 256
      · have HN := Lib.hid hne
        have hb : (X / 2 ^ (56 - 8 * k) % 256 != Y / 2 ^ (56 - 8 * k) % 256) = false := by simpa using hne
        clear hne
        generalize hgx : X / 2 ^ (56 - 8 * k) % 256 = x at hc hb HN
        generalize hgy : Y / 2 ^ (56 - 8 * k) % 256 = y at hc' hb HN
        have HGX := Lib.hid hgx
        have HGY := Lib.hid hgy
        clear hgx hgy
        go_wp2
        go_quiet (fail)
        go_wp2
        exact ⟨⟨k + 1, by omega, by go_num, lex_same X Y k hlt HE.out (by rw [HGX.out, HGY.out]; exact HN.out), _, rfl⟩, by simp [intOf]; omega⟩
      · have hb : (X / 2 ^ (56 - 8 * k) % 256 != Y / 2 ^ (56 - 8 * k) % 256) = true := by simpa using hne
        have HL := Lib.hid (lex_lt X Y k hlt HE.out hne)
        clear hne
        generalize hgx : X / 2 ^ (56 - 8 * k) % 256 = x at hc hb HL
        generalize hgy : Y / 2 ^ (56 - 8 * k) % 256 = y at hc' hb HL
        clear hgx hgy
        go_wp2
        go_quiet (fail)
        go_wp2
        go_quiet (fail)
        go_wp2
        go_ret
        have e : decide (x < y) = decide (X < Y) := decide_eq_decide.2 HL.out
        exact ⟨by rw [← e]; rfl, _, by rw [World.drewN_drewN, World.drewN_drewN]⟩
    · obtain rfl : k = 8 := by omega
      go_wp2
      go_ret
      have e : ¬ X < Y := by have := HE.out; simp at this; omega
      exact ⟨by rw [decide_eq_false e]; rfl, q, rfl⟩
end Go.Proofs.Ytcdajfdagdiodaa
