/- Calls that came in, and play: it leaves an allocator of the capacity asked, whatever the calls. -/
import Derived.Test.YtfemdclfplgbfaaSlotsLaw
set_option linter.unusedVariables false
namespace Go.Proofs.Ytfemdclfplgbfaa
open Go.RowKit

/-- the slice of calls (a, n) reads -/
def CallsIn (w : World) (a : Option Addr) (n : Nat) : Prop :=
  ∀ r, r < n → ∃ (b off : Nat) (o : Bool) (u : Nat), a = some ⟨b, off, none⟩ ∧ b < w.heap.size ∧ w.cell? ⟨b, off + r * 2, none⟩ = some (.bool o) ∧ w.cell? ⟨b, off + r * 2 + 1, none⟩ = some (.int .u32 (u : Int)) ∧ u < 4294967296
theorem CallsIn.below {w w' : World} {a : Option Addr} {n : Nat} (h : CallsIn w a n) (hb : Below w.heap.size w w') : CallsIn w' a n := by
  intro r hr
  obtain ⟨b, off, o, u, ha, hlt, h1, h2, h3⟩ := h r hr
  exact ⟨b, off, o, u, ha, Nat.lt_of_lt_of_le hlt hb.size, (hb.cell (p := ⟨b, off + r * 2, none⟩) hlt).trans h1, (hb.cell (p := ⟨b, off + r * 2 + 1, none⟩) hlt).trans h2, h3⟩
theorem calls_in {H : Type} {enc : TypeId × Value → H} {W : World} {a : Option Addr} {n cap fuel : Nat} {x : DataW H × List MemPlace}
    (h : DataW.trod enc Try.prog W 0 (fun _ => true) true fuel 35 (Value.slice a n cap).cells.toList = some x) : n ≤ cap ∧ cap ≤ maxLen ∧ CallsIn W a n := by
  have hf := fields_in Try.underlying35 Try.underlying41 (by kernel_rfl) (by kernel_rfl) h
  refine ⟨hf.1, hf.2.1, fun r hr => ?_⟩
  obtain ⟨b, off, v, y, m, rfl, hlt, h1, h2⟩ := hf.2.2 r hr 0 _ rfl
  obtain ⟨b', off', v', y', m', he, _, h1', h2'⟩ := hf.2.2 r hr 1 _ rfl
  simp only [Option.some.injEq, Addr.mk.injEq, and_true] at he
  obtain ⟨rfl, rfl⟩ := he
  obtain ⟨o, hv, _⟩ := DataW.trod_bool Try.underlying4 h2
  obtain ⟨u, hv', _, hw⟩ := DataW.trod_int Try.underlying31 h2'
  simp only [List.cons.injEq, and_true] at hv hv'
  subst hv hv'
  have hb := bounds_u32 hw
  obtain ⟨U, rfl⟩ := Int.eq_ofNat_of_zero_le hb.1
  exact ⟨b, off, o, U, rfl, hlt, h1, h1', by omega⟩

def AtPost (w : World) (e : Ending) (w' : World) : Prop := ∃ i : Nat, i < 4294967296 ∧ e = .returned (.int .u32 (i : Int)) ∧ Below w.heap.size w w'
set_option maxHeartbeats 1000000 in
theorem at_any (o : Bool) (u n : Nat) (w : World) (hu : u < 4294967296) (hn : n ≤ 65536) : Calls Try.prog 17 #[.agg #[.bool o, .int .u32 (u : Int)], .int .i64 (n : Int)] w (AtPost w) := by
  by_cases h : (u : Int) % 17 = 16
  · have h1 : ((u : Int) % 17 == 16) = true := by simpa using h
    clear h
    go_enter Try.func17, Try.ntmps17
    go_wp2
    go_ret
    exact ⟨u, hu, rfl, (Below.refl _ _).alloc (Nat.le_refl _) _⟩
  · have h1 : ((u : Int) % 17 == 16) = false := by simpa using h
    clear h
    have h2 : ((n : Int) + 2 == 0) = false := by simp; omega
    have h3 := Int.emod_nonneg (u : Int) (b := (n : Int) + 2) (by omega)
    have h4 := Int.emod_lt_of_pos (u : Int) (b := (n : Int) + 2) (by omega)
    obtain ⟨i, hi⟩ := Int.eq_ofNat_of_zero_le h3
    have HI := Lib.hid hi
    have hi2 : i < 4294967296 := by omega
    clear hi
    go_enter Try.func17, Try.ntmps17
    go_wp2
    go_ret
    exact ⟨i, hi2, ret_int HI.out, (Below.refl _ _).alloc (Nat.le_refl _) _⟩

def PlayRel (I : Impl) (w : World) (n m : Nat) (p i : Value) (wr : World) : Prop :=
  ∃ (k : Nat) (σ : St), k ≤ m ∧ i = .int .i64 (k : Int) ∧ Has I w.heap.size wr p σ ∧ σ.cap = n ∧ Below w.heap.size w wr
def PlayPost (I : Impl) (w : World) (n : Nat) (e : Ending) (w' : World) : Prop :=
  ∃ (a : Addr) (σ : St), e = .returned (.pointer (some a)) ∧ Has I w.heap.size w' (.pointer (some a)) σ ∧ σ.cap = n ∧ Below w.heap.size w w'
theorem not_full {I : Impl} {B : Nat} {w : World} {p : Value} {σ : St} (h : Has I B w p σ) : σ.free = [] ∨ ∃ i t, σ.free = i :: t := by
  cases σ.free with
  | nil => exact .inl rfl
  | cons i t => exact .inr ⟨i, t, rfl⟩
/-- Alloc, whatever becomes of it -/
theorem alloc_has (I : Impl) {B : Nat} {w0 w : World} {p : Value} {σ : St} (h : Has I B w p σ) (hb : Below B w0 w) (hB : B ≤ w.heap.size) :
    Calls Try.prog 20 #[p] w fun e w' => ∃ (i x : Int) (σ' : St), e = .returned (.tuple #[.int .u32 i, .int .i64 x]) ∧ Has I B w' p σ' ∧ σ'.cap = σ.cap ∧ Below B w0 w' := by
  rcases not_full h with hf | ⟨i, t, hf⟩
  · exact (full_has I h hf hb hB).mono fun e w1 ⟨h1, h2, h3, _⟩ => ⟨_, _, σ, h1, h2, rfl, h3⟩
  · exact (take_has I h hf hb hB).mono fun e w1 ⟨h1, h2, h3, _⟩ => ⟨_, _, _, h1, h2, rfl, h3⟩
set_option maxHeartbeats 1000000 in
set_option maxRecDepth 100000 in
theorem play_any (I : Impl) (a : Option Addr) (n m cap : Nat) (w : World) (hl : CallsIn w a m) (hc : m ≤ cap) (hm : cap ≤ maxLen) (h1 : 1 ≤ n) (h2 : n ≤ 65536) :
    Calls Try.prog 26 #[.int .i64 (n : Int), .slice a m cap] w (PlayPost I w n) := by
  have HL := Lib.hid hl
  unfold maxLen at hm
  clear hl
  go_enter Try.func26, Try.ntmps26
  go_wp2_with fail
  refine (new_has I n n _ h1 h2 rfl).mono ?_
  rintro e w1 ⟨pa, rfl, h, hb⟩
  go_wp2
  go_loopw [7] (fun i wr => PlayRel I w n m (.pointer (some pa)) i wr) (fun i _ => m - (intOf i).toNat)
  case atStart => exact ⟨0, _, Nat.zero_le _, rfl, h, rfl, hb⟩
  case round =>
    clear h hb
    obtain ⟨k, σ, hk, rfl, h, hcap, hb⟩ := hrel
    have HCAP := Lib.hid hcap
    clear hcap
    by_cases hin : k < m ∧ k < 200
    · obtain ⟨hlt, hlt2⟩ := hin
      obtain ⟨b, off, o, u, rfl, hbb, hc1, hc2, hu⟩ := (HL.out.below hb) k hlt
      have hki : (k : Int) < (m : Int) := by omega
      have hki2 : (k : Int) < 200 := by omega
      cases o with
      | true =>
        go_wp2_with fail
        refine (at_any true u n _ hu h2).mono ?_
        rintro e w2 ⟨i, hi, rfl, hb1⟩
        have h3 := h.below hb1
        have hb2 := hb.trans (hb1.mono hb.size)
        clear h hb hb1 hc1 hc2
        go_wp2_with fail
        refine (release_has I h3 hi rfl hb2 hb2.size).mono ?_
        rintro e w3 ⟨rfl, h4, hb3, _⟩
        clear h3 hb2
        go_wp2
        refine ⟨⟨k + 1, _, by omega, by go_num, h4, ?_, hb3⟩, by simp [intOf]; omega⟩
        rw [← HCAP.out]
        split <;> rfl
      | false =>
        go_wp2_with fail
        refine (alloc_has I h hb hb.size).mono ?_
        rintro e w2 ⟨i, x, σ2, rfl, h2', hcap2, hb2⟩
        clear h hb
        go_wp2
        exact ⟨⟨k + 1, σ2, by omega, by go_num, h2', hcap2.trans HCAP.out, hb2⟩, by simp [intOf]; omega⟩
    · by_cases hlt : k < m
      · have hki : (k : Int) < (m : Int) := by omega
        have hki2 : (200 : Int) ≤ (k : Int) := by omega
        clear hin
        go_wp2
        go_ret
        exact ⟨pa, σ, rfl, h, HCAP.out, hb⟩
      · have hki : (m : Int) ≤ (k : Int) := by omega
        clear hin
        go_wp2
        go_ret
        exact ⟨pa, σ, rfl, h, HCAP.out, hb⟩
end Go.Proofs.Ytfemdclfplgbfaa
