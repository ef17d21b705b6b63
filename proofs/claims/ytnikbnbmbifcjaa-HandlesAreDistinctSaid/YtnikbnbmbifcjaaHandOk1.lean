/- The program's table of handles: what lies in memory, and its queries. -/
import Derived.Test.YtnikbnbmbifcjaaHandLaw
import Derived.Test.YtnikbnbmbifcjaaPacks2
import Derived.Test.YtnikbnbmbifcjaaRefHand4
import Derived.Test.YtnikbnbmbifcjaaSlotsOk5
set_option linter.unusedVariables false
namespace Go.Proofs.Ytnikbnbmbifcjaa
open Go.RowKit

structure LieH (I : Impl) (w : World) (tb : Nat) (sp : Addr) (σ : St) (u : Nat → Int) (va : Option Addr) (vc : Nat) (Fs : Nat → Prop) : Prop where
  slots : I.Is w (.pointer (some sp)) σ Fs
  box : w.heap[tb]? = some (.cells #[.pointer (some sp), .slice va σ.cap vc] 66 (0, 0))
  vals : w.ownsRow 0 32 1 (.slice va σ.cap vc) σ.cap (valR σ.cap u)
  tbF : ¬ Fs tb
  vaF : ∀ k, (Value.slice va σ.cap vc).ownBlock = some k → ¬ Fs k ∧ k ≠ tb
section
variable {I : Impl} {w w' : World} {tb : Nat} {sp : Addr} {σ : St} {u : Nat → Int} {va : Option Addr} {vc : Nat} {Fs : Nat → Prop}
theorem LieH.lt (h : LieH I w tb sp σ u va vc Fs) : tb < w.heap.size := (Array.getElem?_eq_some_iff.1 h.box).1
theorem LieH.below (h : LieH I w tb sp σ u va vc Fs) (hb : Below w.heap.size w w') : LieH I w' tb sp σ u va vc Fs :=
  ⟨I.below h.slots hb, (hb.block tb h.lt).trans h.box, row_below h.vals hb, h.tbF, h.vaF⟩
theorem LieH.cells (h : LieH I w tb sp σ u va vc Fs) : w.cell? ⟨tb, 0, none⟩ = some (.pointer (some sp)) ∧ w.cell? ⟨tb, 1, none⟩ = some (.slice va σ.cap vc) := by
  refine ⟨?_, ?_⟩ <;> (rw [cell_of_row _ _ _ _ _ _ h.box]; rfl)
theorem LieH.ok (h : LieH I w tb sp σ u va vc Fs) : σ.Ok := I.ok h.slots
set_option maxHeartbeats 1000000 in
set_option maxRecDepth 100000 in
theorem h_handle (h : LieH I w tb sp σ u va vc Fs) (i : Nat) (hi : i < 4294967296) :
    Calls Try.prog 30 #[.pointer (some ⟨tb, 0, none⟩), .int .u32 (i : Int)] w (Calm w (.int .u64 (σ.hd i))) := by
  obtain ⟨hc0, hc1⟩ := h.cells
  have hg := h.ok.gen i
  go_enter Try.func30, Try.ntmps30
  go_wp2_with fail
  refine (I.generation _ σ Fs i _ h.slots hi).mono ?_
  rintro e w1 ⟨rfl, q1, rfl⟩
  have hb := below_drewN (Below.refl w.heap.size w) q1
  generalize w.drewN q1 = w1 at hb ⊢
  clear h hc0 hc1
  go_wp2_with fail
  refine (pack_any (i : Int) (σ.gen i) _ (by omega) (by omega) hg.1 hg.2).mono ?_
  rintro e w2 ⟨rfl, rfl⟩
  go_wp2
  go_ret
  exact ⟨ret_int (by unfold St.hd; rfl), hb⟩
/-- what entry returns -/
def EntV (σ : St) (n : Int) : Value := .tuple #[.int .u32 (n % 4294967296), .bool (decide (σ.ent n ≠ 0))]
set_option maxHeartbeats 1000000 in
set_option maxRecDepth 100000 in
theorem h_entry (h : LieH I w tb sp σ u va vc Fs) (n : Int) (h0 : 0 ≤ n) (h1 : n < 18446744073709551616) :
    Calls Try.prog 32 #[.pointer (some ⟨tb, 0, none⟩), .int .u64 n] w (Calm w (EntV σ n)) := by
  obtain ⟨i, hi⟩ : ∃ i : Nat, n % 4294967296 = (i : Int) := Int.eq_ofNat_of_zero_le (Int.emod_nonneg _ (by decide))
  have hi2 : i < 4294967296 := by omega
  have hin : (n % 4294967296).toNat = i := by omega
  obtain ⟨g, hg⟩ : ∃ g, n / 4294967296 = g := ⟨_, rfl⟩
  have HI := Lib.hid hi
  have HG := Lib.hid hg
  have hok := h.ok
  have HE1 : Hid (σ.on i = false → σ.ent n = 0) := fun h => ent_no (.inl (by rw [hin]; exact h))
  have HE2 : Hid (σ.gen i ≠ g → σ.ent n = 0) := fun h => ent_no (.inr (by rw [hin, hg]; exact h))
  have HE3 : Hid (σ.on i = true → σ.gen i = g → σ.ent n ≠ 0) := fun h h' => by rw [ent_on (by rw [hin]; exact h) (by rw [hin, hg]; exact h'), hin]; have := hok.on i h; omega
  have HE4 : Hid (σ.hd i = n ↔ σ.gen i = g) := by show _ ↔ _; have := hok.gen i; unfold St.hd; omega
  clear hi hin hg hok
  obtain ⟨hc0, hc1⟩ := h.cells
  go_enter Try.func32, Try.ntmps32
  go_wp2_with fail
  refine (unpack_any n _ h0 h1).mono ?_
  rintro e w1 ⟨rfl, rfl⟩
  rw [HI.out, HG.out]
  go_wp2_with fail
  refine (I.allocated _ _ _ i _ h.slots hi2).mono ?_
  rintro e w2 ⟨rfl, q2, rfl⟩
  have hb2 : Below w.heap.size w (w.drewN q2) := below_drewN (Below.refl _ _) q2
  have h2 := h.below hb2
  generalize w.drewN q2 = w2 at hb2 h2 ⊢
  clear h hc0 hc1
  obtain ⟨hc0, hc1⟩ := h2.cells
  by_cases ho : σ.on i = true
  · rw [ho]
    go_wp2_with fail
    refine (h_handle h2 i hi2).mono ?_
    rintro e w3 ⟨rfl, hb3'⟩
    have hb3 : Below w.heap.size w w3 := hb2.trans (hb3'.mono hb2.size)
    by_cases hg : σ.hd i = n
    · have HR : Hid (decide (σ.ent n ≠ 0) = true) := decide_eq_true (HE3.out ho (HE4.out.1 hg))
      rw [hg]
      have hgg : (n == n) = true := by simp
      clear hg ho h2 hc0 hc1 hb2 hb3'
      go_wp2
      go_ret2
      exact ⟨by unfold EntV; rw [HI.out, HR.out]; rfl, hb3⟩
    · have HR : Hid (decide (σ.ent n ≠ 0) = false) := decide_eq_false (fun h => h (HE2.out (fun h' => hg (HE4.out.2 h'))))
      have hgg : (σ.hd i == n) = false := by simpa using hg
      clear hg ho h2 hc0 hc1 hb2 hb3'
      go_wp2
      go_ret2
      exact ⟨by unfold EntV; rw [HI.out, HR.out]; rfl, hb3⟩
  · have ho' : σ.on i = false := by simpa using ho
    have HR : Hid (decide (σ.ent n ≠ 0) = false) := decide_eq_false (fun h => h (HE1.out ho'))
    rw [ho']
    clear ho ho' h2 hc0 hc1
    go_wp2
    go_ret2
    exact ⟨by unfold EntV; rw [HI.out, HR.out]; rfl, hb2⟩
theorem ent_mod {σ : St} {n : Int} (he : σ.ent n ≠ 0) : n % 4294967296 = (σ.ent n : Int) := by
  unfold St.ent at he ⊢
  split at he
  · rename_i hc
    rw [if_pos hc]
    omega
  · exact absurd rfl he
set_option maxHeartbeats 1000000 in
set_option maxRecDepth 100000 in
theorem h_lookup (h : LieH I w tb sp σ u va vc Fs) (n : Int) (h0 : 0 ≤ n) (h1 : n < 18446744073709551616) :
    Calls Try.prog 15 #[.pointer (some ⟨tb, 0, none⟩), .int .u64 n] w (RtLook w σ u n) := by
  go_enter Try.func15, Try.ntmps15
  go_wp2_with fail
  refine (h_entry h n h0 h1).mono ?_
  rintro e w2 ⟨rfl, hb2⟩
  unfold EntV
  by_cases he : σ.ent n = 0
  · have HE := Lib.hid he
    rw [show decide (σ.ent n ≠ 0) = false by simp [he]]
    clear he
    go_wp2
    go_ret2
    exact ⟨by show _ = Ending.returned (if σ.ent n = 0 then _ else _); rw [if_pos HE.out]; rfl, hb2⟩
  · rw [show decide (σ.ent n ≠ 0) = true by simp [he], ent_mod he]
    have hok := h.ok
    have hon := hok.on _ (ent_pos hok h0 he).1
    have hcap := hok.cap2
    have h2 := h.below hb2
    obtain ⟨hc0, hc1⟩ := h2.cells
    have HN := Lib.hid he
    obtain ⟨j, hj⟩ : ∃ j, σ.ent n = j + 1 := ⟨σ.ent n - 1, by omega⟩
    have HJ := Lib.hid hj
    rw [hj] at hon ⊢
    obtain ⟨g, rfl, hg, hc⟩ := row_cell (j := j) h2.vals (by omega)
    have hcj := hc.trans (valR_at σ.cap u j (by omega))
    generalize hU : u (j + 1) = U at hcj
    have HU := Lib.hid hU
    have hji : (j : Int) < (σ.cap : Int) := by omega
    have hj0 : (0 : Int) ≤ (j : Int) := by omega
    clear he hok hj hc hU h h2
    go_wp2
    go_ret2
    exact ⟨by show _ = Ending.returned (if σ.ent n = 0 then _ else _); rw [if_neg HN.out, HJ.out, HU.out]; rfl, hb2⟩
set_option maxHeartbeats 1000000 in
set_option maxRecDepth 100000 in
theorem h_len (h : LieH I w tb sp σ u va vc Fs) : Calls Try.prog 11 #[.pointer (some ⟨tb, 0, none⟩)] w (Calm w (.int .i64 (σ.opened.length : Int))) := by
  have hol := opened_len h.ok
  have hcap := h.ok.cap2
  have hv : Hid ((σ.cap : Int) - (σ.free.length : Int) = (σ.opened.length : Int)) := by show _ = _; omega
  have hfi : (σ.free.length : Int) ≤ (σ.cap : Int) := by omega
  have hci : (σ.cap : Int) ≤ 65536 := by omega
  obtain ⟨hc0, hc1⟩ := h.cells
  have H1 := fun q => I.capacity (.pointer (some sp)) σ Fs (w.drewN q) (I.keep h.slots fun _ _ => rfl)
  have H2 := fun q => I.freeN (.pointer (some sp)) σ Fs (w.drewN q) (I.keep h.slots fun _ _ => rfl)
  clear h hol hcap
  go_enter Try.func11, Try.ntmps11
  go_wp2
  go_quiet (first
    | (go_at_call 27; exact Calls.quiet_of (H1 _))
    | (go_at_call 28; exact Calls.quiet_of (H2 _)))
  go_wp2
  go_ret
  exact ⟨ret_int hv.out, below_drewN (Below.refl _ _) _⟩
end
end Go.Proofs.Ytnikbnbmbifcjaa
