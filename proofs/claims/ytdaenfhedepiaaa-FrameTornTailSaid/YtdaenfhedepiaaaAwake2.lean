/- The sanity check of layer frame's statements returns true. -/
import Derived.Test.YtdaenfhedepiaaaFrameOk
import Derived.BigGuardPart
import Derived.Lib.SlBytesConst
set_option linter.unusedVariables false
namespace Go.Proofs.Ytdaenfhedepiaaa
open Go.RowKit

theorem fr_a : ∃ t, fr [97] = 1 :: 97 :: t ∧ t.length = 4 := ⟨be 4 (cs 0 (hd [97])), by unfold fr hd; rw [show (([97] : List Int).length : Int) = 1 from rfl, vs_one]; rfl, be_len _ _⟩
set_option maxHeartbeats 1000000 in
theorem awake_any (w : World) : Calls Try.prog 12 #[] w fun e w' => e = .returned (.bool true) ∧ Below w.heap.size w w' := by
  have hcv := fun (w : World) (C : Array Value) (n c : Nat) => Lib.run_convert_bytes_const (P := Try.prog) w 22 5 C n c Try.underlying22 Try.underlying5
  go_enter Try.func12, Try.ntmps12
  go_wp2_with fail
  refine (append_ok none _ 0 0 1 1 [] [97] _ (Bs.nil_ _) (bs_new _ _ _ [97] rfl (Byt.one (by decide) (by decide)) 1 rfl) (by decide) (by decide)).mono ?_
  rintro e w1 ⟨h1, _, hb⟩
  obtain ⟨g, cap, rfl, hx⟩ := h1 (by decide)
  have hb1 : Below w.heap.size w w1 := ((Below.refl _ _).alloc (Nat.le_refl _) _).trans (hb.mono (by simp))
  obtain ⟨t, ht, htl⟩ := fr_a
  have hl : ([] : List Int).length + (fr [97]).length = 6 := by rw [ht]; simp [htl]
  rw [hl, List.nil_append, ht] at hx
  rw [hl]
  obtain ⟨b, off, hbo, hlt, hc⟩ := hx.at_ (by omega)
  simp only [Option.some.injEq, Addr.mk.injEq, and_true] at hbo
  obtain ⟨rfl, rfl⟩ := hbo
  have hc0 := hc 0 (by omega)
  have hc1 := hc 1 (by omega)
  simp at hc0 hc1
  clear hc hx hb h1 hl ht htl
  go_wp2_with fail
  refine (checksum_ok _ 9 9 [49, 50, 51, 52, 53, 54, 55, 56, 57] _ (bs_new _ _ _ _ rfl (by unfold Byt; simp) 9 rfl) (by decide)).mono ?_
  rintro e w2 ⟨rfl, hb2⟩
  rw [cs_check]
  have hb3 : Below w.heap.size w w2 := (hb1.alloc hb1.size _).trans (hb2.mono (by have := hb1.size; simp; omega))
  go_wp2
  go_ret
  exact ⟨rfl, hb3⟩
end Go.Proofs.Ytdaenfhedepiaaa
