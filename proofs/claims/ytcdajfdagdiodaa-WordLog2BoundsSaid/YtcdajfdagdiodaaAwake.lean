/- The sanity check of layer word's statements returns true: the chapter's examples hold. It makes memory of its own, and writes nothing that was there. -/
import Derived.Test.YtcdajfdagdiodaaCmp
import Derived.BigGuardPart
set_option linter.unusedVariables false
namespace Go.Proofs.Ytcdajfdagdiodaa
open Go.RowKit

theorem vs300 : vs 9 300 = [172, 2] := by decide
set_option maxHeartbeats 1000000 in
theorem awake_any (w : World) : Calls Try.prog 14 #[] w fun e w' => e = .returned (.bool true) ∧ Below w.heap.size w w' := by
  go_enter Try.func14, Try.ntmps14
  go_wp2_with (go_at_call 19; refine (appendUvarint_any none 0 0 [] 300 _ (Bs.nil_ _) (by decide) (by decide) (by decide)).mono ?_; rintro e w1 ⟨rfl, hown, hb⟩)
  rw [vs300] at hown ⊢
  simp only [List.length_cons, List.length_nil, List.nil_append, Nat.zero_add] at hown ⊢
  have hbs := Bs.own hown (by unfold Byt; simp)
  obtain ⟨b, off, hbo, hlt, hc⟩ := hbs.at_ (by omega)
  simp only [Option.some.injEq, Addr.mk.injEq, and_true] at hbo
  obtain ⟨rfl, rfl⟩ := hbo
  have hc0 := hc 0 (by omega)
  have hc1 := hc 1 (by omega)
  simp at hc0 hc1
  clear hc hown hbs
  refine (zigzag_any (-3) _ (by decide) (by decide)).mono ?_
  rintro e w2 ⟨rfl, rfl⟩
  rw [show zz (-3) = 5 by decide]
  go_wp2_with fail
  refine (pack_any 1 1 _ (by decide) (by decide) (by decide) (by decide)).mono ?_
  rintro e w2 ⟨rfl, rfl⟩
  rw [show (1 : Int) * 4294967296 + 1 = 4294967297 by decide]
  go_wp2_with fail
  refine (log2_any 8 _ (by decide) (by decide)).mono ?_
  rintro e w2 ⟨n, hn, rfl, rfl⟩
  obtain rfl := log_eight hn
  clear hn
  go_wp2_with fail
  refine (appendKey_any none 0 0 [] 0 _ (Bs.nil_ _) (by decide) (by decide) (by decide)).mono ?_
  rintro e w2 ⟨rfl, hown2, hb2⟩
  have hb3 : Below w.heap.size w w2 := hb.trans (hb2.mono hb.size)
  clear hown2 hb2 hb
  go_wp2
  go_ret
  exact ⟨rfl, hb3⟩
end Go.Proofs.Ytcdajfdagdiodaa
