/- The program's arena keeps what is asked. -/
import Derived.Test.YticfihklfnjeoaaArOk9
set_option linter.unusedVariables false
namespace Go.Proofs.Yticfihklfnjeoaa
open Go.RowKit
def IsA (I : Impl) (w : World) (p : Value) (A : Ar) (rd : Int) (F : Nat → Prop) : Prop :=
  ∃ (ab : Nat) (sp : Addr) (g cc : Nat) (Fs : Nat → Prop), p = .pointer (some ⟨ab, 0, none⟩) ∧ LieA I w ab sp A rd (some ⟨g, 0, none⟩) cc Fs ∧ ∀ k, F k ↔ FootA ab (some ⟨g, 0, none⟩) Fs k
def arenaImpl : AImpl where
  Is := IsA slotsImpl
  dom := fun h k hk => by
    obtain ⟨ab, sp, g, cc, Fs, rfl, hl, hF⟩ := h
    exact hl.dom k ((hF k).1 hk)
  keep := fun h hk => by
    obtain ⟨ab, sp, g, cc, Fs, rfl, hl, hF⟩ := h
    exact ⟨ab, sp, g, cc, Fs, rfl, hl.keep fun k h1 => hk k ((hF k).2 h1), hF⟩
  ok := fun h => by
    obtain ⟨ab, sp, g, cc, Fs, rfl, hl, hF⟩ := h
    exact hl.ok
  ptr := fun h => by
    obtain ⟨ab, sp, g, cc, Fs, rfl, hl, hF⟩ := h
    exact ⟨_, rfl⟩
  new_ok := fun n w h1 h2 => (a_new slotsImpl n w h1 h2).mono fun e w1 ⟨ab, sp, g, Fs, he, hl, hf, hb⟩ => ⟨_, FootA ab (some ⟨g, 0, none⟩) Fs, he, ⟨ab, sp, g, n, Fs, rfl, hl, fun k => Iff.rfl⟩, hf, hb⟩
  new_bad := a_new_bad slotsImpl
  make := fun p A rd F key val l r held w h hi ha hm h1 h2 h3 h4 h5 h6 => by
    obtain ⟨ab, sp, g, cc, Fs, rfl, hl, hF⟩ := h
    obtain rfl : F = FootA ab (some ⟨g, 0, none⟩) Fs := funext fun k => propext (hF k)
    refine (a_make hl ha key val l r h5 h6 h3 h4 (fun i hon => cnt_le hi hm hon)).mono ?_
    rintro e w1 ⟨Fs', hal, g1, g2, g3⟩
    refine ⟨FootA ab (some ⟨g, 0, none⟩) Fs', hal, fun hh => ?_, fun hh hf => ?_, fun hh i t hf => ?_⟩
    · exact ⟨(g1 hh).1, ab, sp, g, cc, Fs', rfl, (g1 hh).2, fun k => Iff.rfl⟩
    · exact ⟨(g2 hh hf).1, ab, sp, g, cc, Fs', rfl, (g2 hh hf).2, fun k => Iff.rfl⟩
    · exact ⟨(g3 hh i t hf).1, ab, sp, g, cc, Fs', rfl, (g3 hh i t hf).2, fun k => Iff.rfl⟩
  node := fun p A rd F i w h h0 h1 hi => by
    obtain ⟨ab, sp, g, cc, Fs, rfl, hl, hF⟩ := h
    obtain rfl : F = FootA ab (some ⟨g, 0, none⟩) Fs := funext fun k => propext (hF k)
    refine (a_node hl i hi h0 h1).mono ?_
    rintro e w1 ⟨rfl, h2, hal⟩
    refine ⟨FootA ab (some ⟨g, 0, none⟩) Fs, hal, fun ho => ?_, fun ho => ?_⟩
    · rw [ho, if_neg (by simp)] at h2
      exact ⟨by rw [ho, (hl.off i ho).2]; rfl, ab, sp, g, cc, Fs, rfl, h2, fun k => Iff.rfl⟩
    · rw [if_pos ho] at h2
      exact ⟨by rw [ho]; rfl, ab, sp, g, cc, Fs, rfl, h2, fun k => Iff.rfl⟩
  release := fun p A rd F i held w h hi hinv => by
    obtain ⟨ab, sp, g, cc, Fs, rfl, hl, hF⟩ := h
    obtain rfl : F = FootA ab (some ⟨g, 0, none⟩) Fs := funext fun k => propext (hF k)
    by_cases hx : A.Idx i
    · refine (a_release hl i hi hx (hinv hx)).mono ?_
      rintro e w1 ⟨Fs', hal, rfl, h2⟩
      exact ⟨FootA ab (some ⟨g, 0, none⟩) Fs', hal, fun h => absurd hx h, fun _ => ⟨rfl, ab, sp, g, cc, Fs', rfl, h2, fun k => Iff.rfl⟩⟩
    · refine (a_release_bad hl i hi hx).mono ?_
      rintro e w1 ⟨rfl, hb⟩
      exact ⟨FootA ab (some ⟨g, 0, none⟩) Fs, .of_below hb, fun _ => ⟨rfl, ab, sp, g, cc, Fs, rfl, hl.below hb, fun k => Iff.rfl⟩, fun h => absurd h hx⟩
  freeN := fun p A rd F w h => by
    obtain ⟨ab, sp, g, cc, Fs, rfl, hl, hF⟩ := h
    exact a_free hl
  capacity := fun p A rd F w h => by
    obtain ⟨ab, sp, g, cc, Fs, rfl, hl, hF⟩ := h
    exact a_capacity hl
  dump := fun p A rd F w h => by
    obtain ⟨ab, sp, g, cc, Fs, rfl, hl, hF⟩ := h
    exact a_dump hl
end Go.Proofs.Yticfihklfnjeoaa
