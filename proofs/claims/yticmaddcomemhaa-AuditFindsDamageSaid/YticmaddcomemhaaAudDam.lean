/- A dump without findings has findings when it is damaged. No program is spoken of. -/
import Derived.Test.YticmaddcomemhaaChk
set_option linter.unusedVariables false
namespace Go.Proofs.Yticmaddcomemhaa
theorem opt_nil {b : Bool} {f : Fd} (h : opt b f = []) : b = false := by
  unfold opt at h
  cases b with
  | false => rfl
  | true => simp at h
section
variable {S S' : Nat → Sl} {n : Nat} {fr fr' rs rs' : List Nat} {R R' : Nat → Bool} {i : Nat}
theorem chk1_nil (h : chk S n fr rs R = []) (hi : i < n) : chk1 S n fr rs R i = [] := by
  unfold chk at h
  have h1 := (List.append_eq_nil_iff.1 h).1
  unfold chks at h1
  exact List.flatMap_eq_nil_iff.1 h1 i (List.mem_range.2 hi)
theorem chk1_parts (h : chk1 S n fr rs R i = []) : ((fr.count (i + 1) : Nat) : Int) = wantFree S i ∧ ((S i).on = true → szF S n i 2 = (S i).nd.size) ∧ wantCount S n rs i = (S i).cnt ∧ ((S i).on = true → R i = true) := by
  unfold chk1 at h
  obtain ⟨h1, h2⟩ := List.append_eq_nil_iff.1 h
  obtain ⟨h3, h4⟩ := List.append_eq_nil_iff.1 h2
  obtain ⟨h5, h6⟩ := List.append_eq_nil_iff.1 h4
  have e1 := opt_nil h1
  have e2 := opt_nil h5
  have e3 := opt_nil h6
  refine ⟨by simpa using e1, fun hon => ?_, by simpa using e2, fun hon => by simpa [hon] using e3⟩
  rw [if_pos hon] at h3
  have e4 := opt_nil (List.append_eq_nil_iff.1 h3).2
  simpa using e4
/-- the count of slot i was changed -/
theorem dam_count (h : chk S n fr rs R = []) (hi : i < n) {b : Int} (hb : b ≠ 0) (hon : ∀ j, (S' j).on = (S j).on) (hkd : ∀ j, (S' j).nd = (S j).nd) (hc : (S' i).cnt = (S i).cnt + b) : chk S' n fr rs R' ≠ [] := fun h' => by
  have h1 := (chk1_parts (chk1_nil h hi)).2.2.1
  have h2 := (chk1_parts (chk1_nil h' hi)).2.2.1
  have h3 : wantCount S' n rs i = wantCount S n rs i := by
    unfold wantCount
    rw [hon i]
    have e : eg S' n (i + 1) = eg S n (i + 1) := by
      unfold eg
      congr 1
      refine List.map_congr_left fun m _ => ?_
      unfold ph kd
      rw [hon m, hkd m]
    rw [e]
  omega
/-- the Size of an allocated slot that is no child of its own was changed -/
theorem dam_size (h : chk S n fr rs R = []) (hi : i < n) {x : Int} (hx : x ≠ (S i).nd.size) (hon : ∀ j, (S' j).on = (S j).on) (hkd : ∀ j, (S' j).nd.left = (S j).nd.left ∧ (S' j).nd.right = (S j).nd.right) (hsz : ∀ j, j ≠ i → (S' j).nd.size = (S j).nd.size) (hs : (S' i).nd.size = x) (ho : (S i).on = true)
    (hl : (S i).nd.left ≠ i + 1) (hr : (S i).nd.right ≠ i + 1) : chk S' n fr rs R' ≠ [] := fun h' => by
  have h1 := (chk1_parts (chk1_nil h hi)).2.1 ho
  have h2 := (chk1_parts (chk1_nil h' hi)).2.1 (by rw [hon]; exact ho)
  have hk : ∀ t, kd (S' i) t = kd (S i) t := fun t => by
    unfold kd
    split
    · exact (hkd i).1
    · exact (hkd i).2
  have hk2 : ∀ t, t < 2 → kd (S i) t ≠ i + 1 := fun t ht => by
    unfold kd
    split
    · exact hl
    · exact hr
  have hal : ∀ y, Al S' n y ↔ Al S n y := fun y => by unfold Al; rw [hon]
  have key : ∀ t, t ≤ 2 → szF S' n i t = szF S n i t := by
    intro t
    induction t with
    | zero => intro _; rfl
    | succ t ih =>
      intro ht
      have ih' := ih (by omega)
      unfold szF
      rw [hk t, ih']
      by_cases ha : Al S n (kd (S i) t)
      · rw [if_pos ha, if_pos ((hal _).2 ha)]
        have h5 := hk2 t (by omega)
        unfold Al at ha
        rw [hsz (kd (S i) t - 1) (by omega)]
      · rw [if_neg ha, if_neg (fun h => ha ((hal _).1 h))]
  rw [key 2 (by omega), h1] at h2
  exact hx (h2.trans hs).symm
/-- the mark of slot i was changed -/
theorem dam_mark (h : chk S n fr rs R = []) (hi : i < n) (hm : (S' i).on = !(S i).on) : chk S' n fr rs R' ≠ [] := fun h' => by
  have h1 := (chk1_parts (chk1_nil h hi)).1
  have h2 := (chk1_parts (chk1_nil h' hi)).1
  rw [h1] at h2
  unfold wantFree at h2
  rw [hm] at h2
  cases hq : (S i).on with
  | false => rw [hq] at h2; simp at h2
  | true => rw [hq] at h2; simp at h2
/-- the list of free slots has another number of slot i + 1 -/
theorem dam_free (h : chk S n fr rs R = []) (hi : i < n) (hc : fr'.count (i + 1) ≠ fr.count (i + 1)) : chk S n fr' rs' R' ≠ [] := fun h' => by
  have h1 := (chk1_parts (chk1_nil h hi)).1
  have h2 := (chk1_parts (chk1_nil h' hi)).1
  omega
/-- the callers' references have another number of slot i + 1: the finding is there -/
theorem dam_root (h : chk S n fr rs R = []) (hi : i < n) (ho : (S i).on = true) (hc : rs'.count (i + 1) ≠ rs.count (i + 1)) : ∃ f ∈ chk S n fr rs' R', f.kind = 4 ∧ f.slot = i + 1 := by
  have h1 := (chk1_parts (chk1_nil h hi)).2.2.1
  have h2 : (wantCount S n rs' i != (S i).cnt) = true := by
    rw [← h1]
    unfold wantCount
    rw [if_pos ho, if_pos ho]
    exact bne_iff_ne.2 (by omega)
  refine ⟨⟨4, i + 1, wantCount S n rs' i, (S i).cnt⟩, ?_, rfl, rfl⟩
  unfold chk
  refine List.mem_append_left _ ?_
  unfold chks
  refine List.mem_flatMap.2 ⟨i, List.mem_range.2 hi, ?_⟩
  unfold chk1
  refine List.mem_append_right _ (List.mem_append_right _ (List.mem_append_left _ ?_))
  unfold F4 opt
  rw [if_pos h2]
  exact List.mem_singleton.2 rfl
end
end Go.Proofs.Yticmaddcomemhaa
