/- Handles over the plain state of an allocator: how many are open, which number is one, and that no two are the same. -/
import Derived.Test.YtnikbnbmbifcjaaSlotsCon
set_option linter.unusedVariables false
namespace Go.Proofs.Ytnikbnbmbifcjaa

/-- the handle of entry i -/
def St.hd (σ : St) (i : Nat) : Int := σ.gen i * 4294967296 + (i : Int)
/-- the entries that are open, ascending -/
def St.opened (σ : St) : List Nat := (List.range' 1 σ.cap).filter σ.on
theorem mem_opened {σ : St} (h : σ.Ok) (i : Nat) : i ∈ σ.opened ↔ σ.on i = true := by
  unfold St.opened
  rw [List.mem_filter, List.mem_range'_1]
  constructor
  · exact fun h1 => h1.2
  · intro h1
    have := h.on i h1
    exact ⟨by omega, h1⟩
theorem filter_parts (p : Nat → Bool) : ∀ l : List Nat, (l.filter p).length + (l.filter fun i => !p i).length = l.length
  | [] => rfl
  | a :: l => by
    have := filter_parts p l
    cases h : p a <;> simp [h] <;> omega
theorem perm_len {l m : List Nat} (h1 : l.Nodup) (h2 : m.Nodup) (h : ∀ i, i ∈ l ↔ i ∈ m) : l.length = m.length := ((List.perm_ext_iff_of_nodup h1 h2).2 h).length_eq
theorem opened_len {σ : St} (h : σ.Ok) : σ.opened.length + σ.free.length = σ.cap := by
  have h1 := filter_parts σ.on (List.range' 1 σ.cap)
  have h2 : ((List.range' 1 σ.cap).filter fun i => !σ.on i).length = σ.free.length := by
    refine perm_len (List.Pairwise.filter _ List.nodup_range') h.nodup fun i => ?_
    rw [List.mem_filter, List.mem_range'_1, h.free i]
    constructor
    · rintro ⟨h3, h4⟩
      exact ⟨h3.1, by omega, by simpa using h4⟩
    · rintro ⟨h3, h4, h5⟩
      exact ⟨⟨h3, by omega⟩, by simpa using h5⟩
  rw [h2, List.length_range'] at h1
  exact h1
theorem hd_inj {σ τ : St} {i j : Nat} (hi : i < 4294967296) (hj : j < 4294967296) (h : σ.hd i = τ.hd j) : i = j ∧ σ.gen i = τ.gen j := by
  unfold St.hd at h
  omega
/-- the entry that a number names, 0 if it is no open handle -/
def St.ent (σ : St) (h : Int) : Nat := if σ.on (h % 4294967296).toNat = true ∧ σ.gen (h % 4294967296).toNat = h / 4294967296 then (h % 4294967296).toNat else 0
theorem hd_parts {σ : St} (hok : σ.Ok) {i : Nat} (hi : i < 4294967296) : (σ.hd i % 4294967296).toNat = i ∧ σ.hd i / 4294967296 = σ.gen i := by
  unfold St.hd
  have := hok.gen i
  omega
theorem ent_hd {σ : St} (hok : σ.Ok) {i : Nat} (h : σ.on i = true) : σ.ent (σ.hd i) = i := by
  have h1 := hok.on i h
  have h2 := hok.cap2
  obtain ⟨h3, h4⟩ := hd_parts hok (i := i) (by omega)
  unfold St.ent
  rw [h3, h4, if_pos ⟨h, rfl⟩]
theorem ent_pos {σ : St} (hok : σ.Ok) {h : Int} (h0 : 0 ≤ h) (he : σ.ent h ≠ 0) : σ.on (σ.ent h) = true ∧ h = σ.hd (σ.ent h) := by
  unfold St.ent at he ⊢
  split at he
  · rename_i hc
    rw [if_pos hc]
    refine ⟨hc.1, ?_⟩
    unfold St.hd
    rw [hc.2]
    omega
  · exact absurd rfl he
/-- a number is accepted exactly if it is among the handles -/
theorem ent_iff {σ : St} (hok : σ.Ok) {h : Int} (h0 : 0 ≤ h) : σ.ent h ≠ 0 ↔ h ∈ σ.opened.map σ.hd := by
  rw [List.mem_map]
  constructor
  · intro he
    obtain ⟨h1, h2⟩ := ent_pos hok h0 he
    exact ⟨_, (mem_opened hok _).2 h1, h2.symm⟩
  · rintro ⟨i, hi, rfl⟩
    have h1 := (mem_opened hok i).1 hi
    rw [ent_hd hok h1]
    have := hok.on i h1
    omega
theorem hd_pos {σ : St} (hok : σ.Ok) {i : Nat} (h : σ.on i = true) : 0 < σ.hd i := by
  unfold St.hd
  have := hok.on i h
  have := hok.gen i
  omega
/-- what was issued: all different, each of an entry with a generation that was reached; no generation beyond the number of calls -/
structure Issued (σ : St) (N : Nat) (l : List Int) : Prop where
  nodup : l.Nodup
  each : ∀ h ∈ l, ∃ (i : Nat) (g : Int), 1 ≤ i ∧ i ≤ σ.cap ∧ 1 ≤ g ∧ g ≤ σ.gen i ∧ h = g * 4294967296 + (i : Int)
  gen : ∀ i, σ.gen i ≤ (N : Int)
theorem Issued.start (n : Nat) : Issued (St.init n) 0 [] := ⟨List.nodup_nil, fun h hh => by simp at hh, fun i => by simp [St.init]⟩
theorem Issued.put {σ : St} {N i : Nat} {l : List Int} (h : Issued σ N l) : Issued (σ.put i) N l := ⟨h.nodup, h.each, h.gen⟩
theorem Issued.more {σ : St} {N M : Nat} {l : List Int} (h : Issued σ N l) (hm : N ≤ M) : Issued σ M l := ⟨h.nodup, h.each, fun i => by have := h.gen i; omega⟩
theorem Issued.take {σ : St} {N i : Nat} {l : List Int} {t : List Nat} (h : Issued σ N l) (hok : σ.Ok) (hf : σ.free = i :: t) (hN : N < 4294967295) : Issued (σ.take i t) (N + 1) (l ++ [(σ.take i t).hd i]) := by
  have hg : (σ.take i t).gen i = σ.gen i + 1 := by
    have h1 := h.gen i
    have h2 := hok.gen i
    simp [St.take]
    omega
  have him := (hok.free i).1 (by rw [hf]; simp)
  have hcap := hok.cap2
  have hle : ∀ j, σ.gen j ≤ (σ.take i t).gen j := fun j => by
    by_cases e : j = i
    · subst e; omega
    · simp [St.take, e]
  refine ⟨?_, ?_, fun j => ?_⟩
  · rw [List.nodup_append]
    refine ⟨h.nodup, by simp, fun a ha b hb e => ?_⟩
    simp at hb
    obtain ⟨j, g, h1, h2, h3, h4, h5⟩ := h.each a ha
    subst e
    rw [hb] at h5
    unfold St.hd at h5
    rw [hg] at h5
    have hj : i = j := by omega
    subst hj
    omega
  · intro a ha
    rw [List.mem_append] at ha
    rcases ha with ha | ha
    · obtain ⟨j, g, h1, h2, h3, h4, h5⟩ := h.each a ha
      exact ⟨j, g, h1, h2, h3, Int.le_trans h4 (hle j), h5⟩
    · simp at ha
      have := hok.gen i
      exact ⟨i, σ.gen i + 1, him.1, him.2.1, by omega, by omega, by rw [ha]; unfold St.hd; rw [hg]⟩
  · have h1 := h.gen j
    by_cases e : j = i
    · subst e; omega
    · simp [St.take, e]; omega
end Go.Proofs.Ytnikbnbmbifcjaa
