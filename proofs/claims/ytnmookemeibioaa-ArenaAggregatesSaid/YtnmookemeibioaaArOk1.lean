/- The program's arena: the address of a slot's cells, its queries, a reference more. -/
import Derived.Test.YtnmookemeibioaaArOk0
set_option linter.unusedVariables false
namespace Go.Proofs.Ytnmookemeibioaa
open Go.RowKit
def Ar.putC (A : Ar) (i : Nat) (x : Int) : Ar := ⟨A.σ, A.nd, fun j => if j = i then x else A.cnt j⟩
theorem cels_putC (A : Ar) {j : Nat} (x : Int) (hj : j < A.σ.cap) : (celsV A).set (j * 9 + 8) (.int .i64 x) = celsV (A.putC (j + 1) x) := by
  refine cels_ext (A := A.putC (j + 1) x) (by rw [List.length_set, cels_len]; rfl) fun i k hi hk => ?_
  have hi' : i < A.σ.cap := hi
  rw [List.getElem?_set]
  by_cases e : j * 9 + 8 = i * 9 + k
  · have e1 : i = j := by omega
    have e2 : k = 8 := by omega
    subst e1 e2
    rw [if_pos rfl, if_pos (by rw [cels_len]; omega)]
    show _ = some (Value.int IntKind.i64 (if i + 1 = i + 1 then x else A.cnt (i + 1)))
    rw [if_pos rfl]
  · rw [if_neg e, cels_at A hi' hk]
    unfold celV
    by_cases e1 : i = j
    · subst e1
      have hk8 : k < 8 := by omega
      rw [List.getElem?_append_left (by simpa [ndV] using hk8), List.getElem?_append_left (by simpa [ndV] using hk8)]
      rfl
    · show _ = (ndV (A.nd (i + 1)) ++ [Value.int IntKind.i64 (if i + 1 = j + 1 then x else A.cnt (i + 1))])[k]?
      rw [if_neg (by omega)]
section
variable {I : Impl} {w w' : World} {ab : Nat} {sp : Addr} {A A' : Ar} {rd : Int} {ca : Option Addr} {cc g : Nat} {Fs Fs' : Nat → Prop}
theorem LieA.putC (h : LieA I w ab sp A rd (some ⟨g, 0, none⟩) cc Fs) {j : Nat} (hj : A.σ.on (j + 1) = true) (x : Int) (hx : 0 ≤ x ∧ x ≤ 9223372036854775807) :
    LieA I (w.setCell ⟨g, j * 9 + 8, none⟩ (.int .i64 x)) ab sp (A.putC (j + 1) x) rd (some ⟨g, 0, none⟩) cc Fs ∧ Alters (FootA ab (some ⟨g, 0, none⟩) Fs) (FootA ab (some ⟨g, 0, none⟩) Fs) w (w.setCell ⟨g, j * 9 + 8, none⟩ (.int .i64 x)) := by
  obtain ⟨h1, h2⟩ := h.raw.set (j * 9 + 8) (.int .i64 x)
  have hjc := h.ok.on _ hj
  refine ⟨h1.lie rfl (cels_putC A x (by omega)) (fun i hi => ?_) (fun i => ?_), h2⟩
  rotate_left
  · show 0 ≤ (if i = j + 1 then x else A.cnt i) ∧ (if i = j + 1 then x else A.cnt i) ≤ 9223372036854775807
    split
    · exact hx
    · exact h.fit i
  have hi' : A.σ.on i = false := hi
  have hne : i ≠ j + 1 := fun e => by subst e; rw [hj] at hi'; cases hi'
  show (if i = j + 1 then x else A.cnt i) = 0 ∧ _
  rw [if_neg hne]
  exact h.off i hi'
set_option maxHeartbeats 1000000 in
set_option maxRecDepth 100000 in
theorem a_cell_on (h : LieA I w ab sp A rd (some ⟨g, 0, none⟩) cc Fs) (j : Nat) (hj : A.σ.on (j + 1) = true) :
    Calls Try.prog 55 #[.pointer (some ⟨ab, 0, none⟩), .int .u32 ((j : Int) + 1)] w (Quiet w (.pointer (some ⟨g, j * 9, none⟩))) := by
  obtain ⟨c0, c1, c2⟩ := h.cells
  have hjc := h.ok.on _ hj
  have hcap := h.ok.cap2
  have hji : (j : Int) < (A.σ.cap : Int) := by omega
  have hj0 : (0 : Int) ≤ (j : Int) := by omega
  have hj4 : (j : Int) + 1 < 4294967296 := by omega
  have HA := Lib.hid (I.allocated _ _ _ (j + 1) _ h.slots (by omega))
  clear h hjc hcap
  go_enter Try.func55, Try.ntmps55
  go_wp2_with fail
  refine HA.out.mono ?_
  rintro e w1 ⟨rfl, q, rfl⟩
  rw [hj]
  have d1 : (w.drewN q).cell? ⟨ab, 1, none⟩ = some (.slice (some ⟨g, 0, none⟩) A.σ.cap cc) := c1
  generalize hW : w.drewN q = w1 at d1 ⊢
  have HW := Lib.hid hW
  clear hW c0 c1 c2 hj HA
  go_wp2_with fail
  go_ret
  exact ⟨rfl, q, HW.out.symm⟩
set_option maxHeartbeats 1000000 in
set_option maxRecDepth 100000 in
theorem a_cell_off (h : LieA I w ab sp A rd ca cc Fs) (i : Nat) (hi : i < 4294967296) (ho : A.σ.on i = false) :
    Calls Try.prog 55 #[.pointer (some ⟨ab, 0, none⟩), .int .u32 (i : Int)] w (Quiet w (.pointer none)) := by
  obtain ⟨c0, c1, c2⟩ := h.cells
  have HA := Lib.hid (I.allocated _ _ _ i _ h.slots hi)
  clear h
  go_enter Try.func55, Try.ntmps55
  go_wp2_with fail
  refine HA.out.mono ?_
  rintro e w1 ⟨rfl, q, rfl⟩
  rw [ho]
  clear HA c0 c1 c2 ho
  go_wp2_with fail
  go_ret
  exact ⟨rfl, q, rfl⟩
set_option maxHeartbeats 1000000 in
set_option maxRecDepth 100000 in
theorem a_isIndex (h : LieA I w ab sp A rd ca cc Fs) (i : Nat) (hi : i < 4294967296) :
    Calls Try.prog 49 #[.pointer (some ⟨ab, 0, none⟩), .int .u32 (i : Int)] w (Quiet w (.bool (decide (i = 0) || A.σ.on i))) := by
  obtain ⟨c0, c1, c2⟩ := h.cells
  by_cases h0 : i = 0
  · subst h0
    clear h
    rw [show (decide (0 = 0) || A.σ.on 0) = true by simp]
    go_enter Try.func49, Try.ntmps49
    go_wp2
    go_ret
    exact ⟨rfl, 0, rfl⟩
  · have hi0 : ((i : Int) == 0) = false := beq_eq_false_iff_ne.2 (by omega)
    have HA := Lib.hid (I.allocated _ _ _ i _ h.slots hi)
    rw [show (decide (i = 0) || A.σ.on i) = A.σ.on i by simp [h0]]
    clear h h0
    go_enter Try.func49, Try.ntmps49
    go_wp2_with fail
    refine HA.out.mono ?_
    rintro e w2 ⟨rfl, q, rfl⟩
    clear c0 c1 c2 HA
    go_wp2_with fail
    go_ret
    exact ⟨rfl, q, rfl⟩
set_option maxHeartbeats 1000000 in
set_option maxRecDepth 100000 in
theorem a_addRef_off (h : LieA I w ab sp A rd ca cc Fs) (i : Nat) (hi : i < 4294967296) (ho : A.σ.on i = false) :
    Calls Try.prog 50 #[.pointer (some ⟨ab, 0, none⟩), .int .u32 (i : Int)] w (fun e w' => (∃ v, e = .returned v) ∧ Below w.heap.size w w') := by
  have HA := Lib.hid (a_cell_off h i hi ho)
  clear h ho
  go_enter Try.func50, Try.ntmps50
  go_wp2_with fail
  refine HA.out.mono ?_
  rintro e w2 ⟨rfl, q, rfl⟩
  clear HA
  go_wp2_with fail
  go_end0
  exact ⟨⟨_, rfl⟩, below_drewN (Below.refl _ _) _⟩
set_option maxHeartbeats 1000000 in
set_option maxRecDepth 100000 in
theorem a_addRef (h : LieA I w ab sp A rd (some ⟨g, 0, none⟩) cc Fs) (j : Nat) (hj : A.σ.on (j + 1) = true) (hc : A.cnt (j + 1) < 4611686018427387904) :
    Calls Try.prog 50 #[.pointer (some ⟨ab, 0, none⟩), .int .u32 ((j : Int) + 1)] w (fun e w' => (∃ v, e = .returned v) ∧ LieA I w' ab sp (A.inc (j + 1)) rd (some ⟨g, 0, none⟩) cc Fs ∧ Alters (FootA ab (some ⟨g, 0, none⟩) Fs) (FootA ab (some ⟨g, 0, none⟩) Fs) w w') := by
  have HA := Lib.hid (a_cell_on h j hj)
  have HH := Lib.hid h
  have HJ := Lib.hid hj
  have hjc := h.ok.on _ hj
  have hc0 := (h.fit (j + 1)).1
  have hcap := h.ok.cap2
  have hj4 : (j : Int) + 1 < 4294967296 := by omega
  have hjl : j < A.σ.cap := by omega
  clear h hj hjc hcap
  go_enter Try.func50, Try.ntmps50
  go_wp2_with fail
  refine HA.out.mono ?_
  rintro e w2 ⟨rfl, q, rfl⟩
  have hb : Below w.heap.size w (w.drewN q) := below_drewN (Below.refl _ _) q
  have h2 := HH.out.below hb
  generalize w.drewN q = w2 at hb h2 ⊢
  have c8 := (h2.nine hjl).2.2.2.2.2.2.2.2
  have f8 := h2.cels.frozenAt (j * 9 + 8)
  obtain ⟨h3, h4⟩ := h2.putC HJ.out (A.cnt (j + 1) + 1) (by have := h2.fit (j + 1); omega)
  have H3 := Lib.hid h3
  have H4 := Lib.hid ((Alters.of_below hb).trans h4)
  clear HA h2 h3 h4 hb hjl
  generalize hC : A.cnt (j + 1) = C at c8 hc hc0 H3 H4
  have HC := Lib.hid hC
  clear hC
  go_wp2_with fail
  go_end0
  refine ⟨⟨_, rfl⟩, ?_, H4.out⟩
  have e : A.inc (j + 1) = A.putC (j + 1) (C + 1) := by unfold Ar.inc Ar.putC; rw [HC.out]
  rw [e]
  exact H3.out
set_option maxHeartbeats 1000000 in
set_option maxRecDepth 100000 in
theorem a_retain_bad (h : LieA I w ab sp A rd ca cc Fs) (i : Nat) (hi : i < 4294967296) (hb : ¬ A.Idx i) :
    Calls Try.prog 21 #[.pointer (some ⟨ab, 0, none⟩), .int .u32 (i : Int)] w (Calm w (.int .i64 3)) := by
  have hx : (decide (i = 0) || A.σ.on i) = false := by
    unfold Ar.Idx at hb
    have h1 : ¬ i = 0 := fun e => hb (.inl e)
    have h2 : ¬ A.σ.on i = true := fun e => hb (.inr e)
    simp [h1, h2]
  have HI := Lib.hid (a_isIndex h i hi)
  have HX := Lib.hid hx
  clear h hb hx
  go_enter Try.func21, Try.ntmps21
  go_wp2_with fail
  refine HI.out.mono ?_
  rintro e w2 ⟨rfl, q, rfl⟩
  rw [HX.out]
  clear HI HX
  go_wp2_with fail
  go_ret
  exact ⟨rfl, below_drewN (Below.refl _ _) _⟩
set_option maxHeartbeats 1000000 in
set_option maxRecDepth 100000 in
theorem a_retain (h : LieA I w ab sp A rd (some ⟨g, 0, none⟩) cc Fs) (i : Nat) (hi : i < 4294967296) (hb : A.Idx i) (hc : A.σ.on i = true → A.cnt i < 4611686018427387904) :
    Calls Try.prog 21 #[.pointer (some ⟨ab, 0, none⟩), .int .u32 (i : Int)] w (fun e w' => e = .returned (.int .i64 0) ∧ LieA I w' ab sp (A.ret i) rd (some ⟨g, 0, none⟩) cc Fs ∧ Alters (FootA ab (some ⟨g, 0, none⟩) Fs) (FootA ab (some ⟨g, 0, none⟩) Fs) w w') := by
  have hx : (decide (i = 0) || A.σ.on i) = true := by
    rcases hb with e | e
    · simp [e]
    · simp [e]
  have HI := Lib.hid (a_isIndex h i hi)
  have HX := Lib.hid hx
  have HH := Lib.hid h
  have HOK := Lib.hid h.ok
  clear h hx
  by_cases h0 : i = 0
  · subst h0
    have ho : Hid (A.σ.on 0 = false) := by
      show A.σ.on 0 = false
      cases hq : A.σ.on 0 with
      | false => rfl
      | true => have := HOK.out.on 0 hq; omega
    clear hc hb
    go_enter Try.func21, Try.ntmps21
    go_wp2_with fail
    refine HI.out.mono ?_
    rintro e w2 ⟨rfl, q, rfl⟩
    rw [HX.out]
    have hb2 : Below w.heap.size w (w.drewN q) := below_drewN (Below.refl _ _) q
    generalize w.drewN q = w2 at hb2 ⊢
    have H2 := Lib.hid (HH.out.below hb2)
    have HB := Lib.hid hb2
    clear hb2
    go_wp2_with fail
    refine (a_addRef_off H2.out 0 (by omega) ho.out).mono ?_
    rintro e w3 ⟨⟨v, rfl⟩, hb3⟩
    have HB3 := Lib.hid hb3
    clear hb3
    go_wp2_with fail
    go_ret
    exact ⟨rfl, by unfold Ar.ret; rw [if_pos rfl]; exact H2.out.below HB3.out, .of_below (HB.out.trans (HB3.out.mono HB.out.size))⟩
  · have hon : A.σ.on i = true := by rcases hb with e | e; exact absurd e h0; exact e
    have hle := HOK.out.on i hon
    obtain ⟨j, rfl⟩ : ∃ j, i = j + 1 := ⟨i - 1, by omega⟩
    have HON := Lib.hid hon
    have HC := Lib.hid (hc hon)
    clear hb hon hle h0 hc
    go_enter Try.func21, Try.ntmps21
    go_wp2_with fail
    refine HI.out.mono ?_
    rintro e w2 ⟨rfl, q, rfl⟩
    rw [HX.out]
    have hb2 : Below w.heap.size w (w.drewN q) := below_drewN (Below.refl _ _) q
    generalize w.drewN q = w2 at hb2 ⊢
    have H2 := Lib.hid (HH.out.below hb2)
    have HB := Lib.hid hb2
    clear hb2
    go_wp2_with fail
    refine (a_addRef H2.out j HON.out HC.out).mono ?_
    rintro e w3 ⟨⟨v, rfl⟩, h3, ha3⟩
    have H3 := Lib.hid h3
    have HA3 := Lib.hid ha3
    clear h3 ha3
    go_wp2_with fail
    go_ret
    exact ⟨rfl, by unfold Ar.ret; rw [if_neg (by omega)]; exact H3.out, (Alters.of_below HB.out).trans HA3.out⟩
set_option maxHeartbeats 1000000 in
set_option maxRecDepth 100000 in
theorem a_count (h : LieA I w ab sp A rd (some ⟨g, 0, none⟩) cc Fs) (i : Nat) (hi : i < 4294967296) :
    Calls Try.prog 31 #[.pointer (some ⟨ab, 0, none⟩), .int .u32 (i : Int)] w (Calm w (.int .i64 (A.cnt i))) := by
  by_cases ho : A.σ.on i = true
  · have hle := h.ok.on i ho
    obtain ⟨j, rfl⟩ : ∃ j, i = j + 1 := ⟨i - 1, by omega⟩
    have HA := Lib.hid (a_cell_on h j ho)
    have HH := Lib.hid h
    have hjl : j < A.σ.cap := by omega
    clear h ho hle
    go_enter Try.func31, Try.ntmps31
    go_wp2_with fail
    refine HA.out.mono ?_
    rintro e w2 ⟨rfl, q, rfl⟩
    have hb : Below w.heap.size w (w.drewN q) := below_drewN (Below.refl _ _) q
    have h2 := HH.out.below hb
    generalize w.drewN q = w2 at hb h2 ⊢
    have c8 := (h2.nine hjl).2.2.2.2.2.2.2.2
    have HB := Lib.hid hb
    generalize hC : A.cnt (j + 1) = C at c8
    have HC := Lib.hid hC
    clear HA h2 hb hjl hC
    go_wp2_with fail
    go_ret
    exact ⟨by rw [HC.out]; rfl, HB.out⟩
  · have ho' : A.σ.on i = false := by simpa using ho
    have hz := (h.off i ho').1
    have HA := Lib.hid (a_cell_off h i hi ho')
    rw [hz]
    clear h ho ho' hz
    go_enter Try.func31, Try.ntmps31
    go_wp2_with fail
    refine HA.out.mono ?_
    rintro e w2 ⟨rfl, q, rfl⟩
    clear HA
    go_wp2_with fail
    go_ret
    exact ⟨rfl, below_drewN (Below.refl _ _) _⟩
set_option maxHeartbeats 1000000 in
set_option maxRecDepth 100000 in
theorem a_generation (h : LieA I w ab sp A rd ca cc Fs) (i : Nat) (hi : i < 4294967296) :
    Calls Try.prog 32 #[.pointer (some ⟨ab, 0, none⟩), .int .u32 (i : Int)] w (Calm w (.int .u32 (A.σ.gen i))) := by
  obtain ⟨c0, c1, c2⟩ := h.cells
  have HA := Lib.hid (I.generation _ _ _ i _ h.slots hi)
  clear h
  go_enter Try.func32, Try.ntmps32
  go_wp2_with fail
  refine HA.out.mono ?_
  rintro e w1 ⟨rfl, q, rfl⟩
  clear HA c0 c1 c2
  go_wp2_with fail
  go_ret
  exact ⟨rfl, below_drewN (Below.refl _ _) _⟩
set_option maxHeartbeats 1000000 in
set_option maxRecDepth 100000 in
theorem a_free (h : LieA I w ab sp A rd ca cc Fs) : Calls Try.prog 13 #[.pointer (some ⟨ab, 0, none⟩)] w (Quiet w (.int .i64 (A.σ.free.length : Int))) := by
  obtain ⟨c0, c1, c2⟩ := h.cells
  have HA := Lib.hid (I.freeN _ _ _ _ h.slots)
  clear h
  go_enter Try.func13, Try.ntmps13
  go_wp2_with fail
  refine HA.out.mono ?_
  rintro e w1 ⟨rfl, q, rfl⟩
  clear HA c0 c1 c2
  go_wp2_with fail
  go_ret
  exact ⟨rfl, q, rfl⟩
set_option maxHeartbeats 1000000 in
set_option maxRecDepth 100000 in
theorem a_capacity (h : LieA I w ab sp A rd ca cc Fs) : Calls Try.prog 14 #[.pointer (some ⟨ab, 0, none⟩)] w (Quiet w (.int .i64 (A.σ.cap : Int))) := by
  obtain ⟨c0, c1, c2⟩ := h.cells
  have HA := Lib.hid (I.capacity _ _ _ _ h.slots)
  clear h
  go_enter Try.func14, Try.ntmps14
  go_wp2_with fail
  refine HA.out.mono ?_
  rintro e w1 ⟨rfl, q, rfl⟩
  clear HA c0 c1 c2
  go_wp2_with fail
  go_ret
  exact ⟨rfl, q, rfl⟩
set_option maxHeartbeats 1000000 in
set_option maxRecDepth 100000 in
theorem a_reads (h : LieA I w ab sp A rd ca cc Fs) : Calls Try.prog 15 #[.pointer (some ⟨ab, 0, none⟩)] w (Quiet w (.int .u64 rd)) := by
  obtain ⟨c0, c1, c2⟩ := h.cells
  clear h
  go_enter Try.func15, Try.ntmps15
  go_wp2_with fail
  go_ret
  exact ⟨rfl, 0, rfl⟩
end
end Go.Proofs.Ytnmookemeibioaa
