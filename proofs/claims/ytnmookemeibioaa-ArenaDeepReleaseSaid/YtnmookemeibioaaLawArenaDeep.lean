/- The walk of ArenaDeepRelease. -/
import Derived.Test.YtnmookemeibioaaArenaChain
import Derived.Test.YtnmookemeibioaaArenaLaw
import Derived.Deep.QuietTactic
import Derived.BigQuiet
set_option linter.unusedVariables false
namespace Go.Proofs.Ytnmookemeibioaa
open Go.RowKit
section
variable {I : AImpl} {B : Nat} {w w' w0 : World} {p : Value} {A A' : Ar} {rd rd' : Int} {held held' : Nat → Nat}
/-- giving back no reference: nothing happens -/
theorem ta_release0 (h : TA I B w0 w p A rd held) : Calls Try.prog 25 #[p, .int .u32 0] w (ARet I B w0 p A rd held (.tuple #[.int .i64 0, .int .i64 0])) := by
  obtain ⟨F, h2, hF⟩ := h.has
  refine (I.release p A rd F 0 held w h2 (by decide) (fun _ => h.inv.give0)).mono ?_
  rintro e w1 ⟨F', hal, _, h3⟩
  obtain ⟨rfl, h4⟩ := h3 (.inl rfl)
  rw [(gone_zero A).1] at h4
  refine ⟨?_, h.step hF hal h4 h.inv h.agg⟩
  rw [(gone_zero A).2]; rfl
def ADump (w : World) (A : Ar) (e : Ending) (w' : World) : Prop :=
  ∃ a c b d, e = .returned (.agg #[.slice a A.σ.cap c, .slice b A.σ.free.length d]) ∧ w'.ownsRow w.heap.size 41 1 (.slice b A.σ.free.length d) A.σ.free.length (u32s A.σ.free) ∧ Below w.heap.size w w'
theorem ta_dump (h : TA I B w0 w p A rd held) : Calls Try.prog 17 #[p] w (ADump w A) := by
  obtain ⟨F, h2, hF⟩ := h.has
  refine (I.dump p A rd F w h2).mono ?_
  rintro e w1 ⟨a, c, b, d, h3, _, h4, h5⟩
  exact ⟨a, c, b, d, h3, h4, h5⟩
end
theorem deep_get {n j : Nat} (h : j < n) : (u32s (List.range' 1 n))[j]? = some (.int .u32 ((j : Int) + 1)) := by
  simp [u32s, h]; omega
/-- what the cascade of the whole chain leaves -/
theorem deep_gone {A : Ar} {rt : Bool} {n : Nat} (h : DS A rt n n) : A.freed n = n ∧ (A.gone n).σ.free = List.range' 1 n := by
  have h1 := run_chain rt n A.fuel 0 A h.ch (by unfold Ar.fuel; rw [h.cap]; omega)
  have h2 : A.σ.free = [] := by rw [h.free]; simp
  rw [h2] at h1
  refine ⟨h1.1, ?_⟩
  show (Ar.run A.fuel A [n]).1.σ.free = _
  exact h1.2.trans (by simp)
theorem run_cap : ∀ (f : Nat) (A : Ar) (s : List Nat), (Ar.run f A s).1.σ.cap = A.σ.cap
  | 0, A, s => rfl
  | f + 1, A, [] => rfl
  | f + 1, A, i :: t => by
    unfold Ar.run
    split
    · exact run_cap f A t
    · split
      · exact (run_cap f (A.drop i) _).trans rfl
      · exact (run_cap f (A.dec i) t).trans rfl
def DeepRel (I : AImpl) (w : World) (p : Value) (rt : Bool) (n : Nat) (x i : Value) (wr : World) : Prop :=
  ∃ (k : Nat) (A : Ar), k ≤ n ∧ x = .int .u32 (k : Int) ∧ i = .int .i64 (k : Int) ∧ TA I w.heap.size w wr p A 0 (hk k) ∧ DS A rt k n
/-- one more node on the chain: Make and the release of the old root -/
theorem deep_make {I : AImpl} {B : Nat} {w0 w : World} {p : Value} {A : Ar} {rt : Bool} {k n : Nat} (h : TA I B w0 w p A 0 (hk k)) (hd : DS A rt k n) (hkn : k < n) (hn : n ≤ 3000) {l r : Nat} {L R : Int} (hl : l = if rt = true then 0 else k) (hr : r = if rt = true then k else 0) (hL : L = (l : Int)) (hR : R = (r : Int)) :
    Calls Try.prog 34 #[p, .int .i64 (k : Int), .int .i64 1, .int .u32 L, .int .u32 R] w (ARet I B w0 p (A.made (k + 1) (List.range' (k + 2) (n - (k + 1))) (A.node (k : Int) 1 (if rt = true then 0 else k) (if rt = true then k else 0))) 0 (more (hk k) (k + 1)) (.tuple #[.int .u32 ((k + 1 : Nat) : Int), .int .i64 0])) := by
  have hon : A.Idx k := by
    by_cases h0 : k = 0
    · exact .inl h0
    · exact .inr (hd.on k (by omega) (Nat.le_refl _))
  have hf : A.σ.free = (k + 1) :: List.range' (k + 2) (n - (k + 1)) := by
    rw [hd.free, show n - k = (n - (k + 1)) + 1 by omega, List.range'_succ]
  have hszk : A.sz k = (k : Int) := by
    unfold Ar.sz
    split
    · rename_i h0; subst h0; rfl
    · exact hd.size k (by omega) (Nat.le_refl _)
  have h0 : A.sz 0 = 0 := rfl
  rw [← hl, ← hr]
  refine ta_make h (fun j => by unfold hk; split <;> decide) hL hR ⟨⟨by omega, by omega⟩, ⟨by decide, by decide⟩, ?_, ?_⟩ ?_ ?_ ?_ hf
  · subst hl; split <;> omega
  · subst hr; split <;> omega
  · subst hl; split
    · exact .inl rfl
    · exact hon
  · subst hr; split
    · exact hon
    · exact .inl rfl
  · show 1 + A.sz l + A.sz r ≤ _
    subst hl hr
    cases rt <;> simp [hszk, h0] <;> omega
def DeepNext (I : AImpl) (B : Nat) (w0 : World) (p : Value) (rt : Bool) (k n : Nat) (e : Ending) (w' : World) : Prop :=
  ∃ (m : Int) (A : Ar), e = .returned (.tuple #[.int .i64 m, .int .i64 0]) ∧ TA I B w0 w' p A 0 (hk (k + 1)) ∧ DS A rt (k + 1) n
theorem deep_drop {I : AImpl} {B : Nat} {w0 w : World} {p : Value} {A : Ar} {rt : Bool} {k n : Nat} (hd : DS A rt k n) (hkn : k < n) (x : Nd) (hx : x = A.node (k : Int) 1 (if rt = true then 0 else k) (if rt = true then k else 0)) (h : TA I B w0 w p (A.made (k + 1) (List.range' (k + 2) (n - (k + 1))) x) 0 (more (hk k) (k + 1))) :
    Calls Try.prog 25 #[p, .int .u32 (k : Int)] w (DeepNext I B w0 p rt k n) := by
  subst hx
  have hm := hd.made hkn (k : Int)
  by_cases h0 : k = 0
  · rw [if_pos h0] at hm
    subst h0
    rw [hk_zero] at h
    exact (ta_release0 h).mono fun e w1 ⟨h3, h4⟩ => ⟨0, _, h3, h4, hm⟩
  · rw [if_neg h0] at hm
    have hheld : 0 < more (hk k) (k + 1) k := by unfold more hk; rw [if_neg (by omega), if_pos ⟨rfl, h0⟩]; decide
    have hcnt : (A.made (k + 1) (List.range' (k + 2) (n - (k + 1))) (A.node (k : Int) 1 (if rt = true then 0 else k) (if rt = true then k else 0))).cnt k ≠ 1 := by
      have h5 := (hm.ch k (by omega) (by omega)).1
      have h6 : ((A.made (k + 1) (List.range' (k + 2) (n - (k + 1))) (A.node (k : Int) 1 (if rt = true then 0 else k) (if rt = true then k else 0))).dec k).cnt k = (A.made (k + 1) (List.range' (k + 2) (n - (k + 1))) (A.node (k : Int) 1 (if rt = true then 0 else k) (if rt = true then k else 0))).cnt k - 1 := if_pos rfl
      omega
    have hg := gone_shared h0 hcnt
    refine (ta_release h (i := k) rfl hheld).mono fun e w1 ⟨h3, h4⟩ => ?_
    rw [hg.1, hk_next h0] at h4
    exact ⟨_, _, h3, h4, hm⟩
set_option maxHeartbeats 2000000 in
set_option maxRecDepth 100000 in
theorem deep_walk (I : AImpl) (c : Int) (rt : Bool) (w : World) (hv1 : -9223372036854775808 ≤ c) (hv2 : c ≤ 9223372036854775807) :
    Calls Try.prog 8 #[.int .i64 c, .bool rt] w fun e w' => e = .returned (.bool true) ∧ Below w.heap.size w w' := by
  have hr := Int.emod_nonneg c (b := 3000) (by omega)
  have hr2 := Int.emod_lt_of_pos c (b := 3000) (by omega)
  obtain ⟨r, hr3⟩ := Int.eq_ofNat_of_zero_le hr
  rw [hr3] at hr2
  have hr4 : r < 3000 := by omega
  have HR := Lib.hid hr3
  obtain ⟨n, hn⟩ : ∃ n : Nat, n = r + 1 := ⟨_, rfl⟩
  have HN : Hid ((1 : Int) + (r : Int) = (n : Int)) := by have := hn; show (1 : Int) + (r : Int) = (n : Int); omega
  have hn1 : 1 ≤ n := by omega
  have hn2 : n ≤ 3000 := by omega
  have hni : (n : Int) ≤ 3000 := by omega
  have hni1 : (1 : Int) ≤ (n : Int) := by omega
  clear hr hr2 hr3 hn
  go_enter Try.func8, Try.ntmps8
  go_wp2_with fail
  refine (mod_any c 3000 _ hv1 hv2 (by decide) (by decide)).mono ?_
  rintro e w2 ⟨rfl, rfl⟩
  rw [HR.out]
  go_wp2_with fail
  rw [HN.out]
  refine (ta_new I n n _ hn1 (by omega) rfl).mono ?_
  rintro e w1 ⟨a, rfl, h⟩
  go_wp2_with fail
  refine (awake_any I _).mono ?_
  rintro e w2 ⟨rfl, hb2⟩
  have h2 := h.calm hb2
  clear h hb2
  go_wp2
  go_loopw [8, 9] (fun x i wr => DeepRel I w (.pointer (some a)) rt n x i wr) (fun _ i _ => n - (intOf i).toNat)
  case atStart => exact ⟨0, _, Nat.zero_le _, rfl, rfl, by rw [show hk 0 = fun _ => 0 by funext j; simp [hk]]; exact h2, DS.start n rt⟩
  case round =>
    clear h2
    obtain ⟨k, A, hk1, rfl, rfl, h, hd⟩ := hrel
    by_cases hlt : k < n
    · have hki : (k : Int) < (n : Int) := by omega
      have hki0 : (0 : Int) ≤ (k : Int) := by omega
      cases rt
      · go_wp2_with fail
        refine (deep_make h hd hlt hn2 (l := k) (r := 0) rfl rfl rfl rfl).mono ?_
        rintro e w3 ⟨rfl, h3⟩
        clear h
        go_wp2_with fail
        refine (deep_drop hd hlt _ rfl h3).mono ?_
        rintro e w4 ⟨m, A2, rfl, h4, hd2⟩
        clear h3
        go_wp2
        exact ⟨⟨k + 1, A2, by omega, rfl, by go_num, h4, hd2⟩, by simp [intOf]; omega⟩
      · go_wp2_with fail
        refine (deep_make h hd hlt hn2 (l := 0) (r := k) rfl rfl rfl rfl).mono ?_
        rintro e w3 ⟨rfl, h3⟩
        clear h
        go_wp2_with fail
        refine (deep_drop hd hlt _ rfl h3).mono ?_
        rintro e w4 ⟨m, A2, rfl, h4, hd2⟩
        clear h3
        go_wp2
        exact ⟨⟨k + 1, A2, by omega, rfl, by go_num, h4, hd2⟩, by simp [intOf]; omega⟩
    · obtain rfl : k = n := by omega
      have hsz := hd.size k hn1 (Nat.le_refl _)
      have hfl : A.σ.free.length = 0 := by rw [hd.free]; simp
      have hgo := deep_gone hd
      have hcap := run_cap A.fuel A [k]
      have hon := hd.on k hn1 (Nat.le_refl _)
      have hheld : 0 < hk k k := by unfold hk; rw [if_pos ⟨rfl, by omega⟩]; decide
      have hfl2 : (A.gone k).σ.free.length = k := by rw [hgo.2]; simp
      have HS := Lib.hid hsz
      have HF := Lib.hid hfl
      have HG := Lib.hid hgo
      have HL := Lib.hid hfl2
      clear hsz hfl hgo hfl2 hcap hd
      go_wp2_with fail
      refine (ta_size h (i := k) rfl (by decide) (by decide) hon).mono ?_
      rintro e w3 ⟨rfl, h3⟩
      rw [HS.out]
      clear h
      go_wp2_with fail
      refine (ta_free h3).mono ?_
      rintro e w4 ⟨rfl, h4⟩
      rw [HF.out]
      clear h3
      go_wp2_with fail
      refine (ta_release h4 (i := k) rfl hheld).mono ?_
      rintro e w5 ⟨rfl, h5⟩
      rw [HG.out.1]
      clear h4
      go_wp2_with fail
      refine (ta_dump h5).mono ?_
      rintro e w6 ⟨da, dc, db, dd, rfl, hrow, hb6⟩
      have HB := Lib.hid (h5.below.trans (hb6.mono h5.hB))
      rw [HG.out.2, List.length_range'] at hrow
      rw [HL.out]
      clear h5 hb6
      generalize (A.gone k).σ.cap = C
      have hrow2 := hrow.alloc (Obj.cells #[Value.slice da C dc, Value.slice db k dd] 35)
      have hbb := HB.out.trans (((Below.refl w6.heap.size w6).alloc (Nat.le_refl _) (Obj.cells #[Value.slice da C dc, Value.slice db k dd] 35)).mono HB.out.size)
      have HROW := Lib.hid hrow2
      have HBB := Lib.hid hbb
      clear hrow hrow2 hbb
      go_wp2
      go_loopw [19] (fun i wr => ∃ (j d : Nat), j ≤ k ∧ i = .int .i64 (j : Int) ∧ wr = (w6.alloc (Obj.cells #[Value.slice da C dc, Value.slice db k dd] 35)).drewN d) (fun i _ => k - (intOf i).toNat)
      case atStart => exact ⟨0, 0, Nat.zero_le _, rfl, rfl⟩
      case round =>
        obtain ⟨j, d, hj, rfl, rfl⟩ := hrel
        by_cases hlt2 : j < k
        · obtain ⟨g, rfl, hg, hck⟩ := row_cell HROW.out hlt2
          have hD : ((w6.alloc (Obj.cells #[Value.slice da C dc, Value.slice (some ⟨g, 0, none⟩) k dd] 35)).drewN d).cell? ⟨w6.heap.size, 1, none⟩ = some (.slice (some ⟨g, 0, none⟩) k dd) := by
            have h9 := cell_two_new w6 (Value.slice da C dc) (Value.slice (some ⟨g, 0, none⟩) k dd) 35 1 _ rfl
            exact h9
          have hE : ((w6.alloc (Obj.cells #[Value.slice da C dc, Value.slice (some ⟨g, 0, none⟩) k dd] 35)).drewN d).cell? ⟨g, j, none⟩ = some (.int .u32 ((j : Int) + 1)) := hck.trans (deep_get hlt2)
          have hji : (j : Int) < (k : Int) := by omega
          have hji0 : (0 : Int) ≤ (j : Int) := by omega
          generalize hW : (w6.alloc (Obj.cells #[Value.slice da C dc, Value.slice (some ⟨g, 0, none⟩) k dd] 35)).drewN d = wd at hD hE
          have HW := Lib.hid hW
          clear hck hW hg
          go_wp2
          exact ⟨⟨j + 1, d, by omega, by go_num, HW.out.symm⟩, by simp [intOf]; omega⟩
        · obtain rfl : j = k := by omega
          have hbd := below_drewN HBB.out d
          go_wp2
          go_ret
          exact ⟨rfl, hbd⟩
end Go.Proofs.Ytnmookemeibioaa
