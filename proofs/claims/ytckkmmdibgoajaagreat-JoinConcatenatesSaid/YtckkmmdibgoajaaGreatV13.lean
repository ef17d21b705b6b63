/- Of the proofs of UpdateInserts, UpdateDeletes, JoinJoins, JoinConcatenates, JoinSplits: JnAw, UpCon, UpOk1, UpOk2, UpOk3. -/
import Derived.Test.YtckkmmdibgoajaaGreatV1
import Derived.Test.YtckkmmdibgoajaaGreatV2
import Derived.Test.YtckkmmdibgoajaaGreatV3
import Derived.Test.YtckkmmdibgoajaaGreatV4
import Derived.Test.YtckkmmdibgoajaaGreatV5
import Derived.Test.YtckkmmdibgoajaaGreatV6
import Derived.Test.YtckkmmdibgoajaaGreatV7
import Derived.Test.YtckkmmdibgoajaaGreatV8
import Derived.Test.YtckkmmdibgoajaaGreatV9
import Derived.Test.YtckkmmdibgoajaaGreatV10
import Derived.Test.YtckkmmdibgoajaaGreatV11
import Derived.Test.YtckkmmdibgoajaaGreatV12
set_option linter.unusedVariables false
namespace Go.Proofs.YtckkmmdibgoajaaGreat
def Tr.idxs : Tr → List Nat
  | .nil => []
  | .node i l r => l.idxs ++ i :: r.idxs
theorem Tr.idxs_len : ∀ t : Tr, t.idxs.length = t.size
  | .nil => rfl
  | .node i l r => by
    show (l.idxs ++ i :: r.idxs).length = l.size + r.size + 1
    rw [List.length_append, List.length_cons, Tr.idxs_len l, Tr.idxs_len r]
    omega
theorem Sub.top_mem {A : Ar} {i : Nat} {t : Tr} (h : Sub A i t) : i = 0 ∨ i ∈ t.idxs := by
  cases h with
  | nil => exact .inl rfl
  | node i l r _ _ _ _ => exact .inr (by show i ∈ l.idxs ++ i :: r.idxs; simp)
theorem Sub.closed {A : Ar} {i : Nat} {t : Tr} (h : Sub A i t) : ∀ k ∈ t.idxs, ((A.nd k).left = 0 ∨ (A.nd k).left ∈ t.idxs) ∧ ((A.nd k).right = 0 ∨ (A.nd k).right ∈ t.idxs) := by
  induction h with
  | nil => intro k hk; cases hk
  | node i l r h0 h1 hl hr ihl ihr =>
    intro k hk
    show ((A.nd k).left = 0 ∨ (A.nd k).left ∈ l.idxs ++ i :: r.idxs) ∧ ((A.nd k).right = 0 ∨ (A.nd k).right ∈ l.idxs ++ i :: r.idxs)
    have hk' : k ∈ l.idxs ++ i :: r.idxs := hk
    rw [List.mem_append, List.mem_cons] at hk'
    simp only [List.mem_append, List.mem_cons]
    rcases hk' with hk' | rfl | hk'
    · have := ihl k hk'
      exact ⟨this.1.imp_right .inl, this.2.imp_right .inl⟩
    · have h2 := hl.top_mem
      have h3 := hr.top_mem
      exact ⟨h2.imp_right .inl, h3.imp_right fun h => .inr (.inr h)⟩
    · have := ihr k hk'
      exact ⟨this.1.imp_right fun h => .inr (.inr h), this.2.imp_right fun h => .inr (.inr h)⟩
/-- all that is reached lies in the trees -/
theorem reach_idxs {A : Ar} (hok : A.σ.Ok) {l : List Nat} {ts : List Tr} (hT : ∀ x ∈ l, ∃ t ∈ ts, Sub A x t) {k : Nat} (h : A.Reach (hof l) k) : k = 0 ∨ ∃ t ∈ ts, (∃ i, Sub A i t) ∧ k ∈ t.idxs := by
  induction h with
  | root i hi =>
    unfold hof at hi
    split at hi
    · cases hi
    · have hm : i ∈ l := by
        rcases Nat.eq_zero_or_pos (l.count i) with h | h
        · omega
        · exact List.count_pos_iff.1 h
      obtain ⟨t, ht, hs⟩ := hT i hm
      exact hs.top_mem.imp_right fun h => ⟨t, ht, ⟨i, hs⟩, h⟩
  | left k hon hk ih =>
    rcases ih with rfl | ⟨t, ht, ⟨i, hs⟩, hm⟩
    · exact absurd (hok.on 0 hon).1 (by decide)
    · exact (hs.closed k hm).1.imp_right fun h => ⟨t, ht, ⟨i, hs⟩, h⟩
  | right k hon hk ih =>
    rcases ih with rfl | ⟨t, ht, ⟨i, hs⟩, hm⟩
    · exact absurd (hok.on 0 hon).1 (by decide)
    · exact (hs.closed k hm).2.imp_right fun h => ⟨t, ht, ⟨i, hs⟩, h⟩
theorem sub_len : ∀ (l m : List Nat), l.Nodup → (∀ x ∈ l, x ∈ m) → l.length ≤ m.length
  | [], m, _, _ => Nat.zero_le _
  | x :: t, m, hn, hs => by
    rw [List.nodup_cons] at hn
    have h1 := sub_len t (m.erase x) hn.2 fun y hy => (List.mem_erase_of_ne (fun (e : y = x) => hn.1 (e ▸ hy))).2 (hs y (by simp [hy]))
    have hx : x ∈ m := hs x (by simp)
    rw [List.length_erase_of_mem hx] at h1
    have := List.length_pos_of_mem hx
    rw [List.length_cons]
    omega
theorem Ar.Inv.used {A : Ar} {l : List Nat} {ts : List Tr} (h : A.Inv [] (hof l)) (ha : A.Agg) (hT : ∀ x ∈ l, ∃ t ∈ ts, Sub A x t) : A.σ.cap ≤ A.σ.free.length + (ts.map Tr.size).sum := by
  have h1 : (List.range' 1 A.σ.cap).length ≤ (A.σ.free ++ ts.flatMap Tr.idxs).length := sub_len _ _ List.nodup_range' fun x hx => by
    have hx' := List.mem_range'_1.1 hx
    rw [List.mem_append]
    cases ho : A.σ.on x with
    | false => exact .inl ((h.ok.free x).2 ⟨by omega, by omega, ho⟩)
    | true =>
      have hr := Ar.reach_all h ha 2147483648 x ho (by have := (ha.size x ho).1; omega)
      rcases reach_idxs h.ok hT hr with rfl | ⟨t, ht, -, hm⟩
      · omega
      · exact .inr (List.mem_flatMap.2 ⟨t, ht, hm⟩)
  rw [List.length_range', List.length_append, List.length_flatMap] at h1
  have h2 : (ts.map fun t => t.idxs.length).sum = (ts.map Tr.size).sum := by congr 1; exact List.map_congr_left fun t _ => t.idxs_len
  have h3 : (List.map (List.length ∘ Tr.idxs) ts).sum = (ts.map Tr.size).sum := h2
  omega
end Go.Proofs.YtckkmmdibgoajaaGreat
set_option linter.unusedVariables false
set_option linter.unusedSimpArgs false
namespace Go.Proofs.YtckkmmdibgoajaaGreat
open Go.RowKit
/-- a number of spare slots, whatever it is -/
def SpareQ (need : Int) (w : World) (e : Ending) (w' : World) : Prop := ∃ sp : Nat, e = .returned (.int .i64 (sp : Int)) ∧ (sp : Int) ≤ need + 8 ∧ w' = w
theorem spare13_any (n need : Int) (w : World) (h0 : 0 ≤ n) (h1 : n < 65536) (h2 : 0 ≤ need) (h3 : need ≤ 1000000) : Calls Tryz.prog 31 #[.int .u16 n, .int .i64 need] w (SpareQ need w) := by
  have v0 : IntKind.i64.wrap n = n := by rw [IntKind.wrap_i64]; omega
  have v1 : IntKind.i64.wrap (need + 2) = need + 2 := by rw [IntKind.wrap_i64]; omega
  have hne : ¬ need + 2 = 0 := by omega
  by_cases h4 : n.tmod 4 = 0
  · obtain ⟨r, hr⟩ : ∃ r : Nat, n.tmod (need + 2) = (r : Int) := ⟨(n.tmod (need + 2)).toNat, by rw [Int.tmod_eq_emod_of_nonneg h0]; have := Int.emod_nonneg n (b := need + 2) hne; omega⟩
    have hrl : (r : Int) ≤ need + 8 := by rw [← hr, Int.tmod_eq_emod_of_nonneg h0]; have := Int.emod_lt_of_pos n (b := need + 2) (by omega); omega
    have HR := Lib.hid hrl
    have h4b : (n.tmod 4 == 0) = true := by rw [h4]; rfl
    clear hrl h0 h1 h2 h3 h4
    go_enter Tryz.func31, Tryz.ntmps31
    go_wp2_with fail
    go_ret
    exact ⟨r, rfl, HR.out, rfl⟩
  · obtain ⟨r, hr⟩ : ∃ r : Nat, n.tmod 9 = (r : Int) := ⟨(n.tmod 9).toNat, by rw [Int.tmod_eq_emod_of_nonneg h0]; omega⟩
    have hrl : (r : Int) ≤ 8 := by rw [← hr, Int.tmod_eq_emod_of_nonneg h0]; omega
    have v2 : IntKind.i64.wrap (r : Int) = (r : Int) := by rw [IntKind.wrap_i64]; omega
    have v3 : IntKind.i64.wrap (need + (r : Int)) = need + (r : Int) := by rw [IntKind.wrap_i64]; omega
    obtain ⟨s, hs⟩ : ∃ s : Nat, need + (r : Int) = (s : Int) := ⟨(need + r).toNat, by omega⟩
    have HS : Hid (need + (r : Int) = (s : Int) ∧ (s : Int) ≤ need + 8) := ⟨hs, by omega⟩
    have h4b : (n.tmod 4 == 0) = false := by simpa using h4
    clear hrl h0 h1 h2 h3 h4 hs
    go_enter Tryz.func31, Tryz.ntmps31
    go_wp2_with fail
    go_ret
    first | exact ⟨s, rfl, HS.out.2, rfl⟩ | exact ⟨s, by rw [HS.out.1]; rfl, HS.out.2, rfl⟩
theorem tree13_any {I : AImpl} {B : Nat} {w0 w : World} {p : Value} {A : Ar} {rd : Int} {rs : List Row} {bs : List (Nat × Obj)} {held : Nat → Nat} {i L lc : Nat} {la : Option Addr} {t : Tr} {l : List En} (h : Scn I B w0 w p A rd rs bs) (hv : A.Inv [] held) (hT : TreeAt A i t l) (hE : EnsAt w la l) (hL : l.length = L) (hl : L ≤ 65536) :
    Calls Tryz.prog 36 #[p, .int .u32 (i : Int), .slice la L lc] w (Calm w (.bool true)) := by
  obtain ⟨F, hF, _⟩ := h.mr.has
  obtain ⟨pa, rfl⟩ := I.ptr hF
  have HH := Lib.hid h
  have HV := Lib.hid hv
  have HT := Lib.hid hT
  have HE := Lib.hid hE
  have HL : Hid (l.length = L ∧ L ≤ 65536) := ⟨hL, hl⟩
  clear h hv hT hE hL hl hF
  go_enter Tryz.func36, Tryz.ntmps36
  go_wp2_with fail
  refine HH.out.dump.mono ?_
  rintro e w1 ⟨da, dc, db, dd, rfl, hs1, hb1⟩
  have HS1 := Lib.hid (hs1.dumped HV.out rfl)
  have HB1 := Lib.hid hb1
  clear hs1 hb1
  go_wp2_with fail
  refine (refTree_any (a := da) (b := db) (c := dc) (m := A.σ.free.length) (d := dd) HV.out rfl HS1.out HT.out (HE.out.below HB1.out) HL.out.1 HL.out.2).mono ?_
  rintro e w2 ⟨rfl, hb2⟩
  have HB2 := Lib.hid (HB1.out.trans (hb2.mono HB1.out.size))
  clear hb2
  go_wp2_with fail
  go_ret
  exact ⟨rfl, HB2.out⟩
end Go.Proofs.YtckkmmdibgoajaaGreat
set_option linter.unusedVariables false
set_option linter.unusedSimpArgs false
namespace Go.Proofs.YtckkmmdibgoajaaGreat
open Go.RowKit
theorem xh_max {n k : Nat} (hn : n ≤ 2147483647) (h : n < wt (k + 1) - 1) : xh n ≤ k := by
  obtain ⟨a, b, c⟩ := xh_spec hn
  rcases Nat.lt_or_ge k (xh n) with h3 | h3
  · have := wt_mono (show k + 1 ≤ xh n by omega); omega
  · exact h3
theorem xhI_max {n : Int} (h0 : 0 ≤ n) (h1 : n ≤ 152) : 0 ≤ xhI n ∧ xhI n ≤ 14 := by
  have h2 : xh n.toNat ≤ 14 := xh_max (by omega) (by show _ < 153; omega)
  unfold xhI
  rw [if_pos ⟨h0, by omega⟩]
  omega
theorem join_le {l r : Int} (h0 : 0 ≤ l) (h1 : 0 ≤ r) (h2 : l + r ≤ 151) : joinI l r ≤ 64 ∧ 0 ≤ joinI l r := by
  have h3 := xhI_max (n := l + r + 0 + 1) (by omega) (by omega)
  unfold joinI needI
  have hv : vld l ∧ vld r ∧ vld 0 := by unfold vld; omega
  rw [if_pos hv]
  omega
theorem nil_of_ents {A : Ar} {i : Nat} {t : Tr} (h : Sub A i t) (he : t.ents A.nd = []) : i = 0 ∧ t = .nil := by
  have h1 : t.size = 0 := by have := Tr.ents_len A.nd t; rw [he] at this; exact this.symm
  cases h with
  | nil => exact ⟨rfl, rfl⟩
  | node i l r _ _ _ _ => have : (Tr.node i l r).size = l.size + r.size + 1 := rfl; omega
theorem Got2.fst {A B : Ar} {held : Nat → Nat} {j k : Nat} {t u : Tr} {l m : List En} (h : Got2 A held B j t l k u m) (hu : Up l) : TreeAt B j t l := ⟨⟨_, h.inv⟩, h.agg, h.sub, h.bal, h.ents, hu⟩
theorem tree_nil {A : Ar} {held : Nat → Nat} (h : A.Inv [] held) (hg : A.Agg) : TreeAt A 0 .nil [] := ⟨⟨_, h⟩, hg, .nil, rfl, rfl, List.Pairwise.nil⟩
section
variable {I : AImpl} {B : Nat} {w0 w : World} {p : Value} {A : Ar} {rd : Int} {rs : List Row} {bs : List (Nat × Obj)}
theorem Scn.size (h : Scn I B w0 w p A rd rs bs) (h0 : 0 ≤ rd) (h1 : rd ≤ 4398046511104) {i : Nat} {t : Tr} {l : List En} (hT : TreeAt A i t l) :
    Calls Tryz.prog 46 #[p, .int .u32 (i : Int)] w fun e w' => e = .returned (.int .i64 (l.length : Int)) ∧ ∃ rd', Scn I B w0 w' p A rd' rs bs ∧ rd ≤ rd' ∧ rd' ≤ rd + 1 := by
  obtain ⟨F, f1, f2, f3⟩ := h.mr.has
  refine (I.size p A rd F i w f1 h0 (by omega) hT.idx).mono ?_
  rintro e w1 ⟨F', hal, h5, h6⟩
  have hsz := hT.sub.size hT.agg
  rw [hT.size] at hsz
  rcases hT.sub.idx with h7 | h7
  · have hoff : A.σ.on i = false := by
      subst h7
      cases hc : A.σ.on 0 with
      | false => rfl
      | true => have := (I.ok f1).on 0 hc; omega
    obtain ⟨rfl, h8⟩ := h5 hoff
    have hst := h.mr.step f2 f3 hal h8
    have hz : A.sz i = 0 := by unfold Ar.sz; rw [if_pos h7]
    exact ⟨by rw [hz] at hsz; rw [← hsz], rd, h.step hst.1 hst.2, by omega, by omega⟩
  · obtain ⟨rfl, h8⟩ := h6 h7
    have hst := h.mr.step f2 f3 hal h8
    have h9 : i ≠ 0 := by have := (I.ok f1).on i h7; omega
    have hz : A.sz i = (A.nd i).size := by unfold Ar.sz; rw [if_neg h9]
    exact ⟨by rw [← hsz, hz], rd + 1, h.step hst.1 hst.2, by omega, by omega⟩
end
end Go.Proofs.YtckkmmdibgoajaaGreat
set_option linter.unusedVariables false
set_option linter.unusedSimpArgs false
namespace Go.Proofs.YtckkmmdibgoajaaGreat
open Go.RowKit
def l1 : List En := [⟨1, 10⟩]
def l15 : List En := [⟨1, 10⟩, ⟨5, 50⟩]
theorem l1_up : Up l1 := by unfold Up l1; simp
theorem l15_up : Up l15 := by unfold Up l15; simp
theorem l1_wf : WfL l1 := by
  intro y hy
  simp [l1] at hy
  subst hy
  exact ⟨⟨by decide, by decide⟩, ⟨by decide, by decide⟩⟩
theorem l15_wf : WfL l15 := by
  intro y hy
  simp [l15] at hy
  rcases hy with rfl | rfl <;> exact ⟨⟨by decide, by decide⟩, ⟨by decide, by decide⟩⟩
theorem l1_at (w : World) (t : TypeId) : EnsAt (w.alloc (.cells #[.int .i64 1, .int .i64 10] t)) (some ⟨w.heap.size, 0, none⟩) l1 := by
  have hr := heap_alloc_new w (.cells #[.int .i64 1, .int .i64 10] t)
  refine ⟨fun j e he => ⟨w.heap.size, 0, rfl, by simp, ?_⟩, l1_wf⟩
  match j, he with
  | 0, he => cases he; constructor <;> (rw [cell_of_row _ _ _ _ _ _ hr]; rfl)
  | j + 1, he => simp [l1] at he
set_option maxHeartbeats 4000000 in
set_option maxRecDepth 100000 in
theorem awake13_any (I : AImpl) (K : JoinImpl I) (w : World) : Calls Tryz.prog 32 #[] w (Calm w (.bool true)) := by
  have HK := Lib.hid K
  have HAT := Lib.hid (l1_at w 25)
  have HB := Lib.hid (below_new7 w (.cells #[.int .i64 1, .int .i64 10] 25))
  have HUPS : Hid (Up l1 ∧ Up l15 ∧ WfL l1 ∧ WfL l15 ∧ l1 ++ (⟨5, 50⟩ : En) :: [] = l15 ∧ AllLt l1 5 ∧ AllGt ([] : List En) 5 ∧ lowE l15 5 = l1 ∧ highE l15 5 = [] ∧ getE l15 5 = some ⟨5, 50⟩ ∧ ¬ wholeE l15 5) :=
    ⟨l1_up, l15_up, l1_wf, l15_wf, rfl, fun y hy => by (simp [l1] at hy; subst hy; decide), fun y hy => (by cases hy), rfl, rfl, rfl, fun h => by have h1 := h.1; cases h1⟩
  have HR5 : Hid (i64R 5 ∧ i64R 50 ∧ splitI (l15.length : Int) ≤ 48 ∧ joinI (l1.length : Int) (([] : List En).length : Int) ≤ 16 ∧ joinBd l1.length ([] : List En).length ≤ 10000 ∧ splitBd l15.length ≤ 10000) := ⟨⟨by decide, by decide⟩, ⟨by decide, by decide⟩, by decide, by decide, by decide, by decide⟩
  clear K
  go_enter Tryz.func32, Tryz.ntmps32
  go_wp2_with fail
  generalize w.alloc (.cells #[.int .i64 1, .int .i64 10] 25) = w1 at HAT HB ⊢
  refine (grow_any I (l := l1) (n := 1) (c := 1) (sp := 60) (m := 61) HAT.out rfl (by decide) (by decide) rfl (by decide) (by decide) (by decide) (by decide)).mono ?_
  rintro e w2 ⟨p, A, i, t, F, rfl, hg⟩
  obtain ⟨pa, rfl⟩ := I.ptr hg.is
  have HT := Lib.hid (hg.planted.tree l1_up)
  have HPL := Lib.hid hg.planted
  have hfr : A.σ.free.length = 60 := by
    have h := hg.planted.free
    have h2 : (Ar.init 61).σ.free.length = 61 := by show (List.range' 1 61).length = _; simp
    have h3 : l1.length = 1 := rfl
    omega
  have HFR : Hid (A.σ.free.length = 60 ∧ A.σ.cap = 61) := ⟨hfr, hg.planted.kept.cap⟩
  clear hfr
  have HS2 : Hid (Scn I w.heap.size w w2 (.pointer (some pa)) A 0 [] []) := Scn.start ⟨⟨F, hg.is, fun k hk => Nat.le_trans HB.out.size (hg.foot k hk), fun k hk => hk.elim⟩, HB.out.trans (hg.below.mono HB.out.size), Nat.le_trans HB.out.size hg.below.size⟩
  have HHM : Hid (∀ j, pls (fun _ => 0) i j ≤ 1048000) := fun j => by rw [pls_at]; split <;> omega
  have HPI : Hid (pls (fun _ => 0) i = hof [i]) := by show _ = _; have := hof_pls [] i; rw [hof_nil] at this; exact this
  clear hg HAT HB
  go_wp2_with fail
  refine (HS2.out.mut fun F hI => HK.out.join ⟨5, 50⟩ w2 hI HPL.out.inv HHM.out HT.out (tree_nil HPL.out.inv HPL.out.agg) HUPS.out.2.2.1 (fun y hy => by cases hy) (by decide) (by decide) HR5.out.1 HR5.out.2.1).mono ?_
  rintro e w3 ⟨B, rd3, ⟨h30, h31, hq⟩, hs3⟩
  have HS3 := Lib.hid hs3
  have HRD3 : Hid (0 ≤ rd3 ∧ rd3 ≤ 10000) := ⟨h30, by have := HR5.out; omega⟩
  clear hs3 HS2 h30 h31
  rcases hq with ⟨q1, -⟩ | ⟨-, q2, -⟩ | ⟨-, -, j, tj, rfl, hj, -⟩
  · exact absurd ⟨HUPS.out.2.2.2.2.2.1, HUPS.out.2.2.2.2.2.2.1⟩ q1
  · exact absurd q2 (by have := HR5.out; have := HFR.out; omega)
  rw [HUPS.out.2.2.2.2.1] at hj
  have HJ := Lib.hid hj
  have HTJ := Lib.hid (hj.tree HUPS.out.2.1)
  have HFB : Hid (48 ≤ B.σ.free.length) := by
    show _ ≤ _
    have h1 : B.Inv [] (hof [i, j]) := by have := hj.inv; rw [HPI.out, hof_pls] at this; exact this
    have h2 := h1.used hj.agg (ts := [t, tj]) (fun x hx => by
      simp at hx
      rcases hx with rfl | rfl
      · exact ⟨t, by simp, HPL.out.sub.kept hj.kept⟩
      · exact ⟨tj, by simp, hj.sub⟩)
    simp at h2
    have h3 := HT.out.size
    have h4 := HTJ.out.size
    have h5 : l1.length = 1 := rfl
    have h6 : l15.length = 2 := rfl
    have h7 := hj.kept.cap
    have h8 := HFR.out.2
    omega
  have HHJ : Hid (∀ x, pls (pls (fun _ => 0) i) j x ≤ 1048000) := fun x => by rw [pls_at, pls_at]; split <;> split <;> omega
  clear hj
  go_wp2_with fail
  refine (HS3.out.mut fun F hI => HK.out.split 5 w3 hI HJ.out.inv HHJ.out HTJ.out HUPS.out.2.2.2.1 HRD3.out.1 (by have := HRD3.out; omega) HR5.out.1).mono ?_
  rintro e w4 ⟨C, rd4, ⟨h40, h41, hq⟩, hs4⟩
  have HS4 := Lib.hid hs4
  have HRD4 : Hid (0 ≤ rd4 ∧ rd4 ≤ 20000) := ⟨by have := HRD3.out; omega, by have := HRD3.out; have := HR5.out; omega⟩
  clear hs4 HS3 h40 h41
  rcases hq with ⟨q1, -⟩ | ⟨-, q2, -⟩ | ⟨-, -, x, y, tx, ty, rfl, hxy⟩
  · exact absurd q1 HUPS.out.2.2.2.2.2.2.2.2.2.2
  · exact absurd q2 (by have := HR5.out; have := HFB.out; omega)
  have hl := HUPS.out.2.2.2.2.2.2.2.1
  have hh := HUPS.out.2.2.2.2.2.2.2.2.1
  rw [hl, hh] at hxy
  rw [HUPS.out.2.2.2.2.2.2.2.2.2.1]
  obtain ⟨rfl, rfl⟩ := nil_of_ents hxy.sub2 hxy.ents2
  have HTX := Lib.hid (hxy.fst HUPS.out.1)
  have HTJ2 := Lib.hid (HTJ.out.kept hxy.kept hxy.inv hxy.agg)
  have HLN : Hid ((l1.length : Int) = 1 ∧ (l15.length : Int) = 2) := ⟨rfl, rfl⟩
  clear hl hh hxy HTJ HJ
  go_wp2_with fail
  refine (HS4.out.size HRD4.out.1 (by have := HRD4.out; omega) HTJ2.out).mono ?_
  rintro e w5 ⟨rfl, rd5, hs5, h50, h51⟩
  rw [HLN.out.2]
  have HS5 := Lib.hid hs5
  have HRD5 : Hid (0 ≤ rd5 ∧ rd5 ≤ 30000) := ⟨by have := HRD4.out; omega, by have := HRD4.out; omega⟩
  clear hs5 HS4 h50 h51
  go_wp2_with fail
  refine (HS5.out.size HRD5.out.1 (by have := HRD5.out; omega) HTX.out).mono ?_
  rintro e w6 ⟨rfl, rd6, hs6, h60, h61⟩
  rw [HLN.out.1]
  have HB6 := Lib.hid hs6.below
  clear hs6 HS5 h60 h61
  go_wp2_with fail
  go_ret
  exact ⟨rfl, HB6.out⟩
end Go.Proofs.YtckkmmdibgoajaaGreat
set_option linter.unusedVariables false
set_option linter.unusedSimpArgs false
namespace Go.Proofs.YtckkmmdibgoajaaGreat
open Go.RowKit
/-- how often an update may read -/
def updBd (n : Nat) : Int := 60 * ((xh (n + 1) : Int) + 2)
def InsQ (A : Ar) (rd : Int) (held : Nat → Nat) (i : Nat) (t : Tr) (l : List En) (e : En) (en : Ending) (B : Ar) (rd' : Int) : Prop :=
  rd ≤ rd' ∧ rd' ≤ rd + updBd l.length ∧ (
  (getE l e.key = some e ∧ en = .returned (.tuple #[.int .u32 (i : Int), .int .i64 e.val, .bool true, .int .i64 0]) ∧ Got A held B i t l ∧ B.σ.free.length = A.σ.free.length) ∨
  (getE l e.key ≠ some e ∧ (A.σ.free.length : Int) < insI (l.length : Int) ∧ en = .returned (.tuple #[.int .u32 0, .int .i64 0, .bool false, .int .i64 2]) ∧ B = A) ∨
  (getE l e.key ≠ some e ∧ insI (l.length : Int) ≤ (A.σ.free.length : Int) ∧ ∃ (j : Nat) (u : Tr), en = .returned (.tuple #[.int .u32 (j : Int), .int .i64 ((getE l e.key).elim 0 (·.val)), .bool (getE l e.key).isSome, .int .i64 0]) ∧ Got A held B j u (insE l e) ∧ (A.σ.free.length : Int) ≤ (B.σ.free.length : Int) + insI (l.length : Int) ∧ B.σ.free.length ≤ A.σ.free.length))
def DelQ (A : Ar) (rd : Int) (held : Nat → Nat) (l : List En) (k : Int) (en : Ending) (B : Ar) (rd' : Int) : Prop :=
  rd ≤ rd' ∧ rd' ≤ rd + updBd l.length ∧ (
  (getE l k = none ∧ en = .returned (.tuple #[.int .u32 0, .int .i64 0, .int .i64 4]) ∧ B = A) ∨
  (getE l k ≠ none ∧ (A.σ.free.length : Int) < delI (l.length : Int) ∧ en = .returned (.tuple #[.int .u32 0, .int .i64 0, .int .i64 2]) ∧ B = A) ∨
  (getE l k ≠ none ∧ delI (l.length : Int) ≤ (A.σ.free.length : Int) ∧ ∃ (j : Nat) (u : Tr), en = .returned (.tuple #[.int .u32 (j : Int), .int .i64 ((getE l k).elim 0 (·.val)), .int .i64 0]) ∧ Got A held B j u (outE l k k) ∧ (A.σ.free.length : Int) ≤ (B.σ.free.length : Int) + delI (l.length : Int) ∧ B.σ.free.length ≤ A.σ.free.length))
structure UpdImpl (I : AImpl) : Prop where
  insert : ∀ {p : Value} {A : Ar} {rd : Int} {F : Nat → Prop} {held : Nat → Nat} {i : Nat} {t : Tr} {l : List En} (e : En) (w : World), I.Is w p A rd F → A.Inv [] held → (∀ j, held j ≤ 1048000) → TreeAt A i t l → WfL l → 0 ≤ rd → rd ≤ 1099510000000 → i64R e.key → i64R e.val →
    Calls Tryz.prog 17 #[p, .int .u32 (i : Int), .agg #[.int .i64 e.key, .int .i64 e.val]] w (Mut I p F (InsQ A rd held i t l e) w)
  delete : ∀ {p : Value} {A : Ar} {rd : Int} {F : Nat → Prop} {held : Nat → Nat} {i : Nat} {t : Tr} {l : List En} (k : Int) (w : World), I.Is w p A rd F → A.Inv [] held → (∀ j, held j ≤ 1048000) → TreeAt A i t l → WfL l → 0 ≤ rd → rd ≤ 1099510000000 → i64R k →
    Calls Tryz.prog 27 #[p, .int .u32 (i : Int), .int .i64 k] w (Mut I p F (DelQ A rd held l k) w)
theorem upd_max {n : Nat} (h : n ≤ 2000000000) : updBd n ≤ 5000 := by
  have := (xh_spec (n := n + 1) (by omega)).2.1
  unfold updBd
  omega
theorem insE_wf {l : List En} {e : En} (h : WfL l) (he : i64R e.key ∧ i64R e.val) : WfL (insE l e) := fun y hy => (insE_mem hy).elim (h y) fun e' => e' ▸ he
theorem out_wf {l : List En} (h : WfL l) (lo hi : Int) : WfL (outE l lo hi) := fun y hy => h y (List.mem_filter.1 hy).1
theorem spare14_any (n need : Int) (w : World) (h0 : 0 ≤ n) (h1 : n < 65536) (h2 : 0 ≤ need) (h3 : need ≤ 1000000) : Calls Tryz.prog 11 #[.int .u16 n, .int .i64 need] w (SpareQ need w) := by
  have v0 : IntKind.i64.wrap n = n := by rw [IntKind.wrap_i64]; omega
  have v1 : IntKind.i64.wrap (need + 2) = need + 2 := by rw [IntKind.wrap_i64]; omega
  have hne : ¬ need + 2 = 0 := by omega
  by_cases h4 : n.tmod 4 = 0
  · obtain ⟨r, hr⟩ : ∃ r : Nat, n.tmod (need + 2) = (r : Int) := ⟨(n.tmod (need + 2)).toNat, by rw [Int.tmod_eq_emod_of_nonneg h0]; have := Int.emod_nonneg n (b := need + 2) hne; omega⟩
    have hrl : (r : Int) ≤ need + 8 := by rw [← hr, Int.tmod_eq_emod_of_nonneg h0]; have := Int.emod_lt_of_pos n (b := need + 2) (by omega); omega
    have HR := Lib.hid hrl
    have h4b : (n.tmod 4 == 0) = true := by rw [h4]; rfl
    clear hrl h0 h1 h2 h3 h4
    go_enter Tryz.func11, Tryz.ntmps11
    go_wp2_with fail
    go_ret
    exact ⟨r, rfl, HR.out, rfl⟩
  · obtain ⟨r, hr⟩ : ∃ r : Nat, n.tmod 9 = (r : Int) := ⟨(n.tmod 9).toNat, by rw [Int.tmod_eq_emod_of_nonneg h0]; omega⟩
    have hrl : (r : Int) ≤ 8 := by rw [← hr, Int.tmod_eq_emod_of_nonneg h0]; omega
    have v2 : IntKind.i64.wrap (r : Int) = (r : Int) := by rw [IntKind.wrap_i64]; omega
    have v3 : IntKind.i64.wrap (need + (r : Int)) = need + (r : Int) := by rw [IntKind.wrap_i64]; omega
    obtain ⟨s, hs⟩ : ∃ s : Nat, need + (r : Int) = (s : Int) := ⟨(need + r).toNat, by omega⟩
    have HS : Hid (need + (r : Int) = (s : Int) ∧ (s : Int) ≤ need + 8) := ⟨hs, by omega⟩
    have h4b : (n.tmod 4 == 0) = false := by simpa using h4
    clear hrl h0 h1 h2 h3 h4 hs
    go_enter Tryz.func11, Tryz.ntmps11
    go_wp2_with fail
    go_ret
    first | exact ⟨s, rfl, HS.out.2, rfl⟩ | exact ⟨s, by rw [HS.out.1]; rfl, HS.out.2, rfl⟩
def l2 : List En := [⟨2, 20⟩]
set_option maxHeartbeats 4000000 in
set_option maxRecDepth 100000 in
theorem awake14_any (I : AImpl) (K : UpdImpl I) (w : World) : Calls Tryz.prog 12 #[] w (Calm w (.bool true)) := by
  have HK := Lib.hid K
  have hwf : WfL l2 := by
    intro y hy
    simp [l2] at hy
    subst hy
    exact ⟨⟨by decide, by decide⟩, ⟨by decide, by decide⟩⟩
  have HL : Hid (Up l2 ∧ WfL l2 ∧ insE [] ⟨2, 20⟩ = l2 ∧ getE l2 2 = some ⟨2, 20⟩ ∧ outE l2 2 2 = [] ∧ getE ([] : List En) 2 = none ∧ insI (([] : List En).length : Int) ≤ 12 ∧ delI (l2.length : Int) ≤ 12 ∧ (l2.length : Int) = 1) :=
    ⟨by unfold Up l2; simp, hwf, rfl, rfl, rfl, rfl, by decide, by decide, rfl⟩
  have HR2 : Hid (i64R 2 ∧ i64R 20) := ⟨⟨by decide, by decide⟩, ⟨by decide, by decide⟩⟩
  clear K hwf
  go_enter Tryz.func12, Tryz.ntmps12
  go_wp2_with fail
  refine (I.new_ok 60 w (by decide) (by decide)).mono ?_
  rintro e w1 ⟨p, F, rfl, hI, hF, hb1⟩
  obtain ⟨pa, rfl⟩ := I.ptr hI
  have HS1 : Hid (Scn I w.heap.size w w1 (.pointer (some pa)) (Ar.init 60) 0 [] []) := Scn.start ⟨⟨F, hI, hF, fun k hk => hk.elim⟩, hb1, hb1.size⟩
  have HIN : Hid ((Ar.init 60).Inv [] (fun _ => 0) ∧ (Ar.init 60).Agg ∧ (Ar.init 60).σ.free.length = 60 ∧ (Ar.init 60).σ.cap = 60) := ⟨Ar.init_inv (by decide) (by decide), Ar.init_agg _, by show (List.range' 1 60).length = _; simp, rfl⟩
  generalize Ar.init 60 = A at HS1 HIN
  clear hI hF hb1
  go_wp2_with fail
  refine (HS1.out.mut fun F hI => HK.out.insert ⟨2, 20⟩ w1 hI HIN.out.1 (fun _ => Nat.zero_le _) (tree_nil HIN.out.1 HIN.out.2.1) (fun y hy => by cases hy) (by decide) (by decide) HR2.out.1 HR2.out.2).mono ?_
  rintro e w2 ⟨B, rd2, ⟨h20, h21, hq⟩, hs2⟩
  have HS2 := Lib.hid hs2
  have hub := upd_max (n := ([] : List En).length) (by decide)
  have HRD2 : Hid (0 ≤ rd2 ∧ rd2 ≤ 5000) := ⟨h20, by omega⟩
  clear hs2 HS1 h20 h21 hub
  rcases hq with ⟨q1, -⟩ | ⟨-, q2, -⟩ | ⟨-, -, j, u, rfl, hj, -⟩
  · exact absurd (HL.out.2.2.2.2.2.1.symm.trans q1) (by simp)
  · exact absurd q2 (by have := HL.out; have := HIN.out; omega)
  rw [HL.out.2.2.1] at hj
  rw [HL.out.2.2.2.2.2.1]
  have HJ := Lib.hid hj
  have HTJ := Lib.hid (hj.tree HL.out.1)
  have hiv : B.Inv [] (hof [j]) := by have := hj.inv; rw [← hof_nil, hof_pls] at this; exact this
  have hus := hiv.used hj.agg (ts := [u]) (fun x hx => by simp at hx; subst hx; exact ⟨u, by simp, hj.sub⟩)
  have hsz := HTJ.out.size
  have HFB : Hid (59 ≤ B.σ.free.length) := by
    show _ ≤ _
    simp at hus
    have h5 : l2.length = 1 := rfl
    have h6 := hj.kept.cap
    have h7 := HIN.out.2.2.2
    omega
  have HHJ : Hid (∀ x, pls (fun _ => 0) j x ≤ 1048000) := fun x => by rw [pls_at]; split <;> omega
  have hj0 : ((j : Int) != 0) = true := by
    have : j ≠ 0 := fun e0 => by
      have h2 := HTJ.out.sub
      rw [e0] at h2
      cases h2 with
      | nil => have h5 : l2.length = 1 := rfl; simp [Tr.size] at hsz; omega
      | node _ _ _ h3 _ _ _ => exact h3 rfl
    simp; exact this
  have HJI : Hid (j < 4294967296) := HTJ.out.idx
  clear hj hiv hus hsz
  go_wp2_with fail
  refine (HS2.out.mut fun F hI => HK.out.delete 2 w2 hI HJ.out.inv HHJ.out HTJ.out HL.out.2.1 HRD2.out.1 (by have := HRD2.out; omega) HR2.out.1).mono ?_
  rintro e w3 ⟨C, rd3, ⟨h30, h31, hq⟩, hs3⟩
  have HS3 := Lib.hid hs3
  have hub := upd_max (n := l2.length) (by decide)
  have HRD3 : Hid (0 ≤ rd3 ∧ rd3 ≤ 10000) := ⟨by have := HRD2.out; omega, by have := HRD2.out; omega⟩
  clear hs3 HS2 h30 h31 hub
  rcases hq with ⟨q1, -⟩ | ⟨-, q2, -⟩ | ⟨-, -, m, v, rfl, hm, -⟩
  · exact absurd (HL.out.2.2.2.1.symm.trans q1) (by simp)
  · exact absurd q2 (by have := HL.out; have := HFB.out; omega)
  rw [HL.out.2.2.2.2.1] at hm
  rw [HL.out.2.2.2.1]
  obtain ⟨rfl, rfl⟩ := nil_of_ents hm.sub hm.ents
  have HTJ2 := Lib.hid (HTJ.out.kept hm.kept hm.inv hm.agg)
  clear hm HTJ HJ
  go_wp2_with fail
  refine (HS3.out.size HRD3.out.1 (by have := HRD3.out; omega) HTJ2.out).mono ?_
  rintro e w4 ⟨rfl, rd4, hs4, h40, h41⟩
  rw [HL.out.2.2.2.2.2.2.2.2]
  have HB4 := Lib.hid hs4.below
  clear hs4 HS3 h40 h41
  go_wp2_with fail
  go_ret
  exact ⟨rfl, HB4.out⟩
end Go.Proofs.YtckkmmdibgoajaaGreat
set_option linter.unusedVariables false
set_option linter.unusedSimpArgs false
namespace Go.Proofs.YtckkmmdibgoajaaGreat
open Go.RowKit
section
variable {I : AImpl} {w wr : World} {F F1 : Nat → Prop} {p : Value} {A : Ar} {rd : Int} {rs : List Row} {bs : List (Nat × Obj)} {a : Option Addr} {c : Nat} {P : List Nat}
/-- a call that alters the arena, and what is known of the arena's place -/
theorem Ins.mutO {f : FuncId} {args : Array Value} {Q : Ending → Ar → Int → Prop} (h : Ins I w F p A rd rs bs wr) (hc : ∀ F1, I.Is wr p A rd F1 → (∀ k, (OldI w F k ∨ SG rs bs k) → k < wr.heap.size ∧ ¬ F1 k) → Calls Tryz.prog f args wr (Mut I p F1 Q wr)) :
    Calls Tryz.prog f args wr fun e w' => ∃ A' rd', Q e A' rd' ∧ Ins I w F p A' rd' rs bs w' := by
  obtain ⟨F1, f1, f2, f3⟩ := h.mr.has
  refine (hc F1 f1 f3).mono ?_
  rintro e w1 ⟨F', A', rd', hal, hI, hq⟩
  have hst := h.mr.stepA f2 f3 hal hI
  exact ⟨A', rd', hq, hst.1, fun k hk => (hst.2 k (.inl hk)).trans (h.kp k hk), fun r hr => row_keep (h.rows r hr) fun k hk' => hst.2 k (.inr (.inl ⟨r, hr, hk'⟩)), fun b hb => ⟨(h.boxes b hb).1, (hst.2 b.1 (.inr (.inr ⟨b, hb, rfl⟩))).trans (h.boxes b hb).2⟩, h.rr, h.bb, h.rb⟩
/-- the slice (a, length of P, c) reads as P, and is none of the arena's -/
def PathAt (w : World) (F : Nat → Prop) (a : Option Addr) (c : Nat) (P : List Nat) : Prop :=
  P.length ≤ c ∧ (P = [] ∨ ∃ g o, a = some ⟨g, o, none⟩ ∧ g < w.heap.size ∧ ¬ F g ∧ ∀ (m x : Nat), P[m]? = some x → w.cell? ⟨g, o + m, none⟩ = some (.int .u32 (x : Int)))
theorem PathAt.ins (h : PathAt w F a c P) (hi : Ins I w F p A rd rs bs wr) (hF : ∀ k, (OldI w F k ∨ SG rs bs k) → k < wr.heap.size ∧ ¬ F1 k) : PathAt wr F1 a c P := by
  refine ⟨h.1, h.2.imp id ?_⟩
  rintro ⟨g, o, rfl, h1, h2, h3⟩
  have hg := hF g (.inl ⟨h1, h2⟩)
  exact ⟨g, o, rfl, hg.1, hg.2, fun m x hx => (World.cell?_of_block (hi.kp g ⟨h1, h2⟩)).trans (h3 m x hx)⟩
theorem PathAt.tail {x : Nat} (h : PathAt w F a c (x :: P)) : PathAt w F (if c = 1 then a else a.map (·.add 1)) (c - 1) P := by
  obtain ⟨h1, h2⟩ := h
  rw [List.length_cons] at h1
  refine ⟨by omega, ?_⟩
  rcases h2 with h2 | ⟨g, o, rfl, h3, h4, h5⟩
  · cases h2
  by_cases hc : c = 1
  · exact .inl (List.eq_nil_of_length_eq_zero (by omega))
  · rw [if_neg hc]
    exact .inr ⟨g, o + 1, rfl, h3, h4, fun m y hy => by have := h5 (m + 1) y (by simpa using hy); rw [show o + 1 + m = o + (m + 1) by omega]; exact this⟩
theorem PathAt.head {x : Nat} (h : PathAt w F a c (x :: P)) (hi : Ins I w F p A rd rs bs wr) : ∃ g o, a = some ⟨g, o, none⟩ ∧ wr.cell? ⟨g, o, none⟩ = some (.int .u32 (x : Int)) := by
  rcases h.2 with h2 | ⟨g, o, rfl, h3, h4, h5⟩
  · cases h2
  · exact ⟨g, o, rfl, (World.cell?_of_block (hi.kp g ⟨h3, h4⟩)).trans (h5 0 x rfl)⟩
/-- a call that reads and gives a row of indexes -/
theorem Ins.path {bd : Int} {f : FuncId} {args : Array Value} (h : Ins I w F p A rd rs bs wr) (hc : ∀ F1, I.Is wr p A rd F1 → Calls Tryz.prog f args wr (PathRes I p A rd F1 bd P wr)) :
    Calls Tryz.prog f args wr fun e w' => ∃ rd' a c, e = .returned (.slice a P.length c) ∧ Ins I w F p A rd' (⟨30, 1, .slice a P.length c, P.length, u32s P⟩ :: rs) bs w' ∧ rd ≤ rd' ∧ rd' ≤ rd + bd := by
  obtain ⟨F1, f1, f2, f3⟩ := h.mr.has
  refine (hc F1 f1).mono ?_
  rintro e w1 ⟨F', rd', a, c, rfl, hal, hI, h0, h1, hrow, hnF⟩
  have hst := h.mr.stepA f2 f3 hal hI
  refine ⟨rd', a, c, rfl, ⟨⟨⟨F', hI, fun _ _ => Nat.zero_le _, fun k hk => ?_⟩, hst.1.below, hst.1.hB⟩, fun k hk => (hst.2 k (.inl hk)).trans (h.kp k hk), fun r hr => ?_, fun b hb => ⟨(h.boxes b hb).1, (hst.2 b.1 (.inr (.inr ⟨b, hb, rfl⟩))).trans (h.boxes b hb).2⟩, List.pairwise_cons.2 ⟨fun r hr k hk e => ?_, h.rr⟩, h.bb, fun r hr b hb => ?_⟩, h0, h1⟩
  · rcases hk with hk | ⟨r, hr, hk⟩ | ⟨b, hb, rfl⟩
    · exact hal.apart f3 k (.inl hk)
    · rcases List.mem_cons.1 hr with rfl | hr
      · exact ⟨(row_lt hrow k hk).2, hnF k hk⟩
      · exact hal.apart f3 k (.inr (.inl ⟨r, hr, hk⟩))
    · exact hal.apart f3 b.1 (.inr (.inr ⟨b, hb, rfl⟩))
  · rcases List.mem_cons.1 hr with rfl | hr
    · exact row_mono hrow h.size
    · exact row_keep (h.rows r hr) fun k hk' => hst.2 k (.inr (.inl ⟨r, hr, hk'⟩))
  · have h1 := row_from hrow k hk
    have h2 := h.lt (.inl ⟨r, hr, e⟩)
    omega
  · rcases List.mem_cons.1 hr with rfl | hr
    · intro e
      have h1 := row_from hrow b.1 e
      have h2 := h.lt (.inr ⟨b, hb, rfl⟩)
      omega
    · exact h.rb r hr b hb
theorem PathAt.ofRow {B : Nat} (hr : wr.ownsRow B 30 1 (.slice a P.length c) P.length (u32s P)) (hg : ∀ g, (Value.slice a P.length c).ownBlock = some g → g < wr.heap.size ∧ ¬ F1 g) : PathAt wr F1 a c P := by
  have hle : P.length ≤ c := by
    rcases hr.2 with ⟨h1, h2⟩ | ⟨g, cap, cur, h1, _, _, h2, _⟩
    · omega
    · injection h1 with _ _ h3
      omega
  refine ⟨hle, ?_⟩
  cases P with
  | nil => exact .inl rfl
  | cons x P =>
    obtain ⟨g, rfl, h1, -⟩ := row_cell hr (j := 0) (by simp)
    refine .inr ⟨g, 0, rfl, h1, (hg g rfl).2, fun m y hy => ?_⟩
    obtain ⟨g', hgg, -, h3⟩ := row_cell hr (j := m) (List.getElem?_eq_some_iff.1 hy).1
    have hgg' : g = g' := by injection hgg with q; injection q
    subst hgg'
    rw [Nat.zero_add, h3]
    unfold u32s
    rw [List.getElem?_map, hy]
    rfl
end
set_option maxHeartbeats 16000000 in
set_option maxRecDepth 100000 in
theorem replL_any (I : AImpl) (K : RotImpl I) (KN : ShNum) {p : Value} {A0 A : Ar} {rd k : Int} {F : Nat → Prop} {held : Nat → Nat} {x : Nat} {X : Nd} {tl tr : Tr} {ll lr : List En} (w : World) (hI : I.Is w p A rd F) (hM : Mid A0 held A [x]) (hm : ∀ j, held j ≤ 1048480)
    (hL : At A x tl ll) (hR : At A X.right tr lr) (hwl : WfL ll) (hwr : WfL lr) (hwe : i64R X.key ∧ i64R X.val) (hb : HbL ll lr) (hs : ll.length + lr.length + 1 ≤ 2147483647) (h0 : 0 ≤ rd) (h1 : rd ≤ 2199023254900) (hfr : (wbL ll lr ∧ 1 ≤ A.σ.free.length) ∨ 4 ≤ A.σ.free.length) (hk : k < X.key) :
    Calls Tryz.prog 86 #[p, .agg #[Value.int .i64 X.key, .int .i64 X.val, .int .u32 (X.left : Int), .int .u32 (X.right : Int), .int .i64 X.size, .int .i64 X.sum, .int .i64 X.mn, .int .i64 X.mx], .int .i64 k, .int .u32 (x : Int)] w (Mut I p F (BalQ A0 A rd held ll lr ⟨X.key, X.val⟩) w) := by
  obtain ⟨pa, rfl⟩ := I.ptr hI
  have hs0 := (Ins.start hI).box #[Value.int .i64 X.key, .int .i64 X.val, .int .u32 (X.left : Int), .int .u32 (X.right : Int), .int .i64 X.size, .int .i64 X.sum, .int .i64 X.mn, .int .i64 X.mx] 64
  have HK := Lib.hid K
  have HKN := Lib.hid KN
  have HM := Lib.hid hM
  have HH := Lib.hid hm
  have HL := Lib.hid hL
  have HR := Lib.hid hR
  have HW : Hid (WfL ll ∧ WfL lr ∧ (i64R X.key ∧ i64R X.val)) := ⟨hwl, hwr, hwe⟩
  have HB := Lib.hid hb
  have HSZ := Lib.hid hs
  have HFR := Lib.hid hfr
  have HRD : Hid (0 ≤ rd ∧ rd ≤ 2199023254900) := ⟨h0, h1⟩
  have d1 : decide (k < X.key) = true := decide_eq_true hk
  clear hI hM hm hL hR hwl hwr hwe hb hs hfr h0 h1 K KN
  go_enter Tryz.func86, Tryz.ntmps86
  go_upto_region 1 with fail
  generalize w.alloc (Obj.cells #[Value.int .i64 X.key, .int .i64 X.val, .int .u32 (X.left : Int), .int .u32 (X.right : Int), .int .i64 X.size, .int .i64 X.sum, .int .i64 X.mn, .int .i64 X.mx] 64) = w1 at hs0 ⊢
  generalize w.heap.size = g at hs0 ⊢
  have hsd := hs0.calm (Below.refl _ _).drew
  obtain ⟨⟨x0, x1, x2, x3, x4, x5, x6, x7⟩, -⟩ := hs0.row8 (g := g) (X := X) (by simp [ndRow])
  have HSD := Lib.hid hsd
  clear hsd hs0
  go_region
  obtain ⟨⟨x0, x1, x2, x3, x4, x5, x6, x7⟩, -⟩ := HSD.out.row8 (g := g) (X := X) (by simp [ndRow])
  go_wp2_with fail
  refine (HSD.out.mut fun F1 hI1 => balance_any I HK.out HKN.out ⟨X.key, X.val⟩ _ hI1 HM.out.inv HM.out.agg (fun j => Nat.le_trans (plL_le HH.out [x] j) (show 1048480 + 1 ≤ 1048490 by decide)) HL.out HR.out HW.out.1 HW.out.2.1 HW.out.2.2 HB.out HSZ.out HRD.out.1 HRD.out.2 HFR.out).mono ?_
  rintro eB wB ⟨B, rdB, ⟨b1, b2, j, t, rfl, b3, b4, b5, b6⟩, hsB⟩
  obtain ⟨u1, u2, u3, u4, u5⟩ := nest_give HM.out b3 b4
  have HSB := Lib.hid hsB
  have HU : Hid (B.Inv [x] (plL held [j]) ∧ B.Idx x ∧ x < 4294967296) := ⟨u1, u2, idx_lt32 b3.inv u2⟩
  have HQ : Hid (BalQ A0 A rd held ll lr ⟨X.key, X.val⟩ (.returned (.tuple #[.int .u32 (j : Int), .int .i64 0])) (B.gone x) rdB) := ⟨b1, b2, j, t, rfl, u3, u5, fun q => by have := b5 q; omega, by omega⟩
  clear hsB HSD b1 b2 b3 b4 b5 b6 u1 u2 u3 u4 u5 x0 x1 x2 x3 x4 x5 x6 x7
  go_wp2_with fail
  refine (HSB.out.release HU.out.2.2 HU.out.2.1 HU.out.1).mono ?_
  rintro en w9 ⟨rfl, hs9⟩
  have HE := Lib.hid hs9.ends
  clear hs9 HSB
  go_wp2_with fail
  go_ret2
  obtain ⟨F', hal, hI⟩ := HE.out
  exact ⟨F', _, rdB, hal, hI, HQ.out⟩
set_option maxHeartbeats 16000000 in
set_option maxRecDepth 100000 in
theorem replR_any (I : AImpl) (K : RotImpl I) (KN : ShNum) {p : Value} {A0 A : Ar} {rd k : Int} {F : Nat → Prop} {held : Nat → Nat} {x : Nat} {X : Nd} {tl tr : Tr} {ll lr : List En} (w : World) (hI : I.Is w p A rd F) (hM : Mid A0 held A [x]) (hm : ∀ j, held j ≤ 1048480)
    (hL : At A X.left tl ll) (hR : At A x tr lr) (hwl : WfL ll) (hwr : WfL lr) (hwe : i64R X.key ∧ i64R X.val) (hb : HbL ll lr) (hs : ll.length + lr.length + 1 ≤ 2147483647) (h0 : 0 ≤ rd) (h1 : rd ≤ 2199023254900) (hfr : (wbL ll lr ∧ 1 ≤ A.σ.free.length) ∨ 4 ≤ A.σ.free.length) (hk : ¬ k < X.key) :
    Calls Tryz.prog 86 #[p, .agg #[Value.int .i64 X.key, .int .i64 X.val, .int .u32 (X.left : Int), .int .u32 (X.right : Int), .int .i64 X.size, .int .i64 X.sum, .int .i64 X.mn, .int .i64 X.mx], .int .i64 k, .int .u32 (x : Int)] w (Mut I p F (BalQ A0 A rd held ll lr ⟨X.key, X.val⟩) w) := by
  obtain ⟨pa, rfl⟩ := I.ptr hI
  have hs0 := (Ins.start hI).box #[Value.int .i64 X.key, .int .i64 X.val, .int .u32 (X.left : Int), .int .u32 (X.right : Int), .int .i64 X.size, .int .i64 X.sum, .int .i64 X.mn, .int .i64 X.mx] 64
  have HK := Lib.hid K
  have HKN := Lib.hid KN
  have HM := Lib.hid hM
  have HH := Lib.hid hm
  have HL := Lib.hid hL
  have HR := Lib.hid hR
  have HW : Hid (WfL ll ∧ WfL lr ∧ (i64R X.key ∧ i64R X.val)) := ⟨hwl, hwr, hwe⟩
  have HB := Lib.hid hb
  have HSZ := Lib.hid hs
  have HFR := Lib.hid hfr
  have HRD : Hid (0 ≤ rd ∧ rd ≤ 2199023254900) := ⟨h0, h1⟩
  have d1 : decide (k < X.key) = false := decide_eq_false hk
  clear hI hM hm hL hR hwl hwr hwe hb hs hfr h0 h1 K KN
  go_enter Tryz.func86, Tryz.ntmps86
  go_upto_region 1 with fail
  generalize w.alloc (Obj.cells #[Value.int .i64 X.key, .int .i64 X.val, .int .u32 (X.left : Int), .int .u32 (X.right : Int), .int .i64 X.size, .int .i64 X.sum, .int .i64 X.mn, .int .i64 X.mx] 64) = w1 at hs0 ⊢
  generalize w.heap.size = g at hs0 ⊢
  have hsd := hs0.calm (Below.refl _ _).drew
  obtain ⟨⟨x0, x1, x2, x3, x4, x5, x6, x7⟩, -⟩ := hs0.row8 (g := g) (X := X) (by simp [ndRow])
  have HSD := Lib.hid hsd
  clear hsd hs0
  go_region
  obtain ⟨⟨x0, x1, x2, x3, x4, x5, x6, x7⟩, -⟩ := HSD.out.row8 (g := g) (X := X) (by simp [ndRow])
  go_wp2_with fail
  refine (HSD.out.mut fun F1 hI1 => balance_any I HK.out HKN.out ⟨X.key, X.val⟩ _ hI1 HM.out.inv HM.out.agg (fun j => Nat.le_trans (plL_le HH.out [x] j) (show 1048480 + 1 ≤ 1048490 by decide)) HL.out HR.out HW.out.1 HW.out.2.1 HW.out.2.2 HB.out HSZ.out HRD.out.1 HRD.out.2 HFR.out).mono ?_
  rintro eB wB ⟨B, rdB, ⟨b1, b2, j, t, rfl, b3, b4, b5, b6⟩, hsB⟩
  obtain ⟨u1, u2, u3, u4, u5⟩ := nest_give HM.out b3 b4
  have HSB := Lib.hid hsB
  have HU : Hid (B.Inv [x] (plL held [j]) ∧ B.Idx x ∧ x < 4294967296) := ⟨u1, u2, idx_lt32 b3.inv u2⟩
  have HQ : Hid (BalQ A0 A rd held ll lr ⟨X.key, X.val⟩ (.returned (.tuple #[.int .u32 (j : Int), .int .i64 0])) (B.gone x) rdB) := ⟨b1, b2, j, t, rfl, u3, u5, fun q => by have := b5 q; omega, by omega⟩
  clear hsB HSD b1 b2 b3 b4 b5 b6 u1 u2 u3 u4 u5 x0 x1 x2 x3 x4 x5 x6 x7
  go_wp2_with fail
  refine (HSB.out.release HU.out.2.2 HU.out.2.1 HU.out.1).mono ?_
  rintro en w9 ⟨rfl, hs9⟩
  have HE := Lib.hid hs9.ends
  clear hs9 HSB
  go_wp2_with fail
  go_ret2
  obtain ⟨F', hal, hI⟩ := HE.out
  exact ⟨F', _, rdB, hal, hI, HQ.out⟩
/-- what replaceChild answers where the child was made anew -/
def RepQ (A B : Ar) (rd : Int) (held : Nat → Nat) (l : List En) (en : Ending) (C : Ar) (rd' : Int) : Prop :=
  rd ≤ rd' ∧ rd' ≤ rd + 9 ∧ ∃ (j : Nat) (t : Tr), en = .returned (.tuple #[.int .u32 (j : Int), .int .i64 0]) ∧ Mid A held C [j] ∧ At C j t l ∧ B.σ.free.length ≤ C.σ.free.length + 3
def RepOk (I : AImpl) (p : Value) (A : Ar) (held : Nat → Nat) (X : Nd) (k : Int) (lc l : List En) : Prop := ∀ {w1 : World} {B : Ar} {rd1 : Int} {F1 : Nat → Prop} {j : Nat} {u : Tr}, I.Is w1 p B rd1 F1 → Mid A held B [j] → At B j u lc → 4 ≤ B.σ.free.length → 0 ≤ rd1 → rd1 ≤ 2199023254900 →
    Calls Tryz.prog 86 #[p, .agg #[Value.int .i64 X.key, .int .i64 X.val, .int .u32 (X.left : Int), .int .u32 (X.right : Int), .int .i64 X.size, .int .i64 X.sum, .int .i64 X.mn, .int .i64 X.mx], .int .i64 k, .int .u32 (j : Int)] w1 (Mut I p F1 (RepQ A B rd1 held l) w1)
theorem repOk_l (I : AImpl) (K : RotImpl I) (KN : ShNum) {p : Value} {A : Ar} {held : Nat → Nat} {X : Nd} {k : Int} {tr : Tr} {lc lr l : List En} (hm : ∀ j, held j ≤ 1048480) (hR : At A X.right tr lr) (hwl : WfL lc) (hwr : WfL lr) (hwe : i64R X.key ∧ i64R X.val) (hb : HbL lc lr) (hs : lc.length + lr.length + 1 ≤ 2147483647) (hk : k < X.key) (hl : lc ++ ⟨X.key, X.val⟩ :: lr = l) : RepOk I p A held X k lc l :=
  fun {w1 B rd1 F1 j u} hI hM hj hf h0 h1 => (replL_any I K KN w1 hI hM hm hj (hR.kept hM.kept) hwl hwr hwe hb hs h0 h1 (.inr hf) hk).mono fun en w' ⟨F', C, rd', c1, c2, q1, q2, j2, t2, q3, q4, q5, _, q6⟩ => ⟨F', C, rd', c1, c2, q1, q2, j2, t2, q3, q4, hl ▸ q5, q6⟩
theorem repOk_r (I : AImpl) (K : RotImpl I) (KN : ShNum) {p : Value} {A : Ar} {held : Nat → Nat} {X : Nd} {k : Int} {tl : Tr} {ll lc l : List En} (hm : ∀ j, held j ≤ 1048480) (hL : At A X.left tl ll) (hwl : WfL ll) (hwr : WfL lc) (hwe : i64R X.key ∧ i64R X.val) (hb : HbL ll lc) (hs : ll.length + lc.length + 1 ≤ 2147483647) (hk : ¬ k < X.key) (hl : ll ++ ⟨X.key, X.val⟩ :: lc = l) : RepOk I p A held X k lc l :=
  fun {w1 B rd1 F1 j u} hI hM hj hf h0 h1 => (replR_any I K KN w1 hI hM hm (hL.kept hM.kept) hj hwl hwr hwe hb hs h0 h1 (.inr hf) hk).mono fun en w' ⟨F', C, rd', c1, c2, q1, q2, j2, t2, q3, q4, q5, _, q6⟩ => ⟨F', C, rd', c1, c2, q1, q2, j2, t2, q3, q4, hl ▸ q5, q6⟩
end Go.Proofs.YtckkmmdibgoajaaGreat
set_option linter.unusedVariables false
set_option linter.unusedSimpArgs false
namespace Go.Proofs.YtckkmmdibgoajaaGreat
open Go.RowKit
/-- what put answers -/
def PutQ (A : Ar) (rd : Int) (held : Nat → Nat) (h : Nat) (l : List En) (e : En) (en : Ending) (B : Ar) (rd' : Int) : Prop :=
  rd ≤ rd' ∧ rd' ≤ rd + 10 * (h : Int) ∧ ∃ (j : Nat) (u : Tr), en = .returned (.tuple #[.int .u32 (j : Int), .int .i64 0]) ∧ Mid A held B [j] ∧ At B j u (insE l e) ∧ A.σ.free.length ≤ B.σ.free.length + 3 * h + 1
structure PutP (I : AImpl) (w : World) (p : Value) (A : Ar) (rd : Int) (F : Nat → Prop) (held : Nat → Nat) (i : Nat) (t : Tr) (l : List En) (e : En) (a : Option Addr) (n c : Nat) : Prop where
  is : I.Is w p A rd F
  inv : A.Inv [] held
  agg : A.Agg
  few : ∀ j, held j ≤ 1048400
  tree : At A i t l
  up : Up l
  wf : WfL l
  wfe : i64R e.key ∧ i64R e.val
  size : l.length ≤ 2147483645
  rd0 : 0 ≤ rd
  rd1 : rd + 10 * (t.ht : Int) ≤ 2199023254000
  room : 3 * t.ht + 4 ≤ A.σ.free.length
  path : PathAt w F a c (pathT A.nd e.key t)
  len : (pathT A.nd e.key t).length = n
def PutOk (I : AImpl) (t : Tr) : Prop := ∀ {p : Value} {A : Ar} {rd : Int} {F : Nat → Prop} {held : Nat → Nat} {i : Nat} {l : List En} (e : En) {a : Option Addr} {n c : Nat} (w : World), PutP I w p A rd F held i t l e a n c →
    Calls Tryz.prog 53 #[p, .slice a n c, .agg #[Value.int .i64 e.key, .int .i64 e.val]] w (Mut I p F (PutQ A rd held t.ht l e) w)
set_option maxHeartbeats 16000000 in
set_option maxRecDepth 100000 in
theorem put_nil (I : AImpl) : PutOk I .nil := by
  intro p A rd F held i l e a n c w hP
  obtain ⟨pa, rfl⟩ := I.ptr hP.is
  have hs0 := (Ins.start hP.is).box #[Value.int .i64 e.key, .int .i64 e.val] 25
  have hl : l = [] := List.eq_nil_of_length_eq_zero hP.tree.size.symm
  obtain rfl : n = 0 := hP.len.symm
  subst hl
  obtain ⟨i1, t1, hf⟩ : ∃ i t, A.σ.free = i :: t := by
    cases hq : A.σ.free with
    | nil => have := hP.room; rw [hq] at this; simp at this
    | cons i t => exact ⟨i, t, rfl⟩
  have hz : A.Idx 0 := .inl rfl
  have hsz : (A.node e.key e.val 0 0).size ≤ 2147483647 := by show 1 + A.sz 0 + A.sz 0 ≤ _; rw [show A.sz 0 = 0 from if_pos rfl]; decide
  obtain ⟨m1, m2, m3, m4, m5, m6⟩ := (Mid.start hP.inv hP.agg).made hf (key := e.key) (val := e.val) hz hz hsz
  have HP : Hid (A.Inv [] held ∧ A.Agg ∧ (∀ j, held j ≤ 1048576) ∧ (i64R e.key ∧ i64R e.val) ∧ A.Idx 0 ∧ (A.node e.key e.val 0 0).size ≤ 2147483647 ∧ A.σ.free = i1 :: t1) := ⟨hP.inv, hP.agg, fun j => Nat.le_trans (hP.few j) (by decide), hP.wfe, hz, hsz, hf⟩
  have HQ : Hid (PutQ A rd held Tr.nil.ht [] e (.returned (.tuple #[.int .u32 (i1 : Int), .int .i64 0])) (A.made i1 t1 (A.node e.key e.val 0 0)) rd) :=
    ⟨Int.le_refl _, by show rd ≤ rd + 10 * ((0 : Nat) : Int); omega, i1, _, rfl, m1, At.join m1.agg m4 m5 (by rw [m6]; exact ⟨rfl, rfl, rfl, rfl⟩) (At.nil _) (At.nil _) (by unfold wbL wb; decide), by rw [m3, hf]; simp⟩
  clear hP m1 m2 m3 m4 m5 m6 hf hz hsz
  go_enter Tryz.func53, Tryz.ntmps53
  go_upto_region 1 with fail
  generalize w.alloc (Obj.cells #[Value.int .i64 e.key, .int .i64 e.val] 25) = w1 at hs0 ⊢
  generalize w.heap.size = g at hs0 ⊢
  have HS0 := Lib.hid hs0
  clear hs0
  obtain ⟨x0, x1⟩ := two_ofE (HS0.out.boxes (g, Obj.cells #[Value.int .i64 e.key, .int .i64 e.val] 25 (0, 0)) (by simp)).2
  go_wp2_with fail
  refine (HS0.out.make (l := 0) (r := 0) HP.out.1 HP.out.2.1 HP.out.2.2.1 HP.out.2.2.2.1.1 HP.out.2.2.2.1.2 HP.out.2.2.2.2.1 HP.out.2.2.2.2.1 HP.out.2.2.2.2.2.1 HP.out.2.2.2.2.2.2).mono ?_
  rintro en w2 ⟨rfl, hs⟩
  have HE := Lib.hid hs.ends
  clear hs HS0 x0 x1
  go_wp2_with fail
  go_ret2
  obtain ⟨F', hal, hI⟩ := HE.out
  exact ⟨F', _, rd, hal, hI, HQ.out⟩
set_option maxHeartbeats 16000000 in
set_option maxRecDepth 100000 in
theorem put_node (I : AImpl) (K : RotImpl I) (KN : ShNum) {i' : Nat} {tl tr : Tr} (ihl : PutOk I tl) (ihr : PutOk I tr) : PutOk I (.node i' tl tr) := by
  intro p A rd F held i l e a n c w hP
  obtain ⟨pa, rfl⟩ := I.ptr hP.is
  have hs0 := (Ins.start hP.is).box #[Value.int .i64 e.key, .int .i64 e.val] 25
  have hii : i = i' ∧ i ≠ 0 := by
    have h := hP.tree.sub
    cases h with
    | node _ _ _ h1 _ _ _ => exact ⟨rfl, h1⟩
  obtain ⟨rfl, hi0⟩ := hii
  have hon := hP.tree.idx.resolve_left hi0
  obtain ⟨X, hX⟩ : ∃ x, A.nd i = x := ⟨_, rfl⟩
  obtain ⟨tl', tr', ll, lr, hnode, rfl, hA, hB, hab⟩ := hP.tree.split hi0
  injection hnode with _ e1 e2
  subst e1 e2
  rw [hX] at hA hB
  have hup := hP.up
  have hwf := hP.wf
  have hsz := hP.size
  have hpa := hP.path
  have hpl := hP.len
  rw [hX] at hup hwf hsz ⊢
  have hpt : pathT A.nd e.key (.node i tl tr) = i :: (if e.key = X.key then [] else if e.key < X.key then pathT A.nd e.key tl else pathT A.nd e.key tr) := by rw [← hX]; rfl
  rw [hpt] at hpa hpl
  rw [List.length_cons] at hpl
  have hn : 1 ≤ n := by omega
  have hnc : n ≤ c := by have := hpa.1; rw [List.length_cons] at this; omega
  obtain ⟨ga, oa, rfl, -⟩ := hpa.head (Ins.start hP.is)
  have hlen : (ll ++ (⟨X.key, X.val⟩ : En) :: lr).length = ll.length + lr.length + 1 := by simp; omega
  rw [hlen] at hsz
  have hup2 := up_app hup
  have HK := Lib.hid K
  have HKN := Lib.hid KN
  have HIL : Hid (PutOk I tl) := @ihl
  have HIR : Hid (PutOk I tr) := @ihr
  have HON := Lib.hid hon
  have HX := Lib.hid hX
  have HI32 : Hid (i < 4294967296) := idx_lt32 hP.inv (.inr hon)
  have HHT : Hid (tl.ht + 1 ≤ (Tr.node i tl tr).ht ∧ tr.ht + 1 ≤ (Tr.node i tl tr).ht) := by
    have h1 : (Tr.node i tl tr).ht = 1 + max tl.ht tr.ht := rfl
    have h2 := Nat.le_max_left tl.ht tr.ht
    have h3 := Nat.le_max_right tl.ht tr.ht
    exact ⟨by omega, by omega⟩
  have HP : Hid (A.Inv [] held ∧ A.Agg ∧ (∀ j, held j ≤ 1048400) ∧ At A X.left tl ll ∧ At A X.right tr lr ∧ (i64R e.key ∧ i64R e.val)) := ⟨hP.inv, hP.agg, hP.few, hA, hB, hP.wfe⟩
  have HU : Hid (Up (ll ++ (⟨X.key, X.val⟩ : En) :: lr) ∧ Up ll ∧ Up lr ∧ wbL ll lr) := ⟨hup, hup2.1, hup2.2.1, hab⟩
  have HW : Hid (WfL ll ∧ WfL lr ∧ (i64R X.key ∧ i64R X.val)) := ⟨hwf.left, hwf.right.tail, hwf (⟨X.key, X.val⟩ : En) (by simp)⟩
  have HSZ : Hid (ll.length + lr.length + 1 ≤ 2147483645) := hsz
  have HRD : Hid (0 ≤ rd ∧ rd + 10 * ((Tr.node i tl tr).ht : Int) ≤ 2199023254000 ∧ 3 * (Tr.node i tl tr).ht + 4 ≤ A.σ.free.length) := ⟨hP.rd0, hP.rd1, hP.room⟩
  have HPA : Hid (PathAt w F (some ⟨ga, oa, none⟩) c (i :: (if e.key = X.key then [] else if e.key < X.key then pathT A.nd e.key tl else pathT A.nd e.key tr)) ∧ (if e.key = X.key then [] else if e.key < X.key then pathT A.nd e.key tl else pathT A.nd e.key tr).length + 1 = n) := ⟨hpa, hpl⟩
  obtain ⟨H, hH⟩ : ∃ H, (Tr.node i tl tr).ht = H := ⟨_, rfl⟩
  rw [hH] at HHT HRD ⊢
  clear hP ihl ihr hi0 hon hX K KN hA hB hab hup hwf hsz hpa hpl hpt hlen hup2 hH
  have n0 : ¬ (n : Int) = 0 := by omega
  have n1 : decide ((n : Int) = 0) = false := decide_eq_false n0
  go_enter Tryz.func53, Tryz.ntmps53
  go_upto_region 1 with fail
  generalize w.alloc (Obj.cells #[Value.int .i64 e.key, .int .i64 e.val] 25) = w1 at hs0 ⊢
  generalize w.heap.size = ge at hs0 ⊢
  have HS0 := Lib.hid hs0
  clear hs0
  obtain ⟨gb, ob, hgo, y0⟩ := HPA.out.1.head HS0.out
  obtain ⟨rfl, rfl⟩ : ga = gb ∧ oa = ob := by
    have := Option.some.inj hgo
    injection this with q1 q2
    exact ⟨q1, q2⟩
  clear hgo
  go_wp2_with fail
  refine (HS0.out.node HRD.out.1 (by have := HRD.out; omega) HI32.out HON.out).mono ?_
  rintro en w2 ⟨rfl, hs⟩
  rw [HX.out]
  unfold ndRow
  have hs1 := hs.box #[Value.int .i64 X.key, .int .i64 X.val, .int .u32 (X.left : Int), .int .u32 (X.right : Int), .int .i64 X.size, .int .i64 X.sum, .int .i64 X.mn, .int .i64 X.mx] 64
  clear hs HS0 y0
  go_upto_region 4 with fail
  generalize w2.alloc (Obj.cells #[Value.int .i64 X.key, .int .i64 X.val, .int .u32 (X.left : Int), .int .u32 (X.right : Int), .int .i64 X.size, .int .i64 X.sum, .int .i64 X.mn, .int .i64 X.mx] 64) = w3 at hs1 ⊢
  generalize w2.heap.size = gx at hs1 ⊢
  have HS1 := Lib.hid hs1
  clear hs1
  obtain ⟨⟨x0, x1, x2, x3, x4, x5, x6, x7⟩, -⟩ := HS1.out.row8 (g := gx) (X := X) (by simp [ndRow])
  obtain ⟨y0, y1⟩ := two_ofE (HS1.out.boxes (ge, Obj.cells #[Value.int .i64 e.key, .int .i64 e.val] 25 (0, 0)) (by simp)).2
  by_cases hk : X.key = e.key
  · have d1 : decide (X.key = e.key) = true := decide_eq_true hk
    have hins : insE (ll ++ (⟨X.key, X.val⟩ : En) :: lr) e = ll ++ e :: lr := ins_m HU.out.1 hk.symm
    obtain ⟨i1, t1, hf⟩ : ∃ i t, A.σ.free = i :: t := by
      cases hq : A.σ.free with
      | nil => have := HRD.out.2.2; rw [hq] at this; simp at this
      | cons i t => exact ⟨i, t, rfl⟩
    have hnl := HP.out.2.2.2.1.sz HP.out.2.1
    have hnr := HP.out.2.2.2.2.1.sz HP.out.2.1
    have hsz : (A.node e.key e.val X.left X.right).size ≤ 2147483647 := by show 1 + A.sz X.left + A.sz X.right ≤ _; have := HSZ.out; omega
    obtain ⟨m1, m2, m3, m4, m5, m6⟩ := (Mid.start HP.out.1 HP.out.2.1).made hf (key := e.key) (val := e.val) HP.out.2.2.2.1.idx HP.out.2.2.2.2.1.idx hsz
    have HQ : Hid (PutQ A rd held H (ll ++ (⟨X.key, X.val⟩ : En) :: lr) e (.returned (.tuple #[.int .u32 (i1 : Int), .int .i64 0])) (A.made i1 t1 (A.node e.key e.val X.left X.right)) (rd + 1)) :=
      ⟨by omega, by have := HHT.out; omega, i1, _, rfl, m1, by rw [hins]; exact At.join m1.agg m4 m5 (by rw [m6]; exact ⟨rfl, rfl, rfl, rfl⟩) (HP.out.2.2.2.1.kept m2) (HP.out.2.2.2.2.1.kept m2) HU.out.2.2.2, by rw [m3, hf, List.length_cons]; omega⟩
    have HMK : Hid ((A.node e.key e.val X.left X.right).size ≤ 2147483647 ∧ A.σ.free = i1 :: t1) := ⟨hsz, hf⟩
    clear hins hf hnl hnr hsz m1 m2 m3 m4 m5 m6
    go_wp2_with fail
    refine (HS1.out.make HP.out.1 HP.out.2.1 (fun j => Nat.le_trans (HP.out.2.2.1 j) (by decide)) HP.out.2.2.2.2.2.1 HP.out.2.2.2.2.2.2 HP.out.2.2.2.1.idx HP.out.2.2.2.2.1.idx HMK.out.1 HMK.out.2).mono ?_
    rintro en w4 ⟨rfl, hs⟩
    have HE := Lib.hid hs.ends
    clear hs HS1 x0 x1 x2 x3 x4 x5 x6 x7 y0 y1
    go_wp2_with fail
    go_ret2
    obtain ⟨F', hal, hI⟩ := HE.out
    exact ⟨F', _, _, hal, hI, HQ.out⟩
  have d1 : decide (X.key = e.key) = false := decide_eq_false hk
  have hk' : ¬ e.key = X.key := fun q => hk q.symm
  obtain ⟨P, hPP⟩ : ∃ P, (if e.key < X.key then pathT A.nd e.key tl else pathT A.nd e.key tr) = P := ⟨_, rfl⟩
  have hpa := HPA.out
  rw [if_neg hk', hPP] at hpa
  have HPT := Lib.hid hpa.1.tail
  have hpn : P.length + 1 = n := hpa.2
  have HCH : Hid (∃ tc ic lc, PutOk I tc ∧ At A ic tc lc ∧ Up lc ∧ WfL lc ∧ lc.length ≤ 2147483645 ∧ tc.ht + 1 ≤ H ∧ pathT A.nd e.key tc = P ∧ RepOk I (.pointer (some pa)) A held X e.key (insE lc e) (insE (ll ++ (⟨X.key, X.val⟩ : En) :: lr) e)) := by
    have hs := HSZ.out
    by_cases hlt : e.key < X.key
    · have h1 := ins_lenN HU.out.2.1 e
      exact ⟨tl, X.left, ll, HIL.out, HP.out.2.2.2.1, HU.out.2.1, HW.out.1, by omega, HHT.out.1, by rw [← hPP, if_pos hlt], repOk_l I HK.out HKN.out (fun j => Nat.le_trans (HP.out.2.2.1 j) (by decide)) HP.out.2.2.2.2.1 (insE_wf HW.out.1 HP.out.2.2.2.2.2) HW.out.2.1 HW.out.2.2 (hb_more_l HU.out.2.2.2 h1.1 h1.2) (by omega) hlt (ins_l HU.out.1 hlt).symm⟩
    · have h1 := ins_lenN HU.out.2.2.1 e
      have hgt : X.key < e.key := by omega
      exact ⟨tr, X.right, lr, HIR.out, HP.out.2.2.2.2.1, HU.out.2.2.1, HW.out.2.1, by omega, HHT.out.2, by rw [← hPP, if_neg hlt], repOk_r I HK.out HKN.out (fun j => Nat.le_trans (HP.out.2.2.1 j) (by decide)) HP.out.2.2.2.1 HW.out.1 (insE_wf HW.out.2.1 HP.out.2.2.2.2.2) HW.out.2.2 (hb_more_r HU.out.2.2.2 h1.1 h1.2) (by omega) hlt (ins_r HU.out.1 hgt).symm⟩
  clear hpa hPP HPA
  obtain ⟨m, rfl⟩ : ∃ m, n = m + 1 := ⟨n - 1, by omega⟩
  obtain ⟨d, rfl⟩ : ∃ d, c = d + 1 := ⟨c - 1, by omega⟩
  have HPN : Hid (P.length = m) := by show _ = _; omega
  have hm1 : (1 : Int) ≤ (m : Int) + 1 := by omega
  have hpt : PathAt w F (if d = 0 then some ⟨ga, oa, none⟩ else some ⟨ga, oa + 1, none⟩) d P := by
    have h := HPT.out
    by_cases hd : d = 0
    · subst hd; exact h
    · rw [if_neg hd]
      rw [if_neg (by omega)] at h
      exact h
  have HPT := Lib.hid hpt
  clear hpt hpn
  have HCE : Hid (∀ {wx : World} {C : Ar} {rdx : Int}, Ins I w F (.pointer (some pa)) C rdx [] [(gx, Obj.cells #[Value.int .i64 X.key, .int .i64 X.val, .int .u32 (X.left : Int), .int .u32 (X.right : Int), .int .i64 X.size, .int .i64 X.sum, .int .i64 X.mn, .int .i64 X.mx] 64 (0, 0)), (ge, Obj.cells #[Value.int .i64 e.key, .int .i64 e.val] 25 (0, 0))] wx → wx.cell? ⟨ge, 0, none⟩ = some (.int .i64 e.key) ∧ wx.cell? ⟨ge, 1, none⟩ = some (.int .i64 e.val)) := fun {wx C rdx} hx => two_ofE (hx.boxes (ge, Obj.cells #[Value.int .i64 e.key, .int .i64 e.val] 25 (0, 0)) (by simp)).2
  go_upto_region 6 with fail
  have hsd := HS1.out.calm (Below.refl _ _).drew
  clear HS1 x0 x1 x2 x3 x4 x5 x6 x7 y0 y1
  refine anyG_begin (S := (fun w' => w'.cell? ⟨ge, 0, none⟩ = some (.int .i64 e.key) ∧ w'.cell? ⟨ge, 1, none⟩ = some (.int .i64 e.val))) (z := 9999) (by kernel_rfl) (HCE.out hsd) (fun hHeld => ?_)
  refine anyG_take (k := 0) (o := _) (v := ?_) (some 49) rfl (by kernel_rfl) (by kernel_rfl) (by kernel_rfl) (by kernel_rfl) (fun _ _ _ h => h) (Or.inl ⟨by rfl, ?_⟩) (by assumption) (by kernel_rfl) ?_
  rotate_left
  · intro w hSw; (try dsimp only at hSw); go_simp; try with_reducible rfl
  (try simp only [Act.put, List.setIfInBounds_toArray, List.set_cons_zero, List.set_cons_succ])
  refine anyG_take (k := 1) (o := _) (v := ?_) (some 50) rfl (by kernel_rfl) (by kernel_rfl) (by kernel_rfl) (by kernel_rfl) (fun _ _ _ h => h) (Or.inl ⟨by rfl, ?_⟩) (by assumption) (by kernel_rfl) ?_
  rotate_left
  · intro w hSw; (try dsimp only at hSw); go_simp; try with_reducible rfl
  (try simp only [Act.put, List.setIfInBounds_toArray, List.set_cons_zero, List.set_cons_succ])
  refine anyG_take (k := 2) (o := _) (v := ?_) (some 51) rfl (by kernel_rfl) (by kernel_rfl) (by kernel_rfl) (by kernel_rfl) (fun _ _ _ h => h) (Or.inl ⟨by rfl, ?_⟩) (by assumption) (by kernel_rfl) ?_
  rotate_left
  · intro w hSw; (try dsimp only at hSw); go_simp; try with_reducible rfl
  (try simp only [Act.put, List.setIfInBounds_toArray, List.set_cons_zero, List.set_cons_succ])
  refine anyG_take (k := 3) (o := _) (v := ?_) (some 52) rfl (by kernel_rfl) (by kernel_rfl) (by kernel_rfl) (by kernel_rfl) (fun _ _ _ h => h) (Or.inl ⟨by rfl, ?_⟩) (by assumption) (by kernel_rfl) ?_
  rotate_left
  · intro w hSw; (try dsimp only at hSw); go_simp; try with_reducible rfl
  (try simp only [Act.put, List.setIfInBounds_toArray, List.set_cons_zero, List.set_cons_succ])
  refine anyG_one (k := 4) (o := _) (by kernel_rfl) rfl (fun KT hKT => ?_)
  go_simp
  go_at_call 53
  have hpt := HPT.out
  obtain ⟨ap, hap⟩ : ∃ ap, (if d = 0 then some (⟨ga, oa, none⟩ : Addr) else some ⟨ga, oa + 1, none⟩) = ap := ⟨_, rfl⟩
  rw [hap] at hpt ⊢
  clear hap
  obtain ⟨tc, ic, lc, c1, c2, c3, c4, c5, c6, c7, c8⟩ := HCH.out
  refine (hsd.mutO fun F1 hI1 hF1 => c1 e _ ⟨hI1, HP.out.1, HP.out.2.1, HP.out.2.2.1, c2, c3, c4, HP.out.2.2.2.2.2, c5, by have := HRD.out; omega, by have := HRD.out; omega, by have := HRD.out; omega, c7.symm ▸ hpt.ins hsd hF1, by rw [c7]; exact HPN.out⟩).mono ?_
  rintro eB wB ⟨B, rdB, ⟨q0, q1, j, u, rfl, q2, q3, q4⟩, hsB⟩
  try go_wp2_with fail
  refine hKT.out _ _ (HCE.out hsB) (fun hHeld => ?_)
  clear hKT KT
  (try simp only [Act.put, List.setIfInBounds_toArray, List.set_cons_zero, List.set_cons_succ])
  refine anyG_take (k := 5) (o := _) (v := ?_) (some 48) rfl (by kernel_rfl) (by kernel_rfl) (by kernel_rfl) (by kernel_rfl) (fun _ _ _ h => h) (Or.inl ⟨by rfl, ?_⟩) (by assumption) (by kernel_rfl) ?_
  rotate_left
  · intro w hSw; (try dsimp only at hSw); go_simp; try with_reducible rfl
  (try simp only [Act.put, List.setIfInBounds_toArray, List.set_cons_zero, List.set_cons_succ])
  refine anyG_take (k := 6) (o := _) (v := ?_) (some 54) rfl (by kernel_rfl) (by kernel_rfl) (by kernel_rfl) (by kernel_rfl) (fun _ _ _ h => h) (Or.inl ⟨by rfl, ?_⟩) (by assumption) (by kernel_rfl) ?_
  rotate_left
  · intro w hSw; (try dsimp only at hSw); go_simp; try with_reducible rfl
  (try simp only [Act.put, List.setIfInBounds_toArray, List.set_cons_zero, List.set_cons_succ])
  refine anyG_take (k := 7) (o := _) (v := ?_) (some 55) rfl (by kernel_rfl) (by kernel_rfl) (by kernel_rfl) (by kernel_rfl) (fun _ _ _ h => h) (Or.inl ⟨by rfl, ?_⟩) (by assumption) (by kernel_rfl) ?_
  rotate_left
  · intro w hSw; (try dsimp only at hSw); go_simp; try with_reducible rfl
  (try simp only [Act.put, List.setIfInBounds_toArray, List.set_cons_zero, List.set_cons_succ])
  refine anyG_take (k := 8) (o := _) (v := ?_) (some 10) rfl (by kernel_rfl) (by kernel_rfl) (by kernel_rfl) (by kernel_rfl) (fun _ _ _ h => h) (Or.inl ⟨by rfl, ?_⟩) (by assumption) (by kernel_rfl) ?_
  rotate_left
  · intro w hSw; (try dsimp only at hSw); go_simp; try with_reducible rfl
  (try simp only [Act.put, List.setIfInBounds_toArray, List.set_cons_zero, List.set_cons_succ])
  refine anyG_take (k := 9) (o := _) (v := ?_) (some 11) rfl (by kernel_rfl) (by kernel_rfl) (by kernel_rfl) (by kernel_rfl) (fun _ _ _ h => h) (Or.inl ⟨by rfl, ?_⟩) (by assumption) (by kernel_rfl) ?_
  rotate_left
  · intro w hSw; (try dsimp only at hSw); go_simp; try with_reducible rfl
  (try simp only [Act.put, List.setIfInBounds_toArray, List.set_cons_zero, List.set_cons_succ])
  refine anyG_done (by kernel_rfl) ?_ _
  have HSB := Lib.hid hsB
  have HRB : Hid (rd + 1 ≤ rdB ∧ rdB ≤ rd + 1 + 10 * (tc.ht : Int) ∧ tc.ht + 1 ≤ H) := ⟨q0, q1, c6⟩
  have HQB : Hid (Mid A held B [j] ∧ At B j u (insE lc e) ∧ A.σ.free.length ≤ B.σ.free.length + 3 * tc.ht + 1 ∧ 4 ≤ B.σ.free.length) := ⟨q2, q3, q4, by have := HRD.out; omega⟩
  have HC8 : Hid (RepOk I (.pointer (some pa)) A held X e.key (insE lc e) (insE (ll ++ (⟨X.key, X.val⟩ : En) :: lr) e)) := @c8
  clear hsB hsd hHeld HCE HCH hpt q0 q1 q2 q3 q4 c1 c2 c3 c4 c5 c6 c7 c8 HPT
  obtain ⟨⟨x0, x1, x2, x3, x4, x5, x6, x7⟩, -⟩ := HSB.out.row8 (g := gx) (X := X) (by simp [ndRow])
  obtain ⟨y0, y1⟩ := two_ofE (HSB.out.boxes (ge, Obj.cells #[Value.int .i64 e.key, .int .i64 e.val] 25 (0, 0)) (by simp)).2
  go_wp2_with fail
  refine (HSB.out.mut fun F1 hI1 => HC8.out hI1 HQB.out.1 HQB.out.2.1 HQB.out.2.2.2 (by have := HRD.out; have := HRB.out; omega) (by have := HRD.out; have := HRB.out; omega)).mono ?_
  rintro en w5 ⟨C, rd5, ⟨q0, q1, j2, t2, rfl, q2, q3, q4⟩, hs5⟩
  have HQ : Hid (PutQ A rd held H (ll ++ (⟨X.key, X.val⟩ : En) :: lr) e (.returned (.tuple #[.int .u32 (j2 : Int), .int .i64 0])) C rd5) :=
    ⟨by have := HRB.out; omega, by have := HRB.out; omega, j2, t2, rfl, q2, q3, by have := HQB.out; have := HRB.out; omega⟩
  have HE := Lib.hid hs5.ends
  clear hs5 HSB q0 q1 q2 q3 q4 x0 x1 x2 x3 x4 x5 x6 x7 y0 y1
  go_wp2_with fail
  go_ret2
  obtain ⟨F', hal, hI⟩ := HE.out
  exact ⟨F', _, _, hal, hI, HQ.out⟩
theorem put_all (I : AImpl) (K : RotImpl I) (KN : ShNum) : ∀ t, PutOk I t
  | .nil => put_nil I
  | .node _ l r => put_node I K KN (put_all I K KN l) (put_all I K KN r)
end Go.Proofs.YtckkmmdibgoajaaGreat
set_option linter.unusedVariables false
set_option linter.unusedSimpArgs false
namespace Go.Proofs.YtckkmmdibgoajaaGreat
open Go.RowKit
theorem Got.mid {A B : Ar} {held : Nat → Nat} {j : Nat} {t : Tr} {l : List En} (hv : A.Inv [] held) (ha : A.Agg) (h : Got A held B j t l) : Mid A held B [j] ∧ At B j t l :=
  ⟨⟨hv, ha, h.kept, h.gen, by rw [plL_cons, plL_nil]; exact h.inv, h.agg⟩, ⟨h.sub, h.bal, h.ents⟩⟩
/-- Concat where the keys are in order and the slots are there -/
theorem cat_got {A B : Ar} {rd rd' : Int} {held : Nat → Nat} {L R : Nat} {ll lr : List En} {en : Ending} (h : CatQ A rd held L R ll lr en B rd') (hu : Up (ll ++ lr)) (hf : joinI (ll.length : Int) (lr.length : Int) ≤ (A.σ.free.length : Int)) :
    ∃ (j : Nat) (t : Tr), en = .returned (.tuple #[.int .u32 (j : Int), .int .i64 0]) ∧ Got A held B j t (ll ++ lr) := by
  rcases h.2.2 with ⟨_, t, h1, h2, _⟩ | ⟨_, h1, _⟩ | ⟨_, _, h1, _⟩ | ⟨_, _, _, j, t, h1, h2⟩
  · exact ⟨_, t, h1, h2⟩
  · exact absurd hu h1
  · omega
  · exact ⟨j, t, h1, h2⟩
theorem xh_side {a b : Nat} (h : a + 1 ≤ 3 * (b + 1)) (hs : a + b + 1 ≤ 2147483647) : xh a + 1 ≤ xh (a + b + 1) := xh_grow (by omega) hs
/-- what remove answers -/
def RemQ (A : Ar) (rd : Int) (held : Nat → Nat) (l : List En) (k : Int) (en : Ending) (B : Ar) (rd' : Int) : Prop :=
  rd ≤ rd' ∧ rd' ≤ rd + 34 * (xh l.length : Int) + 20 ∧ ∃ (j : Nat) (u : Tr), en = .returned (.tuple #[.int .u32 (j : Int), .int .i64 0]) ∧ Mid A held B [j] ∧ At B j u (outE l k k) ∧ A.σ.free.length ≤ B.σ.free.length + 4 * xh l.length + 4
structure RemP (I : AImpl) (w : World) (p : Value) (A : Ar) (rd : Int) (F : Nat → Prop) (held : Nat → Nat) (i : Nat) (t : Tr) (l : List En) (k : Int) (a : Option Addr) (n c : Nat) : Prop where
  is : I.Is w p A rd F
  inv : A.Inv [] held
  agg : A.Agg
  few : ∀ j, held j ≤ 1048000
  tree : At A i t l
  up : Up l
  wf : WfL l
  has : getE l k ≠ none
  size : l.length ≤ 65536
  rd0 : 0 ≤ rd
  rd1 : rd + 34 * (xh l.length : Int) + 20 ≤ 1099511000000
  room : 4 * xh l.length + 8 ≤ A.σ.free.length
  path : PathAt w F a c (pathT A.nd k t)
  len : (pathT A.nd k t).length = n
def RemOk (I : AImpl) (t : Tr) : Prop := ∀ {p : Value} {A : Ar} {rd : Int} {F : Nat → Prop} {held : Nat → Nat} {i : Nat} {l : List En} (k : Int) {a : Option Addr} {n c : Nat} (w : World), RemP I w p A rd F held i t l k a n c →
    Calls Tryz.prog 64 #[p, .slice a n c, .int .i64 k] w (Mut I p F (RemQ A rd held l k) w)
set_option maxHeartbeats 16000000 in
set_option maxRecDepth 100000 in
theorem rem_node (I : AImpl) (K : RotImpl I) (KN : ShNum) {i' : Nat} {tl tr : Tr} (ihl : RemOk I tl) (ihr : RemOk I tr) : RemOk I (.node i' tl tr) := by
  intro p A rd F held i l k a n c w hP
  obtain ⟨pa, rfl⟩ := I.ptr hP.is
  have hs0 := Ins.start hP.is
  have hii : i = i' ∧ i ≠ 0 := by
    have h := hP.tree.sub
    cases h with
    | node _ _ _ h1 _ _ _ => exact ⟨rfl, h1⟩
  obtain ⟨rfl, hi0⟩ := hii
  have hon := hP.tree.idx.resolve_left hi0
  obtain ⟨X, hX⟩ : ∃ x, A.nd i = x := ⟨_, rfl⟩
  obtain ⟨tl', tr', ll, lr, hnode, rfl, hA, hB, hab⟩ := hP.tree.split hi0
  injection hnode with _ e1 e2
  subst e1 e2
  rw [hX] at hA hB
  have hup := hP.up
  have hwf := hP.wf
  have hsz := hP.size
  have hhas := hP.has
  have hrd := hP.rd1
  have hro := hP.room
  have hpa := hP.path
  have hpl := hP.len
  rw [hX] at hup hwf hsz hhas hrd hro ⊢
  have hpt : pathT A.nd k (.node i tl tr) = i :: (if k = X.key then [] else if k < X.key then pathT A.nd k tl else pathT A.nd k tr) := by rw [← hX]; rfl
  rw [hpt] at hpa hpl
  rw [List.length_cons] at hpl
  have hn : 1 ≤ n := by omega
  have hnc : n ≤ c := by have := hpa.1; rw [List.length_cons] at this; omega
  obtain ⟨ga, oa, rfl, -⟩ := hpa.head (Ins.start hP.is)
  have hlen : (ll ++ (⟨X.key, X.val⟩ : En) :: lr).length = ll.length + lr.length + 1 := by simp; omega
  rw [hlen] at hsz hrd hro
  have hup2 := up_app hup
  have hx1 := xh_side (a := ll.length) (b := lr.length) (by have := hab.1; have := hab.2; omega) (by omega)
  have hx2 := xh_side (a := lr.length) (b := ll.length) (by have := hab.1; have := hab.2; omega) (by omega)
  rw [show lr.length + ll.length + 1 = ll.length + lr.length + 1 by omega] at hx2
  have hx3 := (xh_spec (n := ll.length + lr.length + 1) (by omega)).2.1
  obtain ⟨H, hH⟩ : ∃ H, xh (ll.length + lr.length + 1) = H := ⟨_, rfl⟩
  have HHE : Hid (xh (ll ++ (⟨X.key, X.val⟩ : En) :: lr).length = H ∧ xh (ll.length + lr.length + 1) = H) := ⟨by rw [hlen]; exact hH, hH⟩
  rw [hH] at hrd hro hx1 hx2 hx3
  have HK := Lib.hid K
  have HKN := Lib.hid KN
  have HIL : Hid (RemOk I tl) := @ihl
  have HIR : Hid (RemOk I tr) := @ihr
  have HON := Lib.hid hon
  have HX := Lib.hid hX
  have HI32 : Hid (i < 4294967296) := idx_lt32 hP.inv (.inr hon)
  have HHT : Hid (xh ll.length + 1 ≤ H ∧ xh lr.length + 1 ≤ H) := ⟨hx1, hx2⟩
  have HP : Hid (A.Inv [] held ∧ A.Agg ∧ (∀ j, held j ≤ 1048000) ∧ At A X.left tl ll ∧ At A X.right tr lr ∧ getE (ll ++ (⟨X.key, X.val⟩ : En) :: lr) k ≠ none) := ⟨hP.inv, hP.agg, hP.few, hA, hB, hhas⟩
  have HU : Hid (Up (ll ++ (⟨X.key, X.val⟩ : En) :: lr) ∧ Up ll ∧ Up lr ∧ wbL ll lr) := ⟨hup, hup2.1, hup2.2.1, hab⟩
  have HW : Hid (WfL ll ∧ WfL lr ∧ (i64R X.key ∧ i64R X.val)) := ⟨hwf.left, hwf.right.tail, hwf (⟨X.key, X.val⟩ : En) (by simp)⟩
  have HSZ : Hid (ll.length + lr.length + 1 ≤ 65536) := hsz
  have HRD : Hid (0 ≤ rd ∧ rd + 34 * (H : Int) + 20 ≤ 1099511000000 ∧ 4 * H + 8 ≤ A.σ.free.length ∧ H < 80) := ⟨hP.rd0, hrd, hro, by omega⟩
  have HPA : Hid (PathAt w F (some ⟨ga, oa, none⟩) c (i :: (if k = X.key then [] else if k < X.key then pathT A.nd k tl else pathT A.nd k tr)) ∧ (if k = X.key then [] else if k < X.key then pathT A.nd k tl else pathT A.nd k tr).length + 1 = n) := ⟨hpa, hpl⟩
  clear hP ihl ihr hi0 hon hX K KN hA hB hab hup hwf hsz hpa hpl hpt hlen hup2 hhas hrd hro hx1 hx2 hx3 hH
  have HS0 := Lib.hid hs0
  clear hs0
  obtain ⟨gb, ob, hgo, y0⟩ := HPA.out.1.head HS0.out
  obtain ⟨rfl, rfl⟩ : ga = gb ∧ oa = ob := by
    have := Option.some.inj hgo
    injection this with q1 q2
    exact ⟨q1, q2⟩
  clear hgo
  go_enter Tryz.func64, Tryz.ntmps64
  go_wp2_with fail
  refine (HS0.out.node HRD.out.1 (by have := HRD.out; omega) HI32.out HON.out).mono ?_
  rintro en w2 ⟨rfl, hs⟩
  rw [HX.out]
  unfold ndRow
  have hs1 := hs.box #[Value.int .i64 X.key, .int .i64 X.val, .int .u32 (X.left : Int), .int .u32 (X.right : Int), .int .i64 X.size, .int .i64 X.sum, .int .i64 X.mn, .int .i64 X.mx] 64
  clear hs HS0 y0
  go_upto_region 2 with fail
  generalize w2.alloc (Obj.cells #[Value.int .i64 X.key, .int .i64 X.val, .int .u32 (X.left : Int), .int .u32 (X.right : Int), .int .i64 X.size, .int .i64 X.sum, .int .i64 X.mn, .int .i64 X.mx] 64) = w3 at hs1 ⊢
  generalize w2.heap.size = gx at hs1 ⊢
  have HS1 := Lib.hid hs1
  clear hs1
  obtain ⟨⟨x0, x1, x2, x3, x4, x5, x6, x7⟩, -⟩ := HS1.out.row8 (g := gx) (X := X) (by simp [ndRow])
  by_cases hk : X.key = k
  · have d1 : decide (X.key = k) = true := decide_eq_true hk
    subst hk
    have hup : Up (ll ++ lr) := by have := out_up0 HU.out.1 X.key X.key; rw [out_m HU.out.1] at this; exact this
    have HCU : Hid (outE (ll ++ (⟨X.key, X.val⟩ : En) :: lr) X.key X.key = ll ++ lr ∧ Up (ll ++ lr)) := ⟨out_m HU.out.1, hup⟩
    have HTL : Hid (TreeAt A X.left tl ll) := ⟨⟨held, HP.out.1⟩, HP.out.2.1, HP.out.2.2.2.1.sub, HP.out.2.2.2.1.bal, HP.out.2.2.2.1.ents, HU.out.2.1⟩
    have HTR : Hid (TreeAt A X.right tr lr) := ⟨⟨held, HP.out.1⟩, HP.out.2.1, HP.out.2.2.2.2.1.sub, HP.out.2.2.2.2.1.bal, HP.out.2.2.2.2.1.ents, HU.out.2.2.1⟩
    have HJ : Hid (joinI (ll.length : Int) (lr.length : Int) ≤ (A.σ.free.length : Int)) := by
      show _ ≤ _
      rw [joinJ (by have := HSZ.out; omega) (by have := HSZ.out; omega), HHE.out.2]
      have := HRD.out
      omega
    clear hup
    go_wp2_with fail
    refine (HS1.out.mut fun F1 hI1 => concatS_any I w3 hI1 HP.out.1 HP.out.2.2.1 HTL.out HTR.out HW.out.1 HW.out.2.1 (by have := HRD.out; omega) (by have := HRD.out; omega)).mono ?_
    rintro en w4 ⟨B, rd4, ⟨q0, q1, q2⟩, hs4⟩
    obtain ⟨j, t, rfl, hg⟩ := cat_got q0 HCU.out.2 HJ.out
    obtain ⟨m1, m2⟩ := hg.mid HP.out.1 HP.out.2.1
    have HQ : Hid (RemQ A rd held (ll ++ (⟨X.key, X.val⟩ : En) :: lr) X.key (.returned (.tuple #[.int .u32 (j : Int), .int .i64 0])) B rd4) := by
      unfold RemQ
      rw [HHE.out.1, HCU.out.1]
      rw [HHE.out.2] at q1 q2
      unfold mostI at q2
      have h1 := q0.1
      have h2 := HHT.out
      exact ⟨by omega, by omega, j, t, rfl, m1, m2, by omega⟩
    have HE := Lib.hid hs4.ends
    clear hs4 HS1 q0 q1 q2 hg m1 m2 x0 x1 x2 x3 x4 x5 x6 x7
    go_wp2_with fail
    go_ret2
    obtain ⟨F', hal, hI⟩ := HE.out
    exact ⟨F', _, _, hal, hI, HQ.out⟩
  have d1 : decide (X.key = k) = false := decide_eq_false hk
  have hk' : ¬ k = X.key := fun q => hk q.symm
  obtain ⟨P, hPP⟩ : ∃ P, (if k < X.key then pathT A.nd k tl else pathT A.nd k tr) = P := ⟨_, rfl⟩
  have hpa := HPA.out
  rw [if_neg hk', hPP] at hpa
  have HPT := Lib.hid hpa.1.tail
  have hpn : P.length + 1 = n := hpa.2
  have HCH : Hid (∃ tc ic lc, RemOk I tc ∧ At A ic tc lc ∧ Up lc ∧ WfL lc ∧ lc.length ≤ 65536 ∧ xh lc.length + 1 ≤ H ∧ pathT A.nd k tc = P ∧ getE lc k ≠ none ∧ RepOk I (.pointer (some pa)) A held X k (outE lc k k) (outE (ll ++ (⟨X.key, X.val⟩ : En) :: lr) k k)) := by
    have hs := HSZ.out
    by_cases hlt : k < X.key
    · have h1 := out_lenN ll HU.out.2.1 k
      exact ⟨tl, X.left, ll, HIL.out, HP.out.2.2.2.1, HU.out.2.1, HW.out.1, by omega, HHT.out.1, by rw [← hPP, if_pos hlt], by have := HP.out.2.2.2.2.2; rwa [get_l HU.out.1 hlt] at this, repOk_l I HK.out HKN.out (fun j => Nat.le_trans (HP.out.2.2.1 j) (by decide)) HP.out.2.2.2.2.1 (out_wf HW.out.1 k k) HW.out.2.1 HW.out.2.2 (hb_less_l HU.out.2.2.2 h1.1 h1.2) (by omega) hlt (out_l HU.out.1 hlt).symm⟩
    · have h1 := out_lenN lr HU.out.2.2.1 k
      have hgt : X.key < k := by omega
      exact ⟨tr, X.right, lr, HIR.out, HP.out.2.2.2.2.1, HU.out.2.2.1, HW.out.2.1, by omega, HHT.out.2, by rw [← hPP, if_neg hlt], by have := HP.out.2.2.2.2.2; rwa [get_r HU.out.1 hgt] at this, repOk_r I HK.out HKN.out (fun j => Nat.le_trans (HP.out.2.2.1 j) (by decide)) HP.out.2.2.2.1 HW.out.1 (out_wf HW.out.2.1 k k) HW.out.2.2 (hb_less_r HU.out.2.2.2 h1.1 h1.2) (by omega) hlt (out_r HU.out.1 hgt).symm⟩
  clear hpa hPP HPA
  obtain ⟨m, rfl⟩ : ∃ m, n = m + 1 := ⟨n - 1, by omega⟩
  obtain ⟨d, rfl⟩ : ∃ d, c = d + 1 := ⟨c - 1, by omega⟩
  have HPN : Hid (P.length = m) := by show _ = _; omega
  have hm1 : (1 : Int) ≤ (m : Int) + 1 := by omega
  have hpt : PathAt w F (if d = 0 then some ⟨ga, oa, none⟩ else some ⟨ga, oa + 1, none⟩) d P := by
    have h := HPT.out
    by_cases hd : d = 0
    · subst hd; exact h
    · rw [if_neg hd]
      rw [if_neg (by omega)] at h
      exact h
  have HPT := Lib.hid hpt
  clear hpt hpn
  go_upto_region 4 with fail
  by_cases hd : d = 0
  · subst hd
    exfalso
    obtain ⟨tc, ic, lc, -, c2, -, -, -, -, c7, c9, -⟩ := HCH.out
    have h1 := HPT.out.1
    cases tc with
    | nil => exact c9 (by rw [List.eq_nil_of_length_eq_zero c2.size.symm]; rfl)
    | node i2 l2 r2 => rw [← c7] at h1; simp [pathT] at h1
  · have HPT2 : Hid (PathAt w F (some ⟨ga, oa + 1, none⟩) d P) := by have := HPT.out; rw [if_neg hd] at this; exact this
    clear HPT
    obtain ⟨tc, ic, lc, c1, c2, c3, c4, c5, c6, c7, c9, c8⟩ := HCH.out
    have HC : Hid (RemOk I tc ∧ At A ic tc lc ∧ Up lc ∧ WfL lc ∧ lc.length ≤ 65536 ∧ xh lc.length + 1 ≤ H ∧ pathT A.nd k tc = P ∧ getE lc k ≠ none ∧ RepOk I (.pointer (some pa)) A held X k (outE lc k k) (outE (ll ++ (⟨X.key, X.val⟩ : En) :: lr) k k)) := ⟨@c1, c2, c3, c4, c5, c6, c7, c9, @c8⟩
    clear HCH c1 c2 c3 c4 c5 c6 c7 c8 c9
    go_wp2_with fail
    refine (HS1.out.mutO fun F1 hI1 hF1 => HC.out.1 k _ ⟨hI1, HP.out.1, HP.out.2.1, HP.out.2.2.1, HC.out.2.1, HC.out.2.2.1, HC.out.2.2.2.1, HC.out.2.2.2.2.2.2.2.1, HC.out.2.2.2.2.1, by have := HRD.out; omega, by have := HRD.out; have := HC.out.2.2.2.2.2.1; omega, by have := HRD.out; have := HC.out.2.2.2.2.2.1; omega, HC.out.2.2.2.2.2.2.1.symm ▸ HPT2.out.ins HS1.out hF1, by rw [HC.out.2.2.2.2.2.2.1]; exact HPN.out⟩).mono ?_
    rintro eB wB ⟨B, rdB, ⟨q0, q1, j, u, rfl, q2, q3, q4⟩, hsB⟩
    have HSB := Lib.hid hsB
    have HRB : Hid (rd + 1 ≤ rdB ∧ rdB ≤ rd + 1 + 34 * (xh lc.length : Int) + 20 ∧ xh lc.length + 1 ≤ H) := ⟨q0, q1, HC.out.2.2.2.2.2.1⟩
    have HQB : Hid (Mid A held B [j] ∧ At B j u (outE lc k k) ∧ A.σ.free.length ≤ B.σ.free.length + 4 * xh lc.length + 4 ∧ 4 ≤ B.σ.free.length) := ⟨q2, q3, q4, by have := HRD.out; have := HC.out.2.2.2.2.2.1; omega⟩
    clear hsB HS1 q0 q1 q2 q3 q4 HPT2 x0 x1 x2 x3 x4 x5 x6 x7
    obtain ⟨⟨x0, x1, x2, x3, x4, x5, x6, x7⟩, -⟩ := HSB.out.row8 (g := gx) (X := X) (by simp [ndRow])
    go_wp2_with fail
    refine (HSB.out.mut fun F1 hI1 => HC.out.2.2.2.2.2.2.2.2 hI1 HQB.out.1 HQB.out.2.1 HQB.out.2.2.2 (by have := HRD.out; have := HRB.out; omega) (by have := HRD.out; have := HRB.out; omega)).mono ?_
    rintro en w5 ⟨C, rd5, ⟨q0, q1, j2, t2, rfl, q2, q3, q4⟩, hs5⟩
    have HQ : Hid (RemQ A rd held (ll ++ (⟨X.key, X.val⟩ : En) :: lr) k (.returned (.tuple #[.int .u32 (j2 : Int), .int .i64 0])) C rd5) := by
      unfold RemQ
      rw [HHE.out.1]
      have h1 := HRB.out
      have h2 := HQB.out.2.2
      exact ⟨by omega, by omega, j2, t2, rfl, q2, q3, by omega⟩
    have HE := Lib.hid hs5.ends
    clear hs5 HSB q0 q1 q2 q3 q4 x0 x1 x2 x3 x4 x5 x6 x7
    go_wp2_with fail
    go_ret2
    obtain ⟨F', hal, hI⟩ := HE.out
    exact ⟨F', _, _, hal, hI, HQ.out⟩
theorem rem_nil (I : AImpl) : RemOk I .nil := by
  intro p A rd F held i l k a n c w hP
  exact absurd (by rw [List.eq_nil_of_length_eq_zero hP.tree.size.symm]; rfl) hP.has
theorem rem_all (I : AImpl) (K : RotImpl I) (KN : ShNum) : ∀ t, RemOk I t
  | .nil => rem_nil I
  | .node _ l r => rem_node I K KN (rem_all I K KN l) (rem_all I K KN r)
end Go.Proofs.YtckkmmdibgoajaaGreat
