/- Of the proof of PkBulkPartsJoinP: Got, JnAw, JnCat, JnOk, Hld, BkPl, RefSame, LawBkRank, LawBkParts. -/
import Derived.Test.YtnimbgcploohiaaGreatPk1
import Derived.Test.YtnimbgcploohiaaGreatPk2
import Derived.Test.YtnimbgcploohiaaGreatPk3
import Derived.Test.YtnimbgcploohiaaGreatPk4
import Derived.Test.YtnimbgcploohiaaGreatPk5
import Derived.Test.YtnimbgcploohiaaGreatPk6
import Derived.Test.YtnimbgcploohiaaGreatPk7
import Derived.Test.YtnimbgcploohiaaGreatPk8
import Derived.Test.YtnimbgcploohiaaGreatPk9
import Derived.Test.YtnimbgcploohiaaGreatPk10
import Derived.Test.YtnimbgcploohiaaGreatPk11
import Derived.Test.YtnimbgcploohiaaGreatPk12
import Derived.Test.YtnimbgcploohiaaGreatPk13
import Derived.Test.YtnimbgcploohiaaGreatPk16
import Derived.Deep.QuietTactic
import Derived.Deep.DeepCutAuto
set_option linter.unusedVariables false
set_option linter.unusedSimpArgs false
namespace Go.Proofs.YtnimbgcploohiaaGreat
open Go.RowKit
structure JoinImpl (I : AImpl) : Prop where
  join : ∀ {p : Value} {A : Ar} {rd : Int} {F : Nat → Prop} {held : Nat → Nat} {L R : Nat} {tl tr : Tr} {ll lr : List En} (e : En) (w : World), I.Is w p A rd F → A.Inv [] held → (∀ j, held j ≤ 1048000) → TreeAt A L tl ll → TreeAt A R tr lr → WfL ll → WfL lr → 0 ≤ rd → rd ≤ 1099511000000 → i64R e.key → i64R e.val →
    Calls Tryz.prog 105 #[p, .int .u32 (L : Int), .agg #[.int .i64 e.key, .int .i64 e.val], .int .u32 (R : Int)] w (Mut I p F (JoinQ A rd held L R ll lr e) w)
  concat : ∀ {p : Value} {A : Ar} {rd : Int} {F : Nat → Prop} {held : Nat → Nat} {L R : Nat} {tl tr : Tr} {ll lr : List En} (w : World), I.Is w p A rd F → A.Inv [] held → (∀ j, held j ≤ 1048000) → TreeAt A L tl ll → TreeAt A R tr lr → WfL ll → WfL lr → 0 ≤ rd → rd ≤ 1099511000000 →
    Calls Tryz.prog 25 #[p, .int .u32 (L : Int), .int .u32 (R : Int)] w (Mut I p F (CatQ A rd held L R ll lr) w)
end Go.Proofs.YtnimbgcploohiaaGreat
set_option linter.unusedVariables false
namespace Go.Proofs.YtnimbgcploohiaaGreat
def Tr.idxs : Tr → List Nat
  | .nil => []
  | .node i l r => l.idxs ++ i :: r.idxs
theorem Tr.idxs_len : ∀ t : Tr, t.idxs.length = t.size
  | .nil => rfl
  | .node i l r => by
    show (l.idxs ++ i :: r.idxs).length = l.size + r.size + 1
    rw [List.length_append, List.length_cons, Tr.idxs_len l, Tr.idxs_len r]
    omega
theorem Sub.top_mem {A : Ar} {i : Nat} {t : Tr} (h : Sub A i t) : i = 0 ∨ i ∈ t.idxs := by
  cases h with
  | nil => exact .inl rfl
  | node i l r _ _ _ _ => exact .inr (by show i ∈ l.idxs ++ i :: r.idxs; simp)
theorem Sub.closed {A : Ar} {i : Nat} {t : Tr} (h : Sub A i t) : ∀ k ∈ t.idxs, ((A.nd k).left = 0 ∨ (A.nd k).left ∈ t.idxs) ∧ ((A.nd k).right = 0 ∨ (A.nd k).right ∈ t.idxs) := by
  induction h with
  | nil => intro k hk; cases hk
  | node i l r h0 h1 hl hr ihl ihr =>
    intro k hk
    show ((A.nd k).left = 0 ∨ (A.nd k).left ∈ l.idxs ++ i :: r.idxs) ∧ ((A.nd k).right = 0 ∨ (A.nd k).right ∈ l.idxs ++ i :: r.idxs)
    have hk' : k ∈ l.idxs ++ i :: r.idxs := hk
    rw [List.mem_append, List.mem_cons] at hk'
    simp only [List.mem_append, List.mem_cons]
    rcases hk' with hk' | rfl | hk'
    · have := ihl k hk'
      exact ⟨this.1.imp_right .inl, this.2.imp_right .inl⟩
    · have h2 := hl.top_mem
      have h3 := hr.top_mem
      exact ⟨h2.imp_right .inl, h3.imp_right fun h => .inr (.inr h)⟩
    · have := ihr k hk'
      exact ⟨this.1.imp_right fun h => .inr (.inr h), this.2.imp_right fun h => .inr (.inr h)⟩
/-- all that is reached lies in the trees -/
theorem reach_idxs {A : Ar} (hok : A.σ.Ok) {l : List Nat} {ts : List Tr} (hT : ∀ x ∈ l, ∃ t ∈ ts, Sub A x t) {k : Nat} (h : A.Reach (hof l) k) : k = 0 ∨ ∃ t ∈ ts, (∃ i, Sub A i t) ∧ k ∈ t.idxs := by
  induction h with
  | root i hi =>
    unfold hof at hi
    split at hi
    · cases hi
    · have hm : i ∈ l := by
        rcases Nat.eq_zero_or_pos (l.count i) with h | h
        · omega
        · exact List.count_pos_iff.1 h
      obtain ⟨t, ht, hs⟩ := hT i hm
      exact hs.top_mem.imp_right fun h => ⟨t, ht, ⟨i, hs⟩, h⟩
  | left k hon hk ih =>
    rcases ih with rfl | ⟨t, ht, ⟨i, hs⟩, hm⟩
    · exact absurd (hok.on 0 hon).1 (by decide)
    · exact (hs.closed k hm).1.imp_right fun h => ⟨t, ht, ⟨i, hs⟩, h⟩
  | right k hon hk ih =>
    rcases ih with rfl | ⟨t, ht, ⟨i, hs⟩, hm⟩
    · exact absurd (hok.on 0 hon).1 (by decide)
    · exact (hs.closed k hm).2.imp_right fun h => ⟨t, ht, ⟨i, hs⟩, h⟩
theorem sub_len : ∀ (l m : List Nat), l.Nodup → (∀ x ∈ l, x ∈ m) → l.length ≤ m.length
  | [], m, _, _ => Nat.zero_le _
  | x :: t, m, hn, hs => by
    rw [List.nodup_cons] at hn
    have h1 := sub_len t (m.erase x) hn.2 fun y hy => (List.mem_erase_of_ne (fun (e : y = x) => hn.1 (e ▸ hy))).2 (hs y (by simp [hy]))
    have hx : x ∈ m := hs x (by simp)
    rw [List.length_erase_of_mem hx] at h1
    have := List.length_pos_of_mem hx
    rw [List.length_cons]
    omega
theorem Ar.Inv.used {A : Ar} {l : List Nat} {ts : List Tr} (h : A.Inv [] (hof l)) (ha : A.Agg) (hT : ∀ x ∈ l, ∃ t ∈ ts, Sub A x t) : A.σ.cap ≤ A.σ.free.length + (ts.map Tr.size).sum := by
  have h1 : (List.range' 1 A.σ.cap).length ≤ (A.σ.free ++ ts.flatMap Tr.idxs).length := sub_len _ _ List.nodup_range' fun x hx => by
    have hx' := List.mem_range'_1.1 hx
    rw [List.mem_append]
    cases ho : A.σ.on x with
    | false => exact .inl ((h.ok.free x).2 ⟨by omega, by omega, ho⟩)
    | true =>
      have hr := Ar.reach_all h ha 2147483648 x ho (by have := (ha.size x ho).1; omega)
      rcases reach_idxs h.ok hT hr with rfl | ⟨t, ht, -, hm⟩
      · omega
      · exact .inr (List.mem_flatMap.2 ⟨t, ht, hm⟩)
  rw [List.length_range', List.length_append, List.length_flatMap] at h1
  have h2 : (ts.map fun t => t.idxs.length).sum = (ts.map Tr.size).sum := by congr 1; exact List.map_congr_left fun t _ => t.idxs_len
  have h3 : (List.map (List.length ∘ Tr.idxs) ts).sum = (ts.map Tr.size).sum := h2
  omega
end Go.Proofs.YtnimbgcploohiaaGreat
set_option linter.unusedVariables false
set_option linter.unusedSimpArgs false
namespace Go.Proofs.YtnimbgcploohiaaGreat
open Go.RowKit
end Go.Proofs.YtnimbgcploohiaaGreat
set_option linter.unusedVariables false
set_option linter.unusedSimpArgs false
namespace Go.Proofs.YtnimbgcploohiaaGreat
open Go.RowKit
theorem join_le {l r : Int} (h0 : 0 ≤ l) (h1 : 0 ≤ r) (h2 : l + r ≤ 151) : joinI l r ≤ 64 ∧ 0 ≤ joinI l r := by
  have h3 := xhI_max (n := l + r + 0 + 1) (by omega) (by omega)
  unfold joinI needI
  have hv : vld l ∧ vld r ∧ vld 0 := by unfold vld; omega
  rw [if_pos hv]
  omega
section
variable {I : AImpl} {B : Nat} {w0 w : World} {p : Value} {A : Ar} {rd : Int} {rs : List Row} {bs : List (Nat × Obj)}
theorem Scn.size (h : Scn I B w0 w p A rd rs bs) (h0 : 0 ≤ rd) (h1 : rd ≤ 4398046511104) {i : Nat} {t : Tr} {l : List En} (hT : TreeAt A i t l) :
    Calls Tryz.prog 24 #[p, .int .u32 (i : Int)] w fun e w' => e = .returned (.int .i64 (l.length : Int)) ∧ ∃ rd', Scn I B w0 w' p A rd' rs bs ∧ rd ≤ rd' ∧ rd' ≤ rd + 1 := by
  obtain ⟨F, f1, f2, f3⟩ := h.mr.has
  refine (I.size p A rd F i w f1 h0 (by omega) hT.idx).mono ?_
  rintro e w1 ⟨F', hal, h5, h6⟩
  have hsz := hT.sub.size hT.agg
  rw [hT.size] at hsz
  rcases hT.sub.idx with h7 | h7
  · have hoff : A.σ.on i = false := by
      subst h7
      cases hc : A.σ.on 0 with
      | false => rfl
      | true => have := (I.ok f1).on 0 hc; omega
    obtain ⟨rfl, h8⟩ := h5 hoff
    have hst := h.mr.step f2 f3 hal h8
    have hz : A.sz i = 0 := by unfold Ar.sz; rw [if_pos h7]
    exact ⟨by rw [hz] at hsz; rw [← hsz], rd, h.step hst.1 hst.2, by omega, by omega⟩
  · obtain ⟨rfl, h8⟩ := h6 h7
    have hst := h.mr.step f2 f3 hal h8
    have h9 : i ≠ 0 := by have := (I.ok f1).on i h7; omega
    have hz : A.sz i = (A.nd i).size := by unfold Ar.sz; rw [if_neg h9]
    exact ⟨by rw [← hsz, hz], rd + 1, h.step hst.1 hst.2, by omega, by omega⟩
end
end Go.Proofs.YtnimbgcploohiaaGreat
set_option linter.unusedVariables false
set_option linter.unusedSimpArgs false
namespace Go.Proofs.YtnimbgcploohiaaGreat
open Go.RowKit
end Go.Proofs.YtnimbgcploohiaaGreat
set_option linter.unusedVariables false
set_option linter.unusedSimpArgs false
namespace Go.Proofs.YtnimbgcploohiaaGreat
open Go.RowKit
theorem concatS_any (I : AImpl) {p : Value} {A : Ar} {rd : Int} {F : Nat → Prop} {held : Nat → Nat} {L R : Nat} {tl tr : Tr} {ll lr : List En} (w : World) (hI : I.Is w p A rd F) (hv : A.Inv [] held) (hm : ∀ j, held j ≤ 1048000) (hL : TreeAt A L tl ll) (hR : TreeAt A R tr lr) (hwl : WfL ll) (hwr : WfL lr) (h0 : 0 ≤ rd) (h1 : rd ≤ 1099511000000) :
    Calls Tryz.prog 25 #[p, .int .u32 (L : Int), .int .u32 (R : Int)] w (Mut I p F (CatS A rd held L R ll lr) w) :=
  concatH_any I w hI hv (fun j => Nat.le_trans (hm j) (by decide)) hL hR hwl hwr h0 h1
theorem concatP_any (I : AImpl) {p : Value} {A : Ar} {rd : Int} {F : Nat → Prop} {held : Nat → Nat} {L R : Nat} {tl tr : Tr} {ll lr : List En} (w : World) (hI : I.Is w p A rd F) (hv : A.Inv [] held) (hm : ∀ j, held j ≤ 1048000) (hL : TreeAt A L tl ll) (hR : TreeAt A R tr lr) (hwl : WfL ll) (hwr : WfL lr) (h0 : 0 ≤ rd) (h1 : rd ≤ 1099511000000) :
    Calls Tryz.prog 25 #[p, .int .u32 (L : Int), .int .u32 (R : Int)] w (Mut I p F (CatQ A rd held L R ll lr) w) :=
  (concatS_any I w hI hv hm hL hR hwl hwr h0 h1).mono fun e w' ⟨F', B, rd', q1, q2, q3⟩ => ⟨F', B, rd', q1, q2, q3.1⟩
end Go.Proofs.YtnimbgcploohiaaGreat
set_option linter.unusedVariables false
set_option linter.unusedSimpArgs false
namespace Go.Proofs.YtnimbgcploohiaaGreat
open Go.RowKit
theorem joinP_any (I : AImpl) {p : Value} {A : Ar} {rd : Int} {F : Nat → Prop} {held : Nat → Nat} {L R : Nat} {tl tr : Tr} {ll lr : List En} (e : En) (w : World) (hI : I.Is w p A rd F) (hv : A.Inv [] held) (hm : ∀ j, held j ≤ 1048000) (hL : TreeAt A L tl ll) (hR : TreeAt A R tr lr) (hwl : WfL ll) (hwr : WfL lr) (h0 : 0 ≤ rd) (h1 : rd ≤ 1099511000000) (hk : i64R e.key) (hx : i64R e.val) :
    Calls Tryz.prog 105 #[p, .int .u32 (L : Int), .agg #[.int .i64 e.key, .int .i64 e.val], .int .u32 (R : Int)] w (Mut I p F (JoinQ A rd held L R ll lr e) w) :=
  (joinS_any I e w hI hv (fun j => Nat.le_trans (hm j) (by decide)) hL hR hwl hwr h0 h1 hk hx).mono fun en w' ⟨F', B, rd', q1, q2, q3⟩ => ⟨F', B, rd', q1, q2, q3.1⟩
theorem joinImpl (I : AImpl) : JoinImpl I where
  join := fun e w hI hv hm hL hR hwl hwr h0 h1 hk hx => joinP_any I e w hI hv hm hL hR hwl hwr h0 h1 hk hx
  concat := fun w hI hv hm hL hR hwl hwr h0 h1 => concatP_any I w hI hv hm hL hR hwl hwr h0 h1
end Go.Proofs.YtnimbgcploohiaaGreat
set_option linter.unusedVariables false
set_option linter.unusedSimpArgs false
namespace Go.Proofs.YtnimbgcploohiaaGreat
open Go.RowKit
structure Hld (A : Ar) (R : List Nat) (T : List Tr) (N : Nat) : Prop where
  inv : A.Inv [] (hof R)
  agg : A.Agg
  roots : ∀ x ∈ R, ∃ t ∈ T, Sub A x t
  cap : A.σ.cap = N
theorem Hld.free {A : Ar} {R : List Nat} {T : List Tr} {N : Nat} (h : Hld A R T N) : N ≤ A.σ.free.length + (T.map Tr.size).sum := by rw [← h.cap]; exact h.inv.used h.agg h.roots
theorem Hld.got {A B : Ar} {R : List Nat} {T : List Tr} {N j : Nat} {u : Tr} {l : List En} (h : Hld A R T N) (hg : Got A (hof R) B j u l) : Hld B (R ++ [j]) (T ++ [u]) N :=
  ⟨by have := hg.inv; rw [hof_pls] at this; exact this, hg.agg, fun x hx => by
    rcases List.mem_append.1 hx with hx | hx
    · obtain ⟨t, ht, hs⟩ := h.roots x hx
      exact ⟨t, List.mem_append_left _ ht, hs.kept hg.kept⟩
    · simp at hx
      subst hx
      exact ⟨u, by simp, hg.sub⟩, hg.kept.cap.trans h.cap⟩
theorem Hld.on {A : Ar} {R : List Nat} {T : List Tr} {N : Nat} (h : Hld A R T N) : ∀ z ∈ R, z = 0 ∨ A.σ.on z = true := fun z hz => by
  obtain ⟨t, _, hs⟩ := h.roots z hz
  exact hs.idx
theorem Hld.small {A : Ar} {R : List Nat} {T : List Tr} {N : Nat} (h : Hld A R T N) (hr : R.length ≤ 1000) (j : Nat) : hof R j ≤ 1048000 := by have := hof_le R j; omega
end Go.Proofs.YtnimbgcploohiaaGreat
set_option linter.unusedVariables false
set_option linter.unusedSimpArgs false
namespace Go.Proofs.YtnimbgcploohiaaGreat
open Go.RowKit
theorem low_rest {l : List En} (hu : Up l) (k : Int) : l = lowE l k ++ l.filter fun y => decide (k ≤ y.key) := by
  have h := up_parted (fun y => decide (y.key < k)) hu fun x _ y _ hxy hy => by simp at hy ⊢; omega
  have e : (l.filter fun y => !decide (y.key < k)) = l.filter fun y => decide (k ≤ y.key) := List.filter_congr fun y _ => by
    by_cases hk : y.key < k
    · simp [hk]
    · simp [hk, Int.not_lt.1 hk]
  rw [e] at h
  exact h
theorem parts_all {l : List En} (hu : Up l) {lo hi : Int} (h : lo ≤ hi) : l = lowE l lo ++ (betE l lo hi ++ highE l hi) := by
  have h1 := low_rest hu lo
  have hur : Up (l.filter fun y => decide (lo ≤ y.key)) := List.Pairwise.filter _ hu
  have h2 := up_parted (fun y => decide (y.key ≤ hi)) hur fun x _ y _ hxy hy => by simp at hy ⊢; omega
  rw [List.filter_filter, List.filter_filter] at h2
  have e1 : (l.filter fun a => decide (a.key ≤ hi) && decide (lo ≤ a.key)) = betE l lo hi := List.filter_congr fun y _ => by
    by_cases ha : y.key ≤ hi <;> by_cases hb : lo ≤ y.key <;> simp [ha, hb]
  have e2 : (l.filter fun a => (!decide (a.key ≤ hi)) && decide (lo ≤ a.key)) = highE l hi := List.filter_congr fun y _ => by
    by_cases ha : y.key ≤ hi
    · simp [ha, Int.not_lt.2 ha]
    · have := Int.not_le.1 ha
      simp [ha, this, show lo ≤ y.key by omega]
  rw [e1, e2] at h2
  rw [← h2]
  exact h1
theorem bet_low {l : List En} (hw : WfL l) (k : Int) : betE l (-9223372036854775808) (k - 1) = lowE l k := List.filter_congr fun y hy => by
  have := (hw y hy).1.1
  rw [decide_eq_decide]
  omega
theorem bet_high {l : List En} (hw : WfL l) (k : Int) : betE l (k + 1) 9223372036854775807 = highE l k := List.filter_congr fun y hy => by
  have := (hw y hy).1.2
  rw [decide_eq_decide]
  omega
/-- a cut with room -/
theorem CutQ.room {A B : Ar} {rd rd' : Int} {held : Nat → Nat} {i : Nat} {l want : List En} {en : Ending} (h : CutQ A rd held i l want en B rd') (hr : splitI (l.length : Int) ≤ (A.σ.free.length : Int)) :
    rd ≤ rd' ∧ rd' ≤ rd + cutBd l.length ∧ ∃ (j : Nat) (u : Tr), en = .returned (.tuple #[.int .u32 (j : Int), .int .i64 0]) ∧ Got A held B j u want := by
  obtain ⟨h1, h2, h3⟩ := h
  refine ⟨h1, h2, ?_⟩
  rcases h3 with ⟨-, rfl, ⟨u, hu⟩, -⟩ | ⟨-, rfl, rfl, hu, -⟩ | ⟨-, -, q, -⟩ | ⟨-, -, -, j, u, rfl, hu⟩
  · exact ⟨i, u, rfl, hu⟩
  · exact ⟨0, .nil, rfl, hu⟩
  · omega
  · exact ⟨j, u, rfl, hu⟩
end Go.Proofs.YtnimbgcploohiaaGreat
set_option linter.unusedVariables false
set_option linter.unusedSimpArgs false
namespace Go.Proofs.YtnimbgcploohiaaGreat
open Go.RowKit
set_option maxHeartbeats 2000000 in
set_option maxRecDepth 100000 in
theorem same_ens {w : World} {a b : Option Addr} {n c d : Nat} {l : List En} (h : EnsAt w a l) (h' : EnsAt w b l) (hn : l.length = n) (hl : n ≤ 1000000) :
    Calls Tryz.prog 26 #[.slice a n c, .slice b n d] w (Calm w (.bool true)) := by
  have hni : (n : Int) ≤ 1000000 := by omega
  have HH := Lib.hid h
  have HH' := Lib.hid h'
  have HN := Lib.hid hn
  clear h h' hn
  go_enter Tryz.func26, Tryz.ntmps26
  go_wp2_with fail
  go_loopw [5] (fun i wr => ∃ k : Nat, k ≤ n ∧ i = .int .i64 (k : Int) ∧ ∃ q, wr = w.drewN q) (fun i _ => n - (intOf i).toNat)
  case atStart => exact ⟨0, Nat.zero_le _, rfl, 0, rfl⟩
  case round =>
    obtain ⟨k, hk, rfl, q, rfl⟩ := hrel
    by_cases hlt : k < n
    · have hki : (k : Int) < (n : Int) := by omega
      have hk0 : (0 : Int) ≤ (k : Int) := by omega
      obtain ⟨e, he⟩ : ∃ e, l[k]? = some e := ⟨_, List.getElem?_eq_getElem (by have := HN.out; omega)⟩
      obtain ⟨g, off, rfl, hb, c0, c1⟩ := HH.out.at he
      obtain ⟨g', off', rfl, hb', d0, d1⟩ := HH'.out.at he
      generalize e.key = x0 at c0 d0
      generalize e.val = x1 at c1 d1
      have HLT := Lib.hid hlt
      clear he hb hb' hk hlt
      go_wp2_with fail
      go_quiet (fail)
      go_wp2_with fail
      exact ⟨⟨k + 1, by have := HLT.out; omega, by go_num, _, rfl⟩, by have := HLT.out; simp [intOf]; omega⟩
    · have hki : ¬ (k : Int) < (n : Int) := by omega
      clear hlt hk
      go_wp2_with fail
      go_ret
      exact ⟨rfl, below_drewN (Below.refl _ _) q⟩
end Go.Proofs.YtnimbgcploohiaaGreat
set_option linter.unusedVariables false
set_option linter.unusedSimpArgs false
namespace Go.Proofs.YtnimbgcploohiaaGreat
open Go.RowKit
theorem bulk_bd {n m : Nat} (h : n ≤ 200) (hm : m ≤ n) : 0 ≤ bulkBd n m ∧ bulkBd n m ≤ 2000 := by
  have h1 := (xh_spec (n := n) (by omega)).2.1
  unfold bulkBd
  exact ⟨by omega, by omega⟩
end Go.Proofs.YtnimbgcploohiaaGreat
set_option linter.unusedVariables false
set_option linter.unusedSimpArgs false
namespace Go.Proofs.YtnimbgcploohiaaGreat
open Go.RowKit
theorem us_at (w : World) (t : TypeId) (xs : List Nat) (cs : Array Value) (hc : cs = (xs.map fun x : Nat => Value.int .u32 (x : Int)).toArray) (hx : ∀ x ∈ xs, x < 4294967296) : U32At (w.alloc (.cells cs t)) (some ⟨w.heap.size, 0, none⟩) xs := by
  have hr := heap_alloc_new w (.cells cs t)
  refine ⟨fun j hj => ⟨w.heap.size, 0, rfl, by simp, ?_⟩, hx⟩
  rw [cell_of_row _ _ _ _ _ _ hr, hc]
  simp [List.getD_eq_getElem?_getD, hj]
theorem cut_bd {n : Nat} (h : n ≤ 1000) : cutBd n ≤ 20000 := by
  have h1 := (xh_spec (n := n) (by omega)).2.1
  unfold cutBd
  omega
theorem join_bd {n m : Nat} (h : n + m ≤ 1000) : joinBd n m ≤ 5000 := by
  have h1 := (xh_spec (n := n + m + 1) (by omega)).2.1
  unfold joinBd
  omega
set_option maxHeartbeats 8000000 in
set_option maxRecDepth 100000 in
theorem parts_walk (I : AImpl) (hchk : CheckSpec) (K : BkImpl I) (KJ : JoinImpl I) {a : Option Addr} {n c : Nat} {raw : List En} {tilt : Int} {lo hi : Int} {w : World} (hE : EnsAt w a raw) (hn : raw.length = n) (hnm : n ≤ 9223372036854775807) (ht0 : 0 ≤ tilt) (ht1 : tilt < 18446744073709551616) (hlo : i64R lo) (hhi : i64R hi) :
    Calls Tryz.prog 4 #[.slice a n c, .int .u64 tilt, .int .i64 lo, .int .i64 hi] w (Calm w (.bool true)) := by
  have HK := Lib.hid K
  have HKJ := Lib.hid KJ
  have HCHK := Lib.hid hchk
  have HLH : Hid (i64R lo ∧ i64R hi) := ⟨hlo, hhi⟩
  clear K KJ hchk hlo hhi
  have HWF : Hid (∀ y ∈ listE raw 120, i64R y.key ∧ i64R y.val) := fun y hy => hE.wf y (listE_mem hy)
  have HL := Lib.hid (list_any (c := c) (k := 120) hE hn hnm (by decide))
  have HT : Hid (0 ≤ tilt ∧ tilt < 18446744073709551616) := ⟨ht0, ht1⟩
  have HUP := Lib.hid (listE_up raw 120)
  have HLEN := Lib.hid (listE_len raw 120)
  clear hE hn hnm ht0 ht1
  go_enter Tryz.func4, Tryz.ntmps4
  go_wp2_with fail
  refine HL.out.mono ?_
  rintro e w1 ⟨a1, c1, rfl, hr1, hb1⟩
  have HR1 := Lib.hid hr1
  have HB1 := Lib.hid hb1
  clear hr1 hb1 HL
  generalize listE raw 120 = l at HUP HLEN HR1 HWF ⊢
  obtain ⟨L, hL⟩ : ∃ L, l.length = L := ⟨_, rfl⟩
  rw [hL] at HLEN HR1 ⊢
  have HLL := Lib.hid hL
  have hLi : (L : Int) ≤ 120 := by have := HLEN.out; omega
  have HE1 := Lib.hid (ens_row hL HR1.out HWF.out)
  have HC1 := Lib.hid (row_caps HR1.out)
  clear hL
  go_wp2_with fail
  refine (grow_any I (sp := 1200) (m := L + 1200) HE1.out HLL.out HC1.out.1 HC1.out.2 rfl (by omega) (by have := HLEN.out; omega) HT.out.1 HT.out.2).mono ?_
  rintro e w2 ⟨p, A, ri, t, F, rfl, hg⟩
  obtain ⟨pa, rfl⟩ := I.ptr hg.is
  have HTR := Lib.hid (hg.planted.tree HUP.out)
  have HPL := Lib.hid hg.planted
  have HS2 := Lib.hid (Scn.init hg HB1.out HR1.out)
  clear hg HR1 HE1 HC1 HT
  go_wp2_with fail
  refine (awake15_any I HK.out w2).mono ?_
  rintro e w3 ⟨rfl, hb3⟩
  have HS3 := Lib.hid (HS2.out.calm hb3)
  clear hb3 HS2
  obtain ⟨bl, hbl⟩ : ∃ b, decide (hi < lo) = b := ⟨_, rfl⟩
  have hbl2 : decide (lo > hi) = bl := hbl
  go_upto_if 44 with fail
  go_cut [2, 3] from 45 to 46 (fun s2 s3 wx => ∃ lo' hi' : Int, s2 = .int .i64 lo' ∧ s3 = .int .i64 hi' ∧ lo' ≤ hi' ∧ i64R lo' ∧ i64R hi' ∧ w3 = wx)
  case first =>
    cases bl with
    | true =>
      have HLO : Hid (hi ≤ lo) := by have := of_decide_eq_true hbl; show _ ≤ _; omega
      go_wp2_with fail
      go_meet
      exact ⟨hi, lo, rfl, rfl, HLO.out, HLH.out.2, HLH.out.1, rfl⟩
    | false =>
      have HLO : Hid (lo ≤ hi) := by have := of_decide_eq_false hbl; show _ ≤ _; omega
      go_wp2_with fail
      go_meet
      exact ⟨lo, hi, rfl, rfl, HLO.out, HLH.out.1, HLH.out.2, rfl⟩
  case' rest =>
    obtain ⟨lo1, hi1, rfl, rfl, hle, hlo, hhi, rfl⟩ := hcut
    clear HLH hbl hbl2
    by_cases hmn : lo1 = -9223372036854775808
    · have q3 : (lo1 == -9223372036854775808) = true := by simp [hmn]
      clear hmn hle hlo hhi
      go_wp2_with fail
      go_ret
      exact ⟨rfl, HS3.out.below⟩
    by_cases hmx : hi1 = 9223372036854775807
    · have q3 : (lo1 == -9223372036854775808) = false := by simp [hmn]
      have q4 : (hi1 == 9223372036854775807) = true := by simp [hmx]
      clear hmn hmx hle hlo hhi
      go_wp2_with fail
      go_ret
      exact ⟨rfl, HS3.out.below⟩
    have q3 : (lo1 == -9223372036854775808) = false := by simp [hmn]
    have q4 : (hi1 == 9223372036854775807) = false := by simp [hmx]
    have hl1 : i64R (lo1 - 1) := by unfold i64R at *; omega
    have hh1 : i64R (hi1 + 1) := by unfold i64R at *; omega
    have v1 : IntKind.i64.wrap (lo1 - 1) = lo1 - 1 := by rw [IntKind.wrap_i64]; unfold i64R at hl1; omega
    have v2 : IntKind.i64.wrap (hi1 + 1) = hi1 + 1 := by rw [IntKind.wrap_i64]; unfold i64R at hh1; omega
    have HLH : Hid (i64R lo1 ∧ i64R hi1 ∧ i64R (lo1 - 1) ∧ i64R (hi1 + 1) ∧ i64R (-9223372036854775808) ∧ i64R 9223372036854775807) := ⟨hlo, hhi, hl1, hh1, ⟨by decide, by decide⟩, ⟨by decide, by decide⟩⟩
    have hall := parts_all HUP.out hle
    have hout := out_parts HUP.out hle
    have hbl := bet_low HWF.out lo1
    have hbh := bet_high HWF.out hi1
    have hwx : WfL (lowE l lo1) := fun y hy => HWF.out y (List.mem_filter.1 hy).1
    have hwy : WfL (betE l lo1 hi1) := bet_wf HWF.out _ _
    have hwz : WfL (highE l hi1) := fun y hy => HWF.out y (List.mem_filter.1 hy).1
    have hux : Up (lowE l lo1) := List.Pairwise.filter _ HUP.out
    have huz : Up (highE l hi1) := List.Pairwise.filter _ HUP.out
    have huo : Up (outE l lo1 hi1) := out_up HUP.out _ _
    have huy : Up (betE l lo1 hi1) := bet_up HUP.out _ _
    obtain ⟨X, hX⟩ : ∃ X, lowE l lo1 = X := ⟨_, rfl⟩
    obtain ⟨Y, hY⟩ : ∃ Y, betE l lo1 hi1 = Y := ⟨_, rfl⟩
    obtain ⟨Z, hZ⟩ : ∃ Z, highE l hi1 = Z := ⟨_, rfl⟩
    rw [hX] at hall hout hbl hwx hux
    rw [hY] at hall hwy huy
    rw [hZ] at hall hout hbh hwz huz
    rw [hout] at huo
    have huxy : Up (X ++ Y) := by
      have h := HUP.out
      rw [hall, ← List.append_assoc] at h
      exact (List.pairwise_append.1 h).1
    have hlen : X.length + Y.length + Z.length = L := by rw [← HLL.out, hall]; simp; omega
    have HXYZ : Hid (l = (X ++ Y) ++ Z ∧ outE l lo1 hi1 = X ++ Z ∧ betE l (-9223372036854775808) (lo1 - 1) = X ∧ betE l (hi1 + 1) 9223372036854775807 = Z ∧ betE l lo1 hi1 = Y) := ⟨by rw [List.append_assoc]; exact hall, hout, hbl, hbh, hY⟩
    have HW : Hid (WfL X ∧ WfL Y ∧ WfL Z ∧ WfL (X ++ Y) ∧ WfL (X ++ Z)) := ⟨hwx, hwy, hwz, fun y hy => (List.mem_append.1 hy).elim (hwx y) (hwy y), fun y hy => (List.mem_append.1 hy).elim (hwx y) (hwz y)⟩
    have HU : Hid (Up X ∧ Up Y ∧ Up Z ∧ Up (X ++ Y) ∧ Up (X ++ Z)) := ⟨hux, huy, huz, huxy, huo⟩
    obtain ⟨PX, hPX⟩ : ∃ n, X.length = n := ⟨_, rfl⟩
    obtain ⟨PY, hPY⟩ : ∃ n, Y.length = n := ⟨_, rfl⟩
    obtain ⟨PZ, hPZ⟩ : ∃ n, Z.length = n := ⟨_, rfl⟩
    rw [hPX, hPY, hPZ] at hlen
    have HPP : Hid (X.length = PX ∧ Y.length = PY ∧ Z.length = PZ ∧ PX + PY + PZ = L) := ⟨hPX, hPY, hPZ, hlen⟩
    obtain ⟨N, hN⟩ : ∃ N, L + 1200 = N := ⟨_, rfl⟩
    have HH0 : Hid (Hld A [ri] [t] N) := by
      refine ⟨?_, HPL.out.agg, fun x hx => ⟨t, by simp, ?_⟩, ?_⟩
      · have h := HPL.out.inv
        have h2 := hof_pls [] ri
        rw [hof_nil] at h2
        rw [h2] at h
        exact h
      · simp at hx
        rw [hx]
        exact HPL.out.sub
      · rw [← hN]; exact HPL.out.kept.cap
    have HSPL := Lib.hid (split_le (n := (L : Int)) (by omega) (by omega))
    have HCB := Lib.hid (cut_bd (n := l.length) (by have := HLL.out; omega))
    have HRD0 : Hid (0 ≤ (0 : Int) ∧ (0 : Int) ≤ 0) := ⟨by decide, by decide⟩
    have HNN : Hid (L + 1200 = N ∧ t.size = L) := ⟨hN, by rw [HTR.out.size]; exact HLL.out⟩
    have HX0 := HS3
    clear hmn hmx hle hlo hhi hl1 hh1 hall hout hbl hbh hwx hwy hwz hux huy huz huo huxy hX hY hZ hPX hPY hPZ hlen hN HPL HS3
    go_wp2_with fail
    refine (HX0.out.mut fun F hI => HK.out.keep (-9223372036854775808) (lo1 - 1) _ hI HH0.out.inv (fun j => HH0.out.small (by simp) j) HTR.out HWF.out HRD0.out.1 (by have := HRD0.out; omega) HLH.out.2.2.2.2.1 HLH.out.2.2.1).mono ?_
    rintro e v1 ⟨B1, rd1, hq, hs⟩
    obtain ⟨g0, g1, j1, t1, rfl, hg⟩ := hq.room (by have h1 := HH0.out.free; have h2 := HSPL.out; have h3 := HNN.out; have h4 := HPP.out; have h5 := HLL.out; have h6 := HLEN.out;  simp only [List.map_cons, List.map_nil, List.map_append, List.sum_append, List.sum_cons, List.sum_nil, List.cons_append, List.nil_append] at h1; rw [HLL.out]; omega)
    rw [HXYZ.out.2.2.1] at hg
    have HX1 := Lib.hid hs
    have HH1 := Lib.hid (HH0.out.got hg)
    replace HTR := Lib.hid (HTR.out.kept hg.kept hg.inv hg.agg)
    have HT1 := Lib.hid (hg.tree HU.out.1)
    have HS1z : Hid (t1.size = PX) := by show _ = _; rw [HT1.out.size]; exact HPP.out.1
    have HRD1 : Hid (0 ≤ rd1 ∧ rd1 ≤ 20000) := by have h1 := HRD0.out; have h2 := HCB.out; exact ⟨by omega, by omega⟩
    clear hs hg g0 g1 HX0 HH0
    go_wp2_with fail
    refine (HX1.out.mut fun F hI => HK.out.keep lo1 hi1 _ hI HH1.out.inv (fun j => HH1.out.small (by simp) j) HTR.out HWF.out HRD1.out.1 (by have := HRD1.out; omega) HLH.out.1 HLH.out.2.1).mono ?_
    rintro e v2 ⟨B2, rd2, hq, hs⟩
    obtain ⟨g0, g1, j2, t2, rfl, hg⟩ := hq.room (by have h1 := HH1.out.free; have h2 := HSPL.out; have h3 := HNN.out; have h4 := HPP.out; have h5 := HLL.out; have h6 := HLEN.out; have := HS1z.out; simp only [List.map_cons, List.map_nil, List.map_append, List.sum_append, List.sum_cons, List.sum_nil, List.cons_append, List.nil_append] at h1; rw [HLL.out]; omega)
    rw [HXYZ.out.2.2.2.2] at hg
    have HX2 := Lib.hid hs
    have HH2 := Lib.hid (HH1.out.got hg)
    replace HTR := Lib.hid (HTR.out.kept hg.kept hg.inv hg.agg)
    replace HT1 := Lib.hid (HT1.out.kept hg.kept hg.inv hg.agg)
    have HT2 := Lib.hid (hg.tree HU.out.2.1)
    have HS2z : Hid (t2.size = PY) := by show _ = _; rw [HT2.out.size]; exact HPP.out.2.1
    have HRD2 : Hid (0 ≤ rd2 ∧ rd2 ≤ 40000) := by have h1 := HRD1.out; have h2 := HCB.out; exact ⟨by omega, by omega⟩
    clear hs hg g0 g1 HX1 HH1
    go_wp2_with fail
    refine (HX2.out.mut fun F hI => HK.out.keep (hi1 + 1) 9223372036854775807 _ hI HH2.out.inv (fun j => HH2.out.small (by simp) j) HTR.out HWF.out HRD2.out.1 (by have := HRD2.out; omega) HLH.out.2.2.2.1 HLH.out.2.2.2.2.2).mono ?_
    rintro e v3 ⟨B3, rd3, hq, hs⟩
    obtain ⟨g0, g1, j3, t3, rfl, hg⟩ := hq.room (by have h1 := HH2.out.free; have h2 := HSPL.out; have h3 := HNN.out; have h4 := HPP.out; have h5 := HLL.out; have h6 := HLEN.out; have := HS1z.out; have := HS2z.out; simp only [List.map_cons, List.map_nil, List.map_append, List.sum_append, List.sum_cons, List.sum_nil, List.cons_append, List.nil_append] at h1; rw [HLL.out]; omega)
    rw [HXYZ.out.2.2.2.1] at hg
    have HX3 := Lib.hid hs
    have HH3 := Lib.hid (HH2.out.got hg)
    replace HTR := Lib.hid (HTR.out.kept hg.kept hg.inv hg.agg)
    replace HT1 := Lib.hid (HT1.out.kept hg.kept hg.inv hg.agg)
    replace HT2 := Lib.hid (HT2.out.kept hg.kept hg.inv hg.agg)
    have HT3 := Lib.hid (hg.tree HU.out.2.2.1)
    have HS3z : Hid (t3.size = PZ) := by show _ = _; rw [HT3.out.size]; exact HPP.out.2.2.1
    have HRD3 : Hid (0 ≤ rd3 ∧ rd3 ≤ 60000) := by have h1 := HRD2.out; have h2 := HCB.out; exact ⟨by omega, by omega⟩
    clear hs hg g0 g1 HX2 HH2
    have v3 : IntKind.i64.wrap ((PX : Int) + (PY : Int)) = (PX : Int) + (PY : Int) := by have := HPP.out.2.2.2; rw [IntKind.wrap_i64]; omega
    have v4 : IntKind.i64.wrap ((PX : Int) + (PY : Int) + (PZ : Int)) = (L : Int) := by have := HPP.out.2.2.2; rw [IntKind.wrap_i64]; omega
    have v5 : ((L : Int) != (L : Int)) = false := by simp
    go_wp2_with fail
    refine (HX3.out.size HRD3.out.1 (by have := HRD3.out; omega) HT1.out).mono ?_
    rintro e v31 ⟨rfl, rd31, hs, g0, g1⟩
    rw [HPP.out.1]
    have HX31 := Lib.hid hs
    have HRD31 : Hid (0 ≤ rd31 ∧ rd31 ≤ 60001) := by have h1 := HRD3.out; exact ⟨by omega, by omega⟩
    clear hs g0 g1 HX3
    go_wp2_with fail
    refine (HX31.out.size HRD31.out.1 (by have := HRD31.out; omega) HT2.out).mono ?_
    rintro e v32 ⟨rfl, rd32, hs, g0, g1⟩
    rw [HPP.out.2.1]
    have HX32 := Lib.hid hs
    have HRD32 : Hid (0 ≤ rd32 ∧ rd32 ≤ 60002) := by have h1 := HRD31.out; exact ⟨by omega, by omega⟩
    clear hs g0 g1 HX31
    go_wp2_with fail
    refine (HX32.out.size HRD32.out.1 (by have := HRD32.out; omega) HT3.out).mono ?_
    rintro e v33 ⟨rfl, rd33, hs, g0, g1⟩
    rw [HPP.out.2.2.1]
    have HX33 := Lib.hid hs
    have HRD33 : Hid (0 ≤ rd33 ∧ rd33 ≤ 60003) := by have h1 := HRD32.out; exact ⟨by omega, by omega⟩
    clear hs g0 g1 HX32
    go_wp2_with fail
    refine (HX33.out.mut fun F hI => HKJ.out.concat _ hI HH3.out.inv (fun j => HH3.out.small (by simp) j) HT1.out HT3.out HW.out.1 HW.out.2.2.1 HRD33.out.1 (by have := HRD33.out; omega)).mono ?_
    rintro e v4 ⟨B4, rd4, hq, hs⟩
    obtain ⟨g0, g1, j4, t4, rfl, hg⟩ := hq.room HU.out.2.2.2.2 (by have h1 := HH3.out.free; have h2 := join_le (l := (X.length : Int)) (r := (Z.length : Int)) (by omega) (by omega) (by have h4 := HPP.out; have h6 := HLEN.out; (try simp only [List.length_append]); omega); have h3 := HNN.out; have h4 := HPP.out; have h5 := HLL.out; have h6 := HLEN.out; have := HS1z.out; have := HS2z.out; have := HS3z.out; simp only [List.map_cons, List.map_nil, List.map_append, List.sum_append, List.sum_cons, List.sum_nil, List.cons_append, List.nil_append] at h1; omega)
    have HX4 := Lib.hid hs
    have HH4 := Lib.hid (HH3.out.got hg)
    replace HTR := Lib.hid (HTR.out.kept hg.kept hg.inv hg.agg)
    replace HT1 := Lib.hid (HT1.out.kept hg.kept hg.inv hg.agg)
    replace HT2 := Lib.hid (HT2.out.kept hg.kept hg.inv hg.agg)
    replace HT3 := Lib.hid (HT3.out.kept hg.kept hg.inv hg.agg)
    have HT4 := Lib.hid (hg.tree HU.out.2.2.2.2)
    have HS4z : Hid (t4.size = PX + PZ) := by show _ = _; rw [HT4.out.size]; rw [List.length_append, HPP.out.1, HPP.out.2.2.1]
    have HRD4 : Hid (0 ≤ rd4 ∧ rd4 ≤ 100000) := by have h1 := HRD33.out; have h2 := HCB.out; have h9 := join_bd (n := X.length) (m := Z.length) (by have h4 := HPP.out; have h6 := HLEN.out; (try simp only [List.length_append]); omega); exact ⟨by omega, by omega⟩
    clear hs hg g0 g1 HX33 HH3
    go_wp2_with fail
    refine (HX4.out.mut fun F hI => HK.out.drop lo1 hi1 _ hI HH4.out.inv (fun j => HH4.out.small (by simp) j) HTR.out HWF.out HRD4.out.1 (by have := HRD4.out; omega) HLH.out.1 HLH.out.2.1).mono ?_
    rintro e v5 ⟨B5, rd5, hq, hs⟩
    obtain ⟨g0, g1, j5, t5, rfl, hg⟩ := hq.room (by have h1 := HH4.out.free; have h2 := HSPL.out; have h3 := HNN.out; have h4 := HPP.out; have h5 := HLL.out; have h6 := HLEN.out; have := HS1z.out; have := HS2z.out; have := HS3z.out; have := HS4z.out; simp only [List.map_cons, List.map_nil, List.map_append, List.sum_append, List.sum_cons, List.sum_nil, List.cons_append, List.nil_append] at h1; rw [HLL.out]; omega)
    rw [HXYZ.out.2.1] at hg
    have HX5 := Lib.hid hs
    have HH5 := Lib.hid (HH4.out.got hg)
    replace HTR := Lib.hid (HTR.out.kept hg.kept hg.inv hg.agg)
    replace HT1 := Lib.hid (HT1.out.kept hg.kept hg.inv hg.agg)
    replace HT2 := Lib.hid (HT2.out.kept hg.kept hg.inv hg.agg)
    replace HT3 := Lib.hid (HT3.out.kept hg.kept hg.inv hg.agg)
    replace HT4 := Lib.hid (HT4.out.kept hg.kept hg.inv hg.agg)
    have HT5 := Lib.hid (hg.tree HU.out.2.2.2.2)
    have HS5z : Hid (t5.size = PX + PZ) := by show _ = _; rw [HT5.out.size]; rw [List.length_append, HPP.out.1, HPP.out.2.2.1]
    have HRD5 : Hid (0 ≤ rd5 ∧ rd5 ≤ 130000) := by have h1 := HRD4.out; have h2 := HCB.out; exact ⟨by omega, by omega⟩
    clear hs hg g0 g1 HX4 HH4
    go_wp2_with fail
    refine (HX5.out.mut fun F hI => HKJ.out.concat _ hI HH5.out.inv (fun j => HH5.out.small (by simp) j) HT1.out HT2.out HW.out.1 HW.out.2.1 HRD5.out.1 (by have := HRD5.out; omega)).mono ?_
    rintro e v6 ⟨B6, rd6, hq, hs⟩
    obtain ⟨g0, g1, j6, t6, rfl, hg⟩ := hq.room HU.out.2.2.2.1 (by have h1 := HH5.out.free; have h2 := join_le (l := (X.length : Int)) (r := (Y.length : Int)) (by omega) (by omega) (by have h4 := HPP.out; have h6 := HLEN.out; (try simp only [List.length_append]); omega); have h3 := HNN.out; have h4 := HPP.out; have h5 := HLL.out; have h6 := HLEN.out; have := HS1z.out; have := HS2z.out; have := HS3z.out; have := HS4z.out; have := HS5z.out; simp only [List.map_cons, List.map_nil, List.map_append, List.sum_append, List.sum_cons, List.sum_nil, List.cons_append, List.nil_append] at h1; omega)
    have HX6 := Lib.hid hs
    have HH6 := Lib.hid (HH5.out.got hg)
    replace HTR := Lib.hid (HTR.out.kept hg.kept hg.inv hg.agg)
    replace HT1 := Lib.hid (HT1.out.kept hg.kept hg.inv hg.agg)
    replace HT2 := Lib.hid (HT2.out.kept hg.kept hg.inv hg.agg)
    replace HT3 := Lib.hid (HT3.out.kept hg.kept hg.inv hg.agg)
    replace HT4 := Lib.hid (HT4.out.kept hg.kept hg.inv hg.agg)
    replace HT5 := Lib.hid (HT5.out.kept hg.kept hg.inv hg.agg)
    have HT6 := Lib.hid (hg.tree HU.out.2.2.2.1)
    have HS6z : Hid (t6.size = PX + PY) := by show _ = _; rw [HT6.out.size]; rw [List.length_append, HPP.out.1, HPP.out.2.1]
    have HRD6 : Hid (0 ≤ rd6 ∧ rd6 ≤ 140000) := by have h1 := HRD5.out; have h2 := HCB.out; have h9 := join_bd (n := X.length) (m := Y.length) (by have h4 := HPP.out; have h6 := HLEN.out; (try simp only [List.length_append]); omega); exact ⟨by omega, by omega⟩
    clear hs hg g0 g1 HX5 HH5
    go_wp2_with fail
    refine (HX6.out.mut fun F hI => HKJ.out.concat _ hI HH6.out.inv (fun j => HH6.out.small (by simp) j) HT6.out HT3.out HW.out.2.2.2.1 HW.out.2.2.1 HRD6.out.1 (by have := HRD6.out; omega)).mono ?_
    rintro e v7 ⟨B7, rd7, hq, hs⟩
    obtain ⟨g0, g1, j7, t7, rfl, hg⟩ := hq.room (by rw [← HXYZ.out.1]; exact HUP.out) (by have h1 := HH6.out.free; have h2 := join_le (l := ((X ++ Y).length : Int)) (r := (Z.length : Int)) (by omega) (by omega) (by have h4 := HPP.out; have h6 := HLEN.out; (try simp only [List.length_append]); omega); have h3 := HNN.out; have h4 := HPP.out; have h5 := HLL.out; have h6 := HLEN.out; have := HS1z.out; have := HS2z.out; have := HS3z.out; have := HS4z.out; have := HS5z.out; have := HS6z.out; simp only [List.map_cons, List.map_nil, List.map_append, List.sum_append, List.sum_cons, List.sum_nil, List.cons_append, List.nil_append] at h1; omega)
    rw [← HXYZ.out.1] at hg
    have HX7 := Lib.hid hs
    have HH7 := Lib.hid (HH6.out.got hg)
    replace HTR := Lib.hid (HTR.out.kept hg.kept hg.inv hg.agg)
    replace HT1 := Lib.hid (HT1.out.kept hg.kept hg.inv hg.agg)
    replace HT2 := Lib.hid (HT2.out.kept hg.kept hg.inv hg.agg)
    replace HT3 := Lib.hid (HT3.out.kept hg.kept hg.inv hg.agg)
    replace HT4 := Lib.hid (HT4.out.kept hg.kept hg.inv hg.agg)
    replace HT5 := Lib.hid (HT5.out.kept hg.kept hg.inv hg.agg)
    replace HT6 := Lib.hid (HT6.out.kept hg.kept hg.inv hg.agg)
    have HT7 := Lib.hid (hg.tree HUP.out)
    have HS7z : Hid (t7.size = L) := by show _ = _; rw [HT7.out.size]; exact HLL.out
    have HRD7 : Hid (0 ≤ rd7 ∧ rd7 ≤ 150000) := by have h1 := HRD6.out; have h2 := HCB.out; have h9 := join_bd (n := (X ++ Y).length) (m := Z.length) (by have h4 := HPP.out; have h6 := HLEN.out; (try simp only [List.length_append]); omega); exact ⟨by omega, by omega⟩
    clear hs hg g0 g1 HX6 HH6
    have HHL := HH7
    have HNL : Hid ((X ++ Z).length = PX + PZ ∧ PX + PZ ≤ L) := ⟨by rw [List.length_append, HPP.out.1, HPP.out.2.2.1], by have := HPP.out; omega⟩
    obtain ⟨PU, hPU⟩ : ∃ n, PX + PZ = n := ⟨_, rfl⟩
    rw [hPU] at HNL
    clear hPU
    go_wp2_with fail
    refine (HX7.out.ens (fun F hI => HK.out.list _ hI HT4.out HW.out.2.2.2.2 HRD7.out.1 (by have := HRD7.out; omega)) HNL.out.1).mono ?_
    rintro e v8 ⟨a8, c8, rd8, rfl, hs, g0, g1⟩
    have hb8 := bulk_bd (n := (X ++ Z).length) (m := (X ++ Z).length) (by have := HNL.out; have := HLEN.out; omega) (Nat.le_refl _)
    have HX8 := Lib.hid hs
    have HRD8 : Hid (0 ≤ rd8 ∧ rd8 ≤ 160000) := by have h1 := HRD7.out; exact ⟨by omega, by omega⟩
    clear hs g0 g1 hb8 HX7
    go_wp2_with fail
    refine (HX8.out.ens (fun F hI => HK.out.list _ hI HT5.out HW.out.2.2.2.2 HRD8.out.1 (by have := HRD8.out; omega)) HNL.out.1).mono ?_
    rintro e v9 ⟨a9, c9, rd9, rfl, hs, g0, g1⟩
    have hb8 := bulk_bd (n := (X ++ Z).length) (m := (X ++ Z).length) (by have := HNL.out; have := HLEN.out; omega) (Nat.le_refl _)
    have HX9 := Lib.hid hs
    have HRD9 : Hid (0 ≤ rd9 ∧ rd9 ≤ 170000) := by have h1 := HRD8.out; exact ⟨by omega, by omega⟩
    clear hs g0 g1 hb8 HX8
    go_wp2_with fail
    refine (same_ens (ens_row (w := v9) (B := w.heap.size) (c := c8) HNL.out.1 (HX9.out.rows ⟨34, 2, .slice a8 PU c8, PU, ensV (X ++ Z)⟩ (by simp)) HW.out.2.2.2.2) (ens_row (w := v9) (B := w.heap.size) (c := c9) HNL.out.1 (HX9.out.rows ⟨34, 2, .slice a9 PU c9, PU, ensV (X ++ Z)⟩ (by simp)) HW.out.2.2.2.2) HNL.out.1 (by have := HNL.out; have := HLEN.out; omega)).mono ?_
    rintro e v10 ⟨rfl, hb⟩
    have HX10 := Lib.hid (HX9.out.calm hb)
    clear hb HX9
    go_wp2_with fail
    refine (HX10.out.ens (fun F hI => HK.out.list _ hI HT7.out HWF.out HRD9.out.1 (by have := HRD9.out; omega)) HLL.out).mono ?_
    rintro e v11 ⟨a11, c11, rd11, rfl, hs, -, -⟩
    have HX11 := Lib.hid hs
    clear hs HX10
    go_wp2_with fail
    refine (same_ens (ens_row (w := v11) (B := w.heap.size) (c := c11) HLL.out (HX11.out.rows ⟨34, 2, .slice a11 L c11, L, ensV l⟩ (by simp)) HWF.out) (ens_row (w := v11) (B := w.heap.size) (c := c1) HLL.out (HX11.out.rows ⟨34, 2, .slice a1 L c1, L, ensV l⟩ (by simp)) HWF.out) HLL.out (by have := HLEN.out; omega)).mono ?_
    rintro e v12 ⟨rfl, hb⟩
    have HX12 := Lib.hid (HX11.out.calm hb)
    clear hb HX11
    have HRI : Hid (∀ x ∈ [ri] ++ [j1] ++ [j2] ++ [j3] ++ [j4] ++ [j5] ++ [j6] ++ [j7], x < 4294967296) := fun x hx => by
      rcases HHL.out.on x hx with h | h
      · omega
      · have := HHL.out.inv.ok.on x h; have := HHL.out.inv.ok.cap2; omega
    have HXB := Lib.hid (HX12.out.box #[.int .u32 (ri : Int), .int .u32 (j1 : Int), .int .u32 (j2 : Int), .int .u32 (j3 : Int), .int .u32 (j4 : Int), .int .u32 (j5 : Int), .int .u32 (j6 : Int), .int .u32 (j7 : Int)] 28)
    have HAT := Lib.hid (us_at v12 28 ([ri] ++ [j1] ++ [j2] ++ [j3] ++ [j4] ++ [j5] ++ [j6] ++ [j7]) #[.int .u32 (ri : Int), .int .u32 (j1 : Int), .int .u32 (j2 : Int), .int .u32 (j3 : Int), .int .u32 (j4 : Int), .int .u32 (j5 : Int), .int .u32 (j6 : Int), .int .u32 (j7 : Int)] rfl HRI.out)
    go_wp2_with fail
    refine (HXB.out.sound HCHK.out HHL.out.inv HHL.out.agg HAT.out (L := 8) rfl (by decide) HHL.out.on).mono ?_
    rintro e v13 ⟨rfl, hb⟩
    have HB := Lib.hid (HXB.out.calm hb).below
    clear hb HXB HAT HX12
    go_wp2_with fail
    go_ret
    exact ⟨rfl, HB.out⟩
end Go.Proofs.YtnimbgcploohiaaGreat
