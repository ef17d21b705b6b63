/- Of the proof of UJoinUndoesSplitP: ScnMut, RefRsv, Got, Mid, JnN, RsOk, JnCat, JnAw, JnOk4, JnOk5. -/
import Derived.Test.YtckkmmdibgoajaaU1
import Derived.Test.YtckkmmdibgoajaaU2
import Derived.Test.YtckkmmdibgoajaaU3
import Derived.Test.YtckkmmdibgoajaaU4
import Derived.Test.YtckkmmdibgoajaaU5
import Derived.Test.YtckkmmdibgoajaaU6
import Derived.Test.YtckkmmdibgoajaaU7
import Derived.Test.YtckkmmdibgoajaaU8
import Derived.Test.YtckkmmdibgoajaaU9
import Derived.Test.YtckkmmdibgoajaaU10
import Derived.Test.YtckkmmdibgoajaaU11
import Derived.Test.YtckkmmdibgoajaaU12
import Derived.Test.YtckkmmdibgoajaaU13
import Derived.Deep.DeepCutAuto
set_option linter.unusedVariables false
set_option linter.unusedSimpArgs false
namespace Go.Proofs.Ytckkmmdibgoajaa
open Go.RowKit
theorem Scn.dumped {I : AImpl} {B : Nat} {w0 w : World} {p : Value} {A A0 : Ar} {rd : Int} {u : Row} {rs : List Row} {bs : List (Nat × Obj)} {st : List Nat} {held : Nat → Nat} {a : Option Addr} {c N : Nat} (h : Scn I B w0 w p A rd (u :: ⟨92, 11, .slice a N c, N, slotsV A0⟩ :: rs) bs) (hv : A0.Inv st held) (hN : A0.σ.cap = N) : SlotsAt w a N A0.sl := h.slots_of (c := c) hv hN (List.Mem.tail _ (List.Mem.head _))
end Go.Proofs.Ytckkmmdibgoajaa
set_option linter.unusedVariables false
set_option linter.unusedSimpArgs false
namespace Go.Proofs.Ytckkmmdibgoajaa
open Go.RowKit
def splitI (n : Int) : Int := needI n 0 0 0 0 12
end Go.Proofs.Ytckkmmdibgoajaa
set_option linter.unusedVariables false
set_option linter.unusedSimpArgs false
namespace Go.Proofs.Ytckkmmdibgoajaa
open Go.RowKit
/-- two trees -/
structure Got2 (A : Ar) (held : Nat → Nat) (B : Ar) (j : Nat) (t : Tr) (l : List En) (k : Nat) (u : Tr) (m : List En) : Prop where
  kept : A.Kept B
  gen : ∀ i, A.σ.on i = true → B.σ.gen i = A.σ.gen i
  inv : B.Inv [] (pls (pls held j) k)
  agg : B.Agg
  sub : Sub B j t
  ents : t.ents B.nd = l
  bal : t.bal = true
  sub2 : Sub B k u
  ents2 : u.ents B.nd = m
  bal2 : u.bal = true
def AllLt (l : List En) (k : Int) : Prop := ∀ y ∈ l, y.key < k
def AllGt (l : List En) (k : Int) : Prop := ∀ y ∈ l, k < y.key
def splitBd (n : Nat) : Int := 120 * ((xh n : Int) + 2)
def JoinQ (A : Ar) (rd : Int) (held : Nat → Nat) (L R : Nat) (ll lr : List En) (e : En) (en : Ending) (B : Ar) (rd' : Int) : Prop :=
  rd ≤ rd' ∧ rd' ≤ rd + joinBd ll.length lr.length ∧ (
  (¬ (AllLt ll e.key ∧ AllGt lr e.key) ∧ en = .returned (.tuple #[.int .u32 0, .int .i64 7]) ∧ B = A) ∨
  ((AllLt ll e.key ∧ AllGt lr e.key) ∧ (A.σ.free.length : Int) < joinI (ll.length : Int) (lr.length : Int) ∧ en = .returned (.tuple #[.int .u32 0, .int .i64 2]) ∧ B = A) ∨
  ((AllLt ll e.key ∧ AllGt lr e.key) ∧ joinI (ll.length : Int) (lr.length : Int) ≤ (A.σ.free.length : Int) ∧ ∃ (j : Nat) (t : Tr), en = .returned (.tuple #[.int .u32 (j : Int), .int .i64 0]) ∧ Got A held B j t (ll ++ e :: lr) ∧
    (Proofs.Ytckkmmdibgoajaa.bal (ll.length : Int) (lr.length : Int) = true → (B.nd j).left = L ∧ (B.nd j).right = R ∧ B.σ.free.length + 1 = A.σ.free.length)))
def lowE (l : List En) (k : Int) : List En := l.filter fun y => decide (y.key < k)
def highE (l : List En) (k : Int) : List En := l.filter fun y => decide (k < y.key)
/-- the tree needs no change -/
def wholeE (l : List En) (k : Int) : Prop := getE l k = none ∧ (lowE l k = [] ∨ highE l k = [])
def SplitQ (A : Ar) (rd : Int) (held : Nat → Nat) (i : Nat) (l : List En) (k : Int) (en : Ending) (B : Ar) (rd' : Int) : Prop :=
  rd ≤ rd' ∧ rd' ≤ rd + splitBd l.length ∧ (
  (wholeE l k ∧ ∃ (x y : Nat) (tx ty : Tr), en = .returned (.tuple #[.int .u32 (x : Int), .int .i64 0, .bool false, .int .u32 (y : Int), .int .i64 0]) ∧ Got2 A held B x tx (lowE l k) y ty (highE l k) ∧ (lowE l k ≠ [] → x = i) ∧ (highE l k ≠ [] → y = i) ∧ B.σ.free.length = A.σ.free.length) ∨
  (¬ wholeE l k ∧ (A.σ.free.length : Int) < splitI (l.length : Int) ∧ en = .returned (.tuple #[.int .u32 0, .int .i64 0, .bool false, .int .u32 0, .int .i64 2]) ∧ B = A) ∨
  (¬ wholeE l k ∧ splitI (l.length : Int) ≤ (A.σ.free.length : Int) ∧ ∃ (x y : Nat) (tx ty : Tr), en = .returned (.tuple #[.int .u32 (x : Int), .int .i64 ((getE l k).elim 0 (·.val)), .bool (getE l k).isSome, .int .u32 (y : Int), .int .i64 0]) ∧ Got2 A held B x tx (lowE l k) y ty (highE l k)))
structure JoinImpl (I : AImpl) : Prop where
  join : ∀ {p : Value} {A : Ar} {rd : Int} {F : Nat → Prop} {held : Nat → Nat} {L R : Nat} {tl tr : Tr} {ll lr : List En} (e : En) (w : World), I.Is w p A rd F → A.Inv [] held → (∀ j, held j ≤ 1048000) → TreeAt A L tl ll → TreeAt A R tr lr → WfL ll → WfL lr → 0 ≤ rd → rd ≤ 1099511000000 → i64R e.key → i64R e.val →
    Calls Try.prog 33 #[p, .int .u32 (L : Int), .agg #[.int .i64 e.key, .int .i64 e.val], .int .u32 (R : Int)] w (Mut I p F (JoinQ A rd held L R ll lr e) w)
  concat : ∀ {p : Value} {A : Ar} {rd : Int} {F : Nat → Prop} {held : Nat → Nat} {L R : Nat} {tl tr : Tr} {ll lr : List En} (w : World), I.Is w p A rd F → A.Inv [] held → (∀ j, held j ≤ 1048000) → TreeAt A L tl ll → TreeAt A R tr lr → WfL ll → WfL lr → 0 ≤ rd → rd ≤ 1099511000000 →
    Calls Try.prog 77 #[p, .int .u32 (L : Int), .int .u32 (R : Int)] w (Mut I p F (CatQ A rd held L R ll lr) w)
  split : ∀ {p : Value} {A : Ar} {rd : Int} {F : Nat → Prop} {held : Nat → Nat} {i : Nat} {t : Tr} {l : List En} (k : Int) (w : World), I.Is w p A rd F → A.Inv [] held → (∀ j, held j ≤ 1048000) → TreeAt A i t l → WfL l → 0 ≤ rd → rd ≤ 1099511000000 → i64R k →
    Calls Try.prog 32 #[p, .int .u32 (i : Int), .int .i64 k] w (Mut I p F (SplitQ A rd held i l k) w)
end Go.Proofs.Ytckkmmdibgoajaa
set_option linter.unusedVariables false
namespace Go.Proofs.Ytckkmmdibgoajaa
theorem Mid.got2 {A B : Ar} {held : Nat → Nat} {j k : Nat} {t u : Tr} {l m : List En} (h : Mid A held B [k, j]) (ha : At B j t l) (hb : At B k u m) : Got2 A held B j t l k u m :=
  ⟨h.kept, h.gen, by have := h.inv; rw [plL_cons, plL_cons, plL_nil] at this; exact this, h.agg, ha.sub, ha.ents, ha.bal, hb.sub, hb.ents, hb.bal⟩
end Go.Proofs.Ytckkmmdibgoajaa
set_option linter.unusedVariables false
namespace Go.Proofs.Ytckkmmdibgoajaa
/-- one step of a split, the key on the left: the greater keys of the left child, t, are joined to the right child, u -/
theorem split_step_l {t u : Tr} {s lo h : Nat} (ht : t.bal = true) (hu : u.bal = true) (hs : t.size + u.size + 1 ≤ 2147483647) (hw : t.size + 1 ≤ 3 * (u.size + 1)) (h1 : s ≤ xh lo + xh t.size + h) :
    s + (jd t u + 1) ≤ xh lo + xh (t.size + u.size + 1) + (h + 1) := by
  have g1 := xh_up (m := t.size) (n := t.size + u.size + 1) (by omega) hs
  have g2 := xh_up (m := u.size) (n := t.size + u.size + 1) (by omega) hs
  rcases jd_le ht hu (by omega) with ⟨_, h⟩ | ⟨_, h⟩ | ⟨hc, h⟩ <;> omega
theorem split_step_r {t u : Tr} {s hi h : Nat} (ht : t.bal = true) (hu : u.bal = true) (hs : t.size + u.size + 1 ≤ 2147483647) (hw : u.size + 1 ≤ 3 * (t.size + 1)) (h1 : s ≤ xh u.size + xh hi + h) :
    s + (jd t u + 1) ≤ xh (t.size + u.size + 1) + xh hi + (h + 1) := by
  have g1 := xh_up (m := t.size) (n := t.size + u.size + 1) (by omega) hs
  have g2 := xh_up (m := u.size) (n := t.size + u.size + 1) (by omega) hs
  rcases jd_le ht hu (by omega) with ⟨_, h⟩ | ⟨hc, h⟩ | ⟨_, h⟩ <;> omega
end Go.Proofs.Ytckkmmdibgoajaa
set_option linter.unusedVariables false
set_option linter.unusedSimpArgs false
namespace Go.Proofs.Ytckkmmdibgoajaa
open Go.RowKit
set_option maxHeartbeats 1000000 in
set_option maxRecDepth 100000 in
theorem rsSplit_any (n : Int) (w : World) (hn : in64 n) : Calls Try.prog 60 #[.int .i64 n] w (Calm w (.int .i64 (splitI n))) := by
  by_cases vn : vld n
  rotate_left
  · have HE : Hid (splitI n = -1) := by show splitI n = -1; unfold splitI needI; rw [if_neg (fun h => vn h.1)]
    have HV : Hid (decide (vld n) = false) := decide_eq_false vn
    clear hn vn
    go_enter Try.func60, Try.ntmps60
    go_wp2_with fail
    refine (valid_any n _).mono ?_
    rintro e wv ⟨rfl, rfl⟩
    rw [HV.out]
    go_wp2_with fail
    go_ret
    exact ⟨by rw [HE.out]; rfl, Below.refl _ _⟩
  have hE : splitI n = 0 + 12 * (xhI (n + 0 + 0 + 0) + 2) := need_ok vn vld0 vld0
  have HVn : Hid (decide (vld n) = true) := decide_eq_true vn
  rw [show n + 0 + 0 + 0 = n by omega] at hE
  have har : 0 ≤ n ∧ n ≤ 1000000 := by unfold vld at vn; omega
  have hpi := path_in (f := 12) ⟨by decide, by decide⟩ har.1 har.2
  have HC : Hid (∀ wx, Calls Try.prog 76 #[.int .i64 (n)] wx (Calm wx (.int .i64 (xhI (n) + 2)))) := fun wx => pathR_any (n) wx har.1 har.2
  obtain ⟨Q, hQ⟩ : ∃ Q, xhI (n) + 2 = Q := ⟨_, rfl⟩
  rw [hQ] at hE hpi HC
  have hq1 : IntKind.i64.wrap (12 * Q) = 12 * Q := by rw [IntKind.wrap_i64]; omega
  have HE := Lib.hid hE
  clear hE har hpi hQ hn vn
  go_enter Try.func60, Try.ntmps60
  go_wp2_with fail
  refine (valid_any n _).mono ?_
  rintro e wv ⟨rfl, rfl⟩
  rw [HVn.out]
  go_wp2_with fail
  refine (HC.out _).mono ?_
  rintro e w2 ⟨rfl, hb2⟩
  have HB2 := Lib.hid hb2
  clear hb2
  go_wp2_with fail
  go_ret
  exact ⟨by rw [HE.out, Int.zero_add]; rfl, HB2.out⟩
end Go.Proofs.Ytckkmmdibgoajaa
set_option linter.unusedVariables false
set_option linter.unusedSimpArgs false
namespace Go.Proofs.Ytckkmmdibgoajaa
open Go.RowKit
theorem concatP_any (I : AImpl) {p : Value} {A : Ar} {rd : Int} {F : Nat → Prop} {held : Nat → Nat} {L R : Nat} {tl tr : Tr} {ll lr : List En} (w : World) (hI : I.Is w p A rd F) (hv : A.Inv [] held) (hm : ∀ j, held j ≤ 1048000) (hL : TreeAt A L tl ll) (hR : TreeAt A R tr lr) (hwl : WfL ll) (hwr : WfL lr) (h0 : 0 ≤ rd) (h1 : rd ≤ 1099511000000) :
    Calls Try.prog 77 #[p, .int .u32 (L : Int), .int .u32 (R : Int)] w (Mut I p F (CatQ A rd held L R ll lr) w) :=
  (concatS_any I w hI hv hm hL hR hwl hwr h0 h1).mono fun e w' ⟨F', B, rd', q1, q2, q3⟩ => ⟨F', B, rd', q1, q2, q3.1⟩
end Go.Proofs.Ytckkmmdibgoajaa
set_option linter.unusedVariables false
namespace Go.Proofs.Ytckkmmdibgoajaa
end Go.Proofs.Ytckkmmdibgoajaa
set_option linter.unusedVariables false
set_option linter.unusedSimpArgs false
namespace Go.Proofs.Ytckkmmdibgoajaa
open Go.RowKit
theorem tree13_any {I : AImpl} {B : Nat} {w0 w : World} {p : Value} {A : Ar} {rd : Int} {rs : List Row} {bs : List (Nat × Obj)} {held : Nat → Nat} {i L lc : Nat} {la : Option Addr} {t : Tr} {l : List En} (h : Scn I B w0 w p A rd rs bs) (hv : A.Inv [] held) (hT : TreeAt A i t l) (hE : EnsAt w la l) (hL : l.length = L) (hl : L ≤ 65536) :
    Calls Try.prog 34 #[p, .int .u32 (i : Int), .slice la L lc] w (Calm w (.bool true)) := by
  obtain ⟨F, hF, _⟩ := h.mr.has
  obtain ⟨pa, rfl⟩ := I.ptr hF
  have HH := Lib.hid h
  have HV := Lib.hid hv
  have HT := Lib.hid hT
  have HE := Lib.hid hE
  have HL : Hid (l.length = L ∧ L ≤ 65536) := ⟨hL, hl⟩
  clear h hv hT hE hL hl hF
  go_enter Try.func34, Try.ntmps34
  go_wp2_with fail
  refine HH.out.dump.mono ?_
  rintro e w1 ⟨da, dc, db, dd, rfl, hs1, hb1⟩
  have HS1 := Lib.hid (hs1.dumped HV.out rfl)
  have HB1 := Lib.hid hb1
  clear hs1 hb1
  go_wp2_with fail
  refine (refTree_any (a := da) (b := db) (c := dc) (m := A.σ.free.length) (d := dd) HV.out rfl HS1.out HT.out (HE.out.below HB1.out) HL.out.1 HL.out.2).mono ?_
  rintro e w2 ⟨rfl, hb2⟩
  have HB2 := Lib.hid (HB1.out.trans (hb2.mono HB1.out.size))
  clear hb2
  go_wp2_with fail
  go_ret
  exact ⟨rfl, HB2.out⟩
end Go.Proofs.Ytckkmmdibgoajaa
set_option linter.unusedVariables false
set_option linter.unusedSimpArgs false
namespace Go.Proofs.Ytckkmmdibgoajaa
open Go.RowKit
theorem join_le {l r : Int} (h0 : 0 ≤ l) (h1 : 0 ≤ r) (h2 : l + r ≤ 151) : joinI l r ≤ 64 ∧ 0 ≤ joinI l r := by
  have h3 := xhI_max (n := l + r + 0 + 1) (by omega) (by omega)
  unfold joinI needI
  have hv : vld l ∧ vld r ∧ vld 0 := by unfold vld; omega
  rw [if_pos hv]
  omega
theorem split_le {n : Int} (h0 : 0 ≤ n) (h1 : n ≤ 151) : splitI n ≤ 192 ∧ 0 ≤ splitI n := by
  have h3 := xhI_max (n := n + 0 + 0 + 0) (by omega) (by omega)
  unfold splitI needI
  have hv : vld n ∧ vld 0 ∧ vld 0 := by unfold vld; omega
  rw [if_pos hv]
  omega
theorem low_lt (l : List En) (k : Int) : AllLt (lowE l k) k := fun y hy => by simpa using (List.mem_filter.1 hy).2
theorem high_gt (l : List En) (k : Int) : AllGt (highE l k) k := fun y hy => by simpa using (List.mem_filter.1 hy).2
theorem low_up {l : List En} (h : Up l) (k : Int) : Up (lowE l k) := List.Pairwise.filter _ h
theorem high_up {l : List En} (h : Up l) (k : Int) : Up (highE l k) := List.Pairwise.filter _ h
theorem low_mem {l : List En} {k : Int} {y : En} (h : y ∈ lowE l k) : y ∈ l := (List.mem_filter.1 h).1
theorem high_mem {l : List En} {k : Int} {y : En} (h : y ∈ highE l k) : y ∈ l := (List.mem_filter.1 h).1
theorem low_wf {l : List En} (h : WfL l) (k : Int) : WfL (lowE l k) := fun y hy => h y (low_mem hy)
theorem high_wf {l : List En} (h : WfL l) (k : Int) : WfL (highE l k) := fun y hy => h y (high_mem hy)
theorem filter_none {l : List En} {f : En → Bool} (h : ∀ y ∈ l, f y = false) : l.filter f = [] := List.filter_eq_nil_iff.2 fun y hy => by rw [h y hy]; decide
theorem filter_all {l : List En} {f : En → Bool} (h : ∀ y ∈ l, f y = true) : l.filter f = l := List.filter_eq_self.2 h
/-- a list with the key -/
theorem low_high : ∀ {l : List En} {k : Int} {e : En}, Up l → getE l k = some e → lowE l k ++ e :: highE l k = l ∧ e.key = k
  | [], k, e, _, h => by cases h
  | x :: t, k, e, hu, h => by
    have hu' := List.pairwise_cons.1 hu
    unfold getE at h
    rw [List.find?_cons] at h
    by_cases hx : x.key = k
    · have hd : (decide (x.key = k)) = true := decide_eq_true hx
      have h1 : x = e := by
        split at h
        · exact Option.some.inj h
        · rename_i h2; simp_all
      subst h1
      have l1 : lowE (x :: t) k = [] := filter_none fun y hy => by
        rcases List.mem_cons.1 hy with rfl | hy
        · exact decide_eq_false (by omega)
        · have := hu'.1 y hy; exact decide_eq_false (by omega)
      have l2 : highE (x :: t) k = t := by
        unfold highE
        rw [List.filter_cons_of_neg (by simp; omega)]
        exact filter_all fun y hy => by have := hu'.1 y hy; exact decide_eq_true (by omega)
      exact ⟨by rw [l1, l2]; rfl, hx⟩
    · have h1 : getE t k = some e := by
        split at h
        · rename_i h2; simp_all
        · exact h
      obtain ⟨h2, h3⟩ := low_high hu'.2 h1
      have hm : e ∈ t := by rw [← h2]; simp
      have hlt := hu'.1 e hm
      have l1 : lowE (x :: t) k = x :: lowE t k := by unfold lowE; rw [List.filter_cons_of_pos (by simp; omega)]
      have l2 : highE (x :: t) k = highE t k := by unfold highE; rw [List.filter_cons_of_neg (by simp; omega)]
      exact ⟨by rw [l1, l2, List.cons_append, h2], h3⟩
theorem Got2.fst {A B : Ar} {held : Nat → Nat} {j k : Nat} {t u : Tr} {l m : List En} (h : Got2 A held B j t l k u m) (hu : Up l) : TreeAt B j t l := ⟨⟨_, h.inv⟩, h.agg, h.sub, h.bal, h.ents, hu⟩
theorem Got2.snd {A B : Ar} {held : Nat → Nat} {j k : Nat} {t u : Tr} {l m : List En} (h : Got2 A held B j t l k u m) (hu : Up m) : TreeAt B k u m := ⟨⟨_, h.inv⟩, h.agg, h.sub2, h.bal2, h.ents2, hu⟩
section
variable {I : AImpl} {B : Nat} {w0 w : World} {p : Value} {A : Ar} {rd : Int} {rs : List Row} {bs : List (Nat × Obj)}
/-- the first of the held references is released -/
theorem Scn.release (h : Scn I B w0 w p A rd rs bs) {i : Nat} {l : List Nat} (hv : A.Inv [] (hof (i :: l))) (ha : A.Agg) :
    Calls Try.prog 22 #[p, .int .u32 (i : Int)] w fun e w' => ∃ (A' : Ar) (m : Nat), e = .returned (.tuple #[.int .i64 (m : Int), .int .i64 0]) ∧ A'.Inv [] (hof l) ∧ A'.Agg ∧ A'.σ.cap = A.σ.cap ∧ Scn I B w0 w' p A' rd rs bs := by
  obtain ⟨F, f1, f2, f3⟩ := h.mr.has
  by_cases h0 : i = 0
  · subst h0
    refine (I.release p A rd F 0 (hof (0 :: l)) w f1 (by decide) (fun _ => hv.give0)).mono ?_
    rintro e w1 ⟨F', hal, _, h5⟩
    obtain ⟨rfl, h6⟩ := h5 (.inl rfl)
    rw [(gone_zero A).1] at h6
    have hst := h.mr.stepA f2 f3 hal h6
    have hh := hof_head 0 l
    rw [if_pos rfl] at hh
    exact ⟨A, A.freed 0, rfl, hh ▸ hv, ha, rfl, h.stepA hst.1 hst.2⟩
  · have hp : 0 < hof (i :: l) i := hof_pos (by simp) h0
    have hon := hv.held i hp
    have hi4 : i < 4294967296 := by have := hv.ok.on i hon; have := hv.ok.cap2; omega
    have hg := hv.give hp
    have hgo := Ar.gone_ok hg ha
    refine (I.release p A rd F i (Proofs.Ytckkmmdibgoajaa.less (hof (i :: l)) i) w f1 hi4 (fun _ => hg)).mono ?_
    rintro e w1 ⟨F', hal, _, h5⟩
    obtain ⟨rfl, h6⟩ := h5 (.inr hon)
    have hst := h.mr.stepA f2 f3 hal h6
    have hh := hof_head i l
    rw [if_neg h0] at hh
    exact ⟨A.gone i, A.freed i, rfl, hh ▸ hgo.1, hgo.2.1, hgo.2.2.1, h.stepA hst.1 hst.2⟩
end
end Go.Proofs.Ytckkmmdibgoajaa
set_option linter.unusedVariables false
set_option linter.unusedSimpArgs false
namespace Go.Proofs.Ytckkmmdibgoajaa
open Go.RowKit
def l15 : List En := [⟨1, 10⟩, ⟨5, 50⟩]
theorem l1_up : Up l1 := by unfold Up l1; simp
theorem l15_up : Up l15 := by unfold Up l15; simp
theorem l1_wf : WfL l1 := by
  intro y hy
  simp [l1] at hy
  subst hy
  exact ⟨⟨by decide, by decide⟩, ⟨by decide, by decide⟩⟩
theorem l15_wf : WfL l15 := by
  intro y hy
  simp [l15] at hy
  rcases hy with rfl | rfl <;> exact ⟨⟨by decide, by decide⟩, ⟨by decide, by decide⟩⟩
theorem l1_at (w : World) (t : TypeId) : EnsAt (w.alloc (.cells #[.int .i64 1, .int .i64 10] t)) (some ⟨w.heap.size, 0, none⟩) l1 := by
  have hr := heap_alloc_new w (.cells #[.int .i64 1, .int .i64 10] t)
  refine ⟨fun j e he => ⟨w.heap.size, 0, rfl, by simp, ?_⟩, l1_wf⟩
  match j, he with
  | 0, he => cases he; constructor <;> (rw [cell_of_row _ _ _ _ _ _ hr]; rfl)
  | j + 1, he => simp [l1] at he
set_option maxHeartbeats 4000000 in
set_option maxRecDepth 100000 in
theorem awake13_any (I : AImpl) (K : JoinImpl I) (w : World) : Calls Try.prog 31 #[] w (Calm w (.bool true)) := by
  have HK := Lib.hid K
  have HAT := Lib.hid (l1_at w 31)
  have HB := Lib.hid (below_new7 w (.cells #[.int .i64 1, .int .i64 10] 31))
  have HUPS : Hid (Up l1 ∧ Up l15 ∧ WfL l1 ∧ WfL l15 ∧ l1 ++ (⟨5, 50⟩ : En) :: [] = l15 ∧ AllLt l1 5 ∧ AllGt ([] : List En) 5 ∧ lowE l15 5 = l1 ∧ highE l15 5 = [] ∧ getE l15 5 = some ⟨5, 50⟩ ∧ ¬ wholeE l15 5) :=
    ⟨l1_up, l15_up, l1_wf, l15_wf, rfl, fun y hy => by (simp [l1] at hy; subst hy; decide), fun y hy => (by cases hy), rfl, rfl, rfl, fun h => by have h1 := h.1; cases h1⟩
  have HR5 : Hid (i64R 5 ∧ i64R 50 ∧ splitI (l15.length : Int) ≤ 48 ∧ joinI (l1.length : Int) (([] : List En).length : Int) ≤ 16 ∧ joinBd l1.length ([] : List En).length ≤ 10000 ∧ splitBd l15.length ≤ 10000) := ⟨⟨by decide, by decide⟩, ⟨by decide, by decide⟩, by decide, by decide, by decide, by decide⟩
  clear K
  go_enter Try.func31, Try.ntmps31
  go_wp2_with fail
  generalize w.alloc (.cells #[.int .i64 1, .int .i64 10] 31) = w1 at HAT HB ⊢
  refine (grow_any I (l := l1) (n := 1) (c := 1) (sp := 60) (m := 61) HAT.out rfl (by decide) (by decide) rfl (by decide) (by decide) (by decide) (by decide)).mono ?_
  rintro e w2 ⟨p, A, i, t, F, rfl, hg⟩
  obtain ⟨pa, rfl⟩ := I.ptr hg.is
  have HT := Lib.hid (hg.planted.tree l1_up)
  have HPL := Lib.hid hg.planted
  have hfr : A.σ.free.length = 60 := by
    have h := hg.planted.free
    have h2 : (Ar.init 61).σ.free.length = 61 := by show (List.range' 1 61).length = _; simp
    have h3 : l1.length = 1 := rfl
    omega
  have HFR : Hid (A.σ.free.length = 60 ∧ A.σ.cap = 61) := ⟨hfr, hg.planted.kept.cap⟩
  clear hfr
  have HS2 : Hid (Scn I w.heap.size w w2 (.pointer (some pa)) A 0 [] []) := Scn.start ⟨⟨F, hg.is, fun k hk => Nat.le_trans HB.out.size (hg.foot k hk), fun k hk => hk.elim⟩, HB.out.trans (hg.below.mono HB.out.size), Nat.le_trans HB.out.size hg.below.size⟩
  have HHM : Hid (∀ j, pls (fun _ => 0) i j ≤ 1048000) := fun j => by rw [pls_at]; split <;> omega
  have HPI : Hid (pls (fun _ => 0) i = hof [i]) := by show _ = _; have := hof_pls [] i; rw [hof_nil] at this; exact this
  clear hg HAT HB
  go_wp2_with fail
  refine (HS2.out.mut fun F hI => HK.out.join ⟨5, 50⟩ w2 hI HPL.out.inv HHM.out HT.out (tree_nil HPL.out.inv HPL.out.agg) HUPS.out.2.2.1 (fun y hy => by cases hy) (by decide) (by decide) HR5.out.1 HR5.out.2.1).mono ?_
  rintro e w3 ⟨B, rd3, ⟨h30, h31, hq⟩, hs3⟩
  have HS3 := Lib.hid hs3
  have HRD3 : Hid (0 ≤ rd3 ∧ rd3 ≤ 10000) := ⟨h30, by have := HR5.out; omega⟩
  clear hs3 HS2 h30 h31
  rcases hq with ⟨q1, -⟩ | ⟨-, q2, -⟩ | ⟨-, -, j, tj, rfl, hj, -⟩
  · exact absurd ⟨HUPS.out.2.2.2.2.2.1, HUPS.out.2.2.2.2.2.2.1⟩ q1
  · exact absurd q2 (by have := HR5.out; have := HFR.out; omega)
  rw [HUPS.out.2.2.2.2.1] at hj
  have HJ := Lib.hid hj
  have HTJ := Lib.hid (hj.tree HUPS.out.2.1)
  have HFB : Hid (48 ≤ B.σ.free.length) := by
    show _ ≤ _
    have h1 : B.Inv [] (hof [i, j]) := by have := hj.inv; rw [HPI.out, hof_pls] at this; exact this
    have h2 := h1.used hj.agg (ts := [t, tj]) (fun x hx => by
      simp at hx
      rcases hx with rfl | rfl
      · exact ⟨t, by simp, HPL.out.sub.kept hj.kept⟩
      · exact ⟨tj, by simp, hj.sub⟩)
    simp at h2
    have h3 := HT.out.size
    have h4 := HTJ.out.size
    have h5 : l1.length = 1 := rfl
    have h6 : l15.length = 2 := rfl
    have h7 := hj.kept.cap
    have h8 := HFR.out.2
    omega
  have HHJ : Hid (∀ x, pls (pls (fun _ => 0) i) j x ≤ 1048000) := fun x => by rw [pls_at, pls_at]; split <;> split <;> omega
  clear hj
  go_wp2_with fail
  refine (HS3.out.mut fun F hI => HK.out.split 5 w3 hI HJ.out.inv HHJ.out HTJ.out HUPS.out.2.2.2.1 HRD3.out.1 (by have := HRD3.out; omega) HR5.out.1).mono ?_
  rintro e w4 ⟨C, rd4, ⟨h40, h41, hq⟩, hs4⟩
  have HS4 := Lib.hid hs4
  have HRD4 : Hid (0 ≤ rd4 ∧ rd4 ≤ 20000) := ⟨by have := HRD3.out; omega, by have := HRD3.out; have := HR5.out; omega⟩
  clear hs4 HS3 h40 h41
  rcases hq with ⟨q1, -⟩ | ⟨-, q2, -⟩ | ⟨-, -, x, y, tx, ty, rfl, hxy⟩
  · exact absurd q1 HUPS.out.2.2.2.2.2.2.2.2.2.2
  · exact absurd q2 (by have := HR5.out; have := HFB.out; omega)
  have hl := HUPS.out.2.2.2.2.2.2.2.1
  have hh := HUPS.out.2.2.2.2.2.2.2.2.1
  rw [hl, hh] at hxy
  rw [HUPS.out.2.2.2.2.2.2.2.2.2.1]
  obtain ⟨rfl, rfl⟩ := nil_of_ents hxy.sub2 hxy.ents2
  have HTX := Lib.hid (hxy.fst HUPS.out.1)
  have HTJ2 := Lib.hid (HTJ.out.kept hxy.kept hxy.inv hxy.agg)
  have HLN : Hid ((l1.length : Int) = 1 ∧ (l15.length : Int) = 2) := ⟨rfl, rfl⟩
  clear hl hh hxy HTJ HJ
  go_wp2_with fail
  refine (HS4.out.size HRD4.out.1 (by have := HRD4.out; omega) HTJ2.out).mono ?_
  rintro e w5 ⟨rfl, rd5, hs5, h50, h51⟩
  rw [HLN.out.2]
  have HS5 := Lib.hid hs5
  have HRD5 : Hid (0 ≤ rd5 ∧ rd5 ≤ 30000) := ⟨by have := HRD4.out; omega, by have := HRD4.out; omega⟩
  clear hs5 HS4 h50 h51
  go_wp2_with fail
  refine (HS5.out.size HRD5.out.1 (by have := HRD5.out; omega) HTX.out).mono ?_
  rintro e w6 ⟨rfl, rd6, hs6, h60, h61⟩
  rw [HLN.out.1]
  have HB6 := Lib.hid hs6.below
  clear hs6 HS5 h60 h61
  go_wp2_with fail
  go_ret
  exact ⟨rfl, HB6.out⟩
end Go.Proofs.Ytckkmmdibgoajaa
set_option linter.unusedVariables false
set_option linter.unusedSimpArgs false
namespace Go.Proofs.Ytckkmmdibgoajaa
open Go.RowKit
section
variable {w : World} {g : Nat}
def ptR (a : Nat) (v : Int) (f : Bool) (b : Nat) : Array Value := #[Value.int .u32 (a : Int), .int .i64 v, .bool f, .int .u32 (b : Int)]
def putP (w : World) (g a : Nat) (v : Int) (f : Bool) (b : Nat) : World := (((w.setCell ⟨g, 0, none⟩ (.int .u32 (a : Int))).setCell ⟨g, 1, none⟩ (.int .i64 v)).setCell ⟨g, 2, none⟩ (.bool f)).setCell ⟨g, 3, none⟩ (.int .u32 (b : Int))
theorem putP_size (a : Nat) (v : Int) (f : Bool) (b : Nat) : (putP w g a v f b).heap.size = w.heap.size := by simp [putP, World.setCell]
theorem putP_other (a : Nat) (v : Int) (f : Bool) (b : Nat) {k : Nat} (hk : k ≠ g) : (putP w g a v f b).heap[k]? = w.heap[k]? := by
  unfold putP
  rw [heap_setCell_other _ _ _ _ hk, heap_setCell_other _ _ _ _ hk, heap_setCell_other _ _ _ _ hk, heap_setCell_other _ _ _ _ hk]
theorem putP_same {c0 c1 c2 c3 : Value} {t : TypeId} (h : w.heap[g]? = some (.cells #[c0, c1, c2, c3] t (0, 0))) (a : Nat) (v : Int) (f : Bool) (b : Nat) : (putP w g a v f b).heap[g]? = some (.cells (ptR a v f b) t (0, 0)) := by
  have h0 : (w.setCell ⟨g, 0, none⟩ (.int .u32 (a : Int))).heap[g]? = some (.cells #[.int .u32 (a : Int), c1, c2, c3] t (0, 0)) := by rw [heap_setCell_same _ _ _ _ _ _ h]; rfl
  have h1 : ((w.setCell ⟨g, 0, none⟩ (.int .u32 (a : Int))).setCell ⟨g, 1, none⟩ (.int .i64 v)).heap[g]? = some (.cells #[.int .u32 (a : Int), .int .i64 v, c2, c3] t (0, 0)) := by rw [heap_setCell_same _ _ _ _ _ _ h0]; rfl
  have h2 : (((w.setCell ⟨g, 0, none⟩ (.int .u32 (a : Int))).setCell ⟨g, 1, none⟩ (.int .i64 v)).setCell ⟨g, 2, none⟩ (.bool f)).heap[g]? = some (.cells #[.int .u32 (a : Int), .int .i64 v, .bool f, c3] t (0, 0)) := by rw [heap_setCell_same _ _ _ _ _ _ h1]; rfl
  have h3 : ((((w.setCell ⟨g, 0, none⟩ (.int .u32 (a : Int))).setCell ⟨g, 1, none⟩ (.int .i64 v)).setCell ⟨g, 2, none⟩ (.bool f)).setCell ⟨g, 3, none⟩ (.int .u32 (b : Int))).heap[g]? = some (.cells #[.int .u32 (a : Int), .int .i64 v, .bool f, .int .u32 (b : Int)] t (0, 0)) := by rw [heap_setCell_same _ _ _ _ _ _ h2]; rfl
  exact h3
theorem cells4_of {c0 c1 c2 c3 : Value} {t : TypeId} (h : w.heap[g]? = some (.cells #[c0, c1, c2, c3] t (0, 0))) :
    (w.cell? ⟨g, 0, none⟩ = some c0 ∧ w.cell? ⟨g, 1, none⟩ = some c1 ∧ w.cell? ⟨g, 2, none⟩ = some c2 ∧ w.cell? ⟨g, 3, none⟩ = some c3) ∧ w.frozen? ⟨g, 0, none⟩ = false ∧ w.frozen? ⟨g, 1, none⟩ = false ∧ w.frozen? ⟨g, 2, none⟩ = false ∧ w.frozen? ⟨g, 3, none⟩ = false :=
  ⟨⟨by rw [cell_of_row _ _ _ _ _ _ h]; rfl, by rw [cell_of_row _ _ _ _ _ _ h]; rfl, by rw [cell_of_row _ _ _ _ _ _ h]; rfl, by rw [cell_of_row _ _ _ _ _ _ h]; rfl⟩, frozen_of_row _ _ _ _ _ h, frozen_of_row _ _ _ _ _ h, frozen_of_row _ _ _ _ _ h, frozen_of_row _ _ _ _ _ h⟩
end
section
variable {I : AImpl} {w wr : World} {F : Nat → Prop} {p : Value} {A : Ar} {rd : Int} {rs : List Row} {bs : List (Nat × Obj)}
theorem Ins.putP {g : Nat} {c0 c1 c2 c3 : Value} {t : TypeId} (h : Ins I w F p A rd rs ((g, Obj.cells #[c0, c1, c2, c3] t (0, 0)) :: bs) wr) (a : Nat) (v : Int) (f : Bool) (b : Nat) : Ins I w F p A rd rs ((g, Obj.cells (ptR a v f b) t (0, 0)) :: bs) (putP wr g a v f b) :=
  h.set (putP_same (h.boxes _ (List.Mem.head _)).2 a v f b) ⟨rfl, rfl, rfl, putP_size a v f b, fun k hk => putP_other a v f b hk⟩
theorem Ins.one {g n : Nat} {cs : Array Value} {t : TypeId} (h : Ins I w F p A rd rs ((g, Obj.cells cs t (0, 0)) :: bs) wr) (x : Value) : Ins I w F p A rd rs ((g, Obj.cells (cs.setIfInBounds n x) t (0, 0)) :: bs) (wr.setCell ⟨g, n, none⟩ x) :=
  h.set (by rw [heap_setCell_same _ _ _ _ _ _ (h.boxes _ (List.Mem.head _)).2]) ⟨rfl, rfl, rfl, by simp [World.setCell], fun k hk => heap_setCell_other _ _ _ _ hk⟩
end
theorem fil0 {l : List En} {q : En → Bool} (h : ∀ e ∈ l, q e = false) : l.filter q = [] := by rw [List.filter_eq_nil_iff]; intro e he; rw [h e he]; simp
theorem fil1 {l : List En} {q : En → Bool} (h : ∀ e ∈ l, q e = true) : l.filter q = l := List.filter_eq_self.2 h
theorem cut_l {ll lr : List En} {e : En} {k : Int} (hu : Up (ll ++ e :: lr)) (hk : k < e.key) : lowE (ll ++ e :: lr) k = lowE ll k ∧ highE (ll ++ e :: lr) k = highE ll k ++ e :: lr ∧ getE (ll ++ e :: lr) k = getE ll k := by
  obtain ⟨-, -, h3, h4⟩ := up_app hu
  have hge : ∀ x ∈ e :: lr, k < x.key := fun x hx => by
    rcases List.mem_cons.1 hx with rfl | hx
    · exact hk
    · have := h4 x hx; omega
  refine ⟨?_, ?_, ?_⟩
  · unfold lowE
    rw [List.filter_append, fil0 (l := e :: lr) (fun x hx => by have := hge x hx; simp; omega), List.append_nil]
  · unfold highE
    rw [List.filter_append, fil1 (l := e :: lr) (fun x hx => by have := hge x hx; simp; omega)]
  · rw [getE_app, getE_none (l := e :: lr) (fun x hx => by have := hge x hx; omega), Option.or_none]
theorem cut_r {ll lr : List En} {e : En} {k : Int} (hu : Up (ll ++ e :: lr)) (hk : e.key < k) : lowE (ll ++ e :: lr) k = ll ++ e :: lowE lr k ∧ highE (ll ++ e :: lr) k = highE lr k ∧ getE (ll ++ e :: lr) k = getE lr k := by
  obtain ⟨-, -, h3, h4⟩ := up_app hu
  refine ⟨?_, ?_, ?_⟩
  · unfold lowE
    rw [List.filter_append, List.filter_cons, if_pos (by simp; omega), fil1 (l := ll) (fun x hx => by have := h3 x hx; simp; omega)]
  · unfold highE
    rw [List.filter_append, List.filter_cons, if_neg (by simp; omega), fil0 (l := ll) (fun x hx => by have := h3 x hx; simp; omega), List.nil_append]
  · rw [getE_app, getE_none (l := ll) (fun x hx => by have := h3 x hx; omega), Option.none_or]
    unfold getE
    rw [List.find?_cons_of_neg (by simp; omega)]
theorem cut_m {ll lr : List En} {e : En} (hu : Up (ll ++ e :: lr)) : lowE (ll ++ e :: lr) e.key = ll ∧ highE (ll ++ e :: lr) e.key = lr ∧ getE (ll ++ e :: lr) e.key = some e := by
  obtain ⟨-, -, h3, h4⟩ := up_app hu
  refine ⟨?_, ?_, ?_⟩
  · unfold lowE
    rw [List.filter_append, List.filter_cons, if_neg (by simp), fil1 (l := ll) (fun x hx => by have := h3 x hx; simp; omega), fil0 (l := lr) (fun x hx => by have := h4 x hx; simp; omega), List.append_nil]
  · unfold highE
    rw [List.filter_append, List.filter_cons, if_neg (by simp), fil0 (l := ll) (fun x hx => by have := h3 x hx; simp; omega), fil1 (l := lr) (fun x hx => by have := h4 x hx; simp; omega), List.nil_append]
  · rw [getE_app, getE_none (l := ll) (fun x hx => by have := h3 x hx; omega), Option.none_or]
    unfold getE
    rw [List.find?_cons_of_pos (by simp)]
theorem low_len (l : List En) (k : Int) : (lowE l k).length ≤ l.length := List.length_filter_le _ _
theorem high_len (l : List En) (k : Int) : (highE l k).length ≤ l.length := List.length_filter_le _ _
theorem WfL.low {l : List En} (h : WfL l) (k : Int) : WfL (lowE l k) := fun y hy => h y (List.mem_filter.1 hy).1
theorem WfL.high {l : List En} (h : WfL l) (k : Int) : WfL (highE l k) := fun y hy => h y (List.mem_filter.1 hy).1
/-- what cut answers -/
def SpQ (A : Ar) (rd : Int) (held : Nat → Nat) (hr hs : Nat) (l : List En) (k : Int) (en : Ending) (B : Ar) (rd' : Int) : Prop :=
  rd ≤ rd' ∧ ∃ s : Nat, s ≤ xh (lowE l k).length + xh (highE l k).length + hs ∧ rd' ≤ rd + 14 * (s : Int) + 3 * (hr : Int) ∧ ∃ (x y : Nat) (tx ty : Tr), en = .returned (.tuple #[.agg #[Value.int .u32 (x : Int), .int .i64 ((getE l k).elim 0 (·.val)), .bool (getE l k).isSome, .int .u32 (y : Int)], .int .i64 0]) ∧
    Mid A held B [y, x] ∧ At B x tx (lowE l k) ∧ At B y ty (highE l k) ∧ A.σ.free.length ≤ B.σ.free.length + 3 * s
structure CutP (c : Int) (I : AImpl) (w : World) (p : Value) (A : Ar) (rd : Int) (F : Nat → Prop) (held : Nat → Nat) (i : Nat) (t : Tr) (l : List En) (k : Int) : Prop where
  is : I.Is w p A rd F
  inv : A.Inv [] held
  agg : A.Agg
  few : ∀ j, held j ≤ 1048300
  tree : At A i t l
  up : Up l
  wf : WfL l
  wk : i64R k
  size : l.length ≤ 2147483646
  rd0 : 0 ≤ rd
  rd1 : rd + 14 * ((xh (lowE l k).length + xh (highE l k).length + t.ht : Nat) : Int) + 3 * (t.ht : Int) + c ≤ 2199023253000
  room : 3 * (xh (lowE l k).length + xh (highE l k).length + t.ht) + 4 ≤ A.σ.free.length
def CutOk (I : AImpl) (t : Tr) : Prop := ∀ {p : Value} {A : Ar} {rd : Int} {F : Nat → Prop} {held : Nat → Nat} {i : Nat} {l : List En} {k : Int} (w : World), CutP 0 I w p A rd F held i t l k →
    Calls Try.prog 61 #[p, .int .u32 (i : Int), .int .i64 k] w (Mut I p F (SpQ A rd held t.ht t.ht l k) w)
set_option maxHeartbeats 16000000 in
set_option maxRecDepth 100000 in
theorem cutLeft_any (I : AImpl) (K : RotImpl I) (KN : ShNum) {tl tr : Tr} (ih : CutOk I tl) {p : Value} {A : Ar} {rd : Int} {F : Nat → Prop} {held : Nat → Nat} {i i' : Nat} {l : List En} {k : Int} {X : Nd} (w : World) (hP : CutP (-3) I w p A rd F held i (.node i' tl tr) l k) (hi0 : i ≠ 0) (hX : A.nd i = X) (hk : k < X.key) :
    Calls Try.prog 85 #[p, .agg #[Value.int .i64 X.key, .int .i64 X.val, .int .u32 (X.left : Int), .int .u32 (X.right : Int), .int .i64 X.size, .int .i64 X.sum, .int .i64 X.mn, .int .i64 X.mx], .int .i64 k] w (Mut I p F (SpQ A rd held tl.ht (tl.ht + 1) l k) w) := by
  obtain ⟨pa, rfl⟩ := I.ptr hP.is
  have hin : (Try.prog.info? 108).map (·.size) = some 4 := by kernel_rfl
  have HINF := Lib.hid hin
  have HUN : Hid _ := Lib.hid Try.underlying108
  have hs0 := ((Ins.start hP.is).box #[Value.int .i64 X.key, .int .i64 X.val, .int .u32 (X.left : Int), .int .u32 (X.right : Int), .int .i64 X.size, .int .i64 X.sum, .int .i64 X.mn, .int .i64 X.mx] 81).box #[.int .u32 0, .int .i64 0, .bool false, .int .u32 0] 108
  (try simp only [sz_al] at hs0)
  have HK := Lib.hid K
  have HKN := Lib.hid KN
  have HIH : Hid (CutOk I tl) := @ih
  obtain ⟨tl', tr', ll, lr, hnode, rfl, hA, hB, hab⟩ := hP.tree.split hi0
  rw [hX] at hA hB
  injection hnode with _ e1 e2
  subst e1 e2
  have hup := hP.up
  have hwf := hP.wf
  have hsz := hP.size
  have hrd := hP.rd1
  have hro := hP.room
  rw [hX] at hup hwf hsz hrd hro ⊢
  have hht : (Tr.node i' tl tr).ht = 1 + max tl.ht tr.ht := rfl
  have hm1 := Nat.le_max_left tl.ht tr.ht
  obtain ⟨h, hh⟩ : ∃ h, (Tr.node i' tl tr).ht = h := ⟨_, rfl⟩
  rw [hh] at hrd hro hht
  have hhc : tl.ht + 1 ≤ h := by omega
  obtain ⟨c1, c2, c3⟩ := cut_l hup hk
  rw [c1, c2] at hrd hro
  have hup2 := up_app hup
  have hlen : (ll ++ (⟨X.key, X.val⟩ : En) :: lr).length = ll.length + lr.length + 1 := by simp; omega
  rw [hlen] at hsz
  have hlo := low_len ll k
  have hhi := high_len ll k
  have hmon := xh_up (m := (highE ll k).length) (n := (highE ll k ++ (⟨X.key, X.val⟩ : En) :: lr).length) (by simp) (by simp; omega)
  have hcat : (highE ll k ++ (⟨X.key, X.val⟩ : En) :: lr).length = (highE ll k).length + lr.length + 1 := by simp; omega
  have HMON := Lib.hid hmon
  have HCAT := Lib.hid hcat
  have HP : Hid (A.Inv [] held ∧ A.Agg ∧ (∀ j, held j ≤ 1048300) ∧ At A X.left tl ll ∧ Up ll ∧ WfL ll ∧ i64R k) := ⟨hP.inv, hP.agg, hP.few, by rw [← hX] at *; first | exact hA | exact hB, hup2.1, hwf.left, hP.wk⟩
  have HOT : Hid (At A X.right tr lr ∧ WfL lr ∧ (i64R X.key ∧ i64R X.val) ∧ wbL ll lr) := ⟨by first | exact hB | exact hA, hwf.right.tail, hwf (⟨X.key, X.val⟩ : En) (by simp), hab⟩
  have HSZ := Lib.hid hsz
  have HRD0 : Hid (0 ≤ rd) := hP.rd0
  have HRD := Lib.hid hrd
  have HRO := Lib.hid hro
  have HHC := Lib.hid hhc
  have HLO := Lib.hid hlo
  have HHI := Lib.hid hhi
  have HC : Hid (lowE (ll ++ (⟨X.key, X.val⟩ : En) :: lr) k = lowE ll k ∧ highE (ll ++ (⟨X.key, X.val⟩ : En) :: lr) k = highE ll k ++ (⟨X.key, X.val⟩ : En) :: lr ∧ getE (ll ++ (⟨X.key, X.val⟩ : En) :: lr) k = getE ll k) := ⟨c1, c2, c3⟩
  clear hP ih hi0 hX hk K KN hA hB hab hup hwf hsz hrd hro hht hm1 hh hhc c1 c2 c3 hup2 hlen hlo hhi hmon hcat hin
  go_enter Try.func85, Try.ntmps85
  go_upto_region 1 with fail
  try simp only [sz_al]
  generalize (w.alloc (Obj.cells #[Value.int .i64 X.key, .int .i64 X.val, .int .u32 (X.left : Int), .int .u32 (X.right : Int), .int .i64 X.size, .int .i64 X.sum, .int .i64 X.mn, .int .i64 X.mx] 81)).alloc (Obj.cells #[.int .u32 0, .int .i64 0, .bool false, .int .u32 0] 108) = w1 at hs0 ⊢
  generalize w.heap.size + 1 = q at hs0 ⊢
  generalize w.heap.size = g at hs0 ⊢
  have HS0 := Lib.hid hs0
  clear hs0
  obtain ⟨⟨x0, x1, x2, x3, x4, x5, x6, x7⟩, -⟩ := HS0.out.row8 (g := g) (X := X) (by simp [ndRow])
  go_wp2_with fail
  refine (HS0.out.mut fun F1 hI1 => HIH.out w1 ⟨hI1, HP.out.1, HP.out.2.1, HP.out.2.2.1, HP.out.2.2.2.1, HP.out.2.2.2.2.1, HP.out.2.2.2.2.2.1, HP.out.2.2.2.2.2.2, by have := HSZ.out; omega, HRD0.out, by have h1 := HRD.out; have h2 := HHC.out; have h3 := HMON.out; omega, by have h1 := HRO.out; have h2 := HHC.out; have h3 := HMON.out; omega⟩).mono ?_
  rintro en w2 ⟨B, rd2, ⟨q0, s, q1, q2, x, y, tx, ty, rfl, q3, q4, q5, q6⟩, hs2⟩
  obtain ⟨V, hV⟩ : ∃ V, (getE ll k).elim (0 : Int) (·.val) = V := ⟨_, rfl⟩
  obtain ⟨D, hD⟩ : ∃ D, (getE ll k).isSome = D := ⟨_, rfl⟩
  rw [hV, hD]
  have HVD : Hid ((getE ll k).elim (0 : Int) (·.val) = V ∧ (getE ll k).isSome = D) := ⟨hV, hD⟩
  have HQ : Hid (rd ≤ rd2 ∧ s ≤ xh (lowE ll k).length + xh (highE ll k).length + tl.ht ∧ rd2 ≤ rd + 14 * (s : Int) + 3 * (tl.ht : Int) ∧ A.σ.free.length ≤ B.σ.free.length + 3 * s) := ⟨q0, q1, q2, q6⟩
  have HM2 : Hid (Mid A held B [y, x]) := q3
  have HTX := Lib.hid q4
  have HTY := Lib.hid q5
  have hs3 := hs2.box #[Value.int .u32 (x : Int), .int .i64 V, .bool D, .int .u32 (y : Int)] 108
  clear hV hD q0 q1 q2 q3 q4 q5 q6 hs2 HS0 x0 x1 x2 x3 x4 x5 x6 x7
  go_upto_region 4 with fail
  generalize w2.alloc (Obj.cells #[Value.int .u32 (x : Int), .int .i64 V, .bool D, .int .u32 (y : Int)] 108) = w3 at hs3 ⊢
  generalize w2.heap.size = b at hs3 ⊢
  have HS3 := Lib.hid hs3
  clear hs3
  obtain ⟨⟨p0, p1, p2, p3⟩, -⟩ := cells4_of (HS3.out.boxes _ (List.Mem.head _)).2
  go_upto_region 5 with fail
  clear p0 p1 p2 p3
  have HJ : Hid (∃ J : Nat, jd ty tr = J ∧ s + (J + 1) ≤ xh (lowE ll k).length + xh (highE ll k ++ (⟨X.key, X.val⟩ : En) :: lr).length + (tl.ht + 1)) := by
    have hq := HQ.out.2.1
    have e1 := HTY.out.size
    have e2 := HOT.out.1.size
    have e3 := HSZ.out
    have e4 := HHI.out
    have e5 := HCAT.out
    have e6 := HOT.out.2.2.2.1
    refine ⟨_, rfl, ?_⟩
    have := split_step_l (t := ty) (u := tr) (lo := (lowE ll k).length) (h := tl.ht) (s := s) HTY.out.bal HOT.out.1.bal (by omega) (by omega) (by rw [e1]; exact hq)
    rw [show ty.size + tr.size + 1 = (highE ll k ++ (⟨X.key, X.val⟩ : En) :: lr).length by omega] at this
    omega
  obtain ⟨J, hJ, hsJ⟩ := HJ.out
  have HJJ := Lib.hid hJ
  have HSJ := Lib.hid hsJ
  clear HJ hJ hsJ
  have HCEL : Hid (∀ {wx : World} {C : Ar} {rdx : Int} {P : Array Value}, Ins I w F (.pointer (some pa)) C rdx [] [(b, Obj.cells P 108 (0, 0)), (q, Obj.cells #[.int .u32 0, .int .i64 0, .bool false, .int .u32 0] 108 (0, 0)), (g, Obj.cells #[Value.int .i64 X.key, .int .i64 X.val, .int .u32 (X.left : Int), .int .u32 (X.right : Int), .int .i64 X.size, .int .i64 X.sum, .int .i64 X.mn, .int .i64 X.mx] 81 (0, 0))] wx → wx.cell? ⟨g, 0, none⟩ = some (.int .i64 X.key) ∧ wx.cell? ⟨g, 1, none⟩ = some (.int .i64 X.val) ∧ wx.cell? ⟨g, 2, none⟩ = some (.int .u32 (X.left : Int)) ∧ wx.cell? ⟨g, 3, none⟩ = some (.int .u32 (X.right : Int)) ∧ wx.cell? ⟨g, 4, none⟩ = some (.int .i64 X.size) ∧ wx.cell? ⟨g, 5, none⟩ = some (.int .i64 X.sum) ∧ wx.cell? ⟨g, 6, none⟩ = some (.int .i64 X.mn) ∧ wx.cell? ⟨g, 7, none⟩ = some (.int .i64 X.mx)) := fun {wx C rdx P} hx => by
    obtain ⟨hq, -⟩ := hx.row8 (g := g) (X := X) (by simp [ndRow])
    exact hq
  have hsd := HS3.out.calm (Below.refl _ _).drew
  refine anyG_begin (S := (fun w' => w'.cell? ⟨g, 0, none⟩ = some (.int .i64 X.key) ∧ w'.cell? ⟨g, 1, none⟩ = some (.int .i64 X.val) ∧ w'.cell? ⟨g, 2, none⟩ = some (.int .u32 (X.left : Int)) ∧ w'.cell? ⟨g, 3, none⟩ = some (.int .u32 (X.right : Int)) ∧ w'.cell? ⟨g, 4, none⟩ = some (.int .i64 X.size) ∧ w'.cell? ⟨g, 5, none⟩ = some (.int .i64 X.sum) ∧ w'.cell? ⟨g, 6, none⟩ = some (.int .i64 X.mn) ∧ w'.cell? ⟨g, 7, none⟩ = some (.int .i64 X.mx))) (z := 9999) (by kernel_rfl) (HCEL.out hsd) (fun hHeld => ?_)
  refine anyG_take (k := 0) (o := _) (v := ?_) (some 26) rfl (by kernel_rfl) (by kernel_rfl) (by kernel_rfl) (by kernel_rfl) (fun _ _ _ h => h) (Or.inl ⟨by rfl, ?_⟩) (by assumption) (by kernel_rfl) ?_
  rotate_left
  · intro w hSw; (try dsimp only at hSw); go_simp; try with_reducible rfl
  (try simp only [Act.put, List.setIfInBounds_toArray, List.set_cons_zero, List.set_cons_succ])
  refine anyG_take (k := 1) (o := _) (v := ?_) (some 27) rfl (by kernel_rfl) (by kernel_rfl) (by kernel_rfl) (by kernel_rfl) (fun _ _ _ h => h) (Or.inl ⟨by rfl, ?_⟩) (by assumption) (by kernel_rfl) ?_
  rotate_left
  · intro w hSw; (try dsimp only at hSw); go_simp; try with_reducible rfl
  (try simp only [Act.put, List.setIfInBounds_toArray, List.set_cons_zero, List.set_cons_succ])
  refine anyG_take (k := 2) (o := _) (v := ?_) (some 28) rfl (by kernel_rfl) (by kernel_rfl) (by kernel_rfl) (by kernel_rfl) (fun _ _ _ h => h) (Or.inl ⟨by rfl, ?_⟩) (by assumption) (by kernel_rfl) ?_
  rotate_left
  · intro w hSw; (try dsimp only at hSw); go_simp; try with_reducible rfl
  (try simp only [Act.put, List.setIfInBounds_toArray, List.set_cons_zero, List.set_cons_succ])
  refine anyG_take (k := 4) (o := _) (v := ?_) (some 30) rfl (by kernel_rfl) (by kernel_rfl) (by kernel_rfl) (by kernel_rfl) (fun _ _ _ h => h) (Or.inl ⟨by rfl, ?_⟩) (by assumption) (by kernel_rfl) ?_
  rotate_left
  · intro w hSw; (try dsimp only at hSw); go_simp; try with_reducible rfl
  (try simp only [Act.put, List.setIfInBounds_toArray, List.set_cons_zero, List.set_cons_succ])
  refine anyG_take (k := 5) (o := _) (v := ?_) (some 31) rfl (by kernel_rfl) (by kernel_rfl) (by kernel_rfl) (by kernel_rfl) (fun _ _ _ h => h) (Or.inl ⟨by rfl, ?_⟩) (by assumption) (by kernel_rfl) ?_
  rotate_left
  · intro w hSw; (try dsimp only at hSw); go_simp; try with_reducible rfl
  (try simp only [Act.put, List.setIfInBounds_toArray, List.set_cons_zero, List.set_cons_succ])
  refine anyG_one (k := 3) (o := _) (by kernel_rfl) rfl (fun KT hKT => ?_)
  go_simp
  go_at_call 105
  refine (entryJ_any X _).mono ?_
  rintro eA wA ⟨rfl, hbA⟩
  have hsA := hsd.calm hbA
  try go_wp2_with fail
  refine hKT.out _ _ (HCEL.out hsA) (fun hHeld => ?_)
  clear hKT KT
  (try simp only [Act.put, List.setIfInBounds_toArray, List.set_cons_zero, List.set_cons_succ])
  refine anyG_one (k := 6) (o := _) (by kernel_rfl) rfl (fun KT hKT => ?_)
  go_simp
  go_at_call 63
  refine (hsA.mut fun F1 hI1 => link_all I HK.out HKN.out _ ⟨X.key, X.val⟩ wA ⟨hI1, HM2.out.inv, HM2.out.agg, fun j => Nat.le_trans (plL_le HP.out.2.2.1 [y, x] j) (show 1048300 + 2 ≤ 1048400 by decide), (HTY.out), (HOT.out.1.kept HM2.out.kept), (HP.out.2.2.2.2.2.1.high k), (HOT.out.2.1), HOT.out.2.2.1, by have := HSZ.out; have := HHI.out; omega, by have h1 := HRD0.out; have h2 := HQ.out; omega, by have h1 := HRD.out; have h2 := HQ.out; have h3 := HSJ.out; have h4 := HHC.out; rw [HJJ.out]; omega, by have h1 := HRO.out; have h2 := HQ.out; have h3 := HSJ.out; have h4 := HHC.out; rw [HJJ.out]; omega⟩ (Nat.lt_succ_self _)).mono ?_
  rintro eB wB ⟨C, rdC, ⟨b1, b2, j, t, rfl, b3, b4, b5, -⟩, hsB⟩
  rw [HJJ.out] at b2 b5
  try go_wp2_with fail
  refine hKT.out _ _ (HCEL.out hsB) (fun hHeld => ?_)
  clear hKT KT
  (try simp only [Act.put, List.setIfInBounds_toArray, List.set_cons_zero, List.set_cons_succ])
  refine anyG_take (k := 7) (o := _) (v := ?_) (some 25) rfl (by kernel_rfl) (by kernel_rfl) (by kernel_rfl) (by kernel_rfl) (fun _ _ _ h => h) (Or.inl ⟨by rfl, ?_⟩) (by assumption) (by kernel_rfl) ?_
  rotate_left
  · intro w hSw; (try dsimp only at hSw); go_simp; try with_reducible rfl
  (try simp only [Act.put, List.setIfInBounds_toArray, List.set_cons_zero, List.set_cons_succ])
  refine anyG_take (k := 8) (o := _) (v := ?_) (some 33) rfl (by kernel_rfl) (by kernel_rfl) (by kernel_rfl) (by kernel_rfl) (fun _ _ _ h => h) (Or.inl ⟨by rfl, ?_⟩) (by assumption) (by kernel_rfl) ?_
  rotate_left
  · intro w hSw; (try dsimp only at hSw); go_simp; try with_reducible rfl
  (try simp only [Act.put, List.setIfInBounds_toArray, List.set_cons_zero, List.set_cons_succ])
  refine anyG_take (k := 9) (o := _) (v := ?_) (some 34) rfl (by kernel_rfl) (by kernel_rfl) (by kernel_rfl) (by kernel_rfl) (fun _ _ _ h => h) (Or.inl ⟨by rfl, ?_⟩) (by assumption) (by kernel_rfl) ?_
  rotate_left
  · intro w hSw; (try dsimp only at hSw); go_simp; try with_reducible rfl
  (try simp only [Act.put, List.setIfInBounds_toArray, List.set_cons_zero, List.set_cons_succ])
  refine anyG_take (k := 10) (o := _) (v := ?_) (some 35) rfl (by kernel_rfl) (by kernel_rfl) (by kernel_rfl) (by kernel_rfl) (fun _ _ _ h => h) (Or.inl ⟨by rfl, ?_⟩) (by assumption) (by kernel_rfl) ?_
  rotate_left
  · intro w hSw; (try dsimp only at hSw); go_simp; try with_reducible rfl
  (try simp only [Act.put, List.setIfInBounds_toArray, List.set_cons_zero, List.set_cons_succ])
  refine anyG_one (k := 11) (o := _) (by kernel_rfl) rfl (fun KT hKT => ?_)
  obtain ⟨⟨y0, y1, y2, y3⟩, f0, f1, f2, f3⟩ := cells4_of (hsB.boxes _ (List.Mem.head _)).2
  go_simp
  have hsC := Ins.one (n := 3) hsB (.int .u32 (j : Int))
  try go_wp2_with fail
  refine hKT.out _ _ (HCEL.out hsC) (fun hHeld => ?_)
  clear hKT KT
  (try simp only [Act.put, List.setIfInBounds_toArray, List.set_cons_zero, List.set_cons_succ])
  refine anyG_take (k := 12) (o := _) (v := ?_) (some 9) rfl (by kernel_rfl) (by kernel_rfl) (by kernel_rfl) (by kernel_rfl) (fun _ _ _ h => h) (Or.inl ⟨by rfl, ?_⟩) (by assumption) (by kernel_rfl) ?_
  rotate_left
  · intro w hSw; (try dsimp only at hSw); go_simp; try with_reducible rfl
  (try simp only [Act.put, List.setIfInBounds_toArray, List.set_cons_zero, List.set_cons_succ])
  refine anyG_done (by kernel_rfl) ?_ _
  have hn : Mid A held C ([j] ++ [y, x]) := HM2.out.nest b3
  obtain ⟨u1, u2, u3, u4, u5, u6⟩ := (hn.perm (List.Perm.swap y j [x])).give
  have hcl : C.Idx x := HTX.out.idx.imp id fun h => b3.kept.on _ h
  have HSC := Lib.hid hsC
  have HU : Hid (C.Inv [y] (plL held [j, x]) ∧ C.Idx y ∧ y < 4294967296) := ⟨u1, u2, idx_lt32 b3.inv u2⟩
  have HQ2 : Hid (SpQ A rd held tl.ht (tl.ht + 1) (ll ++ (⟨X.key, X.val⟩ : En) :: lr) k (.returned (.tuple #[.agg #[Value.int .u32 (x : Int), .int .i64 V, .bool D, .int .u32 (j : Int)], .int .i64 0])) (C.gone y) rdC) := by
    unfold SpQ
    rw [HC.out.1, HC.out.2.1, HC.out.2.2]
    have hq := HQ.out
    refine ⟨by omega, s + (J + 1), HSJ.out, by omega, x, j, tx, t, by rw [HVD.out.1, HVD.out.2], u3, (HTX.out.kept b3.kept).gone u3.inv (u5 x (by simp) hcl), b4.gone u3.inv (u5 j (by simp) b4.idx), by omega⟩
  clear hsC hsB hsA hsd hbA hHeld HCEL b1 b2 b3 b4 b5 hn u1 u2 u3 u4 u5 u6 hcl HS3
  obtain ⟨⟨p0, p1, p2, p3⟩, -⟩ := cells4_of (HSC.out.boxes _ (List.Mem.head _)).2
  go_wp2_with fail
  refine (HSC.out.release HU.out.2.2 HU.out.2.1 HU.out.1).mono ?_
  rintro en w9 ⟨rfl, hs9⟩
  have HS9 := Lib.hid hs9
  clear hs9 HSC p0 p1 p2 p3
  obtain ⟨⟨p0, p1, p2, p3⟩, -⟩ := cells4_of (HS9.out.boxes _ (List.Mem.head _)).2
  have hq1 := (HS9.out.perm (List.Perm.swap _ _ _))
  obtain ⟨⟨y0, y1, y2, y3⟩, f0, f1, f2, f3⟩ := cells4_of (hq1.boxes _ (List.Mem.head _)).2
  have hne : ¬ b = q := (List.pairwise_cons.1 HS9.out.bb).1 _ (List.Mem.head _)
  have hne2 : ¬ q = b := fun e => hne e.symm
  have hp := hq1.putP x V D j
  have HE : Hid ((∃ F', Alters F F' w (putP w9 q x V D j) ∧ I.Is (putP w9 q x V D j) (.pointer (some pa)) (C.gone y) rdC F') ∧ (putP w9 q x V D j).heap[q]? = some (Obj.cells (ptR x V D j) 108 (0, 0))) := ⟨hp.ends, (hp.boxes _ (List.Mem.head _)).2⟩
  clear hp hq1
  go_wp2_with fail
  refine bodyPost_ret (results_row_tmp rfl _ _ q 108 #[Value.int .u32 (x : Int), .int .i64 V, .bool D, .int .u32 (j : Int)] (0, 0) _ rfl HE.out.2 HUN.out rfl HINF.out) rfl ?_
  obtain ⟨F', hal, hI⟩ := HE.out.1
  exact ⟨F', _, rdC, hal, hI, HQ2.out⟩
set_option maxHeartbeats 16000000 in
set_option maxRecDepth 100000 in
theorem cutRight_any (I : AImpl) (K : RotImpl I) (KN : ShNum) {tl tr : Tr} (ih : CutOk I tr) {p : Value} {A : Ar} {rd : Int} {F : Nat → Prop} {held : Nat → Nat} {i i' : Nat} {l : List En} {k : Int} {X : Nd} (w : World) (hP : CutP (-3) I w p A rd F held i (.node i' tl tr) l k) (hi0 : i ≠ 0) (hX : A.nd i = X) (hk : X.key < k) :
    Calls Try.prog 86 #[p, .agg #[Value.int .i64 X.key, .int .i64 X.val, .int .u32 (X.left : Int), .int .u32 (X.right : Int), .int .i64 X.size, .int .i64 X.sum, .int .i64 X.mn, .int .i64 X.mx], .int .i64 k] w (Mut I p F (SpQ A rd held tr.ht (tr.ht + 1) l k) w) := by
  obtain ⟨pa, rfl⟩ := I.ptr hP.is
  have hin : (Try.prog.info? 108).map (·.size) = some 4 := by kernel_rfl
  have HINF := Lib.hid hin
  have HUN : Hid _ := Lib.hid Try.underlying108
  have hs0 := ((Ins.start hP.is).box #[Value.int .i64 X.key, .int .i64 X.val, .int .u32 (X.left : Int), .int .u32 (X.right : Int), .int .i64 X.size, .int .i64 X.sum, .int .i64 X.mn, .int .i64 X.mx] 81).box #[.int .u32 0, .int .i64 0, .bool false, .int .u32 0] 108
  (try simp only [sz_al] at hs0)
  have HK := Lib.hid K
  have HKN := Lib.hid KN
  have HIH : Hid (CutOk I tr) := @ih
  obtain ⟨tl', tr', ll, lr, hnode, rfl, hA, hB, hab⟩ := hP.tree.split hi0
  rw [hX] at hA hB
  injection hnode with _ e1 e2
  subst e1 e2
  have hup := hP.up
  have hwf := hP.wf
  have hsz := hP.size
  have hrd := hP.rd1
  have hro := hP.room
  rw [hX] at hup hwf hsz hrd hro ⊢
  have hht : (Tr.node i' tl tr).ht = 1 + max tl.ht tr.ht := rfl
  have hm1 := Nat.le_max_right tl.ht tr.ht
  obtain ⟨h, hh⟩ : ∃ h, (Tr.node i' tl tr).ht = h := ⟨_, rfl⟩
  rw [hh] at hrd hro hht
  have hhc : tr.ht + 1 ≤ h := by omega
  obtain ⟨c1, c2, c3⟩ := cut_r hup hk
  rw [c1, c2] at hrd hro
  have hup2 := up_app hup
  have hlen : (ll ++ (⟨X.key, X.val⟩ : En) :: lr).length = ll.length + lr.length + 1 := by simp; omega
  rw [hlen] at hsz
  have hlo := low_len lr k
  have hhi := high_len lr k
  have hmon := xh_up (m := (lowE lr k).length) (n := (ll ++ (⟨X.key, X.val⟩ : En) :: lowE lr k).length) (by simp; omega) (by simp; omega)
  have hcat : (ll ++ (⟨X.key, X.val⟩ : En) :: lowE lr k).length = ll.length + (lowE lr k).length + 1 := by simp; omega
  have HMON := Lib.hid hmon
  have HCAT := Lib.hid hcat
  have HP : Hid (A.Inv [] held ∧ A.Agg ∧ (∀ j, held j ≤ 1048300) ∧ At A X.right tr lr ∧ Up lr ∧ WfL lr ∧ i64R k) := ⟨hP.inv, hP.agg, hP.few, by rw [← hX] at *; first | exact hA | exact hB, hup2.2.1, hwf.right.tail, hP.wk⟩
  have HOT : Hid (At A X.left tl ll ∧ WfL ll ∧ (i64R X.key ∧ i64R X.val) ∧ wbL ll lr) := ⟨by first | exact hB | exact hA, hwf.left, hwf (⟨X.key, X.val⟩ : En) (by simp), hab⟩
  have HSZ := Lib.hid hsz
  have HRD0 : Hid (0 ≤ rd) := hP.rd0
  have HRD := Lib.hid hrd
  have HRO := Lib.hid hro
  have HHC := Lib.hid hhc
  have HLO := Lib.hid hlo
  have HHI := Lib.hid hhi
  have HC : Hid (lowE (ll ++ (⟨X.key, X.val⟩ : En) :: lr) k = ll ++ (⟨X.key, X.val⟩ : En) :: lowE lr k ∧ highE (ll ++ (⟨X.key, X.val⟩ : En) :: lr) k = highE lr k ∧ getE (ll ++ (⟨X.key, X.val⟩ : En) :: lr) k = getE lr k) := ⟨c1, c2, c3⟩
  clear hP ih hi0 hX hk K KN hA hB hab hup hwf hsz hrd hro hht hm1 hh hhc c1 c2 c3 hup2 hlen hlo hhi hmon hcat hin
  go_enter Try.func86, Try.ntmps86
  go_upto_region 1 with fail
  try simp only [sz_al]
  generalize (w.alloc (Obj.cells #[Value.int .i64 X.key, .int .i64 X.val, .int .u32 (X.left : Int), .int .u32 (X.right : Int), .int .i64 X.size, .int .i64 X.sum, .int .i64 X.mn, .int .i64 X.mx] 81)).alloc (Obj.cells #[.int .u32 0, .int .i64 0, .bool false, .int .u32 0] 108) = w1 at hs0 ⊢
  generalize w.heap.size + 1 = q at hs0 ⊢
  generalize w.heap.size = g at hs0 ⊢
  have HS0 := Lib.hid hs0
  clear hs0
  obtain ⟨⟨x0, x1, x2, x3, x4, x5, x6, x7⟩, -⟩ := HS0.out.row8 (g := g) (X := X) (by simp [ndRow])
  go_wp2_with fail
  refine (HS0.out.mut fun F1 hI1 => HIH.out w1 ⟨hI1, HP.out.1, HP.out.2.1, HP.out.2.2.1, HP.out.2.2.2.1, HP.out.2.2.2.2.1, HP.out.2.2.2.2.2.1, HP.out.2.2.2.2.2.2, by have := HSZ.out; omega, HRD0.out, by have h1 := HRD.out; have h2 := HHC.out; have h3 := HMON.out; omega, by have h1 := HRO.out; have h2 := HHC.out; have h3 := HMON.out; omega⟩).mono ?_
  rintro en w2 ⟨B, rd2, ⟨q0, s, q1, q2, x, y, tx, ty, rfl, q3, q4, q5, q6⟩, hs2⟩
  obtain ⟨V, hV⟩ : ∃ V, (getE lr k).elim (0 : Int) (·.val) = V := ⟨_, rfl⟩
  obtain ⟨D, hD⟩ : ∃ D, (getE lr k).isSome = D := ⟨_, rfl⟩
  rw [hV, hD]
  have HVD : Hid ((getE lr k).elim (0 : Int) (·.val) = V ∧ (getE lr k).isSome = D) := ⟨hV, hD⟩
  have HQ : Hid (rd ≤ rd2 ∧ s ≤ xh (lowE lr k).length + xh (highE lr k).length + tr.ht ∧ rd2 ≤ rd + 14 * (s : Int) + 3 * (tr.ht : Int) ∧ A.σ.free.length ≤ B.σ.free.length + 3 * s) := ⟨q0, q1, q2, q6⟩
  have HM2 : Hid (Mid A held B [y, x]) := q3
  have HTX := Lib.hid q4
  have HTY := Lib.hid q5
  have hs3 := hs2.box #[Value.int .u32 (x : Int), .int .i64 V, .bool D, .int .u32 (y : Int)] 108
  clear hV hD q0 q1 q2 q3 q4 q5 q6 hs2 HS0 x0 x1 x2 x3 x4 x5 x6 x7
  go_upto_region 4 with fail
  generalize w2.alloc (Obj.cells #[Value.int .u32 (x : Int), .int .i64 V, .bool D, .int .u32 (y : Int)] 108) = w3 at hs3 ⊢
  generalize w2.heap.size = b at hs3 ⊢
  have HS3 := Lib.hid hs3
  clear hs3
  obtain ⟨⟨p0, p1, p2, p3⟩, -⟩ := cells4_of (HS3.out.boxes _ (List.Mem.head _)).2
  go_upto_region 5 with fail
  clear p0 p1 p2 p3
  have HJ : Hid (∃ J : Nat, jd tl tx = J ∧ s + (J + 1) ≤ xh (ll ++ (⟨X.key, X.val⟩ : En) :: lowE lr k).length + xh (highE lr k).length + (tr.ht + 1)) := by
    have hq := HQ.out.2.1
    have e1 := HTX.out.size
    have e2 := HOT.out.1.size
    have e3 := HSZ.out
    have e4 := HLO.out
    have e5 := HCAT.out
    have e6 := HOT.out.2.2.2.2
    refine ⟨_, rfl, ?_⟩
    have := split_step_r (t := tl) (u := tx) (hi := (highE lr k).length) (h := tr.ht) (s := s) HOT.out.1.bal HTX.out.bal (by omega) (by omega) (by rw [e1]; exact hq)
    rw [show tl.size + tx.size + 1 = (ll ++ (⟨X.key, X.val⟩ : En) :: lowE lr k).length by omega] at this
    omega
  obtain ⟨J, hJ, hsJ⟩ := HJ.out
  have HJJ := Lib.hid hJ
  have HSJ := Lib.hid hsJ
  clear HJ hJ hsJ
  have HCEL : Hid (∀ {wx : World} {C : Ar} {rdx : Int} {P : Array Value}, Ins I w F (.pointer (some pa)) C rdx [] [(b, Obj.cells P 108 (0, 0)), (q, Obj.cells #[.int .u32 0, .int .i64 0, .bool false, .int .u32 0] 108 (0, 0)), (g, Obj.cells #[Value.int .i64 X.key, .int .i64 X.val, .int .u32 (X.left : Int), .int .u32 (X.right : Int), .int .i64 X.size, .int .i64 X.sum, .int .i64 X.mn, .int .i64 X.mx] 81 (0, 0))] wx → wx.cell? ⟨g, 0, none⟩ = some (.int .i64 X.key) ∧ wx.cell? ⟨g, 1, none⟩ = some (.int .i64 X.val) ∧ wx.cell? ⟨g, 2, none⟩ = some (.int .u32 (X.left : Int)) ∧ wx.cell? ⟨g, 3, none⟩ = some (.int .u32 (X.right : Int)) ∧ wx.cell? ⟨g, 4, none⟩ = some (.int .i64 X.size) ∧ wx.cell? ⟨g, 5, none⟩ = some (.int .i64 X.sum) ∧ wx.cell? ⟨g, 6, none⟩ = some (.int .i64 X.mn) ∧ wx.cell? ⟨g, 7, none⟩ = some (.int .i64 X.mx)) := fun {wx C rdx P} hx => by
    obtain ⟨hq, -⟩ := hx.row8 (g := g) (X := X) (by simp [ndRow])
    exact hq
  have hsd := HS3.out.calm (Below.refl _ _).drew
  refine anyG_begin (S := (fun w' => w'.cell? ⟨g, 0, none⟩ = some (.int .i64 X.key) ∧ w'.cell? ⟨g, 1, none⟩ = some (.int .i64 X.val) ∧ w'.cell? ⟨g, 2, none⟩ = some (.int .u32 (X.left : Int)) ∧ w'.cell? ⟨g, 3, none⟩ = some (.int .u32 (X.right : Int)) ∧ w'.cell? ⟨g, 4, none⟩ = some (.int .i64 X.size) ∧ w'.cell? ⟨g, 5, none⟩ = some (.int .i64 X.sum) ∧ w'.cell? ⟨g, 6, none⟩ = some (.int .i64 X.mn) ∧ w'.cell? ⟨g, 7, none⟩ = some (.int .i64 X.mx))) (z := 9999) (by kernel_rfl) (HCEL.out hsd) (fun hHeld => ?_)
  refine anyG_take (k := 0) (o := _) (v := ?_) (some 26) rfl (by kernel_rfl) (by kernel_rfl) (by kernel_rfl) (by kernel_rfl) (fun _ _ _ h => h) (Or.inl ⟨by rfl, ?_⟩) (by assumption) (by kernel_rfl) ?_
  rotate_left
  · intro w hSw; (try dsimp only at hSw); go_simp; try with_reducible rfl
  (try simp only [Act.put, List.setIfInBounds_toArray, List.set_cons_zero, List.set_cons_succ])
  refine anyG_take (k := 1) (o := _) (v := ?_) (some 27) rfl (by kernel_rfl) (by kernel_rfl) (by kernel_rfl) (by kernel_rfl) (fun _ _ _ h => h) (Or.inl ⟨by rfl, ?_⟩) (by assumption) (by kernel_rfl) ?_
  rotate_left
  · intro w hSw; (try dsimp only at hSw); go_simp; try with_reducible rfl
  (try simp only [Act.put, List.setIfInBounds_toArray, List.set_cons_zero, List.set_cons_succ])
  refine anyG_take (k := 2) (o := _) (v := ?_) (some 28) rfl (by kernel_rfl) (by kernel_rfl) (by kernel_rfl) (by kernel_rfl) (fun _ _ _ h => h) (Or.inl ⟨by rfl, ?_⟩) (by assumption) (by kernel_rfl) ?_
  rotate_left
  · intro w hSw; (try dsimp only at hSw); go_simp; try with_reducible rfl
  (try simp only [Act.put, List.setIfInBounds_toArray, List.set_cons_zero, List.set_cons_succ])
  refine anyG_take (k := 3) (o := _) (v := ?_) (some 29) rfl (by kernel_rfl) (by kernel_rfl) (by kernel_rfl) (by kernel_rfl) (fun _ _ _ h => h) (Or.inl ⟨by rfl, ?_⟩) (by assumption) (by kernel_rfl) ?_
  rotate_left
  · intro w hSw; (try dsimp only at hSw); go_simp; try with_reducible rfl
  (try simp only [Act.put, List.setIfInBounds_toArray, List.set_cons_zero, List.set_cons_succ])
  refine anyG_take (k := 5) (o := _) (v := ?_) (some 31) rfl (by kernel_rfl) (by kernel_rfl) (by kernel_rfl) (by kernel_rfl) (fun _ _ _ h => h) (Or.inl ⟨by rfl, ?_⟩) (by assumption) (by kernel_rfl) ?_
  rotate_left
  · intro w hSw; (try dsimp only at hSw); go_simp; try with_reducible rfl
  (try simp only [Act.put, List.setIfInBounds_toArray, List.set_cons_zero, List.set_cons_succ])
  refine anyG_one (k := 4) (o := _) (by kernel_rfl) rfl (fun KT hKT => ?_)
  go_simp
  go_at_call 105
  refine (entryJ_any X _).mono ?_
  rintro eA wA ⟨rfl, hbA⟩
  have hsA := hsd.calm hbA
  try go_wp2_with fail
  refine hKT.out _ _ (HCEL.out hsA) (fun hHeld => ?_)
  clear hKT KT
  (try simp only [Act.put, List.setIfInBounds_toArray, List.set_cons_zero, List.set_cons_succ])
  refine anyG_one (k := 6) (o := _) (by kernel_rfl) rfl (fun KT hKT => ?_)
  go_simp
  go_at_call 63
  refine (hsA.mut fun F1 hI1 => link_all I HK.out HKN.out _ ⟨X.key, X.val⟩ wA ⟨hI1, HM2.out.inv, HM2.out.agg, fun j => Nat.le_trans (plL_le HP.out.2.2.1 [y, x] j) (show 1048300 + 2 ≤ 1048400 by decide), (HOT.out.1.kept HM2.out.kept), (HTX.out), (HOT.out.2.1), (HP.out.2.2.2.2.2.1.low k), HOT.out.2.2.1, by have := HSZ.out; have := HLO.out; omega, by have h1 := HRD0.out; have h2 := HQ.out; omega, by have h1 := HRD.out; have h2 := HQ.out; have h3 := HSJ.out; have h4 := HHC.out; rw [HJJ.out]; omega, by have h1 := HRO.out; have h2 := HQ.out; have h3 := HSJ.out; have h4 := HHC.out; rw [HJJ.out]; omega⟩ (Nat.lt_succ_self _)).mono ?_
  rintro eB wB ⟨C, rdC, ⟨b1, b2, j, t, rfl, b3, b4, b5, -⟩, hsB⟩
  rw [HJJ.out] at b2 b5
  try go_wp2_with fail
  refine hKT.out _ _ (HCEL.out hsB) (fun hHeld => ?_)
  clear hKT KT
  (try simp only [Act.put, List.setIfInBounds_toArray, List.set_cons_zero, List.set_cons_succ])
  refine anyG_take (k := 7) (o := _) (v := ?_) (some 25) rfl (by kernel_rfl) (by kernel_rfl) (by kernel_rfl) (by kernel_rfl) (fun _ _ _ h => h) (Or.inl ⟨by rfl, ?_⟩) (by assumption) (by kernel_rfl) ?_
  rotate_left
  · intro w hSw; (try dsimp only at hSw); go_simp; try with_reducible rfl
  (try simp only [Act.put, List.setIfInBounds_toArray, List.set_cons_zero, List.set_cons_succ])
  refine anyG_take (k := 8) (o := _) (v := ?_) (some 33) rfl (by kernel_rfl) (by kernel_rfl) (by kernel_rfl) (by kernel_rfl) (fun _ _ _ h => h) (Or.inl ⟨by rfl, ?_⟩) (by assumption) (by kernel_rfl) ?_
  rotate_left
  · intro w hSw; (try dsimp only at hSw); go_simp; try with_reducible rfl
  (try simp only [Act.put, List.setIfInBounds_toArray, List.set_cons_zero, List.set_cons_succ])
  refine anyG_take (k := 9) (o := _) (v := ?_) (some 34) rfl (by kernel_rfl) (by kernel_rfl) (by kernel_rfl) (by kernel_rfl) (fun _ _ _ h => h) (Or.inl ⟨by rfl, ?_⟩) (by assumption) (by kernel_rfl) ?_
  rotate_left
  · intro w hSw; (try dsimp only at hSw); go_simp; try with_reducible rfl
  (try simp only [Act.put, List.setIfInBounds_toArray, List.set_cons_zero, List.set_cons_succ])
  refine anyG_take (k := 10) (o := _) (v := ?_) (some 35) rfl (by kernel_rfl) (by kernel_rfl) (by kernel_rfl) (by kernel_rfl) (fun _ _ _ h => h) (Or.inl ⟨by rfl, ?_⟩) (by assumption) (by kernel_rfl) ?_
  rotate_left
  · intro w hSw; (try dsimp only at hSw); go_simp; try with_reducible rfl
  (try simp only [Act.put, List.setIfInBounds_toArray, List.set_cons_zero, List.set_cons_succ])
  refine anyG_one (k := 11) (o := _) (by kernel_rfl) rfl (fun KT hKT => ?_)
  obtain ⟨⟨y0, y1, y2, y3⟩, f0, f1, f2, f3⟩ := cells4_of (hsB.boxes _ (List.Mem.head _)).2
  go_simp
  have hsC := Ins.one (n := 0) hsB (.int .u32 (j : Int))
  try go_wp2_with fail
  refine hKT.out _ _ (HCEL.out hsC) (fun hHeld => ?_)
  clear hKT KT
  (try simp only [Act.put, List.setIfInBounds_toArray, List.set_cons_zero, List.set_cons_succ])
  refine anyG_take (k := 12) (o := _) (v := ?_) (some 9) rfl (by kernel_rfl) (by kernel_rfl) (by kernel_rfl) (by kernel_rfl) (fun _ _ _ h => h) (Or.inl ⟨by rfl, ?_⟩) (by assumption) (by kernel_rfl) ?_
  rotate_left
  · intro w hSw; (try dsimp only at hSw); go_simp; try with_reducible rfl
  (try simp only [Act.put, List.setIfInBounds_toArray, List.set_cons_zero, List.set_cons_succ])
  refine anyG_done (by kernel_rfl) ?_ _
  have hn : Mid A held C ([j] ++ [y, x]) := HM2.out.nest b3
  obtain ⟨u1, u2, u3, u4, u5, u6⟩ := (hn.perm (((List.Perm.swap y j [x]).trans ((List.Perm.swap x j []).cons y)).trans (List.Perm.swap x y [j]))).give
  have hcl : C.Idx y := HTY.out.idx.imp id fun h => b3.kept.on _ h
  have HSC := Lib.hid hsC
  have HU : Hid (C.Inv [x] (plL held [y, j]) ∧ C.Idx x ∧ x < 4294967296) := ⟨u1, u2, idx_lt32 b3.inv u2⟩
  have HQ2 : Hid (SpQ A rd held tr.ht (tr.ht + 1) (ll ++ (⟨X.key, X.val⟩ : En) :: lr) k (.returned (.tuple #[.agg #[Value.int .u32 (j : Int), .int .i64 V, .bool D, .int .u32 (y : Int)], .int .i64 0])) (C.gone x) rdC) := by
    unfold SpQ
    rw [HC.out.1, HC.out.2.1, HC.out.2.2]
    have hq := HQ.out
    refine ⟨by omega, s + (J + 1), HSJ.out, by omega, j, y, t, ty, by rw [HVD.out.1, HVD.out.2], u3, b4.gone u3.inv (u5 j (by simp) b4.idx), (HTY.out.kept b3.kept).gone u3.inv (u5 y (by simp) hcl), by omega⟩
  clear hsC hsB hsA hsd hbA hHeld HCEL b1 b2 b3 b4 b5 hn u1 u2 u3 u4 u5 u6 hcl HS3
  obtain ⟨⟨p0, p1, p2, p3⟩, -⟩ := cells4_of (HSC.out.boxes _ (List.Mem.head _)).2
  go_wp2_with fail
  refine (HSC.out.release HU.out.2.2 HU.out.2.1 HU.out.1).mono ?_
  rintro en w9 ⟨rfl, hs9⟩
  have HS9 := Lib.hid hs9
  clear hs9 HSC p0 p1 p2 p3
  obtain ⟨⟨p0, p1, p2, p3⟩, -⟩ := cells4_of (HS9.out.boxes _ (List.Mem.head _)).2
  have hq1 := (HS9.out.perm (List.Perm.swap _ _ _))
  obtain ⟨⟨y0, y1, y2, y3⟩, f0, f1, f2, f3⟩ := cells4_of (hq1.boxes _ (List.Mem.head _)).2
  have hne : ¬ b = q := (List.pairwise_cons.1 HS9.out.bb).1 _ (List.Mem.head _)
  have hne2 : ¬ q = b := fun e => hne e.symm
  have hp := hq1.putP j V D y
  have HE : Hid ((∃ F', Alters F F' w (putP w9 q j V D y) ∧ I.Is (putP w9 q j V D y) (.pointer (some pa)) (C.gone x) rdC F') ∧ (putP w9 q j V D y).heap[q]? = some (Obj.cells (ptR j V D y) 108 (0, 0))) := ⟨hp.ends, (hp.boxes _ (List.Mem.head _)).2⟩
  clear hp hq1
  go_wp2_with fail
  refine bodyPost_ret (results_row_tmp rfl _ _ q 108 #[Value.int .u32 (j : Int), .int .i64 V, .bool D, .int .u32 (y : Int)] (0, 0) _ rfl HE.out.2 HUN.out rfl HINF.out) rfl ?_
  obtain ⟨F', hal, hI⟩ := HE.out.1
  exact ⟨F', _, rdC, hal, hI, HQ2.out⟩
end Go.Proofs.Ytckkmmdibgoajaa
set_option linter.unusedVariables false
set_option linter.unusedSimpArgs false
namespace Go.Proofs.Ytckkmmdibgoajaa
open Go.RowKit
theorem Mid.two {A B : Ar} {held : Nat → Nat} (h : Mid A held B []) {x y : Nat} (hx : B.Idx x) (hy : B.Idx y) : Mid A held ((B.ret x).ret y) [y, x] ∧ B.Kept ((B.ret x).ret y) ∧ ((B.ret x).ret y).σ = B.σ := by
  obtain ⟨m1, m2, m3, m4⟩ := h.ret hx
  obtain ⟨n1, n2, n3, n4⟩ := m1.ret (i := y) (hy.imp id fun q => by rw [m3]; exact q)
  exact ⟨n1, m2.trans n2, n3.trans m3⟩
set_option maxHeartbeats 16000000 in
set_option maxRecDepth 100000 in
theorem cut_nil (I : AImpl) : CutOk I .nil := by
  intro p A rd F held i l k w hP
  obtain ⟨pa, rfl⟩ := I.ptr hP.is
  have hin : (Try.prog.info? 108).map (·.size) = some 4 := by kernel_rfl
  have HINF := Lib.hid hin
  have HUN : Hid _ := Lib.hid Try.underlying108
  have hs0 := (Ins.start hP.is).box #[.int .u32 0, .int .i64 0, .bool false, .int .u32 0] 108
  have hl : l = [] := by
    have := hP.tree.size
    exact List.eq_nil_of_length_eq_zero this.symm
  have hi : i = 0 := (hP.tree.zero_iff (held := held)).2 hl
  subst hl hi
  obtain ⟨m1, m2, m3⟩ := (Mid.start hP.inv hP.agg).two (x := 0) (y := 0) (.inl rfl) (.inl rfl)
  have e0 : (A.ret 0).ret 0 = A := by
    have e : A.ret 0 = A := if_pos rfl
    rw [e, e]
  rw [e0] at m1
  have HQ : Hid (SpQ A rd held Tr.nil.ht Tr.nil.ht [] k (.returned (.tuple #[.agg #[Value.int .u32 0, .int .i64 0, .bool false, .int .u32 0], .int .i64 0])) A rd) :=
    ⟨Int.le_refl _, 0, Nat.zero_le _, by show rd ≤ rd + 14 * 0 + 3 * 0; omega, 0, 0, .nil, .nil, rfl, m1, .nil A, .nil A, by omega⟩
  clear hP m1 m2 m3 e0 hin
  go_enter Try.func61, Try.ntmps61
  go_upto_region 1 with fail
  generalize w.alloc (Obj.cells #[.int .u32 0, .int .i64 0, .bool false, .int .u32 0] 108) = w1 at hs0 ⊢
  generalize w.heap.size = q at hs0 ⊢
  obtain ⟨⟨y0, y1, y2, y3⟩, f0, f1, f2, f3⟩ := cells4_of (hs0.boxes _ (List.Mem.head _)).2
  have hp := hs0.putP 0 0 false 0
  have HE : Hid ((∃ F', Alters F F' w (putP w1 q 0 0 false 0) ∧ I.Is (putP w1 q 0 0 false 0) (.pointer (some pa)) A rd F') ∧ (putP w1 q 0 0 false 0).heap[q]? = some (Obj.cells (ptR 0 0 false 0) 108 (0, 0))) := ⟨hp.ends, (hp.boxes _ (List.Mem.head _)).2⟩
  clear hp hs0
  go_wp2_with fail
  refine bodyPost_ret (results_row_tmp rfl _ _ q 108 #[Value.int .u32 0, .int .i64 0, .bool false, .int .u32 0] (0, 0) _ rfl HE.out.2 HUN.out rfl HINF.out) rfl ?_
  obtain ⟨F', hal, hI⟩ := HE.out.1
  exact ⟨F', _, rd, hal, hI, HQ.out⟩
set_option maxHeartbeats 16000000 in
set_option maxRecDepth 100000 in
theorem cut_node (I : AImpl) (K : RotImpl I) (KN : ShNum) {i' : Nat} {tl tr : Tr} (ihl : CutOk I tl) (ihr : CutOk I tr) : CutOk I (.node i' tl tr) := by
  intro p A rd F held i l k w hP
  obtain ⟨pa, rfl⟩ := I.ptr hP.is
  have hin : (Try.prog.info? 108).map (·.size) = some 4 := by kernel_rfl
  have HINF := Lib.hid hin
  have HUN : Hid _ := Lib.hid Try.underlying108
  have hs0 := (Ins.start hP.is).box #[.int .u32 0, .int .i64 0, .bool false, .int .u32 0] 108
  have hi0 : i ≠ 0 := fun q => by
    have h1 := (hP.tree.zero_iff (held := held)).1 q
    have h2 := hP.tree.size
    rw [h1] at h2
    have h3 : (Tr.node i' tl tr).size = tl.size + tr.size + 1 := rfl
    rw [h3] at h2
    simp at h2
  have hon := hP.tree.idx.resolve_left hi0
  obtain ⟨XN, hX⟩ : ∃ x, A.nd i = x := ⟨_, rfl⟩
  have HK := Lib.hid K
  have HKN := Lib.hid KN
  have HIL : Hid (CutOk I tl) := @ihl
  have HIR : Hid (CutOk I tr) := @ihr
  have HI0 : Hid (i ≠ 0) := hi0
  have HON := Lib.hid hon
  have HX := Lib.hid hX
  have HHT : Hid (tl.ht + 1 ≤ (Tr.node i' tl tr).ht ∧ tr.ht + 1 ≤ (Tr.node i' tl tr).ht) := by
    have h1 : (Tr.node i' tl tr).ht = 1 + max tl.ht tr.ht := rfl
    have h2 := Nat.le_max_left tl.ht tr.ht
    have h3 := Nat.le_max_right tl.ht tr.ht
    exact ⟨by omega, by omega⟩
  have HP : Hid (A.Inv [] held ∧ A.Agg ∧ (∀ j, held j ≤ 1048300) ∧ At A i (.node i' tl tr) l ∧ Up l ∧ WfL l ∧ i64R k ∧ l.length ≤ 2147483646 ∧ 3 * (xh (lowE l k).length + xh (highE l k).length + (Tr.node i' tl tr).ht) + 4 ≤ A.σ.free.length) := ⟨hP.inv, hP.agg, hP.few, hP.tree, hP.up, hP.wf, hP.wk, hP.size, hP.room⟩
  have HRD : Hid (0 ≤ rd ∧ rd + 14 * ((xh (lowE l k).length + xh (highE l k).length + (Tr.node i' tl tr).ht : Nat) : Int) + 3 * ((Tr.node i' tl tr).ht : Int) + 0 ≤ 2199023253000) := ⟨hP.rd0, hP.rd1⟩
  have hi1 : ¬ (i : Int) = 0 := by omega
  have hi2 : decide ((i : Int) = 0) = false := decide_eq_false hi1
  clear hP ihl ihr hi0 hon hX K KN hin
  go_enter Try.func61, Try.ntmps61
  go_upto_region 1 with fail
  generalize w.alloc (Obj.cells #[.int .u32 0, .int .i64 0, .bool false, .int .u32 0] 108) = w1 at hs0 ⊢
  generalize w.heap.size = q at hs0 ⊢
  have HS0 := Lib.hid hs0
  clear hs0
  go_wp2_with fail
  refine (HS0.out.call fun F1 hI1 => readJ_any I w1 hI1 HP.out.1 HP.out.2.1 HON.out HX.out HRD.out.1 (by have := HRD.out; omega)).mono ?_
  rintro en w2 ⟨rfl, rd1, hs, r1, r2⟩
  have HR1 : Hid (rd ≤ rd1 ∧ rd1 ≤ rd + 3) := ⟨r1, r2⟩
  have hs1 := hs.box #[Value.int .i64 XN.key, .int .i64 XN.val, .int .u32 (XN.left : Int), .int .u32 (XN.right : Int), .int .i64 XN.size, .int .i64 XN.sum, .int .i64 XN.mn, .int .i64 XN.mx] 81
  clear hs HS0 r1 r2
  go_upto_region 6 with fail
  generalize w2.alloc (Obj.cells #[Value.int .i64 XN.key, .int .i64 XN.val, .int .u32 (XN.left : Int), .int .u32 (XN.right : Int), .int .i64 XN.size, .int .i64 XN.sum, .int .i64 XN.mn, .int .i64 XN.mx] 81) = w3 at hs1 ⊢
  generalize w2.heap.size = g at hs1 ⊢
  have HS1 := Lib.hid hs1
  clear hs1
  rcases Int.lt_trichotomy k XN.key with hk | hk | hk
  rotate_left
  rotate_left
  · have HKK : Hid (XN.key < k) := hk
    have HSO := HS1
    clear HS1
    obtain ⟨⟨x0, x1, x2, x3, x4, x5, x6, x7⟩, -⟩ := HSO.out.row8 (g := g) (X := XN) (by simp [ndRow])
    have d1 : decide (k < XN.key) = false := decide_eq_false (by omega)
    have d2 : decide (XN.key < k) = true := decide_eq_true hk
    have d3 : ¬ k < XN.key := by omega
    go_wp2_with fail
    refine (HSO.out.mut fun F1 hI1 => cutRight_any I HK.out HKN.out HIR.out (i := i) w3 ⟨hI1, HP.out.1, HP.out.2.1, HP.out.2.2.1, HP.out.2.2.2.1, HP.out.2.2.2.2.1, HP.out.2.2.2.2.2.1, HP.out.2.2.2.2.2.2.1, HP.out.2.2.2.2.2.2.2.1, by have := HRD.out; have := HR1.out; omega, by have := HRD.out; have := HR1.out; omega, HP.out.2.2.2.2.2.2.2.2⟩ HI0.out HX.out HKK.out).mono ?_
    rintro en w4 ⟨B, rd4, ⟨q0, s, q1, q2, x, y, tx, ty, rfl, q3, q4, q5, q6⟩, hs4⟩
    obtain ⟨V, hV⟩ : ∃ V, (getE l k).elim (0 : Int) (·.val) = V := ⟨_, rfl⟩
    obtain ⟨D, hD⟩ : ∃ D, (getE l k).isSome = D := ⟨_, rfl⟩
    rw [hV, hD]
    have HQ : Hid (SpQ A rd held (Tr.node i' tl tr).ht (Tr.node i' tl tr).ht l k (.returned (.tuple #[.agg #[Value.int .u32 (x : Int), .int .i64 V, .bool D, .int .u32 (y : Int)], .int .i64 0])) B rd4) :=
      ⟨by have := HR1.out; omega, s, by have := HHT.out; omega, by have := HHT.out; have := HR1.out; omega, x, y, tx, ty, by rw [hV, hD], q3, q4, q5, q6⟩
    have hq1 := (hs4.perm (List.Perm.swap _ _ _))
    obtain ⟨⟨y0, y1, y2, y3⟩, f0, f1, f2, f3⟩ := cells4_of (hq1.boxes _ (List.Mem.head _)).2
    have hp := hq1.putP x V D y
    have HE : Hid ((∃ F', Alters F F' w (putP w4 q x V D y) ∧ I.Is (putP w4 q x V D y) (.pointer (some pa)) B rd4 F') ∧ (putP w4 q x V D y).heap[q]? = some (Obj.cells (ptR x V D y) 108 (0, 0))) := ⟨hp.ends, (hp.boxes _ (List.Mem.head _)).2⟩
    clear hp hq1 hs4 hV hD q0 q1 q2 q3 q4 q5 q6 HSO x0 x1 x2 x3 x4 x5 x6 x7
    go_wp2_with fail
    refine bodyPost_ret (results_row_tmp rfl _ _ q 108 #[Value.int .u32 (x : Int), .int .i64 V, .bool D, .int .u32 (y : Int)] (0, 0) _ rfl HE.out.2 HUN.out rfl HINF.out) rfl ?_
    obtain ⟨F', hal, hI⟩ := HE.out.1
    exact ⟨F', _, rd4, hal, hI, HQ.out⟩
  · have HKK : Hid (k < XN.key) := hk
    have HSO := HS1
    clear HS1
    obtain ⟨⟨x0, x1, x2, x3, x4, x5, x6, x7⟩, -⟩ := HSO.out.row8 (g := g) (X := XN) (by simp [ndRow])
    have d1 : decide (k < XN.key) = true := decide_eq_true hk
    go_wp2_with fail
    refine (HSO.out.mut fun F1 hI1 => cutLeft_any I HK.out HKN.out HIL.out (i := i) w3 ⟨hI1, HP.out.1, HP.out.2.1, HP.out.2.2.1, HP.out.2.2.2.1, HP.out.2.2.2.2.1, HP.out.2.2.2.2.2.1, HP.out.2.2.2.2.2.2.1, HP.out.2.2.2.2.2.2.2.1, by have := HRD.out; have := HR1.out; omega, by have := HRD.out; have := HR1.out; omega, HP.out.2.2.2.2.2.2.2.2⟩ HI0.out HX.out HKK.out).mono ?_
    rintro en w4 ⟨B, rd4, ⟨q0, s, q1, q2, x, y, tx, ty, rfl, q3, q4, q5, q6⟩, hs4⟩
    obtain ⟨V, hV⟩ : ∃ V, (getE l k).elim (0 : Int) (·.val) = V := ⟨_, rfl⟩
    obtain ⟨D, hD⟩ : ∃ D, (getE l k).isSome = D := ⟨_, rfl⟩
    rw [hV, hD]
    have HQ : Hid (SpQ A rd held (Tr.node i' tl tr).ht (Tr.node i' tl tr).ht l k (.returned (.tuple #[.agg #[Value.int .u32 (x : Int), .int .i64 V, .bool D, .int .u32 (y : Int)], .int .i64 0])) B rd4) :=
      ⟨by have := HR1.out; omega, s, by have := HHT.out; omega, by have := HHT.out; have := HR1.out; omega, x, y, tx, ty, by rw [hV, hD], q3, q4, q5, q6⟩
    have hq1 := (hs4.perm (List.Perm.swap _ _ _))
    obtain ⟨⟨y0, y1, y2, y3⟩, f0, f1, f2, f3⟩ := cells4_of (hq1.boxes _ (List.Mem.head _)).2
    have hp := hq1.putP x V D y
    have HE : Hid ((∃ F', Alters F F' w (putP w4 q x V D y) ∧ I.Is (putP w4 q x V D y) (.pointer (some pa)) B rd4 F') ∧ (putP w4 q x V D y).heap[q]? = some (Obj.cells (ptR x V D y) 108 (0, 0))) := ⟨hp.ends, (hp.boxes _ (List.Mem.head _)).2⟩
    clear hp hq1 hs4 hV hD q0 q1 q2 q3 q4 q5 q6 HSO x0 x1 x2 x3 x4 x5 x6 x7
    go_wp2_with fail
    refine bodyPost_ret (results_row_tmp rfl _ _ q 108 #[Value.int .u32 (x : Int), .int .i64 V, .bool D, .int .u32 (y : Int)] (0, 0) _ rfl HE.out.2 HUN.out rfl HINF.out) rfl ?_
    obtain ⟨F', hal, hI⟩ := HE.out.1
    exact ⟨F', _, rd4, hal, hI, HQ.out⟩
  · subst hk
    obtain ⟨⟨x0, x1, x2, x3, x4, x5, x6, x7⟩, -⟩ := HS1.out.row8 (g := g) (X := XN) (by simp [ndRow])
    obtain ⟨tl', tr', ll, lr, -, hl, hA, hB, -⟩ := HP.out.2.2.2.1.split HI0.out
    rw [HX.out] at hl hA hB
    have hup := HP.out.2.2.2.2.1
    rw [hl] at hup
    have hcm := cut_m hup
    obtain ⟨m1, m2, m3⟩ := (Mid.start HP.out.1 HP.out.2.1).two hA.idx hB.idx
    obtain ⟨n1, -, n3, -⟩ := (Mid.start HP.out.1 HP.out.2.1).ret hA.idx
    have HQ : Hid (SpQ A rd held (Tr.node i' tl tr).ht (Tr.node i' tl tr).ht l XN.key (.returned (.tuple #[.agg #[Value.int .u32 (XN.left : Int), .int .i64 XN.val, .bool true, .int .u32 (XN.right : Int)], .int .i64 0])) ((A.ret XN.left).ret XN.right) rd1) := by
      unfold SpQ
      rw [hl, hcm.1, hcm.2.1, hcm.2.2]
      exact ⟨HR1.out.1, 0, Nat.zero_le _, by have := HHT.out; have := HR1.out; omega, XN.left, XN.right, tl', tr', rfl, m1, hA.kept m2, hB.kept m2, by rw [m3]; omega⟩
    have HRT : Hid ((A.Idx XN.left ∧ XN.left < 4294967296 ∧ A.cnt XN.left < 4611686018427387904) ∧ (A.ret XN.left).Idx XN.right ∧ XN.right < 4294967296 ∧ (A.ret XN.left).cnt XN.right < 4611686018427387904) :=
      ⟨⟨hA.idx, idx_lt32 HP.out.1 hA.idx, cnt_few HP.out.1 (fun j => Nat.le_trans (HP.out.2.2.1 j) (by decide)) _⟩, hB.idx.imp id (fun q => by rw [n3]; exact q), idx_lt32 HP.out.1 hB.idx, cnt_few n1.inv (fun j => Nat.le_trans (plL_le HP.out.2.2.1 [XN.left] j) (show 1048300 + 1 ≤ 1048576 by decide)) _⟩
    clear hl hA hB hup hcm m1 m2 m3 n1 n3
    have d1 : ¬ XN.key < XN.key := by omega
    have d2 : decide (XN.key < XN.key) = false := decide_eq_false d1
    go_wp2_with fail
    refine (HS1.out.retain HRT.out.1.2.1 HRT.out.1.1 HRT.out.1.2.2).mono ?_
    rintro en w4 ⟨rfl, hs4⟩
    have HS4 := Lib.hid hs4
    clear hs4 HS1 x0 x1 x2 x3 x4 x5 x6 x7
    obtain ⟨⟨x0, x1, x2, x3, x4, x5, x6, x7⟩, -⟩ := HS4.out.row8 (g := g) (X := XN) (by simp [ndRow])
    go_wp2_with fail
    refine (HS4.out.retain HRT.out.2.2.1 HRT.out.2.1 HRT.out.2.2.2).mono ?_
    rintro en w5 ⟨rfl, hs5⟩
    have HS5 := Lib.hid hs5
    clear hs5 HS4 x0 x1 x2 x3 x4 x5 x6 x7
    obtain ⟨⟨x0, x1, x2, x3, x4, x5, x6, x7⟩, -⟩ := HS5.out.row8 (g := g) (X := XN) (by simp [ndRow])
    have hne : ¬ g = q := (List.pairwise_cons.1 HS5.out.bb).1 _ (List.Mem.head _)
    have hne2 : ¬ q = g := fun e => hne e.symm
    have hq1 := (HS5.out.perm (List.Perm.swap _ _ _))
    obtain ⟨⟨y0, y1, y2, y3⟩, f0, f1, f2, f3⟩ := cells4_of (hq1.boxes _ (List.Mem.head _)).2
    have hp := hq1.putP XN.left XN.val true XN.right
    have HE : Hid ((∃ F', Alters F F' w (putP w5 q XN.left XN.val true XN.right) ∧ I.Is (putP w5 q XN.left XN.val true XN.right) (.pointer (some pa)) ((A.ret XN.left).ret XN.right) rd1 F') ∧ (putP w5 q XN.left XN.val true XN.right).heap[q]? = some (Obj.cells (ptR XN.left XN.val true XN.right) 108 (0, 0))) := ⟨hp.ends, (hp.boxes _ (List.Mem.head _)).2⟩
    clear hp hq1 HS5
    go_wp2_with fail
    refine bodyPost_ret (results_row_tmp rfl _ _ q 108 #[Value.int .u32 (XN.left : Int), .int .i64 XN.val, .bool true, .int .u32 (XN.right : Int)] (0, 0) _ rfl HE.out.2 HUN.out rfl HINF.out) rfl ?_
    obtain ⟨F', hal, hI⟩ := HE.out.1
    exact ⟨F', _, rd1, hal, hI, HQ.out⟩
theorem cut_all (I : AImpl) (K : RotImpl I) (KN : ShNum) : ∀ t, CutOk I t
  | .nil => cut_nil I
  | .node _ l r => cut_node I K KN (cut_all I K KN l) (cut_all I K KN r)
end Go.Proofs.Ytckkmmdibgoajaa
