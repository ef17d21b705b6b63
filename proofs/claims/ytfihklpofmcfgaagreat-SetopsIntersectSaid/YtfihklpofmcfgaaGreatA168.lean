/- Of the proofs of SetopsUnion, SetopsIntersect, SetopsSubtract: RefTreeIs, JnAw, UpCon, SetAlg, ArenaLaw, RotCon, Makes, BalW, Mid, JnN, MidF, Box8. -/
import Derived.Test.YtfihklpofmcfgaaGreatA167
import Derived.BigGuardPart
set_option linter.unusedVariables false
set_option linter.unusedSimpArgs false
namespace Go.Proofs.YtfihklpofmcfgaaGreat
open Go.RowKit
theorem tree_errI {A : Ar} {i : Nat} {t : Tr} {l : List En} (h : TreeAt A i t l) : errT A t = 0 := by
  have hu : Asc none (t.keys A.nd) := by rw [Tr.ents_keys, h.ents]; exact up_asc l none h.up (fun k hk => by cases hk)
  unfold errT
  rw [(ordT_spec A.nd t none).1 hu]
  show (if balT A t = true then (0 : Int) else 8) = 0
  rw [if_pos (by rw [balT_bal h.agg h.sub]; exact h.bal)]
set_option maxHeartbeats 4000000 in
set_option maxRecDepth 100000 in
theorem refTree_any {A : Ar} {w : World} {a b la : Option Addr} {N c m d i L lc : Nat} {t : Tr} {l : List En} {held : Nat → Nat} (hv : A.Inv [] held) (hN : A.σ.cap = N) (hS : SlotsAt w a N A.sl) (hT : TreeAt A i t l) (hE : EnsAt w la l) (hL : l.length = L) (hl : L ≤ 65536) :
    Calls Tryz.prog 53 #[.agg #[.slice a N c, .slice b m d], .int .u32 (i : Int), .slice la L lc] w (Calm w (.bool true)) := by
  have hb1 : Below w.heap.size w (w.alloc (Obj.cells #[.slice a N c, .slice b m d] 33)) := (Below.refl _ _).alloc (Nat.le_refl _) _
  have hx1 := heap_alloc_new w (Obj.cells #[.slice a N c, .slice b m d] 33)
  have hg1 : w.heap.size < (w.alloc (Obj.cells #[.slice a N c, .slice b m d] 33)).heap.size := by simp
  have hNN : N ≤ 65536 := by have := hv.ok.cap2; omega
  have HCK : Hid (∀ wx, Below w.heap.size w wx → Calls Tryz.prog 84 #[.agg #[.slice a N c, .slice b m d], .int .u32 (i : Int)] wx (Calm wx (.int .i64 0))) := fun wx hx => by
    have h := refCheck_ok (b := b) (c := c) (m := m) (d := d) hv.ok hT.agg hN (hS.below hx) hT.sub hNN
    rw [tree_errI hT] at h
    exact h
  have HND : Hid (∀ wx, Below w.heap.size w wx → Calls Tryz.prog 85 #[.agg #[.slice a N c, .slice b m d], .int .u32 (i : Int)] wx (Calm wx (.agg (ndRow (A.nz i))))) := fun wx hx => refNode_any (hS.below hx) hv.ok hN hT.idx
  have HSZ : Hid ((A.nz i).size = (L : Int)) := by show _ = _; rw [nz_size hT.sub.idx hv.ok, hT.sub.size hT.agg, hT.size, hL]
  have HLI : Hid (∀ wx, Below w.heap.size w wx → Calls Tryz.prog 86 #[.agg #[.slice a N c, .slice b m d], .int .u32 (i : Int)] wx (MadeEns wx l)) := fun wx hx => by
    have h := listT_any hv.ok hT.sub wx a b N c m d hN (hS.below hx) (by rw [hT.size, hL]; omega)
    rw [hT.ents] at h
    exact h
  have HE := Lib.hid hE
  have HL := Lib.hid hL
  have HX1 := Lib.hid hx1
  have HG1 := Lib.hid hg1
  have HB1 := Lib.hid hb1
  have hli : (L : Int) ≤ 65536 := by omega
  clear hv hN hS hT hE hL hx1 hg1 hb1 hNN
  go_enter Tryz.func53, Tryz.ntmps53
  go_upto_region 1 with fail
  generalize w.alloc (Obj.cells #[.slice a N c, .slice b m d] 33) = w1 at HX1 HG1 HB1 ⊢
  generalize hg : w.heap.size = g at HX1 HG1 ⊢
  have HC : Hid (∀ wx, Below w1.heap.size w1 wx → wx.cell? ⟨g, 0, none⟩ = some (.slice a N c) ∧ wx.cell? ⟨g, 1, none⟩ = some (.slice b m d)) := fun wx hb => two_cells ((hb.block g HG1.out).trans HX1.out)
  have HW : Hid (∀ wx, Below w1.heap.size w1 wx → Below w.heap.size w wx) := fun wx hb => HB1.out.trans (hb.mono HB1.out.size)
  clear hg
  obtain ⟨c0, c1⟩ := HC.out w1 (Below.refl _ _)
  go_wp2_with fail
  refine (HCK.out w1 HB1.out).mono ?_
  rintro e w2 ⟨rfl, hb2⟩
  have HB2 := Lib.hid hb2
  clear hb2 c0 c1
  obtain ⟨c0, c1⟩ := HC.out w2 HB2.out
  go_wp2_with fail
  refine (HND.out w2 (HW.out _ HB2.out)).mono ?_
  rintro e w3 ⟨rfl, hb3⟩
  have HB3 : Hid (Below w1.heap.size w1 w3) := HB2.out.trans (hb3.mono HB2.out.size)
  clear hb3 c0 c1 HB2
  obtain ⟨c0, c1⟩ := HC.out w3 HB3.out
  unfold ndRow
  rw [HSZ.out]
  have hrs := run_size (.int .i64 (A.nz i).key) (.int .i64 (A.nz i).val) (.int .u32 ((A.nz i).left : Int)) (.int .u32 ((A.nz i).right : Int)) (.int .i64 (L : Int)) (.int .i64 (A.nz i).sum) (.int .i64 (A.nz i).mn) (.int .i64 (A.nz i).mx) w3
  go_wp2_with fail
  refine (HLI.out w3 (HW.out _ HB3.out)).mono ?_
  rintro e w4 hme
  clear hrs c0 c1
  have HWF : Hid (∀ y ∈ l, i64R y.key ∧ i64R y.val) := fun y hy => HE.out.wf y hy
  obtain ⟨a4, c4, rfl, hE4, hb4⟩ := made_ens hme HWF.out HL.out
  have HB4 : Hid (Below w1.heap.size w1 w4) := HB3.out.trans (hb4.mono HB3.out.size)
  have HE4 := Lib.hid hE4
  have HE0 := Lib.hid (HE.out.below (HW.out _ HB4.out))
  clear hme hE4 hb4 HB3
  go_wp2_with fail
  go_loopw [8] (fun x wr => ∃ k : Nat, k ≤ L ∧ x = .int .i64 (k : Int) ∧ ∃ q, wr = w4.drewN q) (fun x _ => L - (intOf x).toNat)
  case atStart => exact ⟨0, Nat.zero_le _, rfl, 0, rfl⟩
  case round =>
    obtain ⟨k, hk, rfl, q, rfl⟩ := hrel
    by_cases hlt : k < L
    · have hki : (k : Int) < (L : Int) := by omega
      have hk0 : (0 : Int) ≤ (k : Int) := by omega
      obtain ⟨e, he⟩ : ∃ e, l[k]? = some e := ⟨_, List.getElem?_eq_getElem (by have := HL.out; omega)⟩
      obtain ⟨g1, off, rfl, hb, c0, c1⟩ := HE0.out.at he
      obtain ⟨g2, off', rfl, hb', d0, d1⟩ := HE4.out.at he
      generalize e.key = x0 at c0 d0
      generalize e.val = x1 at c1 d1
      have HLT := Lib.hid hlt
      clear he hb hb' hk hlt
      go_wp2_with fail
      go_quiet (fail)
      go_wp2_with fail
      exact ⟨⟨k + 1, by have := HLT.out; omega, by go_num, _, rfl⟩, by have := HLT.out; simp [intOf]; omega⟩
    · have hki : ¬ (k : Int) < (L : Int) := by omega
      clear hlt hk
      go_wp2_with fail
      go_ret
      exact ⟨rfl, below_drewN (HW.out _ HB4.out) q⟩
end Go.Proofs.YtfihklpofmcfgaaGreat
namespace Go.Proofs.YtfihklpofmcfgaaGreat
def Tr.idxs : Tr → List Nat
  | .nil => []
  | .node i l r => l.idxs ++ i :: r.idxs
theorem Tr.idxs_len : ∀ t : Tr, t.idxs.length = t.size
  | .nil => rfl
  | .node i l r => by
    show (l.idxs ++ i :: r.idxs).length = l.size + r.size + 1
    rw [List.length_append, List.length_cons, Tr.idxs_len l, Tr.idxs_len r]
    omega
theorem Sub.top_mem {A : Ar} {i : Nat} {t : Tr} (h : Sub A i t) : i = 0 ∨ i ∈ t.idxs := by
  cases h with
  | nil => exact .inl rfl
  | node i l r _ _ _ _ => exact .inr (by show i ∈ l.idxs ++ i :: r.idxs; simp)
theorem Sub.closed {A : Ar} {i : Nat} {t : Tr} (h : Sub A i t) : ∀ k ∈ t.idxs, ((A.nd k).left = 0 ∨ (A.nd k).left ∈ t.idxs) ∧ ((A.nd k).right = 0 ∨ (A.nd k).right ∈ t.idxs) := by
  induction h with
  | nil => intro k hk; cases hk
  | node i l r h0 h1 hl hr ihl ihr =>
    intro k hk
    show ((A.nd k).left = 0 ∨ (A.nd k).left ∈ l.idxs ++ i :: r.idxs) ∧ ((A.nd k).right = 0 ∨ (A.nd k).right ∈ l.idxs ++ i :: r.idxs)
    have hk' : k ∈ l.idxs ++ i :: r.idxs := hk
    rw [List.mem_append, List.mem_cons] at hk'
    simp only [List.mem_append, List.mem_cons]
    rcases hk' with hk' | rfl | hk'
    · have := ihl k hk'
      exact ⟨this.1.imp_right .inl, this.2.imp_right .inl⟩
    · have h2 := hl.top_mem
      have h3 := hr.top_mem
      exact ⟨h2.imp_right .inl, h3.imp_right fun h => .inr (.inr h)⟩
    · have := ihr k hk'
      exact ⟨this.1.imp_right fun h => .inr (.inr h), this.2.imp_right fun h => .inr (.inr h)⟩
theorem sub_len : ∀ (l m : List Nat), l.Nodup → (∀ x ∈ l, x ∈ m) → l.length ≤ m.length
  | [], m, _, _ => Nat.zero_le _
  | x :: t, m, hn, hs => by
    rw [List.nodup_cons] at hn
    have h1 := sub_len t (m.erase x) hn.2 fun y hy => (List.mem_erase_of_ne (fun (e : y = x) => hn.1 (e ▸ hy))).2 (hs y (by simp [hy]))
    have hx : x ∈ m := hs x (by simp)
    rw [List.length_erase_of_mem hx] at h1
    have := List.length_pos_of_mem hx
    rw [List.length_cons]
    omega
open Go.RowKit
/-- a number of spare slots, whatever it is -/
def SpareQ (need : Int) (w : World) (e : Ending) (w' : World) : Prop := ∃ sp : Nat, e = .returned (.int .i64 (sp : Int)) ∧ (sp : Int) ≤ need + 8 ∧ w' = w
theorem low_up {l : List En} (h : Up l) (k : Int) : Up (lowE l k) := List.Pairwise.filter _ h
theorem high_up {l : List En} (h : Up l) (k : Int) : Up (highE l k) := List.Pairwise.filter _ h
theorem getE_found {l : List En} (hu : Up l) {e : En} (hm : e ∈ l) : getE l e.key = some e := by
  cases hg : getE l e.key with
  | none =>
    exfalso
    unfold getE at hg
    have := List.find?_eq_none.1 hg e hm
    simp at this
  | some e' =>
    unfold getE at hg
    have h1 := List.mem_of_find?_eq_some hg
    have h2 : e'.key = e.key := by simpa using List.find?_some hg
    obtain ⟨i, hi, rfl⟩ := List.mem_iff_getElem.1 hm
    obtain ⟨j, hj, rfl⟩ := List.mem_iff_getElem.1 h1
    rcases Nat.lt_trichotomy i j with h | h | h
    · have := List.pairwise_iff_getElem.1 hu i j hi hj h; omega
    · subst h; rfl
    · have := List.pairwise_iff_getElem.1 hu j i hj hi h; omega
section
variable {I : AImpl} {B : Nat} {w0 w : World} {p : Value} {A : Ar} {rd : Int} {rs : List Row} {bs : List (Nat × Obj)}
theorem Scn.size (h : Scn I B w0 w p A rd rs bs) (h0 : 0 ≤ rd) (h1 : rd ≤ 4398046511104) {i : Nat} {t : Tr} {l : List En} (hT : TreeAt A i t l) :
    Calls Tryz.prog 27 #[p, .int .u32 (i : Int)] w fun e w' => e = .returned (.int .i64 (l.length : Int)) ∧ ∃ rd', Scn I B w0 w' p A rd' rs bs ∧ rd ≤ rd' ∧ rd' ≤ rd + 1 := by
  obtain ⟨F, f1, f2, f3⟩ := h.mr.has
  refine (I.size p A rd F i w f1 h0 (by omega) hT.idx).mono ?_
  rintro e w1 ⟨F', hal, h5, h6⟩
  have hsz := hT.sub.size hT.agg
  rw [hT.size] at hsz
  rcases hT.sub.idx with h7 | h7
  · have hoff : A.σ.on i = false := by
      subst h7
      cases hc : A.σ.on 0 with
      | false => rfl
      | true => have := (I.ok f1).on 0 hc; omega
    obtain ⟨rfl, h8⟩ := h5 hoff
    have hst := h.mr.step f2 f3 hal h8
    have hz : A.sz i = 0 := by unfold Ar.sz; rw [if_pos h7]
    exact ⟨by rw [hz] at hsz; rw [← hsz], rd, h.step hst.1 hst.2, by omega, by omega⟩
  · obtain ⟨rfl, h8⟩ := h6 h7
    have hst := h.mr.step f2 f3 hal h8
    have h9 : i ≠ 0 := by have := (I.ok f1).on i h7; omega
    have hz : A.sz i = (A.nd i).size := by unfold Ar.sz; rw [if_neg h9]
    exact ⟨by rw [← hsz, hz], rd + 1, h.step hst.1 hst.2, by omega, by omega⟩
theorem hof_head (i : Nat) (l : List Nat) : (if i = 0 then hof (i :: l) else less (hof (i :: l)) i) = hof l := by
  by_cases h0 : i = 0
  · rw [if_pos h0]
    have h := hof_erase0 (l := i :: l) (k := 0) (by simp) h0
    exact h.symm
  · rw [if_neg h0]
    have h := hof_erase (l := i :: l) (k := 0) (i := i) (by simp) rfl h0
    exact h.symm
end
def l1 : List En := [⟨1, 10⟩]
theorem l1_up : Up l1 := by unfold Up l1; simp
theorem l1_wf : WfL l1 := by
  intro y hy
  simp [l1] at hy
  subst hy
  exact ⟨⟨by decide, by decide⟩, ⟨by decide, by decide⟩⟩
theorem l1_at (w : World) (t : TypeId) : EnsAt (w.alloc (.cells #[.int .i64 1, .int .i64 10] t)) (some ⟨w.heap.size, 0, none⟩) l1 := by
  have hr := heap_alloc_new w (.cells #[.int .i64 1, .int .i64 10] t)
  refine ⟨fun j e he => ⟨w.heap.size, 0, rfl, by simp, ?_⟩, l1_wf⟩
  match j, he with
  | 0, he => cases he; constructor <;> (rw [cell_of_row _ _ _ _ _ _ hr]; rfl)
  | j + 1, he => simp [l1] at he
/-- how often an update may read -/
def updBd (n : Nat) : Int := 60 * ((xh (n + 1) : Int) + 2)
def InsQ (A : Ar) (rd : Int) (held : Nat → Nat) (i : Nat) (t : Tr) (l : List En) (e : En) (en : Ending) (B : Ar) (rd' : Int) : Prop :=
  rd ≤ rd' ∧ rd' ≤ rd + updBd l.length ∧ (
  (getE l e.key = some e ∧ en = .returned (.tuple #[.int .u32 (i : Int), .int .i64 e.val, .bool true, .int .i64 0]) ∧ Got A held B i t l ∧ B.σ.free.length = A.σ.free.length) ∨
  (getE l e.key ≠ some e ∧ (A.σ.free.length : Int) < insI (l.length : Int) ∧ en = .returned (.tuple #[.int .u32 0, .int .i64 0, .bool false, .int .i64 2]) ∧ B = A) ∨
  (getE l e.key ≠ some e ∧ insI (l.length : Int) ≤ (A.σ.free.length : Int) ∧ ∃ (j : Nat) (u : Tr), en = .returned (.tuple #[.int .u32 (j : Int), .int .i64 ((getE l e.key).elim 0 (·.val)), .bool (getE l e.key).isSome, .int .i64 0]) ∧ Got A held B j u (insE l e) ∧ (A.σ.free.length : Int) ≤ (B.σ.free.length : Int) + insI (l.length : Int) ∧ B.σ.free.length ≤ A.σ.free.length))
def DelQ (A : Ar) (rd : Int) (held : Nat → Nat) (l : List En) (k : Int) (en : Ending) (B : Ar) (rd' : Int) : Prop :=
  rd ≤ rd' ∧ rd' ≤ rd + updBd l.length ∧ (
  (getE l k = none ∧ en = .returned (.tuple #[.int .u32 0, .int .i64 0, .int .i64 4]) ∧ B = A) ∨
  (getE l k ≠ none ∧ (A.σ.free.length : Int) < delI (l.length : Int) ∧ en = .returned (.tuple #[.int .u32 0, .int .i64 0, .int .i64 2]) ∧ B = A) ∨
  (getE l k ≠ none ∧ delI (l.length : Int) ≤ (A.σ.free.length : Int) ∧ ∃ (j : Nat) (u : Tr), en = .returned (.tuple #[.int .u32 (j : Int), .int .i64 ((getE l k).elim 0 (·.val)), .int .i64 0]) ∧ Got A held B j u (outE l k k) ∧ (A.σ.free.length : Int) ≤ (B.σ.free.length : Int) + delI (l.length : Int) ∧ B.σ.free.length ≤ A.σ.free.length))
structure UpdImpl (I : AImpl) : Prop where
  insert : ∀ {p : Value} {A : Ar} {rd : Int} {F : Nat → Prop} {held : Nat → Nat} {i : Nat} {t : Tr} {l : List En} (e : En) (w : World), I.Is w p A rd F → A.Inv [] held → (∀ j, held j ≤ 1048000) → TreeAt A i t l → WfL l → 0 ≤ rd → rd ≤ 1099510000000 → i64R e.key → i64R e.val →
    Calls Tryz.prog 40 #[p, .int .u32 (i : Int), .agg #[.int .i64 e.key, .int .i64 e.val]] w (Mut I p F (InsQ A rd held i t l e) w)
  delete : ∀ {p : Value} {A : Ar} {rd : Int} {F : Nat → Prop} {held : Nat → Nat} {i : Nat} {t : Tr} {l : List En} (k : Int) (w : World), I.Is w p A rd F → A.Inv [] held → (∀ j, held j ≤ 1048000) → TreeAt A i t l → WfL l → 0 ≤ rd → rd ≤ 1099510000000 → i64R k →
    Calls Tryz.prog 38 #[p, .int .u32 (i : Int), .int .i64 k] w (Mut I p F (DelQ A rd held l k) w)
theorem insE_wf {l : List En} {e : En} (h : WfL l) (he : i64R e.key ∧ i64R e.val) : WfL (insE l e) := fun y hy => (insE_mem hy).elim (h y) fun e' => e' ▸ he
theorem out_wf {l : List En} (h : WfL l) (lo hi : Int) : WfL (outE l lo hi) := fun y hy => h y (List.mem_filter.1 hy).1
end Go.Proofs.YtfihklpofmcfgaaGreat
namespace Go.Proofs.YtfihklpofmcfgaaGreat
theorem getE_key {l : List En} {k : Int} {x : En} (h : getE l k = some x) : x.key = k := by
  unfold getE at h
  simpa using List.find?_some h
theorem getE_cons (e : En) (t : List En) (k : Int) : getE (e :: t) k = if e.key = k then some e else getE t k := by
  unfold getE
  rw [List.find?_cons]
  by_cases h : e.key = k
  · simp [h]
  · simp [h]
theorem up_get_ext {a b : List En} (ha : Up a) (hb : Up b) (h : ∀ k, getE a k = getE b k) : a = b :=
  up_ext ha hb fun y => ⟨fun hy => (by have h1 := getE_found ha hy; rw [h] at h1; exact ((getE_iff hb _ _).1 h1).1), fun hy => (by have h1 := getE_found hb hy; rw [← h] at h1; exact ((getE_iff ha _ _).1 h1).1)⟩
theorem opt_ext_iff {a b : Option En} (h : ∀ x, a = some x ↔ b = some x) : a = b := by
  cases a with
  | none => cases b with
    | none => rfl
    | some y => exact ((h y).2 rfl)
  | some x => exact ((h x).1 rfl).symm
theorem get_ins_all {l : List En} (hu : Up l) (f : En) (k : Int) : getE (insE l f) k = if f.key = k then some f else getE l k := by
  refine opt_ext_iff fun y => ?_
  rw [getE_iff (insE_up f hu), ins_mem]
  by_cases h : f.key = k
  · rw [if_pos h]
    constructor
    · rintro ⟨rfl | ⟨h1, h2⟩, h3⟩
      · rfl
      · exact absurd (h3.trans h.symm) h2
    · intro h1
      cases h1
      exact ⟨.inl rfl, h⟩
  · rw [if_neg h, getE_iff hu]
    constructor
    · rintro ⟨rfl | ⟨h1, h2⟩, h3⟩
      · exact absurd h3 h
      · exact ⟨h1, h3⟩
    · rintro ⟨h1, h2⟩
      exact ⟨.inr ⟨h1, fun e => h (e.symm.trans h2)⟩, h2⟩
theorem get_fold {l : List En} (p : Int) : ∀ {m out : List En}, Up m → Up out → ∀ k, getE (m.foldl (fun out e => insE out (mixE l p e)) out) k = (getE m k).elim (getE out k) fun e => some (mixE l p e)
  | [], out, _, _, k => rfl
  | e :: t, out, hm, ho, k => by
    have hm' := List.pairwise_cons.1 hm
    rw [List.foldl_cons, get_fold p hm'.2 (insE_up _ ho), getE_cons, get_ins_all ho]
    by_cases h : e.key = k
    · have h2 : getE t k = none := getE_none fun y hy => by have := hm'.1 y hy; omega
      rw [h2, if_pos h, if_pos (show (mixE l p e).key = k from h)]
      rfl
    · rw [if_neg h, if_neg (show ¬ (mixE l p e).key = k from h)]
theorem get_union {l m : List En} (hl : Up l) (hm : Up m) (p k : Int) : getE (unionE l m p) k = (getE m k).elim (getE l k) fun e => some (mixE l p e) := get_fold p hm hl k
theorem get_sub {l m : List En} (hl : Up l) (k : Int) : getE (subE l m) k = if (getE m k).isNone then getE l k else none := by
  refine opt_ext_iff fun y => ?_
  rw [getE_iff (subE_up hl m)]
  unfold subE
  rw [List.mem_filter]
  constructor
  · rintro ⟨⟨h1, h2⟩, rfl⟩
    rw [if_pos h2]
    exact (getE_iff hl _ _).2 ⟨h1, rfl⟩
  · intro h
    split at h
    · rename_i hn
      have := (getE_iff hl _ _).1 h
      exact ⟨⟨this.1, by rw [this.2]; exact hn⟩, this.2⟩
    · cases h
theorem both_key {m : List En} {p : Int} {x z : En} (h : bothE m p x = some z) : z.key = x.key := by
  unfold bothE at h
  cases hg : getE m x.key with
  | none => rw [hg] at h; cases h
  | some y => rw [hg] at h; cases h; rfl
theorem get_int {l m : List En} (hl : Up l) (p k : Int) : getE (intE l m p) k = (getE l k).bind (bothE m p) := by
  refine opt_ext_iff fun y => ?_
  rw [getE_iff (intE_up hl m p)]
  unfold intE
  rw [List.mem_filterMap, Option.bind_eq_some_iff]
  constructor
  · rintro ⟨⟨x, h1, h2⟩, rfl⟩
    exact ⟨x, (getE_iff hl _ _).2 ⟨h1, (both_key h2).symm⟩, h2⟩
  · rintro ⟨x, h1, h2⟩
    have h3 := (getE_iff hl _ _).1 h1
    exact ⟨⟨x, h3.1, h2⟩, (both_key h2).trans h3.2⟩
open Go.RowKit
section
variable {I : AImpl} {B : Nat} {w w' w0 : World} {p : Value} {A A' : Ar} {rd rd' : Int} {held held' : Nat → Nat}
theorem more_small {held : Nat → Nat} {m : Nat} (h : ∀ j, held j ≤ m) (i : Nat) : ∀ j, more held i j ≤ m + 1 := fun j => by
  unfold more
  split
  · have := h i; omega
  · have := h j; omega
end
/-- B is A with n new nodes and one reference more, to j; what was there stays -/
structure Turned (A : Ar) (held : Nat → Nat) (B : Ar) (j n : Nat) : Prop where
  kept : A.Kept B
  gen : ∀ i, A.σ.on i = true → B.σ.gen i = A.σ.gen i
  inv : B.Inv [] (more held j)
  agg : B.Agg
  wf : A.Wf → B.Wf
  free : B.σ.free.length + n = A.σ.free.length
def NewIn (A B : Ar) (j : Nat) : Prop := B.σ.on j = true ∧ A.σ.on j = false
def isNd (x e : Nd) (l r : Nat) : Prop := x.key = e.key ∧ x.val = e.val ∧ x.left = l ∧ x.right = r
/-- the nodes that a rotation of i moves have numbers of 64 bits -/
def WfNear (A : Ar) (i : Nat) : Prop := ∀ x, (x = i ∨ x = (A.nd i).left ∨ x = (A.nd i).right ∨ x = (A.nd (A.nd i).left).right ∨ x = (A.nd (A.nd i).right).left) → A.σ.on x = true → i64R (A.nd x).key ∧ i64R (A.nd x).val
/-- does the root have the form that the rotation asks -/
def rform (A : Ar) (k i : Nat) : Bool := A.σ.on i && match k with
  | 0 => (A.nd i).right != 0
  | 1 => (A.nd i).left != 0
  | 2 => (A.nd i).right != 0 && (A.nd (A.nd i).right).left != 0
  | _ => (A.nd i).left != 0 && (A.nd (A.nd i).left).right != 0
def rneed (k : Nat) : Nat := if k < 2 then 2 else 3
def dnodes (A B : Ar) (j : Nat) (p q r : Nd) : Prop :=
  ∃ y z, y ≠ z ∧ NewIn A B j ∧ NewIn A B y ∧ NewIn A B z ∧ isNd (B.nd j) q y z ∧ isNd (B.nd y) p p.left q.left ∧ isNd (B.nd z) r q.right r.right
/-- the nodes of the result -/
def RNodes (A B : Ar) (k i j : Nat) : Prop := match k with
  | 0 => ∃ z, NewIn A B j ∧ NewIn A B z ∧ isNd (B.nd j) (A.nd (A.nd i).right) z (A.nd (A.nd i).right).right ∧ isNd (B.nd z) (A.nd i) (A.nd i).left (A.nd (A.nd i).right).left
  | 1 => ∃ z, NewIn A B j ∧ NewIn A B z ∧ isNd (B.nd j) (A.nd (A.nd i).left) (A.nd (A.nd i).left).left z ∧ isNd (B.nd z) (A.nd i) (A.nd (A.nd i).left).right (A.nd i).right
  | 2 => dnodes A B j (A.nd i) (A.nd (A.nd (A.nd i).right).left) (A.nd (A.nd i).right)
  | _ => dnodes A B j (A.nd (A.nd i).left) (A.nd (A.nd (A.nd i).left).right) (A.nd i)
/-- what a rotation answers, where T says what stands at an arena -/
def RotEnd (A : Ar) (held : Nat → Nat) (k i : Nat) (T : Ar → (Nat → Nat) → Prop) (e : Ending) : Prop :=
  (rform A k i = false ∧ e = .returned (.tuple #[.int .u32 0, .int .i64 1]) ∧ T A held) ∨
  (rform A k i = true ∧ A.σ.free.length < rneed k ∧ e = .returned (.tuple #[.int .u32 0, .int .i64 2]) ∧ T A held) ∨
  (rform A k i = true ∧ rneed k ≤ A.σ.free.length ∧ ∃ B j, Turned A held B j (rneed k) ∧ RNodes A B k i j ∧ e = .returned (.tuple #[.int .u32 (j : Int), .int .i64 0]) ∧ T B (more held j))
def RotRes (I : AImpl) (p : Value) (A : Ar) (rd : Int) (F : Nat → Prop) (held : Nat → Nat) (k i : Nat) (w : World) (e : Ending) (w' : World) : Prop :=
  ∃ F' rd', Alters F F' w w' ∧ rd ≤ rd' ∧ rd' ≤ rd + 4 ∧ RotEnd A held k i (fun B _ => I.Is w' p B rd' F') e
def RotSpec (I : AImpl) (f : FuncId) (k : Nat) : Prop := ∀ {p : Value} {A : Ar} {rd : Int} {F : Nat → Prop} {held : Nat → Nat} {i : Nat} (w : World),
  I.Is w p A rd F → A.Inv [] held → A.Agg → WfNear A i → (∀ j, held j ≤ 1048500) → 0 ≤ rd → rd ≤ 2199023255552 → i < 4294967296 →
  Calls Tryz.prog f #[p, .int .u32 (i : Int)] w (RotRes I p A rd F held k i w)
structure RotImpl (I : AImpl) : Prop where
  left : RotSpec I 148 0
  right : RotSpec I 150 1
  dleft : RotSpec I 149 2
  dright : RotSpec I 151 3
end Go.Proofs.YtfihklpofmcfgaaGreat
namespace Go.Proofs.YtfihklpofmcfgaaGreat
/-- B is A with a new node x at i, to which one reference more is held -/
structure Mk (A : Ar) (held : Nat → Nat) (i : Nat) (x : Nd) (B : Ar) : Prop where
  kept : A.Kept B
  gen : ∀ j, A.σ.on j = true → B.σ.gen j = A.σ.gen j
  inv : B.Inv [] (more held i)
  agg : B.Agg
  wf : A.Wf → B.Wf
  free : B.σ.free.length + 1 = A.σ.free.length
  nd : B.nd i = x
  new : NewIn A B i
theorem kept_sz {A B : Ar} (hk : A.Kept B) {i : Nat} (hi : A.Idx i) : B.sz i = A.sz i := by
  unfold Ar.sz
  by_cases h0 : i = 0
  · rw [if_pos h0, if_pos h0]
  · rw [if_neg h0, if_neg h0, hk.nd i (hi.resolve_left h0)]
theorem mk {A : Ar} {held : Nat → Nat} {i : Nat} {t : List Nat} {key val : Int} {l r : Nat} (hv : A.Inv [] held) (ha : A.Agg) (hf : A.σ.free = i :: t) (hk : i64R key) (hx : i64R val) (hl : A.Idx l) (hr : A.Idx r) (hs : (A.node key val l r).size ≤ 2147483647) :
    Mk A held i (A.node key val l r) (A.made i t (A.node key val l r)) := by
  have hi := (hv.ok.free i).1 (by rw [hf]; simp)
  have hne : ∀ j, A.σ.on j = true → j ≠ i := fun j hj e => by subst e; rw [hi.2.2] at hj; cases hj
  refine ⟨Ar.Kept.made _ hv hf, fun j hj => ?_, hv.made hf hl hr, ha.made hv hf hl hr hs, fun hw => hw.made ⟨hk, hx⟩, ?_, if_pos rfl, take_same _ _ _, hi.2.2⟩
  · show (A.σ.take i t).gen j = A.σ.gen j
    unfold St.take
    simp [hne j hj]
  · show (A.σ.take i t).free.length + 1 = _
    rw [hf]
    rfl
/-- a reference that is held to a node which another node has, too, is given back -/
theorem give {A : Ar} {held : Nat → Nat} (hv : A.Inv [] held) (ha : A.Agg) {i : Nat} (h1 : i ≠ 0 → 0 < held i ∧ 2 ≤ A.cnt i) :
    (A.Idx i → A.Inv [i] (mns held i)) ∧ A.Idx i ∧ (A.gone i).Inv [] (mns held i) ∧ (A.gone i).Agg ∧ (A.Wf → (A.gone i).Wf) ∧ A.Kept (A.gone i) ∧ (A.gone i).σ = A.σ ∧ (∀ j, (A.gone i).cnt j = A.cnt j - (if i ≠ 0 ∧ j = i then 1 else 0)) := by
  obtain ⟨g1, g2, g3, g4, g5, g6, g7⟩ := hv.shared h1 ha
  exact ⟨g1, g2, g3, g4, fun hw => hw.gone i, g5, g6, g7⟩
theorem mns_more2 {held : Nat → Nat} {a b : Nat} (ha : a ≠ 0) (h : a ≠ b) : mns (more (more held a) b) a = more held b := by
  funext j
  rw [mns_at]
  unfold more
  by_cases e1 : j = b
  · subst e1
    rw [if_pos rfl, if_pos rfl, if_neg (Ne.symm h), if_neg (fun q => h q.2.symm)]
    omega
  · rw [if_neg e1, if_neg e1]
    by_cases e2 : j = a
    · subst e2; rw [if_pos rfl, if_pos ⟨ha, rfl⟩]; omega
    · rw [if_neg e2, if_neg (fun q => e2 q.2)]; omega
/-- two nodes, the second over the first; then the first one's reference is given back -/
theorem two_nodes {A A1 A2 : Ar} {held : Nat → Nat} {i1 i2 : Nat} {x1 x2 : Nd} (h1 : Mk A held i1 x1 A1) (h2 : Mk A1 (more held i1) i2 x2 A2) (hc : 2 ≤ A2.cnt i1) :
    (A2.Idx i1 → A2.Inv [i1] (mns (more (more held i1) i2) i1)) ∧ A2.Idx i1 ∧ Turned A held (A2.gone i1) i2 2 ∧ NewIn A (A2.gone i1) i1 ∧ NewIn A (A2.gone i1) i2 ∧ (A2.gone i1).nd i1 = x1 ∧ (A2.gone i1).nd i2 = x2 := by
  have hi0 : i1 ≠ 0 := by have := h1.inv.ok.on i1 h1.new.1; omega
  have hne : i1 ≠ i2 := fun e => by have h := h2.new.2; rw [← e, h1.new.1] at h; cases h
  have hh : 0 < more (more held i1) i2 i1 := by unfold more; rw [if_neg hne, if_pos rfl]; omega
  obtain ⟨g1, g2, g3, g4, g5, g6, g7, g8⟩ := give h2.inv h2.agg (i := i1) (fun _ => ⟨hh, hc⟩)
  rw [mns_more2 hi0 hne] at g3
  have hk := (h1.kept.trans h2.kept).trans g6
  have n1 : (A2.gone i1).σ.on i1 = true := by rw [g7]; exact h2.kept.on i1 h1.new.1
  have n2 : (A2.gone i1).σ.on i2 = true := by rw [g7]; exact h2.new.1
  have off2 : A.σ.on i2 = false := by
    cases ho : A.σ.on i2
    · rfl
    · have := h1.kept.on i2 ho; rw [h2.new.2] at this; cases this
  refine ⟨g1, g2, ⟨hk, fun j hj => ?_, g3, g4, fun q => g5 (h2.wf (h1.wf q)), ?_⟩, ⟨n1, h1.new.2⟩, ⟨n2, off2⟩, ?_, ?_⟩
  · rw [g7, h2.gen j (h1.kept.on j hj), h1.gen j hj]
  · rw [g7]
    have f1 := h1.free
    have f2 := h2.free
    omega
  · rw [g6.nd i1 (h2.kept.on i1 h1.new.1), h2.kept.nd i1 h1.new.1, h1.nd]
  · rw [g6.nd i2 h2.new.1, h2.nd]
theorem Mk.off {A B : Ar} {held : Nat → Nat} {i : Nat} {x : Nd} {A0 : Ar} (h : Mk A held i x B) (hk : A0.Kept A) : A0.σ.on i = false := by
  cases ho : A0.σ.on i
  · rfl
  · have := hk.on i ho; rw [h.new.2] at this; cases this
/-- balanced, by weights -/
def wb (a b : Nat) : Prop := a ≤ 3 * b ∧ b ≤ 3 * a
theorem wb.symm {a b : Nat} (h : wb a b) : wb b a := ⟨h.2, h.1⟩
/-- how heavy the heavy side may be -/
def hv (l r : Nat) : Prop := 3 * r ≤ 13 * l ∨ r ≤ 3 * l + 3
theorem wb_single {l r a b : Nat} (hl : 0 < l) (ha : 0 < a) (hb : 0 < b) (hr : a + b = r) (hab : wb a b) (hn : 3 * l < r) (hh : hv l r) (hs : a < 2 * b) : wb l a ∧ wb (l + a) b := by
  unfold wb hv at *
  omega
theorem wb_double {l r a b c d : Nat} (hl : 0 < l) (hb : 0 < b) (hc : 0 < c) (hd : 0 < d) (hr : a + b = r) (hab : wb a b) (hn : 3 * l < r) (hh : hv l r) (hs : 2 * b ≤ a) (hcd : wb c d) (ha : c + d = a) : wb l c ∧ wb d b ∧ wb (l + c) (d + b) := by
  unfold wb hv at *
  omega
/-- a light tree is joined to the inner side of a balanced node -/
theorem hv_join {l r x : Nat} (h : wb l r) (hx : 3 * x < l + r) : hv l (r + x) := by
  unfold wb hv at *
  omega
/-- one key less on the light side -/
theorem hv_less {l r : Nat} (h : wb (l + 1) r) : hv l r := by
  unfold wb hv at *
  omega
/-- one key more on the heavy side -/
theorem hv_more {l r : Nat} (h : wb l r) : hv l (r + 1) := by
  unfold wb hv at *
  omega
/-- the caller's references and the call's own, X -/
def plL (held : Nat → Nat) (X : List Nat) : Nat → Nat := fun i => held i + hof X i
theorem plL_nil (held : Nat → Nat) : plL held [] = held := by
  funext i
  show held i + hof [] i = held i
  rw [hof_nil]
  rfl
theorem hof_cons (x : Nat) (X : List Nat) (j : Nat) : hof (x :: X) j = hof X j + (if x ≠ 0 ∧ j = x then 1 else 0) := by
  unfold hof
  by_cases h : j = 0
  · rw [if_pos h, if_pos h, if_neg (fun q => q.1 (q.2 ▸ h))]
  · rw [if_neg h, if_neg h, List.count_cons]
    by_cases e : j = x
    · subst e; rw [if_pos (by simp), if_pos ⟨h, rfl⟩]
    · rw [if_neg (by simp; exact fun q => e q.symm), if_neg (fun q => e q.2)]
theorem plL_cons (held : Nat → Nat) (x : Nat) (X : List Nat) : plL held (x :: X) = pls (plL held X) x := by
  funext j
  rw [pls_at]
  show held j + hof (x :: X) j = held j + hof X j + _
  rw [hof_cons, Nat.add_assoc]
theorem plL_le {held : Nat → Nat} {m : Nat} (h : ∀ j, held j ≤ m) (X : List Nat) (j : Nat) : plL held X j ≤ m + X.length := by
  have h1 := h j
  have h2 := hof_le X j
  show held j + hof X j ≤ _
  omega
theorem plL_perm (held : Nat → Nat) {X Y : List Nat} (h : X.Perm Y) : plL held X = plL held Y := by
  funext j
  show held j + hof X j = held j + hof Y j
  unfold hof
  rw [h.count_eq]
theorem plL_pos {held : Nat → Nat} {x : Nat} {X : List Nat} (h : x ∈ X) (h0 : x ≠ 0) : 0 < plL held X x := by
  have := hof_pos h h0
  show 0 < held x + hof X x
  omega
theorem less_plL {held : Nat → Nat} {x : Nat} {X : List Nat} (h0 : x ≠ 0) : less (plL held (x :: X)) x = plL held X := by
  rw [plL_cons]
  funext j
  unfold less pls more
  rw [if_neg h0]
  by_cases e : j = x
  · subst e; show (if j = j then _ - 1 else _) = _; rw [if_pos rfl]; show (if j = j then _ else _) - 1 = _; rw [if_pos rfl]; omega
  · show (if j = x then _ else _) = _; rw [if_neg e]; show (if j = x then _ else _) = _; rw [if_neg e]
/-- B came of A; X: the references that the call holds -/
structure Mid (A : Ar) (held : Nat → Nat) (B : Ar) (X : List Nat) : Prop where
  base : A.Inv [] held
  bagg : A.Agg
  kept : A.Kept B
  gen : ∀ i, A.σ.on i = true → B.σ.gen i = A.σ.gen i
  inv : B.Inv [] (plL held X)
  agg : B.Agg
theorem Mid.start {A : Ar} {held : Nat → Nat} (h : A.Inv [] held) (ha : A.Agg) : Mid A held A [] := ⟨h, ha, .refl A, fun _ _ => rfl, by rw [plL_nil]; exact h, ha⟩
theorem Mid.perm {A B : Ar} {held : Nat → Nat} {X Y : List Nat} (h : Mid A held B X) (hp : X.Perm Y) : Mid A held B Y := ⟨h.base, h.bagg, h.kept, h.gen, plL_perm held hp ▸ h.inv, h.agg⟩
/-- a tree, its balance and its entries -/
structure At (B : Ar) (i : Nat) (t : Tr) (l : List En) : Prop where
  sub : Sub B i t
  bal : t.bal = true
  ents : t.ents B.nd = l
theorem TreeAt.at_ {A : Ar} {i : Nat} {t : Tr} {l : List En} (h : TreeAt A i t l) : At A i t l := ⟨h.sub, h.bal, h.ents⟩
theorem At.nil (B : Ar) : At B 0 .nil [] := ⟨.nil, rfl, rfl⟩
theorem At.kept {B C : Ar} {i : Nat} {t : Tr} {l : List En} (h : At B i t l) (hk : B.Kept C) : At C i t l := ⟨h.sub.kept hk, h.bal, (Tr.ents_kept hk h.sub).trans h.ents⟩
theorem At.size {B : Ar} {i : Nat} {t : Tr} {l : List En} (h : At B i t l) : t.size = l.length := by rw [← h.ents, Tr.ents_len]
theorem At.sz {B : Ar} {i : Nat} {t : Tr} {l : List En} (h : At B i t l) (ha : B.Agg) : B.sz i = (l.length : Int) := by rw [h.sub.size ha, h.size]
theorem At.idx {B : Ar} {i : Nat} {t : Tr} {l : List En} (h : At B i t l) : B.Idx i := h.sub.idx
/-- the empty tree is 0 -/
theorem At.zero_iff {B : Ar} {held : Nat → Nat} {i : Nat} {t : Tr} {l : List En} (h : At B i t l) : i = 0 ↔ l = [] := by
  constructor
  · rintro rfl
    have := h.size
    obtain ⟨h1, _, h3⟩ := h
    cases h1 with
    | nil => exact List.eq_nil_of_length_eq_zero this.symm
    | node _ _ _ h0 => exact absurd rfl h0
  · intro e
    have := h.size
    obtain ⟨h1, _, h3⟩ := h
    cases h1 with
    | nil => rfl
    | node _ l r _ => rw [e] at this; exact absurd this (by show l.size + r.size + 1 ≠ 0; omega)
/-- weights of two trees that a node may have -/
def wbL (l m : List En) : Prop := wb (l.length + 1) (m.length + 1)
theorem bal_wb {a b : Nat} (h : Proofs.YtfihklpofmcfgaaGreat.bal (a : Int) (b : Int) = true) : wb (a + 1) (b + 1) := by
  have h1 := of_decide_eq_true h
  exact ⟨by omega, by omega⟩
theorem wb_bal {a b : Nat} (ha : a ≤ 2147483647) (hb : b ≤ 2147483647) (h : wb (a + 1) (b + 1)) : Proofs.YtfihklpofmcfgaaGreat.bal (a : Int) (b : Int) = true :=
  decide_eq_true ⟨by omega, by omega, by omega, by omega, by have := h.1; omega, by have := h.2; omega⟩
/-- the root and its children -/
theorem At.split {B : Ar} {i : Nat} {t : Tr} {l : List En} (h : At B i t l) (h0 : i ≠ 0) :
    ∃ tl tr ll lr, t = .node i tl tr ∧ l = ll ++ ⟨(B.nd i).key, (B.nd i).val⟩ :: lr ∧ At B (B.nd i).left tl ll ∧ At B (B.nd i).right tr lr ∧ wbL ll lr := by
  obtain ⟨hs, hb, he⟩ := h
  cases hs with
  | nil => exact absurd rfl h0
  | node i tl tr _ hon hl hr =>
    unfold Tr.bal at hb
    simp only [Bool.and_eq_true] at hb
    rw [Tr.ents_node] at he
    refine ⟨tl, tr, _, _, rfl, he.symm, ⟨hl, hb.1.2, rfl⟩, ⟨hr, hb.2, rfl⟩, ?_⟩
    have h1 := bal_wb hb.1.1
    unfold wbL
    rw [Tr.ents_len, Tr.ents_len]
    exact h1
/-- a node over two trees -/
theorem At.join {B : Ar} (ha : B.Agg) {i l r : Nat} {e : En} {tl tr : Tr} {ll lr : List En} (h0 : i ≠ 0) (hon : B.σ.on i = true) (hk : (B.nd i).key = e.key ∧ (B.nd i).val = e.val ∧ (B.nd i).left = l ∧ (B.nd i).right = r)
    (hl : At B l tl ll) (hr : At B r tr lr) (hw : wbL ll lr) : At B i (.node i tl tr) (ll ++ e :: lr) := by
  obtain ⟨k1, k2, k3, k4⟩ := hk
  have hs : Sub B i (.node i tl tr) := .node i tl tr h0 hon (by rw [k3]; exact hl.sub) (by rw [k4]; exact hr.sub)
  have hz := hs.size ha
  have hm := (ha.size i hon).2
  have h1 := hl.size
  have h2 := hr.size
  have h3 : (Tr.node i tl tr).size = tl.size + tr.size + 1 := rfl
  unfold Ar.sz at hz
  rw [if_neg h0] at hz
  refine ⟨hs, ?_, ?_⟩
  · unfold Tr.bal
    rw [hl.bal, hr.bal, wb_bal (by omega) (by omega) (by rw [h1, h2]; exact hw)]
    rfl
  · rw [Tr.ents_node, hl.ents, hr.ents, k1, k2]
theorem run_gen : ∀ (f : Nat) (A : Ar) (s : List Nat), (Ar.run f A s).1.σ.gen = A.σ.gen
  | 0, A, s => rfl
  | f + 1, A, [] => rfl
  | f + 1, A, i :: t => by
    unfold Ar.run
    by_cases h0 : i = 0
    · rw [if_pos h0]; exact run_gen f A t
    · rw [if_neg h0]
      by_cases h1 : A.cnt i = 1
      · rw [if_pos h1]; exact (run_gen f (A.drop i) _).trans rfl
      · rw [if_neg h1]; exact (run_gen f (A.dec i) t).trans rfl
theorem sub_gone' {A : Ar} {r : Nat} {held : Nat → Nat} (hv : (A.gone r).Inv [] held) {i : Nat} {t : Tr} (h : Sub A i t) : (i = 0 ∨ (A.gone r).σ.on i = true) → Sub (A.gone r) i t := by
  induction h with
  | nil => exact fun _ => .nil
  | node i l r' h0 h1 hl hr ihl ihr =>
    intro hi
    have hon := hi.resolve_left h0
    have hnd : (A.gone r).nd i = A.nd i := (run_on A.fuel A [r] i hon).2
    have hc := hv.child i hon
    rw [hnd] at hc
    exact .node i l r' h0 hon (by rw [hnd]; exact ihl hc.1) (by rw [hnd]; exact ihr hc.2)
theorem ents_gone' {A : Ar} {r : Nat} {i : Nat} {t : Tr} (h : Sub (A.gone r) i t) : t.ents (A.gone r).nd = t.ents A.nd := by
  unfold Tr.ents
  exact List.map_congr_left fun j hj => by
    have e : (A.gone r).nd j = A.nd j := (run_on A.fuel A [r] j (h.on j hj)).2
    rw [e]
theorem At.gone {B : Ar} {r i : Nat} {t : Tr} {l : List En} {held : Nat → Nat} (h : At B i t l) (hv : (B.gone r).Inv [] held) (hi : (B.gone r).Idx i) : At (B.gone r) i t l := by
  have hs := sub_gone' hv h.sub hi
  exact ⟨hs, h.bal, (ents_gone' hs).trans h.ents⟩
/-- what the caller holds stays where a reference of the call's is given back -/
theorem Mid.give {A B : Ar} {held : Nat → Nat} {x : Nat} {X : List Nat} (h : Mid A held B (x :: X)) :
    B.Inv [x] (plL held X) ∧ B.Idx x ∧ Mid A held (B.gone x) X ∧ B.σ.free.length ≤ (B.gone x).σ.free.length ∧ (∀ i, i ∈ X → B.Idx i → (B.gone x).Idx i) ∧ ∀ i, (B.gone x).σ.on i = true → B.σ.on i = true ∧ (B.gone x).nd i = B.nd i := by
  have hx : B.Idx x := by
    by_cases h0 : x = 0
    · exact .inl h0
    · exact .inr (h.inv.held x (plL_pos (List.mem_cons_self ..) h0))
  have hv : B.Inv [x] (plL held X) := by
    by_cases h0 : x = 0
    · subst h0
      have e : plL held (0 :: X) = plL held X := by rw [plL_cons]; rfl
      exact (e ▸ h.inv).give0
    · rw [← less_plL h0]
      exact h.inv.give (plL_pos (List.mem_cons_self ..) h0)
  obtain ⟨g1, g2, g3, g4⟩ := Ar.gone_ok hv h.agg
  have hon : ∀ i, (B.gone x).σ.on i = true → B.σ.on i = true ∧ (B.gone x).nd i = B.nd i := fun i hi => run_on B.fuel B [x] i hi
  have hr : ∀ i, A.Reach held i → (B.gone x).Idx i := fun i hi => by
    induction hi with
    | root i hi => exact .inr (g1.held i (by show 0 < held i + _; omega))
    | left k hk _ ih =>
      have hne : k ≠ 0 := fun e => by have := h.base.ok.on k hk; omega
      have h2 := ih.resolve_left hne
      have h3 := (g1.child k h2).1
      rw [(hon k h2).2, h.kept.nd k hk] at h3
      exact h3
    | right k hk _ ih =>
      have hne : k ≠ 0 := fun e => by have := h.base.ok.on k hk; omega
      have h2 := ih.resolve_left hne
      have h3 := (g1.child k h2).2
      rw [(hon k h2).2, h.kept.nd k hk] at h3
      exact h3
  have hA : ∀ i, A.σ.on i = true → (B.gone x).σ.on i = true := fun i hi => by
    have h1 := Ar.reach_all h.base h.bagg ((2147483647 - (A.nd i).size).toNat + 1) i hi (by have := (h.bagg.size i hi).2; omega)
    exact (hr i h1).resolve_left fun e => by have := h.base.ok.on i hi; omega
  refine ⟨hv, hx, ⟨h.base, h.bagg, ⟨g3.trans h.kept.cap, hA, fun i hi => (hon i (hA i hi)).2.trans (h.kept.nd i hi)⟩, fun i hi => ?_, g1, g2⟩, by omega, fun i hi hi2 => ?_, hon⟩
  · have e : (B.gone x).σ.gen = B.σ.gen := run_gen B.fuel B [x]
    rw [e]
    exact h.gen i hi
  · by_cases h0 : i = 0
    · exact .inl h0
    · exact .inr (g1.held i (plL_pos hi h0))
theorem Mid.made {A B : Ar} {held : Nat → Nat} {X : List Nat} (h : Mid A held B X) {i : Nat} {t : List Nat} (hf : B.σ.free = i :: t) {key val : Int} {l r : Nat} (hl : B.Idx l) (hr : B.Idx r) (hs : (B.node key val l r).size ≤ 2147483647) :
    Mid A held (B.made i t (B.node key val l r)) (i :: X) ∧ B.Kept (B.made i t (B.node key val l r)) ∧ (B.made i t (B.node key val l r)).σ.free = t ∧ i ≠ 0 ∧ (B.made i t (B.node key val l r)).σ.on i = true ∧ (B.made i t (B.node key val l r)).nd i = B.node key val l r := by
  have hi := (h.inv.ok.free i).1 (by rw [hf]; simp)
  have hne : ∀ j, B.σ.on j = true → j ≠ i := fun j hj e => by subst e; rw [hi.2.2] at hj; cases hj
  have h0 : i ≠ 0 := by omega
  have hk := Ar.Kept.made (B.node key val l r) h.inv hf
  refine ⟨⟨h.base, h.bagg, h.kept.trans hk, fun j hj => ?_, ?_, h.agg.made h.inv hf hl hr hs⟩, hk, rfl, h0, take_same _ _ _, if_pos rfl⟩
  · show (B.σ.take i t).gen j = A.σ.gen j
    unfold St.take
    simp [hne j (h.kept.on j hj), h.gen j hj]
  · rw [plL_cons]
    unfold pls
    rw [if_neg h0]
    exact h.inv.made hf hl hr
theorem Mid.ret {A B : Ar} {held : Nat → Nat} {X : List Nat} (h : Mid A held B X) {i : Nat} (hi : B.Idx i) : Mid A held (B.ret i) (i :: X) ∧ B.Kept (B.ret i) ∧ (B.ret i).σ = B.σ ∧ (B.ret i).nd = B.nd := by
  by_cases h0 : i = 0
  · subst h0
    have e : B.ret 0 = B := if_pos rfl
    have e2 : plL held (0 :: X) = plL held X := by rw [plL_cons]; rfl
    rw [e]
    exact ⟨⟨h.base, h.bagg, h.kept, h.gen, e2.symm ▸ h.inv, h.agg⟩, .refl B, rfl, rfl⟩
  · have hon := hi.resolve_left h0
    have e : B.ret i = B.inc i := if_neg h0
    rw [e]
    refine ⟨⟨h.base, h.bagg, h.kept.trans ⟨rfl, fun _ q => q, fun _ _ => rfl⟩, h.gen, ?_, h.agg.inc i⟩, ⟨rfl, fun _ q => q, fun _ _ => rfl⟩, rfl, rfl⟩
    rw [plL_cons]
    unfold pls
    rw [if_neg h0]
    exact h.inv.inc hon
theorem Mid.rot {A B C : Ar} {held : Nat → Nat} {X : List Nat} {j n : Nat} (h : Mid A held B X) (ht : Turned B (plL held X) C j n) : Mid A held C (j :: X) ∧ B.Kept C ∧ C.σ.free.length + n = B.σ.free.length ∧ j ≠ 0 := by
  have h0 : j ≠ 0 := fun e => by
    have h1 := ht.inv.held j (by unfold more; rw [if_pos rfl]; omega)
    have := ht.inv.ok.on j h1
    omega
  refine ⟨⟨h.base, h.bagg, h.kept.trans ht.kept, fun i hi => (ht.gen i (h.kept.on i hi)).trans (h.gen i hi), ?_, ht.agg⟩, ht.kept, ht.free, h0⟩
  rw [plL_cons]
  unfold pls
  rw [if_neg h0]
  exact ht.inv
/-- the call ends with one tree -/
theorem Mid.got {A B : Ar} {held : Nat → Nat} {j : Nat} {t : Tr} {l : List En} (h : Mid A held B [j]) (ha : At B j t l) : Got A held B j t l :=
  ⟨h.kept, h.gen, by have := h.inv; rw [plL_cons, plL_nil] at this; exact this, h.agg, ha.sub, ha.ents, ha.bal⟩
theorem Mid.got2 {A B : Ar} {held : Nat → Nat} {j k : Nat} {t u : Tr} {l m : List En} (h : Mid A held B [k, j]) (ha : At B j t l) (hb : At B k u m) : Got2 A held B j t l k u m :=
  ⟨h.kept, h.gen, by have := h.inv; rw [plL_cons, plL_cons, plL_nil] at this; exact this, h.agg, ha.sub, ha.ents, ha.bal, hb.sub, hb.ents, hb.bal⟩
/-- a call of such a function in the midst of another -/
theorem Mid.nest {A B C : Ar} {held : Nat → Nat} {X Y : List Nat} (h : Mid A held B X) (h2 : Mid B (plL held X) C Y) : Mid A held C (Y ++ X) := by
  refine ⟨h.base, h.bagg, h.kept.trans h2.kept, fun i hi => (h2.gen i (h.kept.on i hi)).trans (h.gen i hi), ?_, h2.agg⟩
  have e : plL held (Y ++ X) = plL (plL held X) Y := by
    funext j
    show held j + hof (Y ++ X) j = held j + hof X j + hof Y j
    unfold hof
    split
    · rfl
    · rw [List.count_append]; omega
  rw [e]
  exact h2.inv
theorem NewIn.nz {B C : Ar} {hd : Nat → Nat} (hv : C.Inv [] hd) {j : Nat} (h : NewIn B C j) : j ≠ 0 := by
  have := hv.ok.on j h.1
  omega
/-- the single rotation leaves both nodes balanced -/
def sgl (l inner outer : Int) : Bool := Proofs.YtfihklpofmcfgaaGreat.bal l inner && Proofs.YtfihklpofmcfgaaGreat.bal (l + 1 + inner) outer
theorem sgl_wb {l a b : Nat} (h : sgl (l : Int) (a : Int) (b : Int) = true) : wb (l + 1) (a + 1) ∧ wb (l + 1 + (a + 1)) (b + 1) := by
  unfold sgl at h
  rw [Bool.and_eq_true] at h
  have h1 := bal_wb h.1
  have h2 := bal_wb (a := l + 1 + a) (b := b) (by have := h.2; rw [Int.natCast_add, Int.natCast_add]; exact this)
  exact ⟨h1, by rw [← Nat.add_assoc]; exact h2⟩
theorem wb_sgl {l a b : Nat} (hs : l + a + b + 2 ≤ 2147483647) (h1 : wb (l + 1) (a + 1)) (h2 : wb (l + 1 + (a + 1)) (b + 1)) : sgl (l : Int) (a : Int) (b : Int) = true := by
  unfold sgl
  rw [Bool.and_eq_true]
  have h3 := wb_bal (a := l + 1 + a) (b := b) (by omega) (by omega) (by rw [Nat.add_assoc]; exact h2)
  rw [Int.natCast_add, Int.natCast_add] at h3
  exact ⟨wb_bal (by omega) (by omega) h1, h3⟩
/-- the right side is too heavy: which rotation, and what it makes -/
theorem heavy_right {B : Ar} {hd : Nat → Nat} (hI : B.Inv [] hd) (ha : B.Agg) {i L R : Nat} {e : En} {tl tr : Tr} {ll lr : List En} (hon : B.σ.on i = true) (hn : (B.nd i).key = e.key ∧ (B.nd i).val = e.val ∧ (B.nd i).left = L ∧ (B.nd i).right = R)
    (hL : At B L tl ll) (hR : At B R tr lr) (hw : 3 * (ll.length + 1) < lr.length + 1) (hh : hv (ll.length + 1) (lr.length + 1)) (hsz : ll.length + lr.length + 1 ≤ 2147483647) :
    B.σ.on R = true ∧ 0 ≤ B.sz (B.nd R).left ∧ 0 ≤ B.sz (B.nd R).right ∧
    (sgl (ll.length : Int) (B.sz (B.nd R).left) (B.sz (B.nd R).right) = true → rform B 0 i = true ∧ ∀ C hd' j, B.Kept C → C.Inv [] hd' → C.Agg → RNodes B C 0 i j → ∃ t, At C j t (ll ++ e :: lr)) ∧
    (sgl (ll.length : Int) (B.sz (B.nd R).left) (B.sz (B.nd R).right) = false → rform B 2 i = true ∧ ∀ C hd' j, B.Kept C → C.Inv [] hd' → C.Agg → RNodes B C 2 i j → ∃ t, At C j t (ll ++ e :: lr)) := by
  obtain ⟨n1, n2, n3, n4⟩ := hn
  have hR0 : R ≠ 0 := fun h0 => by
    have := (hR.zero_iff (held := hd)).1 h0
    subst this
    simp at hw
  have hRon := hR.idx.resolve_left hR0
  obtain ⟨ta, tb, la, lb, rfl, rfl, hA, hB, hab⟩ := hR.split hR0
  have za := hA.sz ha
  have zb := hB.sz ha
  have hln : (la ++ (⟨(B.nd R).key, (B.nd R).val⟩ : En) :: lb).length + 1 = (la.length + 1) + (lb.length + 1) := by simp; omega
  rw [hln] at hw hh
  have hss : sgl (ll.length : Int) (B.sz (B.nd R).left) (B.sz (B.nd R).right) = true → wb (ll.length + 1) (la.length + 1) ∧ wb (ll.length + 1 + (la.length + 1)) (lb.length + 1) := fun q => by
    rw [za, zb] at q
    exact sgl_wb q
  have hdd : sgl (ll.length : Int) (B.sz (B.nd R).left) (B.sz (B.nd R).right) = false → 2 * (B.sz (B.nd R).right + 1) ≤ B.sz (B.nd R).left + 1 := fun q => by
    rcases Nat.lt_or_ge (la.length + 1) (2 * (lb.length + 1)) with hc | hc
    · obtain ⟨w1, w2⟩ := wb_single (l := ll.length + 1) (r := (la.length + 1) + (lb.length + 1)) (a := la.length + 1) (b := lb.length + 1) (by omega) (by omega) (by omega) rfl hab hw hh hc
      rw [za, zb, wb_sgl (by omega) w1 w2] at q
      cases q
    · omega
  refine ⟨hRon, by omega, by omega, fun hs => ?_, fun hs => ?_⟩
  · refine ⟨by unfold rform; rw [hon]; simp [n4, hR0], fun C hd' j hk hv' ha' hr => ?_⟩
    obtain ⟨z, j1, z1, m1, m2⟩ := hr
    rw [n4] at m1 m2
    obtain ⟨w1, w2⟩ := hss hs
    obtain ⟨a1, a2, a3, a4⟩ := m1
    obtain ⟨b1, b2, b3, b4⟩ := m2
    have hz := At.join ha' (z1.nz hv') z1.1 (e := e) (l := L) (r := (B.nd R).left) ⟨b1.trans n1, b2.trans n2, b3.trans n3, b4⟩ (hL.kept hk) (hA.kept hk) w1
    have hj := At.join ha' (j1.nz hv') j1.1 (e := ⟨(B.nd R).key, (B.nd R).val⟩) ⟨a1, a2, a3, a4⟩ hz (hB.kept hk) (by unfold wbL; rw [show (ll ++ e :: la).length + 1 = ll.length + 1 + (la.length + 1) by simp; omega]; exact w2)
    exact ⟨_, by rw [show ll ++ e :: (la ++ (⟨(B.nd R).key, (B.nd R).val⟩ : En) :: lb) = (ll ++ e :: la) ++ ⟨(B.nd R).key, (B.nd R).val⟩ :: lb by simp]; exact hj⟩
  · have hs := hdd hs
    have hA0 : (B.nd R).left ≠ 0 := fun h0 => by
      have := (hA.zero_iff (held := hd)).1 h0
      subst this
      simp at za
      omega
    have hAon := hA.idx.resolve_left hA0
    obtain ⟨tc, td, lc, ld, rfl, rfl, hC, hD, hcd⟩ := hA.split hA0
    have hln2 : (lc ++ (⟨(B.nd (B.nd R).left).key, (B.nd (B.nd R).left).val⟩ : En) :: ld).length + 1 = (lc.length + 1) + (ld.length + 1) := by simp; omega
    refine ⟨by unfold rform; rw [hon]; simp [n4, hR0, hA0], fun C hd' j hk hv' ha' hr => ?_⟩
    obtain ⟨y, z, hyz, j1, y1, z1, m1, m2, m3⟩ := hr
    rw [n4] at m1 m2 m3
    obtain ⟨w1, w2, w3⟩ := wb_double (l := ll.length + 1) (r := (lc.length + 1) + (ld.length + 1) + (lb.length + 1)) (a := (lc.length + 1) + (ld.length + 1)) (b := lb.length + 1) (c := lc.length + 1) (d := ld.length + 1) (by omega) (by omega) (by omega) (by omega) rfl (by rw [← hln2]; exact hab) (by rw [← hln2]; exact hw) (by rw [← hln2]; exact hh) (by rw [← hln2]; omega) hcd rfl
    obtain ⟨a1, a2, a3, a4⟩ := m1
    obtain ⟨b1, b2, b3, b4⟩ := m2
    obtain ⟨c1, c2, c3, c4⟩ := m3
    have hy := At.join ha' (y1.nz hv') y1.1 (e := e) (l := L) (r := (B.nd (B.nd R).left).left) ⟨b1.trans n1, b2.trans n2, b3.trans n3, b4⟩ (hL.kept hk) (hC.kept hk) w1
    have hz := At.join ha' (z1.nz hv') z1.1 (e := ⟨(B.nd R).key, (B.nd R).val⟩) ⟨c1, c2, c3, c4⟩ (hD.kept hk) (hB.kept hk) w2
    have hj := At.join ha' (j1.nz hv') j1.1 (e := ⟨(B.nd (B.nd R).left).key, (B.nd (B.nd R).left).val⟩) ⟨a1, a2, a3, a4⟩ hy hz (by unfold wbL; rw [show (ll ++ e :: lc).length + 1 = ll.length + 1 + (lc.length + 1) by simp; omega, show (ld ++ (⟨(B.nd R).key, (B.nd R).val⟩ : En) :: lb).length + 1 = ld.length + 1 + (lb.length + 1) by simp; omega]; exact w3)
    exact ⟨_, by rw [show ll ++ e :: ((lc ++ (⟨(B.nd (B.nd R).left).key, (B.nd (B.nd R).left).val⟩ : En) :: ld) ++ (⟨(B.nd R).key, (B.nd R).val⟩ : En) :: lb) = (ll ++ e :: lc) ++ ⟨(B.nd (B.nd R).left).key, (B.nd (B.nd R).left).val⟩ :: (ld ++ ⟨(B.nd R).key, (B.nd R).val⟩ :: lb) by simp]; exact hj⟩
/-- the left side is too heavy -/
theorem heavy_left {B : Ar} {hd : Nat → Nat} (hI : B.Inv [] hd) (ha : B.Agg) {i L R : Nat} {e : En} {tl tr : Tr} {ll lr : List En} (hon : B.σ.on i = true) (hn : (B.nd i).key = e.key ∧ (B.nd i).val = e.val ∧ (B.nd i).left = L ∧ (B.nd i).right = R)
    (hL : At B L tl ll) (hR : At B R tr lr) (hw : 3 * (lr.length + 1) < ll.length + 1) (hh : hv (lr.length + 1) (ll.length + 1)) (hsz : ll.length + lr.length + 1 ≤ 2147483647) :
    B.σ.on L = true ∧ 0 ≤ B.sz (B.nd L).left ∧ 0 ≤ B.sz (B.nd L).right ∧
    (sgl (lr.length : Int) (B.sz (B.nd L).right) (B.sz (B.nd L).left) = true → rform B 1 i = true ∧ ∀ C hd' j, B.Kept C → C.Inv [] hd' → C.Agg → RNodes B C 1 i j → ∃ t, At C j t (ll ++ e :: lr)) ∧
    (sgl (lr.length : Int) (B.sz (B.nd L).right) (B.sz (B.nd L).left) = false → rform B 3 i = true ∧ ∀ C hd' j, B.Kept C → C.Inv [] hd' → C.Agg → RNodes B C 3 i j → ∃ t, At C j t (ll ++ e :: lr)) := by
  obtain ⟨n1, n2, n3, n4⟩ := hn
  have hL0 : L ≠ 0 := fun h0 => by
    have := (hL.zero_iff (held := hd)).1 h0
    subst this
    simp at hw
  have hLon := hL.idx.resolve_left hL0
  obtain ⟨tb, ta, lb, la, rfl, rfl, hB, hA, hab⟩ := hL.split hL0
  have za := hA.sz ha
  have zb := hB.sz ha
  have hln : (lb ++ (⟨(B.nd L).key, (B.nd L).val⟩ : En) :: la).length + 1 = (la.length + 1) + (lb.length + 1) := by simp; omega
  rw [hln] at hw hh
  have hab' : wb (la.length + 1) (lb.length + 1) := wb.symm hab
  have hss : sgl (lr.length : Int) (B.sz (B.nd L).right) (B.sz (B.nd L).left) = true → wb (lr.length + 1) (la.length + 1) ∧ wb (lr.length + 1 + (la.length + 1)) (lb.length + 1) := fun q => by
    rw [za, zb] at q
    exact sgl_wb q
  have hdd : sgl (lr.length : Int) (B.sz (B.nd L).right) (B.sz (B.nd L).left) = false → 2 * (B.sz (B.nd L).left + 1) ≤ B.sz (B.nd L).right + 1 := fun q => by
    rcases Nat.lt_or_ge (la.length + 1) (2 * (lb.length + 1)) with hc | hc
    · obtain ⟨w1, w2⟩ := wb_single (l := lr.length + 1) (r := (la.length + 1) + (lb.length + 1)) (a := la.length + 1) (b := lb.length + 1) (by omega) (by omega) (by omega) rfl hab' hw hh hc
      rw [za, zb, wb_sgl (by omega) w1 w2] at q
      cases q
    · omega
  refine ⟨hLon, by omega, by omega, fun hs => ?_, fun hs => ?_⟩
  · refine ⟨by unfold rform; rw [hon]; simp [n3, hL0], fun C hd' j hk hv' ha' hr => ?_⟩
    obtain ⟨z, j1, z1, m1, m2⟩ := hr
    rw [n3] at m1 m2
    obtain ⟨w1, w2⟩ := hss hs
    obtain ⟨a1, a2, a3, a4⟩ := m1
    obtain ⟨b1, b2, b3, b4⟩ := m2
    have hz := At.join ha' (z1.nz hv') z1.1 (e := e) (l := (B.nd L).right) (r := R) ⟨b1.trans n1, b2.trans n2, b3, b4.trans n4⟩ (hA.kept hk) (hR.kept hk) (wb.symm w1)
    have hj := At.join ha' (j1.nz hv') j1.1 (e := ⟨(B.nd L).key, (B.nd L).val⟩) ⟨a1, a2, a3, a4⟩ (hB.kept hk) hz (by unfold wbL; rw [show (la ++ e :: lr).length + 1 = lr.length + 1 + (la.length + 1) by simp; omega]; exact wb.symm w2)
    exact ⟨_, by rw [show (lb ++ (⟨(B.nd L).key, (B.nd L).val⟩ : En) :: la) ++ e :: lr = lb ++ ⟨(B.nd L).key, (B.nd L).val⟩ :: (la ++ e :: lr) by simp]; exact hj⟩
  · have hs := hdd hs
    have hA0 : (B.nd L).right ≠ 0 := fun h0 => by
      have := (hA.zero_iff (held := hd)).1 h0
      subst this
      simp at za
      omega
    have hAon := hA.idx.resolve_left hA0
    obtain ⟨td, tc, ld, lc, rfl, rfl, hD, hC, hcd⟩ := hA.split hA0
    have hln2 : (ld ++ (⟨(B.nd (B.nd L).right).key, (B.nd (B.nd L).right).val⟩ : En) :: lc).length + 1 = (lc.length + 1) + (ld.length + 1) := by simp; omega
    refine ⟨by unfold rform; rw [hon]; simp [n3, hL0, hA0], fun C hd' j hk hv' ha' hr => ?_⟩
    obtain ⟨y, z, hyz, j1, y1, z1, m1, m2, m3⟩ := hr
    rw [n3] at m1 m2 m3
    obtain ⟨w1, w2, w3⟩ := wb_double (l := lr.length + 1) (r := (lc.length + 1) + (ld.length + 1) + (lb.length + 1)) (a := (lc.length + 1) + (ld.length + 1)) (b := lb.length + 1) (c := lc.length + 1) (d := ld.length + 1) (by omega) (by omega) (by omega) (by omega) rfl (by rw [← hln2]; exact hab') (by rw [← hln2]; exact hw) (by rw [← hln2]; exact hh) (by rw [← hln2]; omega) (wb.symm hcd) rfl
    obtain ⟨a1, a2, a3, a4⟩ := m1
    obtain ⟨b1, b2, b3, b4⟩ := m2
    obtain ⟨c1, c2, c3, c4⟩ := m3
    have hy := At.join ha' (y1.nz hv') y1.1 (e := ⟨(B.nd L).key, (B.nd L).val⟩) ⟨b1, b2, b3, b4⟩ (hB.kept hk) (hD.kept hk) (wb.symm w2)
    have hz := At.join ha' (z1.nz hv') z1.1 (e := e) (l := (B.nd (B.nd L).right).right) (r := R) ⟨c1.trans n1, c2.trans n2, c3, c4.trans n4⟩ (hC.kept hk) (hR.kept hk) (wb.symm w1)
    have hj := At.join ha' (j1.nz hv') j1.1 (e := ⟨(B.nd (B.nd L).right).key, (B.nd (B.nd L).right).val⟩) ⟨a1, a2, a3, a4⟩ hy hz (by unfold wbL; rw [show (lc ++ e :: lr).length + 1 = lr.length + 1 + (lc.length + 1) by simp; omega, show (lb ++ (⟨(B.nd L).key, (B.nd L).val⟩ : En) :: ld).length + 1 = ld.length + 1 + (lb.length + 1) by simp; omega]; exact wb.symm w3)
    exact ⟨_, by rw [show (lb ++ (⟨(B.nd L).key, (B.nd L).val⟩ : En) :: (ld ++ (⟨(B.nd (B.nd L).right).key, (B.nd (B.nd L).right).val⟩ : En) :: lc)) ++ e :: lr = (lb ++ ⟨(B.nd L).key, (B.nd L).val⟩ :: ld) ++ ⟨(B.nd (B.nd L).right).key, (B.nd (B.nd L).right).val⟩ :: (lc ++ e :: lr) by simp]; exact hj⟩
theorem xh_up {m n : Nat} (h : m ≤ n) (hn : n ≤ 2147483647) : xh m ≤ xh n := xh_le hn (by have := (xh_spec (n := m) (by omega)).1; omega)
/-- a third more keys: a level more -/
theorem xh_grow {c b : Nat} (h : 4 * (c + 1) ≤ 3 * (b + 1)) (hb : b ≤ 2147483647) : xh c + 1 ≤ xh b := by
  have h1 := (xh_spec (n := c) (by omega)).1
  have h2 := wt_pos (xh c)
  refine xh_le hb ?_
  rw [wt_succ]
  omega
/-- how many levels a join goes down on the left of a tree, the other one having n keys -/
def jdl (n : Nat) : Tr → Nat
  | .nil => 0
  | .node _ l r => if 3 * (n + 1) < l.size + r.size + 2 then 1 + jdl n l else 0
/-- on the right -/
def jdr (n : Nat) : Tr → Nat
  | .nil => 0
  | .node _ l r => if 3 * (n + 1) < l.size + r.size + 2 then 1 + jdr n r else 0
theorem jdl_le {n : Nat} : ∀ {t : Tr}, t.bal = true → t.size ≤ 2147483647 → jdl n t = 0 ∨ (3 * (n + 1) < t.size + 1 ∧ jdl n t + xh n ≤ xh t.size)
  | .nil, _, _ => .inl rfl
  | .node i l r, hb, hs => by
    unfold Tr.bal at hb
    simp only [Bool.and_eq_true] at hb
    have hw := bal_wb hb.1.1
    have hz : (Tr.node i l r).size = l.size + r.size + 1 := rfl
    rw [hz] at hs ⊢
    unfold jdl
    by_cases hc : 3 * (n + 1) < l.size + r.size + 2
    · rw [if_pos hc]
      right
      have h1 := xh_grow (c := l.size) (b := l.size + r.size + 1) (by have := hw.1; omega) hs
      have h2 := xh_grow (c := n) (b := l.size + r.size + 1) (by omega) hs
      refine ⟨by omega, ?_⟩
      rcases jdl_le (n := n) (t := l) hb.1.2 (by omega) with h | ⟨_, h⟩
      · rw [h]; omega
      · omega
    · rw [if_neg hc]; exact .inl rfl
theorem jdr_le {n : Nat} : ∀ {t : Tr}, t.bal = true → t.size ≤ 2147483647 → jdr n t = 0 ∨ (3 * (n + 1) < t.size + 1 ∧ jdr n t + xh n ≤ xh t.size)
  | .nil, _, _ => .inl rfl
  | .node i l r, hb, hs => by
    unfold Tr.bal at hb
    simp only [Bool.and_eq_true] at hb
    have hw := bal_wb hb.1.1
    have hz : (Tr.node i l r).size = l.size + r.size + 1 := rfl
    rw [hz] at hs ⊢
    unfold jdr
    by_cases hc : 3 * (n + 1) < l.size + r.size + 2
    · rw [if_pos hc]
      right
      have h1 := xh_grow (c := r.size) (b := l.size + r.size + 1) (by have := hw.2; omega) hs
      have h2 := xh_grow (c := n) (b := l.size + r.size + 1) (by omega) hs
      refine ⟨by omega, ?_⟩
      rcases jdr_le (n := n) (t := r) hb.2 (by omega) with h | ⟨_, h⟩
      · rw [h]; omega
      · omega
    · rw [if_neg hc]; exact .inl rfl
/-- the levels of a join of two trees -/
def jd (t u : Tr) : Nat := if 3 * (t.size + 1) < u.size + 1 then jdl t.size u else jdr u.size t
/-- a join goes down at most as far as the heights differ -/
theorem jd_le {t u : Tr} (ht : t.bal = true) (hu : u.bal = true) (hs : t.size + u.size ≤ 2147483647) :
    (wb (t.size + 1) (u.size + 1) ∧ jd t u = 0) ∨ (3 * (t.size + 1) < u.size + 1 ∧ jd t u + xh t.size ≤ xh u.size) ∨ (3 * (u.size + 1) < t.size + 1 ∧ jd t u + xh u.size ≤ xh t.size) := by
  unfold jd
  by_cases h1 : 3 * (t.size + 1) < u.size + 1
  · rw [if_pos h1]
    refine .inr (.inl ⟨h1, ?_⟩)
    rcases jdl_le (n := t.size) hu (by omega) with h | ⟨_, h⟩
    · rw [h]; have := xh_up (m := t.size) (n := u.size) (by omega) (by omega); omega
    · exact h
  · rw [if_neg h1]
    by_cases h2 : 3 * (u.size + 1) < t.size + 1
    · refine .inr (.inr ⟨h2, ?_⟩)
      rcases jdr_le (n := u.size) ht (by omega) with h | ⟨_, h⟩
      · rw [h]; have := xh_up (m := u.size) (n := t.size) (by omega) (by omega); omega
      · exact h
    · refine .inl ⟨⟨by omega, by omega⟩, ?_⟩
      rcases jdr_le (n := u.size) ht (by omega) with h | ⟨h, _⟩
      · exact h
      · omega
theorem jd_xh {t u : Tr} (ht : t.bal = true) (hu : u.bal = true) (hs : t.size + u.size + 1 ≤ 2147483647) : jd t u ≤ xh (t.size + u.size + 1) := by
  have h1 := xh_up (m := t.size) (n := t.size + u.size + 1) (by omega) hs
  have h2 := xh_up (m := u.size) (n := t.size + u.size + 1) (by omega) hs
  rcases jd_le ht hu (by omega) with ⟨_, h⟩ | ⟨_, h⟩ | ⟨_, h⟩ <;> omega
/-- one step of a split, the key on the left: the greater keys of the left child, t, are joined to the right child, u -/
theorem split_step_l {t u : Tr} {s lo h : Nat} (ht : t.bal = true) (hu : u.bal = true) (hs : t.size + u.size + 1 ≤ 2147483647) (hw : t.size + 1 ≤ 3 * (u.size + 1)) (h1 : s ≤ xh lo + xh t.size + h) :
    s + (jd t u + 1) ≤ xh lo + xh (t.size + u.size + 1) + (h + 1) := by
  have g1 := xh_up (m := t.size) (n := t.size + u.size + 1) (by omega) hs
  have g2 := xh_up (m := u.size) (n := t.size + u.size + 1) (by omega) hs
  rcases jd_le ht hu (by omega) with ⟨_, h⟩ | ⟨_, h⟩ | ⟨hc, h⟩ <;> omega
theorem split_step_r {t u : Tr} {s hi h : Nat} (ht : t.bal = true) (hu : u.bal = true) (hs : t.size + u.size + 1 ≤ 2147483647) (hw : u.size + 1 ≤ 3 * (t.size + 1)) (h1 : s ≤ xh u.size + xh hi + h) :
    s + (jd t u + 1) ≤ xh (t.size + u.size + 1) + xh hi + (h + 1) := by
  have g1 := xh_up (m := t.size) (n := t.size + u.size + 1) (by omega) hs
  have g2 := xh_up (m := u.size) (n := t.size + u.size + 1) (by omega) hs
  rcases jd_le ht hu (by omega) with ⟨_, h⟩ | ⟨hc, h⟩ | ⟨_, h⟩ <;> omega
theorem sum_zero' {l : List Nat} {f : Nat → Nat} (h : ∀ k ∈ l, f k = 0) : (l.map f).sum = 0 := by
  induction l with
  | nil => rfl
  | cons a t ih =>
    rw [List.map_cons, List.sum_cons, h a (by simp), ih fun k hk => h k (by simp [hk])]
theorem nd_len : ∀ {l m : List Nat}, l.Nodup → (∀ x ∈ l, x ∈ m) → l.length ≤ m.length
  | [], m, _, _ => Nat.zero_le _
  | a :: l, m, hn, hs => by
    rw [List.nodup_cons] at hn
    have h1 := nd_len (l := l) (m := m.erase a) hn.2 fun x hx => (List.mem_erase_of_ne fun e => hn.1 (by rw [← e]; exact hx)).2 (hs x (by simp [hx]))
    have ha := hs a (by simp)
    rw [List.length_erase_of_mem ha] at h1
    have h2 : 0 < m.length := List.length_pos_of_mem ha
    simp only [List.length_cons]
    omega
/-- nothing refers to i -/
def Alone (A : Ar) (i : Nat) : Prop := ∀ x, A.σ.on x = true → (A.nd x).left ≠ i ∧ (A.nd x).right ≠ i
theorem Alone.refs {A : Ar} {i : Nat} (h : Alone A i) : A.refs i = 0 := by
  unfold Ar.refs
  refine sum_zero' fun k _ => ?_
  unfold Ar.edge
  by_cases hk : A.σ.on k = true
  · rw [if_pos hk]
    unfold hit
    rw [if_neg (h k hk).1, if_neg (h k hk).2]
  · rw [if_neg hk]
theorem Alone.frees {A : Ar} {r : Nat} {held : Nat → Nat} (h : Alone A r) (hv : A.Inv [r] held) (ha : A.Agg) (h0 : r ≠ 0) (hon : A.σ.on r = true) (hh : held r = 0) : A.σ.free.length + 1 ≤ (A.gone r).σ.free.length := by
  obtain ⟨_, _, _, g4⟩ := Ar.gone_ok hv ha
  have hc : A.cnt r = 1 := by
    rw [hv.cnt r hon, h.refs, hh]
    simp
  have : 1 ≤ A.freed r := by
    show 1 ≤ (Ar.run (3 * A.σ.cap + 1) A [r]).2
    rw [Ar.run, if_neg h0, if_pos hc]
    exact Nat.succ_le_succ (Nat.zero_le _)
  omega
/-- a new node is alone -/
theorem alone_made {B : Ar} {hd : Nat → Nat} (hv : B.Inv [] hd) {i : Nat} {t : List Nat} (hf : B.σ.free = i :: t) {key val : Int} {l r : Nat} (hl : B.Idx l) (hr : B.Idx r) : Alone (B.made i t (B.node key val l r)) i := by
  have hi := (hv.ok.free i).1 (by rw [hf]; simp)
  have h0 : i ≠ 0 := by omega
  have hx : ∀ x, B.Idx x → x ≠ i := fun x q e => by
    subst e
    rcases q with q | q
    · exact h0 q
    · rw [hi.2.2] at q; cases q
  intro x hon
  by_cases e : x = i
  · subst e
    have e2 : (B.made x t (B.node key val l r)).nd x = B.node key val l r := if_pos rfl
    rw [e2]
    exact ⟨hx l hl, hx r hr⟩
  · have e2 : (B.made i t (B.node key val l r)).nd x = B.nd x := if_neg e
    have e3 : B.σ.on x = true := by
      have h1 : (B.σ.take i t).on x = true := hon
      unfold St.take at h1
      simpa [e] using h1
    rw [e2]
    exact ⟨hx _ (hv.child x e3).1, hx _ (hv.child x e3).2⟩
/-- the nodes that a rotation makes, and what they refer to -/
theorem RNodes.news {A B : Ar} {hd : Nat → Nat} {k i j : Nat} (hi : A.σ.on i = true) (hf : rform A k i = true) (hk : k < 4) (ha : B.Agg) (hv : A.Inv [] hd) (hv2 : B.Inv [] (more hd j)) (hr : RNodes A B k i j) :
    ∃ N : List Nat, N.Nodup ∧ N.length = rneed k ∧ ∀ x ∈ N, NewIn A B x ∧ ∀ y, (y = (B.nd x).left ∨ y = (B.nd x).right) → y ∈ N ∨ ∃ z, A.σ.on z = true ∧ (y = (A.nd z).left ∨ y = (A.nd z).right) := by
  have hne : ∀ {x y : Nat}, B.σ.on x = true → B.σ.on y = true → (y = (B.nd x).left ∨ y = (B.nd x).right) → x ≠ y := fun {x y} hx hy h e => by
    subst e
    have h1 := sz_child ha hx
    have hn := ha.size x hx
    have h0 : x ≠ 0 := by have := hv2.ok.on x hx; omega
    have hz : B.sz x = (B.nd x).size := by unfold Ar.sz; rw [if_neg h0]
    have c := hv2.child x hx
    have z1 := sz_nonneg ha c.1
    have z2 := sz_nonneg ha c.2
    rcases h with h | h
    · rw [← h, hz] at h1; omega
    · rw [← h, hz] at h1; omega
  unfold rform at hf
  rw [hi] at hf
  obtain rfl | rfl | rfl | rfl : k = 0 ∨ k = 1 ∨ k = 2 ∨ k = 3 := by omega
  · simp only [Bool.true_and, bne_iff_ne] at hf
    have hR := (hv.child i hi).2.resolve_left hf
    obtain ⟨z, n1, n2, ⟨_, _, l1, r1⟩, ⟨_, _, l2, r2⟩⟩ := hr
    refine ⟨[j, z], by simpa using hne n1.1 n2.1 (.inl l1.symm), rfl, fun x hx => ?_⟩
    simp only [List.mem_cons, List.not_mem_nil, or_false] at hx
    rcases hx with rfl | rfl
    · refine ⟨n1, fun y hy => ?_⟩
      rcases hy with rfl | rfl
      · rw [l1]; exact .inl (by simp)
      · rw [r1]; exact .inr ⟨_, hR, .inr rfl⟩
    · refine ⟨n2, fun y hy => ?_⟩
      rcases hy with rfl | rfl
      · rw [l2]; exact .inr ⟨_, hi, .inl rfl⟩
      · rw [r2]; exact .inr ⟨_, hR, .inl rfl⟩
  · simp only [Bool.true_and, bne_iff_ne] at hf
    have hR := (hv.child i hi).1.resolve_left hf
    obtain ⟨z, n1, n2, ⟨_, _, l1, r1⟩, ⟨_, _, l2, r2⟩⟩ := hr
    refine ⟨[j, z], by simpa using hne n1.1 n2.1 (.inr r1.symm), rfl, fun x hx => ?_⟩
    simp only [List.mem_cons, List.not_mem_nil, or_false] at hx
    rcases hx with rfl | rfl
    · refine ⟨n1, fun y hy => ?_⟩
      rcases hy with rfl | rfl
      · rw [l1]; exact .inr ⟨_, hR, .inl rfl⟩
      · rw [r1]; exact .inl (by simp)
    · refine ⟨n2, fun y hy => ?_⟩
      rcases hy with rfl | rfl
      · rw [l2]; exact .inr ⟨_, hR, .inr rfl⟩
      · rw [r2]; exact .inr ⟨_, hi, .inr rfl⟩
  · simp only [Bool.true_and, Bool.and_eq_true, bne_iff_ne] at hf
    have hR := (hv.child i hi).2.resolve_left hf.1
    have hQ := (hv.child _ hR).1.resolve_left hf.2
    obtain ⟨a, b, hab, n0, n1, n2, ⟨_, _, l0, r0⟩, ⟨_, _, l1, r1⟩, ⟨_, _, l2, r2⟩⟩ := hr
    have h1 := hne n0.1 n1.1 (.inl l0.symm)
    have h2 := hne n0.1 n2.1 (.inr r0.symm)
    refine ⟨[j, a, b], by simp [h1, h2, hab], rfl, fun x hx => ?_⟩
    simp only [List.mem_cons, List.not_mem_nil, or_false] at hx
    rcases hx with rfl | rfl | rfl
    · refine ⟨n0, fun y hy => ?_⟩
      rcases hy with rfl | rfl
      · rw [l0]; exact .inl (by simp)
      · rw [r0]; exact .inl (by simp)
    · refine ⟨n1, fun y hy => ?_⟩
      rcases hy with rfl | rfl
      · rw [l1]; exact .inr ⟨_, hi, .inl rfl⟩
      · rw [r1]; exact .inr ⟨_, hQ, .inl rfl⟩
    · refine ⟨n2, fun y hy => ?_⟩
      rcases hy with rfl | rfl
      · rw [l2]; exact .inr ⟨_, hQ, .inr rfl⟩
      · rw [r2]; exact .inr ⟨_, hR, .inr rfl⟩
  · simp only [Bool.true_and, Bool.and_eq_true, bne_iff_ne] at hf
    have hR := (hv.child i hi).1.resolve_left hf.1
    have hQ := (hv.child _ hR).2.resolve_left hf.2
    obtain ⟨a, b, hab, n0, n1, n2, ⟨_, _, l0, r0⟩, ⟨_, _, l1, r1⟩, ⟨_, _, l2, r2⟩⟩ := hr
    have h1 := hne n0.1 n1.1 (.inl l0.symm)
    have h2 := hne n0.1 n2.1 (.inr r0.symm)
    refine ⟨[j, a, b], by simp [h1, h2, hab], rfl, fun x hx => ?_⟩
    simp only [List.mem_cons, List.not_mem_nil, or_false] at hx
    rcases hx with rfl | rfl | rfl
    · refine ⟨n0, fun y hy => ?_⟩
      rcases hy with rfl | rfl
      · rw [l0]; exact .inl (by simp)
      · rw [r0]; exact .inl (by simp)
    · refine ⟨n1, fun y hy => ?_⟩
      rcases hy with rfl | rfl
      · rw [l1]; exact .inr ⟨_, hR, .inl rfl⟩
      · rw [r1]; exact .inr ⟨_, hQ, .inl rfl⟩
    · refine ⟨n2, fun y hy => ?_⟩
      rcases hy with rfl | rfl
      · rw [l2]; exact .inr ⟨_, hQ, .inr rfl⟩
      · rw [r2]; exact .inr ⟨_, hi, .inr rfl⟩
/-- after a rotation nothing refers to the root that was rotated, if nothing did before -/
theorem rot_alone {A B : Ar} {hd : Nat → Nat} {k i j : Nat} (hp : Alone A i) (hv : A.Inv [] hd) (hi : A.σ.on i = true) (hf : rform A k i = true) (hk : k < 4) (ht : Turned A hd B j (rneed k)) (hr : RNodes A B k i j) : Alone B i := by
  obtain ⟨N, n1, n2, n3⟩ := hr.news hi hf hk ht.agg hv ht.inv
  intro x hx
  by_cases hA : A.σ.on x = true
  · rw [ht.kept.nd x hA]; exact hp x hA
  · have hoff : A.σ.on x = false := by simpa using hA
    have hmem : x ∈ N := by
      by_cases hm : x ∈ N
      · exact hm
      · exfalso
        have hin : ∀ y, B.σ.on y = true → A.σ.on y = false → y ∈ A.σ.free := fun y h1 h2 => by
          have := ht.inv.ok.on y h1
          exact (hv.ok.free y).2 (by rw [← ht.kept.cap]; exact ⟨this.1, this.2, h2⟩)
        have hsub : ∀ y ∈ x :: (N ++ B.σ.free), y ∈ A.σ.free := fun y hy => by
          rcases List.mem_cons.1 hy with rfl | hy
          · exact hin _ hx hoff
          · rcases List.mem_append.1 hy with hy | hy
            · exact hin _ (n3 y hy).1.1 (n3 y hy).1.2
            · have h1 := (ht.inv.ok.free y).1 hy
              refine (hv.ok.free y).2 ⟨h1.1, by rw [← ht.kept.cap]; exact h1.2.1, ?_⟩
              cases ho : A.σ.on y
              · rfl
              · have h3 := ht.kept.on y ho
                rw [h1.2.2] at h3
                cases h3
        have hnb : ∀ y, B.σ.on y = true → y ∉ B.σ.free := fun y h1 h2 => by
          have h3 := ((ht.inv.ok.free y).1 h2).2.2
          rw [h1] at h3
          cases h3
        have hnd : (x :: (N ++ B.σ.free)).Nodup := by
          rw [List.nodup_cons, List.nodup_append]
          refine ⟨fun h => ?_, n1, ht.inv.ok.nodup, fun a h1 b h2 e => ?_⟩
          · rcases List.mem_append.1 h with h | h
            · exact hm h
            · exact hnb x hx h
          · subst e
            exact hnb a (n3 a h1).1.1 h2
        have h1 := nd_len hnd hsub
        have h2 := ht.free
        simp only [List.length_cons, List.length_append] at h1
        omega
    have h1 := (n3 x hmem).2
    refine ⟨fun e => ?_, fun e => ?_⟩
    · rcases h1 _ (.inl rfl) with h2 | ⟨z, hz, h2⟩
      · have h3 := (n3 _ h2).1.2
        rw [e, hi] at h3
        cases h3
      · rw [e] at h2
        rcases h2 with h2 | h2
        · exact (hp z hz).1 h2.symm
        · exact (hp z hz).2 h2.symm
    · rcases h1 _ (.inr rfl) with h2 | ⟨z, hz, h2⟩
      · have h3 := (n3 _ h2).1.2
        rw [e, hi] at h3
        cases h3
      · rw [e] at h2
        rcases h2 with h2 | h2
        · exact (hp z hz).1 h2.symm
        · exact (hp z hz).2 h2.symm
/-- the nodes that are made where the first entry goes -/
def lossN : Tr → Nat
  | .nil => 0
  | .node _ l u => lossN l + if l.size = 0 then 0 else if 3 * l.size < u.size + 1 then 3 else 1
/-- four times the keys: three levels more -/
theorem xh_four {c b : Nat} (h : 4 * (c + 1) ≤ b + 3) (h0 : 1 ≤ c) (hb : b ≤ 2147483647) : xh c + 3 ≤ xh b := by
  have h1 := (xh_spec (n := c) (by omega)).1
  have hp : 1 ≤ xh c := xh_le (by omega) (by show 2 - 1 ≤ c; omega)
  have h2 : 2 ≤ wt (xh c) := by
    have := wt_mono (h := 1) (k := xh c) hp
    exact this
  refine xh_le hb ?_
  rw [wt_succ, wt_succ, wt_succ]
  omega
theorem lossN_le : ∀ {t : Tr}, t.bal = true → t.size ≤ 2147483647 → lossN t ≤ xh t.size
  | .nil, _, _ => Nat.zero_le _
  | .node k l u, hb, hs => by
    unfold Tr.bal at hb
    simp only [Bool.and_eq_true] at hb
    have hw := bal_wb hb.1.1
    have e2 : (Tr.node k l u).size = l.size + u.size + 1 := rfl
    rw [e2] at hs ⊢
    have h1 := lossN_le (t := l) hb.1.2 (by omega)
    show lossN l + (if l.size = 0 then 0 else if 3 * l.size < u.size + 1 then 3 else 1) ≤ _
    by_cases h0 : l.size = 0
    · rw [if_pos h0]
      have := xh_up (m := l.size) (n := l.size + u.size + 1) (by omega) hs
      omega
    rw [if_neg h0]
    by_cases hc : 3 * l.size < u.size + 1
    · rw [if_pos hc]
      have := xh_four (c := l.size) (b := l.size + u.size + 1) (by omega) (by omega) hs
      omega
    · rw [if_neg hc]
      have := xh_grow (c := l.size) (b := l.size + u.size + 1) (by have := hw.1; omega) hs
      omega
open Go.RowKit
section
variable {w0 w w' : World} {D : List (Nat × Nd)} {a b c : Nat} {X Y Z Y1 Y2 Y3 : Nd}
/-- a world with eight cells written -/
def put8 (w : World) (a : Nat) (Y : Nd) : World := ((((((((w.setCell ⟨a, 0, none⟩ (.int .i64 Y.key)).setCell ⟨a, 1, none⟩ (.int .i64 Y.val)).setCell ⟨a, 2, none⟩ (.int .u32 (Y.left : Int))).setCell ⟨a, 3, none⟩ (.int .u32 (Y.right : Int))).setCell ⟨a, 4, none⟩ (.int .i64 Y.size)).setCell ⟨a, 5, none⟩ (.int .i64 Y.sum)).setCell ⟨a, 6, none⟩ (.int .i64 Y.mn)).setCell ⟨a, 7, none⟩ (.int .i64 Y.mx))
theorem put8_size (w : World) (g : Nat) (Y : Nd) : (put8 w g Y).heap.size = w.heap.size := by simp [put8, World.setCell]
theorem put8_other (w : World) (g : Nat) (Y : Nd) {k : Nat} (hk : k ≠ g) : (put8 w g Y).heap[k]? = w.heap[k]? := by
  unfold put8
  rw [heap_setCell_other _ _ _ _ hk, heap_setCell_other _ _ _ _ hk, heap_setCell_other _ _ _ _ hk, heap_setCell_other _ _ _ _ hk, heap_setCell_other _ _ _ _ hk, heap_setCell_other _ _ _ _ hk, heap_setCell_other _ _ _ _ hk, heap_setCell_other _ _ _ _ hk]
theorem put8_same {t : TypeId} (h : w.heap[a]? = some (.cells (ndRow X) t (0, 0))) : (put8 w a Y).heap[a]? = some (.cells (ndRow Y) t (0, 0)) := by
  have h0 : (w.setCell ⟨a, 0, none⟩ (.int .i64 Y.key)).heap[a]? = some (.cells #[Value.int .i64 Y.key, .int .i64 X.val, .int .u32 (X.left : Int), .int .u32 (X.right : Int), .int .i64 X.size, .int .i64 X.sum, .int .i64 X.mn, .int .i64 X.mx] t (0, 0)) := by rw [heap_setCell_same _ _ _ _ _ _ h]; rfl
  have h1 : ((w.setCell ⟨a, 0, none⟩ (.int .i64 Y.key)).setCell ⟨a, 1, none⟩ (.int .i64 Y.val)).heap[a]? = some (.cells #[Value.int .i64 Y.key, .int .i64 Y.val, .int .u32 (X.left : Int), .int .u32 (X.right : Int), .int .i64 X.size, .int .i64 X.sum, .int .i64 X.mn, .int .i64 X.mx] t (0, 0)) := by rw [heap_setCell_same _ _ _ _ _ _ h0]; rfl
  have h2 : (((w.setCell ⟨a, 0, none⟩ (.int .i64 Y.key)).setCell ⟨a, 1, none⟩ (.int .i64 Y.val)).setCell ⟨a, 2, none⟩ (.int .u32 (Y.left : Int))).heap[a]? = some (.cells #[Value.int .i64 Y.key, .int .i64 Y.val, .int .u32 (Y.left : Int), .int .u32 (X.right : Int), .int .i64 X.size, .int .i64 X.sum, .int .i64 X.mn, .int .i64 X.mx] t (0, 0)) := by rw [heap_setCell_same _ _ _ _ _ _ h1]; rfl
  have h3 : ((((w.setCell ⟨a, 0, none⟩ (.int .i64 Y.key)).setCell ⟨a, 1, none⟩ (.int .i64 Y.val)).setCell ⟨a, 2, none⟩ (.int .u32 (Y.left : Int))).setCell ⟨a, 3, none⟩ (.int .u32 (Y.right : Int))).heap[a]? = some (.cells #[Value.int .i64 Y.key, .int .i64 Y.val, .int .u32 (Y.left : Int), .int .u32 (Y.right : Int), .int .i64 X.size, .int .i64 X.sum, .int .i64 X.mn, .int .i64 X.mx] t (0, 0)) := by rw [heap_setCell_same _ _ _ _ _ _ h2]; rfl
  have h4 : (((((w.setCell ⟨a, 0, none⟩ (.int .i64 Y.key)).setCell ⟨a, 1, none⟩ (.int .i64 Y.val)).setCell ⟨a, 2, none⟩ (.int .u32 (Y.left : Int))).setCell ⟨a, 3, none⟩ (.int .u32 (Y.right : Int))).setCell ⟨a, 4, none⟩ (.int .i64 Y.size)).heap[a]? = some (.cells #[Value.int .i64 Y.key, .int .i64 Y.val, .int .u32 (Y.left : Int), .int .u32 (Y.right : Int), .int .i64 Y.size, .int .i64 X.sum, .int .i64 X.mn, .int .i64 X.mx] t (0, 0)) := by rw [heap_setCell_same _ _ _ _ _ _ h3]; rfl
  have h5 : ((((((w.setCell ⟨a, 0, none⟩ (.int .i64 Y.key)).setCell ⟨a, 1, none⟩ (.int .i64 Y.val)).setCell ⟨a, 2, none⟩ (.int .u32 (Y.left : Int))).setCell ⟨a, 3, none⟩ (.int .u32 (Y.right : Int))).setCell ⟨a, 4, none⟩ (.int .i64 Y.size)).setCell ⟨a, 5, none⟩ (.int .i64 Y.sum)).heap[a]? = some (.cells #[Value.int .i64 Y.key, .int .i64 Y.val, .int .u32 (Y.left : Int), .int .u32 (Y.right : Int), .int .i64 Y.size, .int .i64 Y.sum, .int .i64 X.mn, .int .i64 X.mx] t (0, 0)) := by rw [heap_setCell_same _ _ _ _ _ _ h4]; rfl
  have h6 : (((((((w.setCell ⟨a, 0, none⟩ (.int .i64 Y.key)).setCell ⟨a, 1, none⟩ (.int .i64 Y.val)).setCell ⟨a, 2, none⟩ (.int .u32 (Y.left : Int))).setCell ⟨a, 3, none⟩ (.int .u32 (Y.right : Int))).setCell ⟨a, 4, none⟩ (.int .i64 Y.size)).setCell ⟨a, 5, none⟩ (.int .i64 Y.sum)).setCell ⟨a, 6, none⟩ (.int .i64 Y.mn)).heap[a]? = some (.cells #[Value.int .i64 Y.key, .int .i64 Y.val, .int .u32 (Y.left : Int), .int .u32 (Y.right : Int), .int .i64 Y.size, .int .i64 Y.sum, .int .i64 Y.mn, .int .i64 X.mx] t (0, 0)) := by rw [heap_setCell_same _ _ _ _ _ _ h5]; rfl
  have h7 : ((((((((w.setCell ⟨a, 0, none⟩ (.int .i64 Y.key)).setCell ⟨a, 1, none⟩ (.int .i64 Y.val)).setCell ⟨a, 2, none⟩ (.int .u32 (Y.left : Int))).setCell ⟨a, 3, none⟩ (.int .u32 (Y.right : Int))).setCell ⟨a, 4, none⟩ (.int .i64 Y.size)).setCell ⟨a, 5, none⟩ (.int .i64 Y.sum)).setCell ⟨a, 6, none⟩ (.int .i64 Y.mn)).setCell ⟨a, 7, none⟩ (.int .i64 Y.mx)).heap[a]? = some (.cells #[Value.int .i64 Y.key, .int .i64 Y.val, .int .u32 (Y.left : Int), .int .u32 (Y.right : Int), .int .i64 Y.size, .int .i64 Y.sum, .int .i64 Y.mn, .int .i64 Y.mx] t (0, 0)) := by rw [heap_setCell_same _ _ _ _ _ _ h6]; rfl
  exact h7
theorem put8_below {n0 : Nat} (hw : n0 ≤ a) : Below n0 w (put8 w a Y) := (((((((((Below.refl _ _).setCell hw _).setCell hw _).setCell hw _).setCell hw _).setCell hw _).setCell hw _).setCell hw _).setCell hw _)
/-- eight cells and their marks -/
def Row8 (w : World) (a : Nat) (X : Nd) : Prop :=
  (w.cell? ⟨a, 0, none⟩ = some (.int .i64 X.key) ∧ w.cell? ⟨a, 1, none⟩ = some (.int .i64 X.val) ∧ w.cell? ⟨a, 2, none⟩ = some (.int .u32 (X.left : Int)) ∧ w.cell? ⟨a, 3, none⟩ = some (.int .u32 (X.right : Int)) ∧ w.cell? ⟨a, 4, none⟩ = some (.int .i64 X.size) ∧ w.cell? ⟨a, 5, none⟩ = some (.int .i64 X.sum) ∧ w.cell? ⟨a, 6, none⟩ = some (.int .i64 X.mn) ∧ w.cell? ⟨a, 7, none⟩ = some (.int .i64 X.mx)) ∧
  (w.frozen? ⟨a, 0, none⟩ = false ∧ w.frozen? ⟨a, 1, none⟩ = false ∧ w.frozen? ⟨a, 2, none⟩ = false ∧ w.frozen? ⟨a, 3, none⟩ = false ∧ w.frozen? ⟨a, 4, none⟩ = false ∧ w.frozen? ⟨a, 5, none⟩ = false ∧ w.frozen? ⟨a, 6, none⟩ = false ∧ w.frozen? ⟨a, 7, none⟩ = false)
theorem row8_of {t : TypeId} (h : w.heap[a]? = some (.cells (ndRow X) t (0, 0))) : Row8 w a X :=
  ⟨⟨(by rw [cell_of_row _ _ _ _ _ _ h]; rfl), (by rw [cell_of_row _ _ _ _ _ _ h]; rfl), (by rw [cell_of_row _ _ _ _ _ _ h]; rfl), (by rw [cell_of_row _ _ _ _ _ _ h]; rfl), (by rw [cell_of_row _ _ _ _ _ _ h]; rfl), (by rw [cell_of_row _ _ _ _ _ _ h]; rfl), (by rw [cell_of_row _ _ _ _ _ _ h]; rfl), (by rw [cell_of_row _ _ _ _ _ _ h]; rfl)⟩,
   ⟨frozen_of_row w a 0 _ _ h, frozen_of_row w a 1 _ _ h, frozen_of_row w a 2 _ _ h, frozen_of_row w a 3 _ _ h, frozen_of_row w a 4 _ _ h, frozen_of_row w a 5 _ _ h, frozen_of_row w a 6 _ _ h, frozen_of_row w a 7 _ _ h⟩⟩
theorem sz_al (w : World) (o : Obj) : (w.alloc o).heap.size = w.heap.size + 1 := by simp
end
end Go.Proofs.YtfihklpofmcfgaaGreat
