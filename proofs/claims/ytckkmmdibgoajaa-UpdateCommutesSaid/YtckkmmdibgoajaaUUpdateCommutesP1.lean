/- Of the proof of UUpdateCommutesP: Scene, UpPl0, SameDump, JnDuo, Hld, RefSame, LawUpCom. -/
import Derived.Test.YtckkmmdibgoajaaU1
import Derived.Test.YtckkmmdibgoajaaU2
import Derived.Test.YtckkmmdibgoajaaU3
import Derived.Test.YtckkmmdibgoajaaU4
import Derived.Test.YtckkmmdibgoajaaU5
import Derived.Test.YtckkmmdibgoajaaU6
import Derived.Test.YtckkmmdibgoajaaU10
import Derived.Test.YtckkmmdibgoajaaU11
import Derived.Test.YtckkmmdibgoajaaU12
import Derived.Test.YtckkmmdibgoajaaU13
import Derived.Test.YtckkmmdibgoajaaU16
import Derived.Deep.DeepCutAuto
import Derived.Deep.QuietTactic
import Derived.Deep.RegionHeld3
set_option linter.unusedVariables false
set_option linter.unusedSimpArgs false
namespace Go.Proofs.Ytckkmmdibgoajaa
open Go.RowKit
section
variable {I : AImpl} {B : Nat} {w0 w w' : World} {p : Value} {A : Ar} {rd rd' : Int} {rs : List Row} {bs : List (Nat × Obj)}
/-- the first box is written anew -/
theorem Scn.set {g : Nat} {o o' : Obj} (h : Scn I B w0 w p A rd rs ((g, o) :: bs)) (hw : w'.heap[g]? = some o') (ho : w'.os = w.os ∧ w'.tape = w.tape ∧ w'.output = w.output ∧ w'.heap.size = w.heap.size ∧ ∀ k, k ≠ g → w'.heap[k]? = w.heap[k]?) :
    Scn I B w0 w' p A rd rs ((g, o') :: bs) := by
  obtain ⟨o1, o2, o3, o4, o5⟩ := ho
  obtain ⟨F, f1, f2, f3⟩ := h.mr.has
  obtain ⟨h1, h2⟩ := List.pairwise_cons.1 h.bb
  have hgB : B ≤ g := (h.boxes (g, o) (by simp)).1
  refine ⟨⟨⟨F, I.keep f1 fun k hk => o5 k fun e => (f3 g (.inr ⟨(g, o), by simp, rfl⟩)).2 (e ▸ hk), f2, fun k hk => ?_⟩, h.mr.below.trans ⟨o1, o2, o3, Nat.le_of_eq o4.symm, fun k hk => o5 k (by omega)⟩, by rw [o4]; exact h.mr.hB⟩, fun r hr => row_keep (h.rows r hr) fun k hk => o5 k fun e => h.rb r hr (g, o) (by simp) (e ▸ hk), fun b hb => ?_, h.rr, List.pairwise_cons.2 ⟨h1, h2⟩, fun r hr b hb => ?_⟩
  · have : SG rs ((g, o) :: bs) k := by
      rcases hk with hk | ⟨b, hb, rfl⟩
      · exact .inl hk
      · rcases List.mem_cons.1 hb with rfl | hb
        · exact .inr ⟨(g, o), by simp, rfl⟩
        · exact .inr ⟨b, by simp [hb], rfl⟩
    exact ⟨by rw [o4]; exact (f3 k this).1, (f3 k this).2⟩
  · rcases List.mem_cons.1 hb with rfl | hb
    · exact ⟨hgB, hw⟩
    · exact ⟨(h.boxes b (by simp [hb])).1, (o5 b.1 (fun e => h1 b hb e.symm)).trans (h.boxes b (by simp [hb])).2⟩
  · rcases List.mem_cons.1 hb with rfl | hb
    · exact h.rb r hr (g, o) (by simp)
    · exact h.rb r hr b (by simp [hb])
end
end Go.Proofs.Ytckkmmdibgoajaa
set_option linter.unusedVariables false
set_option linter.unusedSimpArgs false
namespace Go.Proofs.Ytckkmmdibgoajaa
theorem ins_comm {l : List En} (hu : Up l) {e f : En} (h : e.key ≠ f.key) : insE (insE l e) f = insE (insE l f) e := by
  refine up_ext (insE_up f (insE_up e hu)) (insE_up e (insE_up f hu)) fun y => ?_
  rw [ins_mem, ins_mem, ins_mem, ins_mem]
  constructor
  · rintro (rfl | ⟨rfl | ⟨h1, h2⟩, h3⟩)
    · exact .inr ⟨.inl rfl, fun e => h e.symm⟩
    · exact .inl rfl
    · exact .inr ⟨.inr ⟨h1, h3⟩, h2⟩
  · rintro (rfl | ⟨rfl | ⟨h1, h2⟩, h3⟩)
    · exact .inr ⟨.inl rfl, h⟩
    · exact .inl rfl
    · exact .inr ⟨.inr ⟨h1, h3⟩, h2⟩
theorem out_ins {l : List En} (hu : Up l) {e : En} (h : getE l e.key = none) : outE (insE l e) e.key e.key = l := by
  refine up_ext (out_up0 (insE_up e hu) _ _) hu fun y => ?_
  rw [out_mem, ins_mem]
  constructor
  · rintro ⟨rfl | ⟨h1, _⟩, h2⟩
    · exact absurd rfl h2
    · exact h1
  · intro hy
    have hne : y.key ≠ e.key := fun hk => by
      have := getE_found0 hu hy
      rw [hk, h] at this
      cases this
    exact ⟨.inr ⟨hy, hne⟩, hne⟩
end Go.Proofs.Ytckkmmdibgoajaa
set_option linter.unusedVariables false
namespace Go.Proofs.Ytckkmmdibgoajaa
open Go.RowKit
theorem heap_two_old (w : World) (o o' : Obj) : ((w.alloc o).alloc o').heap[w.heap.size]? = (w.alloc o).heap[w.heap.size]? := (below_new7 (w.alloc o) o').block _ (by simp)
end Go.Proofs.Ytckkmmdibgoajaa
set_option linter.unusedVariables false
set_option linter.unusedSimpArgs false
namespace Go.Proofs.Ytckkmmdibgoajaa
open Go.RowKit
end Go.Proofs.Ytckkmmdibgoajaa
set_option linter.unusedVariables false
set_option linter.unusedSimpArgs false
namespace Go.Proofs.Ytckkmmdibgoajaa
open Go.RowKit
end Go.Proofs.Ytckkmmdibgoajaa
set_option linter.unusedVariables false
set_option linter.unusedSimpArgs false
namespace Go.Proofs.Ytckkmmdibgoajaa
open Go.RowKit
theorem Scn.init2 {I : AImpl} {n c : Nat} {w w1 w2 : World} {p : Value} {A : Ar} {rd : Int} {F : Nat → Prop} {a : Option Addr} {xs : List Value} {ty : TypeId} {s : Nat} (hI : I.Is w2 p A rd F) (hF : ∀ k, F k → w1.heap.size ≤ k) (hb : Below w1.heap.size w1 w2) (hb1 : Below w.heap.size w w1) (hr : w1.ownsRow w.heap.size ty s (.slice a n c) n xs) :
    Scn I w.heap.size w w2 p A rd [⟨ty, s, .slice a n c, n, xs⟩] [] := by
  refine ⟨⟨⟨F, hI, fun k hk => Nat.le_trans hb1.size (hF k hk), fun k hk => ?_⟩, hb1.trans (hb.mono hb1.size), Nat.le_trans hb1.size hb.size⟩, fun r hr' => ?_, fun b hb' => (by cases hb'), ?_, List.Pairwise.nil, fun r hr' b hb' => (by cases hb')⟩
  · rcases hk with ⟨r, hr', hk⟩ | ⟨b, hb', _⟩
    · simp at hr'
      subst hr'
      have h1 := row_lt hr k hk
      exact ⟨Nat.lt_of_lt_of_le h1.2 hb.size, fun hF' => by have := hF k hF'; omega⟩
    · cases hb'
  · simp at hr'
    subst hr'
    exact row_below hr hb
  · exact List.pairwise_singleton _ _
end Go.Proofs.Ytckkmmdibgoajaa
set_option linter.unusedVariables false
set_option linter.unusedSimpArgs false
namespace Go.Proofs.Ytckkmmdibgoajaa
open Go.RowKit
structure Hld (A : Ar) (R : List Nat) (T : List Tr) (N : Nat) : Prop where
  inv : A.Inv [] (hof R)
  agg : A.Agg
  roots : ∀ x ∈ R, ∃ t ∈ T, Sub A x t
  cap : A.σ.cap = N
theorem Hld.free {A : Ar} {R : List Nat} {T : List Tr} {N : Nat} (h : Hld A R T N) : N ≤ A.σ.free.length + (T.map Tr.size).sum := by rw [← h.cap]; exact h.inv.used h.agg h.roots
theorem Hld.got {A B : Ar} {R : List Nat} {T : List Tr} {N j : Nat} {u : Tr} {l : List En} (h : Hld A R T N) (hg : Got A (hof R) B j u l) : Hld B (R ++ [j]) (T ++ [u]) N :=
  ⟨by have := hg.inv; rw [hof_pls] at this; exact this, hg.agg, fun x hx => by
    rcases List.mem_append.1 hx with hx | hx
    · obtain ⟨t, ht, hs⟩ := h.roots x hx
      exact ⟨t, List.mem_append_left _ ht, hs.kept hg.kept⟩
    · simp at hx
      subst hx
      exact ⟨u, by simp, hg.sub⟩, hg.kept.cap.trans h.cap⟩
theorem Hld.small {A : Ar} {R : List Nat} {T : List Tr} {N : Nat} (h : Hld A R T N) (hr : R.length ≤ 1000) (j : Nat) : hof R j ≤ 1048000 := by have := hof_le R j; omega
theorem Scn.initN {I : AImpl} {n c : Nat} {w wa w1 w2 : World} {p : Value} {A : Ar} {rd : Int} {F : Nat → Prop} {a : Option Addr} {xs : List Value} {ty : TypeId} {s : Nat} {bs : List (Nat × Obj)} (hI : I.Is w2 p A rd F) (hF : ∀ k, F k → w1.heap.size ≤ k) (hb : Below w1.heap.size w1 w2) (hb1 : Below wa.heap.size wa w1) (hba : Below w.heap.size w wa) (hr : w1.ownsRow wa.heap.size ty s (.slice a n c) n xs) (hg : ∀ b ∈ bs, w.heap.size ≤ b.1 ∧ wa.heap[b.1]? = some b.2) (hbb : bs.Pairwise fun x y => x.1 ≠ y.1) :
    Scn I w.heap.size w w2 p A rd [⟨ty, s, .slice a n c, n, xs⟩] bs := by
  have hga : ∀ b ∈ bs, b.1 < wa.heap.size := fun b h => (Array.getElem?_eq_some_iff.1 (hg b h).2).1
  have h1 := Scn.init2 (w := wa) hI hF hb hb1 hr
  refine ⟨⟨⟨F, hI, fun k hk => Nat.le_trans hba.size (Nat.le_trans hb1.size (hF k hk)), fun k hk => ?_⟩, hba.trans ((hb1.trans (hb.mono hb1.size)).mono hba.size), Nat.le_trans hba.size (Nat.le_trans hb1.size hb.size)⟩, fun r hr' => row_mono (h1.rows r hr') hba.size, fun b hb' => ⟨(hg b hb').1, ?_⟩, h1.rr, hbb, fun r hr' b hb' => ?_⟩
  · rcases hk with ⟨r, hr', hk⟩ | ⟨b, hb', rfl⟩
    · simp at hr'
      subst hr'
      have h2 := row_lt hr k hk
      exact ⟨Nat.lt_of_lt_of_le h2.2 hb.size, fun hF' => by have := hF k hF'; omega⟩
    · have h3 := hga b hb'
      exact ⟨Nat.lt_of_lt_of_le h3 (Nat.le_trans hb1.size hb.size), fun hF' => by have := hF b.1 hF'; have := hb1.size; omega⟩
  · have h3 := hga b hb'
    exact (hb.block b.1 (Nat.lt_of_lt_of_le h3 hb1.size)).trans ((hb1.block b.1 h3).trans (hg b hb').2)
  · simp at hr'
    subst hr'
    intro e
    have h2 := row_lt hr b.1 e
    have h3 := hga b hb'
    omega
theorem Scn.store0 {I : AImpl} {B : Nat} {w0 w : World} {p : Value} {A : Ar} {rd : Int} {rs : List Row} {bs : List (Nat × Obj)} {g : Nat} {x0 y0 : Value} {t : TypeId} (h : Scn I B w0 w p A rd rs ((g, .cells #[x0, y0] t (0, 0)) :: bs)) (x : Value) :
    Scn I B w0 (w.setCell ⟨g, 0, none⟩ x) p A rd rs ((g, .cells #[x, y0] t (0, 0)) :: bs) :=
  h.set (by rw [heap_setCell_same w g 0 _ _ _ (h.boxes (g, .cells #[x0, y0] t (0, 0)) (by simp)).2]; rfl) ⟨rfl, rfl, rfl, by simp [World.setCell], fun k hk => heap_setCell_other _ _ _ _ hk⟩
end Go.Proofs.Ytckkmmdibgoajaa
set_option linter.unusedVariables false
set_option linter.unusedSimpArgs false
namespace Go.Proofs.Ytckkmmdibgoajaa
open Go.RowKit
set_option maxHeartbeats 2000000 in
set_option maxRecDepth 100000 in
theorem same_ens {w : World} {a b : Option Addr} {n c d : Nat} {l : List En} (h : EnsAt w a l) (h' : EnsAt w b l) (hn : l.length = n) (hl : n ≤ 1000000) :
    Calls Try.prog 29 #[.slice a n c, .slice b n d] w (Calm w (.bool true)) := by
  have hni : (n : Int) ≤ 1000000 := by omega
  have HH := Lib.hid h
  have HH' := Lib.hid h'
  have HN := Lib.hid hn
  clear h h' hn
  go_enter Try.func29, Try.ntmps29
  go_wp2_with fail
  go_loopw [5] (fun i wr => ∃ k : Nat, k ≤ n ∧ i = .int .i64 (k : Int) ∧ ∃ q, wr = w.drewN q) (fun i _ => n - (intOf i).toNat)
  case atStart => exact ⟨0, Nat.zero_le _, rfl, 0, rfl⟩
  case round =>
    obtain ⟨k, hk, rfl, q, rfl⟩ := hrel
    by_cases hlt : k < n
    · have hki : (k : Int) < (n : Int) := by omega
      have hk0 : (0 : Int) ≤ (k : Int) := by omega
      obtain ⟨e, he⟩ : ∃ e, l[k]? = some e := ⟨_, List.getElem?_eq_getElem (by have := HN.out; omega)⟩
      obtain ⟨g, off, rfl, hb, c0, c1⟩ := HH.out.at he
      obtain ⟨g', off', rfl, hb', d0, d1⟩ := HH'.out.at he
      generalize e.key = x0 at c0 d0
      generalize e.val = x1 at c1 d1
      have HLT := Lib.hid hlt
      clear he hb hb' hk hlt
      go_wp2_with fail
      go_quiet (fail)
      go_wp2_with fail
      exact ⟨⟨k + 1, by have := HLT.out; omega, by go_num, _, rfl⟩, by have := HLT.out; simp [intOf]; omega⟩
    · have hki : ¬ (k : Int) < (n : Int) := by omega
      clear hlt hk
      go_wp2_with fail
      go_ret
      exact ⟨rfl, below_drewN (Below.refl _ _) q⟩
end Go.Proofs.Ytckkmmdibgoajaa
set_option linter.unusedVariables false
set_option linter.unusedSimpArgs false
namespace Go.Proofs.Ytckkmmdibgoajaa
open Go.RowKit
theorem tdiv_twoC {x : Int} (h : i64R x) : -9223372036854775808 ≤ x.tdiv 2 ∧ x.tdiv 2 ≤ 9223372036854775807 := by
  have h1 := h.1
  have h2 := h.2
  rcases Int.le_total 0 x with h0 | h0
  · rw [Int.tdiv_eq_ediv_of_nonneg h0]; omega
  · obtain ⟨y, rfl⟩ : ∃ y, x = -y := ⟨-x, by omega⟩
    rw [Int.neg_tdiv, Int.tdiv_eq_ediv_of_nonneg (by omega)]; omega
set_option maxHeartbeats 16000000 in
set_option maxRecDepth 100000 in
theorem ucom_walk (I : AImpl) (K : UpdImpl I) {a : Option Addr} {n c : Nat} {raw : List En} {tilt ek ev fk fv at_ : Int} {w : World} (hE : EnsAt w a raw) (hn : raw.length = n) (hnm : n ≤ 9223372036854775807) (ht0 : 0 ≤ tilt) (ht1 : tilt < 18446744073709551616) (he : i64R ek ∧ i64R ev) (hf : i64R fk ∧ i64R fv) (hat : i64R at_) :
    Calls Try.prog 6 #[.slice a n c, .int .u64 tilt, .agg #[.int .i64 ek, .int .i64 ev], .agg #[.int .i64 fk, .int .i64 fv], .int .i64 at_] w (Calm w (.bool true)) := by
  have HEF : Hid ((i64R ek ∧ i64R ev) ∧ (i64R fk ∧ i64R fv)) := ⟨he, hf⟩
  clear he hf
  have HK := Lib.hid K
  have HAT := Lib.hid hat
  have HWF : Hid (∀ y ∈ listE raw 100, i64R y.key ∧ i64R y.val) := fun y hy => hE.wf y (listE_mem hy)
  have HL := Lib.hid (list_any (c := c) (k := 100) ((hE.below (below_newL w (.cells #[.int .i64 ek, .int .i64 ev] 31))).below (below_newL (w.alloc (.cells #[.int .i64 ek, .int .i64 ev] 31)) (.cells #[.int .i64 fk, .int .i64 fv] 31))) hn hnm (by decide))
  have HT : Hid (0 ≤ tilt ∧ tilt < 18446744073709551616) := ⟨ht0, ht1⟩
  have HUP := Lib.hid (listE_up raw 100)
  have HLEN := Lib.hid (listE_len raw 100)
  clear K hE hn hnm ht0 ht1 hat
  have HBA0 : Hid (Below w.heap.size w ((w.alloc (.cells #[.int .i64 ek, .int .i64 ev] 31)).alloc (.cells #[.int .i64 fk, .int .i64 fv] 31)) ∧ ((w.alloc (.cells #[.int .i64 ek, .int .i64 ev] 31)).alloc (.cells #[.int .i64 fk, .int .i64 fv] 31)).heap[w.heap.size]? = some (.cells #[.int .i64 ek, .int .i64 ev] 31 (0, 0)) ∧ ((w.alloc (.cells #[.int .i64 ek, .int .i64 ev] 31)).alloc (.cells #[.int .i64 fk, .int .i64 fv] 31)).heap[w.heap.size + 1]? = some (.cells #[.int .i64 fk, .int .i64 fv] 31 (0, 0))) :=
    ⟨(below_newL w (.cells #[.int .i64 ek, .int .i64 ev] 31)).trans ((below_newL _ _).mono (below_newL w (.cells #[.int .i64 ek, .int .i64 ev] 31)).size), (heap_two_old w _ _).trans (heap_alloc_new w _), by have h := heap_alloc_new (w.alloc (.cells #[.int .i64 ek, .int .i64 ev] 31)) (.cells #[.int .i64 fk, .int .i64 fv] 31); rw [World.size_alloc] at h; exact h⟩
  go_enter Try.func6, Try.ntmps6
  go_upto_region 1 with fail
  generalize (w.alloc (.cells #[.int .i64 ek, .int .i64 ev] 31)).alloc (.cells #[.int .i64 fk, .int .i64 fv] 31) = wa at HL HBA0 ⊢
  obtain ⟨ge, hge⟩ : ∃ g, w.heap.size = g := ⟨_, rfl⟩
  obtain ⟨gf, hgf⟩ : ∃ g, ge + 1 = g := ⟨_, rfl⟩
  have HBA : Hid (Below w.heap.size w wa ∧ w.heap.size ≤ ge ∧ w.heap.size ≤ gf ∧ wa.heap[ge]? = some (.cells #[.int .i64 ek, .int .i64 ev] 31 (0, 0)) ∧ wa.heap[gf]? = some (.cells #[.int .i64 fk, .int .i64 fv] 31 (0, 0)) ∧ gf ≠ ge) := ⟨HBA0.out.1, Nat.le_of_eq hge, by omega, by rw [← hge]; exact HBA0.out.2.1, by rw [← hgf, ← hge]; exact HBA0.out.2.2, by omega⟩
  (try rw [hge])
  (try rw [hgf])
  clear hge hgf HBA0
  go_wp2_with fail
  refine HL.out.mono ?_
  rintro en w1 ⟨a1, c1, rfl, hr1, hb1⟩
  have HR1 := Lib.hid hr1
  have HB1 := Lib.hid hb1
  clear hr1 hb1 HL
  generalize listE raw 100 = l at HUP HLEN HR1 HWF ⊢
  obtain ⟨L, hL⟩ : ∃ L, l.length = L := ⟨_, rfl⟩
  rw [hL] at HLEN HR1 ⊢
  have HLL := Lib.hid hL
  have hLi : (L : Int) ≤ 100 := by have := HLEN.out; omega
  have HE1 := Lib.hid (ens_row hL HR1.out HWF.out)
  have HC1 := Lib.hid (row_caps HR1.out)
  clear hL
  go_wp2_with fail
  refine (grow_any I (sp := 500) (m := L + 500) HE1.out HLL.out HC1.out.1 HC1.out.2 rfl (by omega) (by have := HLEN.out; omega) HT.out.1 HT.out.2).mono ?_
  rintro en w3 ⟨p, A, ri, t, F, rfl, hg⟩
  obtain ⟨pa, rfl⟩ := I.ptr hg.is
  have HTR := Lib.hid (hg.planted.tree HUP.out)
  have HPL := Lib.hid hg.planted
  have HS3 := Lib.hid (Scn.initN (bs := [(gf, .cells #[.int .i64 fk, .int .i64 fv] 31 (0, 0)), (ge, .cells #[.int .i64 ek, .int .i64 ev] 31 (0, 0))]) hg.is hg.foot hg.below HB1.out HBA.out.1 HR1.out (fun b hb => by
    simp at hb
    rcases hb with rfl | rfl
    · exact ⟨HBA.out.2.2.1, HBA.out.2.2.2.2.1⟩
    · exact ⟨HBA.out.2.1, HBA.out.2.2.2.1⟩) (List.pairwise_cons.2 ⟨fun b hb => by simp at hb; subst hb; exact HBA.out.2.2.2.2.2, List.pairwise_singleton _ _⟩))
  have hfr : A.σ.free.length = 500 := by
    have h := hg.planted.free
    rw [HLL.out] at h
    have h2 : (Ar.init (L + 500)).σ.free.length = L + 500 := by show (List.range' 1 (L + 500)).length = _; simp
    omega
  have HFR : Hid (A.σ.free.length = 500 ∧ A.σ.cap = L + 500) := ⟨hfr, hg.planted.kept.cap⟩
  have HPI : Hid (pls (fun _ => 0) ri = hof [ri]) := by show _ = _; have := hof_pls [] ri; rw [hof_nil] at this; exact this
  have HHM : Hid (∀ j, pls (fun _ => 0) ri j ≤ 1048000) := fun j => by rw [pls_at]; split <;> omega
  have HRI : Hid (ri < 4294967296) := HTR.out.idx
  clear hg HR1 HE1 HC1 HT hfr HB1
  go_wp2_with fail
  refine (awake14_any I HK.out w3).mono ?_
  rintro en w4 ⟨rfl, hb4⟩
  have HS4 := Lib.hid (HS3.out.calm hb4)
  clear hb4 HS3
  go_upto_region 5 with fail
  go_cut [59] from 52 to 58 (fun sc wx => ∃ bb : Bool, sc = .bool bb ∧ (bb = true → 0 < L) ∧ w4 = wx)
  case first =>
    by_cases hL0 : L = 0
    · have hl0 : (L : Int) = 0 := by omega
      have hd : decide ((L : Int) > 0) = false := decide_eq_false (by omega)
      have hd2 : decide ((0 : Int) < (L : Int)) = false := decide_eq_false (by omega)
      have hd3 : ¬ 0 < L := by omega
      clear hL0
      go_wp2_with fail
      go_meet
      exact ⟨false, rfl, (fun h => by cases h), rfl⟩
    · have hd : decide ((L : Int) > 0) = true := decide_eq_true (by omega)
      have hd2 : decide ((0 : Int) < (L : Int)) = true := decide_eq_true (by omega)
      have hd3 : 0 < L := by omega
      obtain ⟨bb, hbb⟩ : ∃ bb : Bool, (at_.tmod 2 == 0) = bb := ⟨_, rfl⟩
      clear hL0
      go_wp2_with fail
      go_meet
      exact ⟨bb, by rw [← hbb], fun _ => hd3, rfl⟩
  case' rest =>
    obtain ⟨bb, rfl, hbb, rfl⟩ := hcut
    have HBBL := Lib.hid hbb
    clear hbb
    go_upto_if 59 with fail
    go_cut [] from 60 to 69 (fun wx => ∃ k : Int, i64R k ∧ Scn I w.heap.size w wx (.pointer (some pa)) A 0 [⟨31, 2, .slice a1 L c1, L, ensV l⟩] [(gf, .cells #[.int .i64 k, .int .i64 fv] 31 (0, 0)), (ge, .cells #[.int .i64 ek, .int .i64 ev] 31 (0, 0))])
    case first =>
      cases bb with
      | false =>
        go_wp2_with fail
        go_meet
        exact ⟨fk, HEF.out.2.1, HS4.out⟩
      | true =>
        have hL0 := HBBL.out rfl
        have hli : (0 : Int) < (L : Int) := by omega
        obtain ⟨T1, hT⟩ : ∃ T, at_.tdiv 2 = T := ⟨_, rfl⟩
        have hT1 : -9223372036854775808 ≤ T1 ∧ T1 ≤ 9223372036854775807 := by rw [← hT]; exact tdiv_twoC HAT.out
        have hTw : IntKind.i64.wrap T1 = T1 := by rw [IntKind.wrap_i64]; omega
        have hx6 := Int.emod_nonneg T1 (b := (L : Int)) (by omega)
        have hx7 := Int.emod_lt_of_pos T1 (b := (L : Int)) (by omega)
        obtain ⟨j, hj⟩ := Int.eq_ofNat_of_zero_le hx6
        have hjL : j < L := by omega
        have HMX : Hid (∀ wx, Calls Try.prog 11 #[.int .i64 T1, .int .i64 (L : Int)] wx (fun e w' => e = .returned (.int .i64 (j : Int)) ∧ wx = w')) := fun wx => (mod_any T1 (L : Int) wx hT1.1 hT1.2 (by omega) (by omega)).mono fun e w' ⟨h1, h2⟩ => ⟨by rw [h1, hj], h2⟩
        obtain ⟨x, he⟩ : ∃ e, l[j]? = some e := ⟨_, List.getElem?_eq_getElem (by have := HLL.out; omega)⟩
        have HEW := Lib.hid (HWF.out x (List.mem_of_getElem? he))
        obtain ⟨b, off, rfl, hb, c0, c1'⟩ := (ens_row (w := w4) (B := w.heap.size) (c := c1) HLL.out (HS4.out.rows _ (List.mem_singleton.2 rfl)) HWF.out).cell j x he
        have hji : (j : Int) < (L : Int) := by omega
        have hj0 : (0 : Int) ≤ (j : Int) := by omega
        obtain ⟨e0, e1, ef0, ef1⟩ := HS4.out.two (g := gf) (x := fk) (y := fv) (t := 31) (by simp)
        have HSE := Lib.hid (HS4.out.store0 (.int .i64 x.key))
        clear he hb hj hjL hx6 hx7 hL0 c1' hT1
        go_wp2_with (go_at_call 11; (try rw [hT]); refine (HMX.out _).mono ?_; rintro e wy ⟨rfl, rfl⟩)
        go_meet
        exact ⟨x.key, HEW.out.1, HSE.out⟩
    case' rest =>
      rename World => w5
      obtain ⟨k, hk, hs5⟩ := hcut
      have HKV : Hid (i64R k ∧ i64R fv) := ⟨hk, HEF.out.2.2⟩
      have HS5 := Lib.hid hs5
      clear hk hs5 HS4 HBBL
      have HCEL : Hid (∀ {wx : World} {C : Ar} {rdx : Int} {rs' : List Row} {bs' : List (Nat × Obj)}, Scn I w.heap.size w wx (.pointer (some pa)) C rdx rs' (bs' ++ [(gf, .cells #[.int .i64 k, .int .i64 fv] 31 (0, 0)), (ge, .cells #[.int .i64 ek, .int .i64 ev] 31 (0, 0))]) → wx.cell? ⟨ge, 0, none⟩ = some (.int .i64 ek) ∧ wx.cell? ⟨ge, 1, none⟩ = some (.int .i64 ev) ∧ wx.cell? ⟨gf, 0, none⟩ = some (.int .i64 k) ∧ wx.cell? ⟨gf, 1, none⟩ = some (.int .i64 fv)) := fun {wx C rdx rs' bs'} h => by
        obtain ⟨e0, e1, -, -⟩ := h.two (g := ge) (x := ek) (y := ev) (t := 31) (by simp)
        obtain ⟨f0, f1, -, -⟩ := h.two (g := gf) (x := k) (y := fv) (t := 31) (by simp)
        exact ⟨e0, e1, f0, f1⟩
      have HENS : Hid (∀ {wx : World} {C : Ar} {rdx : Int} {rs' : List Row} {bs' : List (Nat × Obj)}, Scn I w.heap.size w wx (.pointer (some pa)) C rdx (rs' ++ [⟨31, 2, .slice a1 L c1, L, ensV l⟩]) bs' → EnsAt wx a1 l) := fun {wx C rdx rs' bs'} h => ens_row (B := w.heap.size) (c := c1) HLL.out (h.rows _ (List.mem_append_right _ (List.mem_singleton.2 rfl))) HWF.out
      obtain ⟨e0, e1, f0, f1⟩ := HCEL.out (bs' := []) HS5.out
      by_cases hkk : ek = k
      · subst hkk
        have hq : (ek == ek) = true := by simp
        have HB5 := Lib.hid HS5.out.below
        go_wp2_with fail
        go_ret
        exact ⟨rfl, HB5.out⟩
      have hq : (ek == k) = false := by simpa using hkk
      have HKK : Hid ((⟨ek, ev⟩ : En).key ≠ (⟨k, fv⟩ : En).key) := hkk
      have HLN : Hid (l.length ≤ 100) := by show _ ≤ _; rw [HLL.out]; exact HLEN.out
      have HH0 : Hid (Hld A [ri] [t] (L + 500)) := ⟨by have := HPL.out.inv; rw [HPI.out] at this; exact this, HPL.out.agg, fun x hx => by simp at hx; subst hx; exact ⟨t, by simp, HPL.out.sub⟩, HFR.out.2⟩
      have HST : Hid (t.size = L) := by have := HTR.out.size; rw [HLL.out] at this; exact this
      clear hkk HPI HHM HPL
      go_wp2_with fail
      clear e0 e1 f0 f1
      refine (HS5.out.mut fun F hI => HK.out.insert ⟨ek, ev⟩ _ hI HH0.out.inv (HH0.out.small (by simp)) HTR.out HWF.out (by decide) (by decide) HEF.out.1.1 HEF.out.1.2).mono ?_
      rintro en w6 ⟨B1, rd1, hq0, hsn⟩
      have hfr0 := HH0.out.free
      have hln0 : (l).length ≤ 100 := HLN.out
      have hmx0 := ins_max (n := ((l).length : Int)) (by omega) (by omega)
      obtain ⟨h40, h41, jx, ux, xv1, xb1, rfl, hgot⟩ := insQ_room hq0 HTR.out.up (by simp at hfr0; have := HST.out; have := HLEN.out; omega)
      have hub := upd_max (n := (l).length) (by omega)
      have HRD1 : Hid (0 ≤ rd1 ∧ rd1 ≤ 5000) := ⟨by omega, by omega⟩
      have HS6 := Lib.hid hsn
      have HH1 := Lib.hid (HH0.out.got hgot)
      have HTjx := Lib.hid (hgot.tree (insE_up ⟨ek, ev⟩ HTR.out.up))
      have HZjx : Hid (ux.size ≤ 100 + 1) := by show _ ≤ _; rw [HTjx.out.size]; have := insE_len (l) ⟨ek, ev⟩; omega
      have HTR1 := Lib.hid (HTR.out.kept hgot.kept hgot.inv hgot.agg)
      clear hq0 hsn hfr0 hln0 hmx0 h40 h41 hub hgot HS5
      obtain ⟨e0, e1, f0, f1⟩ := HCEL.out (bs' := []) HS6.out
      go_wp2_with fail
      clear e0 e1 f0 f1
      refine (HS6.out.mut fun F hI => HK.out.insert ⟨k, fv⟩ _ hI HH1.out.inv (HH1.out.small (by simp)) HTjx.out (insE_wf HWF.out HEF.out.1) HRD1.out.1 (by have := HRD1.out; omega) HKV.out.1 HKV.out.2).mono ?_
      rintro en w7 ⟨B2, rd2, hq0, hsn⟩
      have hfr0 := HH1.out.free
      have hln0 : (insE l ⟨ek, ev⟩).length ≤ 101 := by have := insE_len l ⟨ek, ev⟩; have := HLN.out; omega
      have hmx0 := ins_max (n := ((insE l ⟨ek, ev⟩).length : Int)) (by omega) (by omega)
      obtain ⟨h40, h41, jy, uy, xv2, xb2, rfl, hgot⟩ := insQ_room hq0 HTjx.out.up (by simp at hfr0; have := HST.out; have := HLEN.out; have := HZjx.out; omega)
      have hub := upd_max (n := (insE l ⟨ek, ev⟩).length) (by omega)
      have HRD2 : Hid (0 ≤ rd2 ∧ rd2 ≤ 10000) := ⟨by have := HRD1.out; omega, by have := HRD1.out; omega⟩
      have HS7 := Lib.hid hsn
      have HH2 := Lib.hid (HH1.out.got hgot)
      have HTjy := Lib.hid (hgot.tree (insE_up ⟨k, fv⟩ HTjx.out.up))
      have HZjy : Hid (uy.size ≤ 101 + 1) := by show _ ≤ _; rw [HTjy.out.size]; have := insE_len (insE l ⟨ek, ev⟩) ⟨k, fv⟩; omega
      have HTR2 := Lib.hid (HTR1.out.kept hgot.kept hgot.inv hgot.agg)
      have HTX2 := Lib.hid (HTjx.out.kept hgot.kept hgot.inv hgot.agg)
      clear hq0 hsn hfr0 hln0 hmx0 h40 h41 hub hgot HS6
      obtain ⟨e0, e1, f0, f1⟩ := HCEL.out (bs' := []) HS7.out
      go_wp2_with fail
      clear e0 e1 f0 f1
      refine (HS7.out.mut fun F hI => HK.out.insert ⟨k, fv⟩ _ hI HH2.out.inv (HH2.out.small (by simp)) HTR2.out HWF.out HRD2.out.1 (by have := HRD2.out; omega) HKV.out.1 HKV.out.2).mono ?_
      rintro en w8 ⟨B3, rd3, hq0, hsn⟩
      have hfr0 := HH2.out.free
      have hln0 : (l).length ≤ 100 := HLN.out
      have hmx0 := ins_max (n := ((l).length : Int)) (by omega) (by omega)
      obtain ⟨h40, h41, ju, uu, xv3, xb3, rfl, hgot⟩ := insQ_room hq0 HTR2.out.up (by simp at hfr0; have := HST.out; have := HLEN.out; have := HZjx.out; have := HZjy.out; omega)
      have hub := upd_max (n := (l).length) (by omega)
      have HRD3 : Hid (0 ≤ rd3 ∧ rd3 ≤ 15000) := ⟨by have := HRD2.out; omega, by have := HRD2.out; omega⟩
      have HS8 := Lib.hid hsn
      have HH3 := Lib.hid (HH2.out.got hgot)
      have HTju := Lib.hid (hgot.tree (insE_up ⟨k, fv⟩ HTR2.out.up))
      have HZju : Hid (uu.size ≤ 100 + 1) := by show _ ≤ _; rw [HTju.out.size]; have := insE_len (l) ⟨k, fv⟩; omega
      have HTX3 := Lib.hid (HTX2.out.kept hgot.kept hgot.inv hgot.agg)
      have HTY3 := Lib.hid (HTjy.out.kept hgot.kept hgot.inv hgot.agg)
      clear hq0 hsn hfr0 hln0 hmx0 h40 h41 hub hgot HS7
      obtain ⟨e0, e1, f0, f1⟩ := HCEL.out (bs' := []) HS8.out
      go_wp2_with fail
      clear e0 e1 f0 f1
      refine (HS8.out.mut fun F hI => HK.out.insert ⟨ek, ev⟩ _ hI HH3.out.inv (HH3.out.small (by simp)) HTju.out (insE_wf HWF.out HKV.out) HRD3.out.1 (by have := HRD3.out; omega) HEF.out.1.1 HEF.out.1.2).mono ?_
      rintro en w9 ⟨B4, rd4, hq0, hsn⟩
      have hfr0 := HH3.out.free
      have hln0 : (insE l ⟨k, fv⟩).length ≤ 101 := by have := insE_len l ⟨k, fv⟩; have := HLN.out; omega
      have hmx0 := ins_max (n := ((insE l ⟨k, fv⟩).length : Int)) (by omega) (by omega)
      obtain ⟨h40, h41, jv, uv, xv4, xb4, rfl, hgot⟩ := insQ_room hq0 HTju.out.up (by simp at hfr0; have := HST.out; have := HLEN.out; have := HZjx.out; have := HZjy.out; have := HZju.out; omega)
      have hub := upd_max (n := (insE l ⟨k, fv⟩).length) (by omega)
      have HRD4 : Hid (0 ≤ rd4 ∧ rd4 ≤ 20000) := ⟨by have := HRD3.out; omega, by have := HRD3.out; omega⟩
      have HS9 := Lib.hid hsn
      have HH4 := Lib.hid (HH3.out.got hgot)
      have HTjv := Lib.hid (hgot.tree (insE_up ⟨ek, ev⟩ HTju.out.up))
      have HZjv : Hid (uv.size ≤ 101 + 1) := by show _ ≤ _; rw [HTjv.out.size]; have := insE_len (insE l ⟨k, fv⟩) ⟨ek, ev⟩; omega
      have HTX4 := Lib.hid (HTX3.out.kept hgot.kept hgot.inv hgot.agg)
      have HTY4 := Lib.hid (HTY3.out.kept hgot.kept hgot.inv hgot.agg)
      clear hq0 hsn hfr0 hln0 hmx0 h40 h41 hub hgot HS8
      obtain ⟨e0, e1, f0, f1⟩ := HCEL.out (bs' := []) HS9.out
      go_wp2_with fail
      clear e0 e1 f0 f1
      refine HS9.out.dump.mono ?_
      rintro en w10 ⟨da, dc, db, dd, rfl, hs10, -⟩
      rw [HH4.out.cap] at hs10 ⊢
      obtain ⟨N, hN⟩ : ∃ N, L + 500 = N := ⟨_, rfl⟩
      rw [hN] at hs10 ⊢
      obtain ⟨M, hM⟩ : ∃ M, B4.σ.free.length = M := ⟨_, rfl⟩
      rw [hM] at hs10 ⊢
      have hs11 := hs10.box #[.slice da N dc, .slice db M dd] 43
      clear hs10 HS9
      go_upto_region 16 with fail
      generalize w10.alloc (.cells #[.slice da N dc, .slice db M dd] 43) = w11 at hs11 ⊢
      generalize w10.heap.size = q at hs11 ⊢
      have HS11 := Lib.hid hs11
      have HCN : Hid (B4.σ.cap = N ∧ B4.σ.free.length = M) := ⟨HH4.out.cap.trans hN, hM⟩
      obtain ⟨LY, hLY⟩ : ∃ l', insE (insE l ⟨ek, ev⟩) ⟨k, fv⟩ = l' := ⟨_, rfl⟩
      have hLV : insE (insE l ⟨k, fv⟩) ⟨ek, ev⟩ = LY := by rw [← hLY]; exact (ins_comm HUP.out HKK.out).symm
      have hty := HTY4.out
      have htv := HTjv.out
      rw [hLY] at hty
      rw [hLV] at htv
      have hlen : LY.length ≤ 102 := by rw [← hLY]; have h1 := insE_len (insE l ⟨ek, ev⟩) ⟨k, fv⟩; have h2 := insE_len l ⟨ek, ev⟩; have := HLN.out; omega
      obtain ⟨LN, hLN⟩ : ∃ n, LY.length = n := ⟨_, rfl⟩
      have hwy : WfL LY := by rw [← hLY]; exact insE_wf (insE_wf HWF.out HEF.out.1) HKV.out
      have HLST : Hid (∀ (i : Nat) (tt : Tr), TreeAt B4 i tt LY → ∀ wx, Below w11.heap.size w11 wx → Calls Try.prog 30 #[.agg #[.slice da N dc, .slice db M dd], .int .u32 (i : Int)] wx (fun en w' => ∃ a c, en = .returned (.slice a LN c) ∧ EnsAt w' a LY ∧ Below wx.heap.size wx w')) := fun i tt hT wx hb => by
        have hsl := (HS11.out.calm hb).slots_of (a := da) (c := dc) HH4.out.inv HCN.out.1 (by simp)
        refine (listT_any HH4.out.inv.ok hT.sub wx da db N dc M dd HCN.out.1 hsl (by rw [hT.size]; omega)).mono ?_
        rw [hT.ents]
        rintro en w' ⟨a', c', rfl, hr, hb'⟩
        rw [hLN] at hr ⊢
        exact ⟨a', c', rfl, ens_row (c := c') hLN hr hwy, hb'⟩
      have HYV : Hid (TreeAt B4 jy uy LY ∧ TreeAt B4 jv uv LY ∧ LY.length = LN ∧ LN ≤ 65536) := ⟨hty, htv, hLN, by omega⟩
      have HKEEP : Hid (∀ w', Below w11.heap.size w11 w' → Below w11.heap.size w11 w' ∧ w'.cell? ⟨q, 0, none⟩ = some (.slice da N dc) ∧ w'.cell? ⟨q, 1, none⟩ = some (.slice db M dd)) := fun w' hb => by
        obtain ⟨q0, q1⟩ := two_cells ((HS11.out.calm hb).boxes (q, .cells #[.slice da N dc, .slice db M dd] 43 (0, 0)) (by simp)).2
        exact ⟨hb, q0, q1⟩
      have HNX : Hid (∀ wx wy, Below w11.heap.size w11 wx → Below wx.heap.size wx wy → Below w11.heap.size w11 wy) := fun wx wy h1 h2 => h1.trans (h2.mono h1.size)
      have hBd : Below w11.heap.size w11 w11.drew := (Below.refl _ _).drew
      obtain ⟨-, q0, q1⟩ := HKEEP.out _ hBd
      clear hs11 hN hM hLY hLV hty htv hlen hLN hwy
      go_cut [134] from 127 to 134 (fun s wx => s = .bool false ∧ Below w11.heap.size w11 wx)
      case first =>
        go_region_held3 (fun w' => Below w11.heap.size w11 w' ∧ w'.cell? ⟨q, 0, none⟩ = some (.slice da N dc) ∧ w'.cell? ⟨q, 1, none⟩ = some (.slice db M dd)) ((refine HKEEP.out _ ?_; repeat (first | with_reducible assumption | with_reducible exact Below.refl _ _ | with_reducible refine Below.drew ?_ | with_reducible refine below_alT ?_ _))) (first
          | (go_at_call_of 30 (Value.int .u32 (jy : Int)); refine (HLST.out jy uy HYV.out.1 _ (by assumption)).mono ?_; rintro en wA ⟨xa, xc, rfl, heA, hbA⟩; have hBA := HNX.out _ _ (by assumption) hbA; obtain ⟨-, q0, q1⟩ := HKEEP.out _ hBA)
          | (go_at_call_of 30 (Value.int .u32 (jv : Int)); refine (HLST.out jv uv HYV.out.2.1 _ (by assumption)).mono ?_; rintro en wB ⟨ya, yc, rfl, heB, hbB⟩; have hBB := HNX.out _ _ (by assumption) hbB; obtain ⟨-, q0, q1⟩ := HKEEP.out _ hBB)
          | (go_at_call 29; refine (same_ens (by first | exact heA | exact heA.below hbB) (by first | exact heB | exact heB.below hbA) HYV.out.2.2.1 (by have := HYV.out.2.2.2; omega)).mono ?_; rintro en wC ⟨rfl, hbC⟩; have hBC := HNX.out _ _ (by assumption) hbC; obtain ⟨-, q0, q1⟩ := HKEEP.out _ hBC))
        all_goals (go_wp2_with fail; go_meet; exact ⟨rfl, hBC⟩)
      case' rest =>
        rename World => w12
        obtain ⟨rfl, hb12⟩ := hcut
        have HS12 := Lib.hid ((HS11.out.calm hb12).less (List.Sublist.refl _) (List.sublist_cons_self _ _))
        clear hb12 HS11 HLST HKEEP HNX hBd q0 q1 HYV
        obtain ⟨e0, e1, f0, f1⟩ := HCEL.out (bs' := []) HS12.out
        go_wp2_with fail
        refine (get_any ek (HENS.out (rs' := [_, _]) HS12.out) HLL.out (by have := HLEN.out; omega)).mono ?_
        rintro en w13 ⟨rfl, hw13⟩
        obtain rfl : w12 = w13 := hw13.symm
        cases hgk : getE l ek with
        | some x =>
          have HB12 := Lib.hid HS12.out.below
          go_wp2_with fail
          go_ret
          exact ⟨rfl, HB12.out⟩
        | none =>
          have hdl : outE (insE l ⟨ek, ev⟩) ek ek = l := out_ins (e := ⟨ek, ev⟩) HUP.out hgk
          have hdv : getE (insE l ⟨ek, ev⟩) ek = some ⟨ek, ev⟩ := get_ins HUP.out ⟨ek, ev⟩
          have HDL : Hid (outE (insE l ⟨ek, ev⟩) ek ek = l ∧ getE (insE l ⟨ek, ev⟩) ek = some ⟨ek, ev⟩) := ⟨hdl, hdv⟩
          clear hdl hdv hgk
          go_wp2_with fail
          clear e0 e1 f0 f1
          refine (HS12.out.mut fun F hI => HK.out.delete ek _ hI HH4.out.inv (HH4.out.small (by simp)) HTX4.out (insE_wf HWF.out HEF.out.1) HRD4.out.1 (by have := HRD4.out; omega) HEF.out.1.1).mono ?_
          rintro en w14 ⟨C, rd5, ⟨h50, h51, hq⟩, hs14⟩
          have hfr0 := HH4.out.free
          have hln0 : (insE l ⟨ek, ev⟩).length ≤ 101 := by have := insE_len l ⟨ek, ev⟩; have := HLN.out; omega
          have hmx0 := del_max (n := ((insE l ⟨ek, ev⟩).length : Int)) (by omega) (by omega)
          rcases hq with ⟨q1, -⟩ | ⟨-, q2, -⟩ | ⟨-, -, z, uz, rfl, hgot, -⟩
          · exact absurd (HDL.out.2.symm.trans q1) (by simp)
          · exact absurd q2 (by simp at hfr0; have := HST.out; have := HLEN.out; have := HZjx.out; have := HZjy.out; have := HZju.out; have := HZjv.out; omega)
          rw [HDL.out.1] at hgot
          rw [HDL.out.2]
          have HS14 := Lib.hid hs14
          have HTZ := Lib.hid (hgot.tree HUP.out)
          have HHZ := Lib.hid (HH4.out.got hgot)
          clear hs14 HS12 h50 h51 hfr0 hln0 hmx0 hgot
          obtain ⟨e0, e1, f0, f1⟩ := HCEL.out (bs' := []) HS14.out
          have hvv : (ev == ev) = true := by simp
          go_wp2_with fail
          clear e0 e1 f0 f1
          refine HS14.out.dump.mono ?_
          rintro en w15 ⟨ga, gc, gb, gd, rfl, hs15, -⟩
          rw [HHZ.out.cap] at hs15 ⊢
          obtain ⟨N2, hN2⟩ : ∃ N, L + 500 = N := ⟨_, rfl⟩
          rw [hN2] at hs15 ⊢
          have HN2 : Hid (C.σ.cap = N2) := HHZ.out.cap.trans hN2
          obtain ⟨M2, hM2⟩ : ∃ M, C.σ.free.length = M := ⟨_, rfl⟩
          rw [hM2] at hs15 ⊢
          have HS15 := Lib.hid hs15
          clear hs15 hN2 hM2 HS14
          go_wp2_with fail
          refine (refTree_any HHZ.out.inv HN2.out (HS15.out.slots_of (c := gc) HHZ.out.inv HN2.out (by simp)) HTZ.out (HENS.out (rs' := [_, _, _, _]) HS15.out) HLL.out (by have := HLEN.out; omega)).mono ?_
          rintro en w16 ⟨rfl, hb16⟩
          have HB16 := Lib.hid ((HS15.out.calm hb16).below)
          clear hb16 HS15
          go_wp2_with fail
          go_ret
          exact ⟨rfl, HB16.out⟩
end Go.Proofs.Ytckkmmdibgoajaa
