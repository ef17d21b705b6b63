/- Of the proof of PkBulkCutsP: SameDump, JnDuo, RefOut, BkPl, LawBkCuts. -/
import Derived.Test.YtnimbgcploohiaaGreatPk1
import Derived.Test.YtnimbgcploohiaaGreatPk2
import Derived.Test.YtnimbgcploohiaaGreatPk3
import Derived.Test.YtnimbgcploohiaaGreatPk4
import Derived.Test.YtnimbgcploohiaaGreatPk5
import Derived.Test.YtnimbgcploohiaaGreatPk6
import Derived.Test.YtnimbgcploohiaaGreatPk13
import Derived.Test.YtnimbgcploohiaaGreatPk16
import Derived.Test.YtnimbgcploohiaaGreatPkBulkCutsP1
import Derived.Test.YtnimbgcploohiaaGreatPkBulkCutsP2
import Derived.Deep.DeepCutAuto
import Derived.Deep.QuietTactic
import Derived.Deep.RegionHeld3
set_option linter.unusedVariables false
namespace Go.Proofs.YtnimbgcploohiaaGreat
open Go.RowKit
theorem same_rows_at {B B' M : Nat} {a a' : Option Addr} {c c' : Nat} (l : List Nat) {w : World} (hM : l.length = M) (hl : (M : Int) ≤ 65536) (h : w.ownsRow B 28 1 (.slice a M c) M (u32s l)) (h' : w.ownsRow B' 28 1 (.slice a' M c') M (u32s l)) :
    Calls Tryz.prog 52 #[.slice a M c, .slice a' M c'] w (Calm w (.bool true)) := by
  subst hM
  exact same_rows l w hl h h'
set_option maxHeartbeats 2000000 in
set_option maxRecDepth 100000 in
theorem same_dump {w : World} {a a' b b' : Option Addr} {c c' d d' n M B B' : Nat} {S : Nat → Sl} (fr : List Nat) (hM : fr.length = M) (h : SlotsAt w a n S) (h' : SlotsAt w a' n S) (hf : w.ownsRow B 28 1 (.slice b M d) M (u32s fr)) (hf' : w.ownsRow B' 28 1 (.slice b' M d') M (u32s fr)) (hn : n ≤ 65536) (hm : M ≤ 65536) :
    Calls Tryz.prog 21 #[.agg #[.slice a n c, .slice b M d], .agg #[.slice a' n c', .slice b' M d']] w (Calm w (.bool true)) := by
  have hb1 := below_new7 w (Obj.cells #[Value.slice a n c, Value.slice b M d] 40)
  have hb2 := below_new7 (w.alloc (Obj.cells #[Value.slice a n c, Value.slice b M d] 40)) (Obj.cells #[Value.slice a' n c', Value.slice b' M d'] 40)
  have hbb := below_chain7 hb1 hb2
  have hx1 := two_cells (heap_alloc2_old w (Obj.cells #[Value.slice a n c, Value.slice b M d] 40) (Obj.cells #[Value.slice a' n c', Value.slice b' M d'] 40))
  have hx2 := two_cells (heap_alloc2_new w (Obj.cells #[Value.slice a n c, Value.slice b M d] 40) (Obj.cells #[Value.slice a' n c', Value.slice b' M d'] 40))
  have HS := Lib.hid (h.below hbb)
  have HS' := Lib.hid (h'.below hbb)
  have HF := Lib.hid (row_below hf hbb)
  have HF' := Lib.hid (row_below hf' hbb)
  have HB := Lib.hid hbb
  have HX1 := Lib.hid (heap_alloc2_old w (Obj.cells #[Value.slice a n c, Value.slice b M d] 40) (Obj.cells #[Value.slice a' n c', Value.slice b' M d'] 40))
  have HX2 := Lib.hid (heap_alloc2_new w (Obj.cells #[Value.slice a n c, Value.slice b M d] 40) (Obj.cells #[Value.slice a' n c', Value.slice b' M d'] 40))
  obtain ⟨c0, c1⟩ := hx1
  obtain ⟨e0, e1⟩ := hx2
  clear h h' hf hf' hb1 hb2 hbb
  go_enter Tryz.func21, Tryz.ntmps21
  go_upto_region 1 with fail
  generalize (w.alloc (Obj.cells #[Value.slice a n c, Value.slice b M d] 40)).alloc (Obj.cells #[Value.slice a' n c', Value.slice b' M d'] 40) = w1 at HS HS' HF HF' HB HX1 HX2 c0 c1 e0 e1 ⊢
  have hlt1 : w.heap.size < w1.heap.size := (Array.getElem?_eq_some_iff.1 HX1.out).1
  have hlt2 : w.heap.size + 1 < w1.heap.size := (Array.getElem?_eq_some_iff.1 HX2.out).1
  obtain ⟨p, hp⟩ : ∃ p, w.heap.size = p := ⟨_, rfl⟩
  rw [hp] at HX1 HX2 HB c0 c1 e0 e1 hlt1 hlt2 ⊢
  have HPP := Lib.hid hp
  clear hp
  go_wp2_with fail
  refine (same_slots HS.out HS'.out hn).mono ?_
  rintro e w2 ⟨rfl, hb2⟩
  have hY1 := (hb2.block _ hlt1).trans HX1.out
  have hY2 := (hb2.block _ hlt2).trans HX2.out
  clear c0 c1 e0 e1
  obtain ⟨c0, c1⟩ := two_cells hY1
  obtain ⟨e0, e1⟩ := two_cells hY2
  have HG := Lib.hid (row_below HF.out hb2)
  have HG' := Lib.hid (row_below HF'.out hb2)
  have HBB := Lib.hid (HB.out.trans (hb2.mono (by rw [← HPP.out]; exact HB.out.size)))
  clear hY1 hY2 hb2 hlt1 hlt2
  go_wp2_with fail
  refine (same_rows_at fr hM (by omega) HG.out HG'.out).mono ?_
  rintro e w3 ⟨rfl, hb3⟩
  have HB3 := Lib.hid (HBB.out.trans (hb3.mono (by rw [← HPP.out]; exact HBB.out.size)))
  clear hb3 c0 c1 e0 e1
  go_wp2_with fail
  go_ret
  exact ⟨rfl, by rw [HPP.out]; exact HB3.out⟩
end Go.Proofs.YtnimbgcploohiaaGreat
set_option linter.unusedVariables false
set_option linter.unusedSimpArgs false
namespace Go.Proofs.YtnimbgcploohiaaGreat
open Go.RowKit
end Go.Proofs.YtnimbgcploohiaaGreat
set_option linter.unusedVariables false
set_option linter.unusedSimpArgs false
namespace Go.Proofs.YtnimbgcploohiaaGreat
open Go.RowKit
end Go.Proofs.YtnimbgcploohiaaGreat
set_option linter.unusedVariables false
set_option linter.unusedSimpArgs false
namespace Go.Proofs.YtnimbgcploohiaaGreat
open Go.RowKit
theorem kept_keptS2 {A B : Ar} {n : Nat} (hk : A.Kept B) (hg : ∀ i, A.σ.on i = true → B.σ.gen i = A.σ.gen i) : KeptS n A.sl B.sl := fun x _ hx => ⟨hk.on _ hx, hk.nd _ hx, hg _ hx⟩
end Go.Proofs.YtnimbgcploohiaaGreat
set_option linter.unusedVariables false
set_option linter.unusedSimpArgs false
namespace Go.Proofs.YtnimbgcploohiaaGreat
open Go.RowKit
set_option maxHeartbeats 2000000 in
set_option maxRecDepth 100000 in
theorem outside_any {w : World} {a : Option Addr} {n c : Nat} {l : List En} (lo hi : Int) (h : EnsAt w a l) (hn : l.length = n) (hl : n ≤ 1000000) :
    Calls Tryz.prog 12 #[.slice a n c, .int .i64 lo, .int .i64 hi] w (MadeEns w (outE l lo hi)) := by
  have HE := Lib.hid h
  have HN := Lib.hid hn
  have hni : (n : Int) ≤ 1000000 := by omega
  have HL := Lib.hid hl
  have HLEN : Hid (∀ j, (outE (l.take j) lo hi).length ≤ 1000000) := fun j => by
    have h1 := List.length_filter_le (fun e : En => decide (e.key < lo ∨ hi < e.key)) (l.take j)
    have h2 := List.length_take_le' j l
    show ((l.take j).filter _).length ≤ _
    omega
  have HS : Hid (∀ j e, l[j]? = some e → outE (l.take (j + 1)) lo hi = outE (l.take j) lo hi ++ (if e.key < lo ∨ hi < e.key then [e] else [])) := fun j e he => by
    have := filt_succ he fun e : En => decide (e.key < lo ∨ hi < e.key)
    simp only [decide_eq_true_eq] at this
    exact this
  have HLENB : Hid (∀ j, (outE (l.take j) lo hi).length ≤ 100000000) := fun j => Nat.le_trans (HLEN.out j) (by decide)
  have HR0 := Lib.hid (SubRel.start w (fun j => outE (l.take j) lo hi) n (by simp [outE]))
  clear h hn hl
  go_enter Tryz.func12, Tryz.ntmps12
  go_wp2_with fail
  go_loopw [7, 8] (fun x i wr => SubRel w (fun j => outE (l.take j) lo hi) n x i wr) (fun _ i _ => n - (intOf i).toNat)
  case atStart => exact HR0.out
  case round =>
    clear HR0
    obtain ⟨j, rfl, hj, hst⟩ := hrel
    replace hst : ESt w.heap.size w (outE (l.take j) lo hi) _ wr := hst
    have HST := Lib.hid hst
    have hj0 : (0 : Int) ≤ (j : Int) := by omega
    obtain ⟨xa, xc, rfl⟩ := hst.val
    clear hst
    by_cases hlt : j < n
    · have hji : (j : Int) < (n : Int) := by omega
      obtain ⟨e, he⟩ : ∃ e, l[j]? = some e := ⟨_, List.getElem?_eq_getElem (by have := HN.out; omega)⟩
      obtain ⟨b, off, rfl, hb, c0, c1⟩ := (HE.out.below HST.out.below).at he
      have hs := HS.out j e he
      have HX := Lib.hid hs
      have HLT := Lib.hid hlt
      clear hs he hb hlt hj
      by_cases h1 : e.key < lo
      · have d1 : decide (e.key < lo) = true := decide_eq_true h1
        have HY : Hid (outE (l.take (j + 1)) lo hi = outE (l.take j) lo hi ++ [e]) := by show _ = _; rw [HX.out, if_pos (.inl h1)]
        clear h1
        go_wp2_with (at_builtin; refine wpList_append_en rfl (.tmp 31) (.tmp 36) rfl (HST.out.from (below_newL _ _) rfl) rfl rfl e wr.heap.size rfl (cell_newE _ _ _) (HLENB.out j) ?_; intro v5 w5 hc5)
        exact ⟨⟨j + 1, by go_num, by have := HLT.out; omega, by show ESt _ _ (outE (l.take (j + 1)) lo hi) _ _; rw [HY.out]; exact hc5⟩, by have := HLT.out; simp [intOf]; omega⟩
      · have d1 : decide (e.key < lo) = false := decide_eq_false h1
        by_cases h2 : hi < e.key
        · have d2 : decide (e.key > hi) = true := decide_eq_true h2
          have d3 : decide (hi < e.key) = true := decide_eq_true h2
          have HY : Hid (outE (l.take (j + 1)) lo hi = outE (l.take j) lo hi ++ [e]) := by show _ = _; rw [HX.out, if_pos (.inr h2)]
          clear h1 h2
          go_wp2_with (at_builtin; refine wpList_append_en rfl (.tmp 31) (.tmp 36) rfl (HST.out.from (below_newL _ _) rfl) rfl rfl e wr.heap.size rfl (cell_newE _ _ _) (HLENB.out j) ?_; intro v5 w5 hc5)
          exact ⟨⟨j + 1, by go_num, by have := HLT.out; omega, by show ESt _ _ (outE (l.take (j + 1)) lo hi) _ _; rw [HY.out]; exact hc5⟩, by have := HLT.out; simp [intOf]; omega⟩
        · have d2 : decide (e.key > hi) = false := decide_eq_false h2
          have d3 : decide (hi < e.key) = false := decide_eq_false h2
          have HY : Hid (outE (l.take (j + 1)) lo hi = outE (l.take j) lo hi) := by show _ = _; rw [HX.out, if_neg (fun h => h.elim h1 h2), List.append_nil]
          clear h1 h2
          go_wp2_with fail
          exact ⟨⟨j + 1, by go_num, by have := HLT.out; omega, by show ESt _ _ (outE (l.take (j + 1)) lo hi) _ _; rw [HY.out]; exact HST.out⟩, by have := HLT.out; simp [intOf]; omega⟩
    · have hji : ¬ (j : Int) < (n : Int) := by omega
      have HK : Hid (outE (l.take j) lo hi = outE l lo hi) := by show _ = _; rw [List.take_of_length_le (by have := HN.out; omega)]
      clear hj hlt
      go_wp2_with fail
      go_ret
      rw [← HK.out]
      first
        | exact HST.out.made
        | (have := HST.out.made; simp only [List.length_take] at this; exact this)
end Go.Proofs.YtnimbgcploohiaaGreat
set_option linter.unusedVariables false
set_option linter.unusedSimpArgs false
namespace Go.Proofs.YtnimbgcploohiaaGreat
open Go.RowKit
theorem out_wf {l : List En} (hw : WfL l) (lo hi : Int) : WfL (outE l lo hi) := fun y hy => hw y ((List.mem_filter.1 hy).1)
end Go.Proofs.YtnimbgcploohiaaGreat
set_option linter.unusedVariables false
set_option linter.unusedSimpArgs false
namespace Go.Proofs.YtnimbgcploohiaaGreat
open Go.RowKit
theorem spare15_any (n need : Int) (w : World) (h0 : 0 ≤ n) (h1 : n < 65536) (h2 : 0 ≤ need) (h3 : need ≤ 1000000) : Calls Tryz.prog 8 #[.int .u16 n, .int .i64 need] w (SpareQ need w) := by
  have v0 : IntKind.i64.wrap n = n := by rw [IntKind.wrap_i64]; omega
  have v1 : IntKind.i64.wrap (need + 2) = need + 2 := by rw [IntKind.wrap_i64]; omega
  have hne : ¬ need + 2 = 0 := by omega
  by_cases h4 : n.tmod 4 = 0
  · obtain ⟨r, hr⟩ : ∃ r : Nat, n.tmod (need + 2) = (r : Int) := ⟨(n.tmod (need + 2)).toNat, by rw [Int.tmod_eq_emod_of_nonneg h0]; have := Int.emod_nonneg n (b := need + 2) hne; omega⟩
    have hrl : (r : Int) ≤ need + 8 := by rw [← hr, Int.tmod_eq_emod_of_nonneg h0]; have := Int.emod_lt_of_pos n (b := need + 2) (by omega); omega
    have HR := Lib.hid hrl
    have h4b : (n.tmod 4 == 0) = true := by rw [h4]; rfl
    clear hrl h0 h1 h2 h3 h4
    go_enter Tryz.func8, Tryz.ntmps8
    go_wp2_with fail
    go_ret
    exact ⟨r, rfl, HR.out, rfl⟩
  · obtain ⟨r, hr⟩ : ∃ r : Nat, n.tmod 9 = (r : Int) := ⟨(n.tmod 9).toNat, by rw [Int.tmod_eq_emod_of_nonneg h0]; omega⟩
    have hrl : (r : Int) ≤ 8 := by rw [← hr, Int.tmod_eq_emod_of_nonneg h0]; omega
    have v2 : IntKind.i64.wrap (r : Int) = (r : Int) := by rw [IntKind.wrap_i64]; omega
    have v3 : IntKind.i64.wrap (need + (r : Int)) = need + (r : Int) := by rw [IntKind.wrap_i64]; omega
    obtain ⟨s, hs⟩ : ∃ s : Nat, need + (r : Int) = (s : Int) := ⟨(need + r).toNat, by omega⟩
    have HS : Hid (need + (r : Int) = (s : Int) ∧ (s : Int) ≤ need + 8) := ⟨hs, by omega⟩
    have h4b : (n.tmod 4 == 0) = false := by simpa using h4
    clear hrl h0 h1 h2 h3 h4 hs
    go_enter Tryz.func8, Tryz.ntmps8
    go_wp2_with fail
    go_ret
    first | exact ⟨s, rfl, HS.out.2, rfl⟩ | exact ⟨s, by rw [HS.out.1]; rfl, HS.out.2, rfl⟩
theorem us_at15 (w : World) (t : TypeId) (xs : List Nat) (cs : Array Value) (hc : cs = (xs.map fun x : Nat => Value.int .u32 (x : Int)).toArray) (hx : ∀ x ∈ xs, x < 4294967296) : U32At (w.alloc (.cells cs t)) (some ⟨w.heap.size, 0, none⟩) xs := by
  have hr := heap_alloc_new w (.cells cs t)
  refine ⟨fun j hj => ⟨w.heap.size, 0, rfl, by simp, ?_⟩, hx⟩
  rw [cell_of_row _ _ _ _ _ _ hr, hc]
  simp [List.getD_eq_getElem?_getD, hj]
theorem mod_quietc {n m : Int} {p : Nat} (h1 : -9223372036854775808 ≤ n) (h2 : n ≤ 9223372036854775807) (h3 : 1 ≤ m) (h4 : m ≤ 9223372036854775807) (hp : n % m = (p : Int)) (w : World) :
    Calls Tryz.prog 10 #[.int .i64 n, .int .i64 m] w (Quiet w (.int .i64 (p : Int))) := by
  refine (mod_any n m w h1 h2 h3 h4).mono ?_
  rintro e w' ⟨h5, rfl⟩
  exact ⟨by rw [h5, hp], 0, rfl⟩
def wantE (l : List En) (drp : Bool) (lo hi : Int) : List En := if drp then outE l lo hi else betE l lo hi
theorem want_len (l : List En) (drp : Bool) (lo hi : Int) : (wantE l drp lo hi).length ≤ l.length := by
  unfold wantE
  split <;> exact List.length_filter_le _ _
theorem cutQ_ret {A B : Ar} {rd rd' : Int} {held : Nat → Nat} {i : Nat} {l want : List En} {en : Ending} (h : CutQ A rd held i l want en B rd') : ∃ (x : Nat) (e : Int), en = .returned (.tuple #[.int .u32 (x : Int), .int .i64 e]) := by
  obtain ⟨-, -, h⟩ := h
  rcases h with ⟨-, rfl, -⟩ | ⟨-, -, rfl, -⟩ | ⟨-, -, -, rfl, -⟩ | ⟨-, -, -, j, u, rfl, -⟩
  · exact ⟨_, _, rfl⟩
  · exact ⟨0, _, rfl⟩
  · exact ⟨0, _, rfl⟩
  · exact ⟨_, _, rfl⟩
set_option maxHeartbeats 16000000 in
set_option maxRecDepth 100000 in
theorem cuts_walk (I : AImpl) (hchk : CheckSpec) (K : BkImpl I) {a : Option Addr} {n c : Nat} {raw : List En} {tilt lo hi i j free : Int} {drp : Bool} {w : World} (hE : EnsAt w a raw) (hn : raw.length = n) (hnm : n ≤ 9223372036854775807) (ht0 : 0 ≤ tilt) (ht1 : tilt < 18446744073709551616) (hlo : i64R lo) (hhi : i64R hi) (hi64 : i64R i) (hj64 : i64R j) (hf0 : 0 ≤ free) (hf1 : free < 65536) :
    Calls Tryz.prog 3 #[.slice a n c, .int .u64 tilt, .int .i64 lo, .int .i64 hi, .int .i64 i, .int .i64 j, .bool drp, .int .u16 free] w (Calm w (.bool true)) := by
  have HK := Lib.hid K
  have HCHK := Lib.hid hchk
  have HARG : Hid (i64R lo ∧ i64R hi ∧ i64R i ∧ i64R j) := ⟨hlo, hhi, hi64, hj64⟩
  have HF : Hid (0 ≤ free ∧ free < 65536) := ⟨hf0, hf1⟩
  have HWF : Hid (∀ y ∈ listE raw 150, i64R y.key ∧ i64R y.val) := fun y hy => hE.wf y (listE_mem hy)
  have HL := Lib.hid (list_any (c := c) (k := 150) hE hn hnm (by decide))
  have HT : Hid (0 ≤ tilt ∧ tilt < 18446744073709551616) := ⟨ht0, ht1⟩
  have HUP := Lib.hid (listE_up raw 150)
  have HLEN := Lib.hid (listE_len raw 150)
  clear K hchk hE hn hnm ht0 ht1 hlo hhi hi64 hj64 hf0 hf1
  go_enter Tryz.func3, Tryz.ntmps3
  go_wp2_with fail
  refine HL.out.mono ?_
  rintro e w1 ⟨a1, c1, rfl, hr1, hb1⟩
  have HR1 := Lib.hid hr1
  have HB1 := Lib.hid hb1
  clear hr1 hb1 HL
  generalize listE raw 150 = l at HUP HLEN HR1 HWF ⊢
  obtain ⟨L, hL⟩ : ∃ L, l.length = L := ⟨_, rfl⟩
  rw [hL] at HLEN HR1 ⊢
  have HLL := Lib.hid hL
  have hLi : (L : Int) ≤ 150 := by have := HLEN.out; omega
  have HE1 := Lib.hid (ens_row hL HR1.out HWF.out)
  have HC1 := Lib.hid (row_caps HR1.out)
  clear hL
  have hspl := split_le (n := (L : Int)) (by omega) (by omega)
  obtain ⟨SP, hSP⟩ : ∃ SP, splitI (L : Int) = SP := ⟨_, rfl⟩
  rw [hSP] at hspl
  have HSPL : Hid (splitI (L : Int) = SP ∧ 0 ≤ SP ∧ SP ≤ 192) := ⟨hSP, hspl.2, hspl.1⟩
  clear hspl hSP
  have HRS : Hid (∀ wx, Calls Tryz.prog 6 #[.int .i64 (L : Int)] wx (Calm wx (.int .i64 SP))) := fun wx => by rw [← HSPL.out.1]; exact refSplit_any _ _ ⟨by omega, by omega⟩
  go_wp2_with fail
  refine (HRS.out w1).mono ?_
  rintro e w2 ⟨rfl, hb2⟩
  have HB2 := Lib.hid hb2
  clear hb2
  go_wp2_with fail
  refine (spare15_any free SP w2 HF.out.1 HF.out.2 HSPL.out.2.1 (by have := HSPL.out; omega)).mono ?_
  rintro e w2' ⟨sp, rfl, hsp, rfl⟩
  have hspi : (sp : Int) ≤ 200 := by have := HSPL.out; omega
  have hsp0 : (0 : Int) ≤ (sp : Int) := by omega
  have HSP1 : Hid ((1 : Int) + (sp : Int) = ((sp + 1 : Nat) : Int)) := by show _ = _; omega
  clear hsp
  go_wp2_with fail
  rw [HSP1.out]
  refine (grow_any I (sp := sp + 1) (m := L + (sp + 1)) (HE1.out.below HB2.out) HLL.out HC1.out.1 HC1.out.2 rfl (by omega) (by have := HLEN.out; omega) HT.out.1 HT.out.2).mono ?_
  rintro e w3 ⟨p, A, ri, t, F, rfl, hg⟩
  obtain ⟨pa, rfl⟩ := I.ptr hg.is
  have HTR := Lib.hid (hg.planted.tree HUP.out)
  have HPL := Lib.hid hg.planted
  have HS3 := Lib.hid (Scn.init hg (HB1.out.trans (HB2.out.mono HB1.out.size)) (row_below HR1.out HB2.out))
  have hfr : A.σ.free.length = sp + 1 := by
    have h := hg.planted.free
    rw [HLL.out] at h
    have h2 : (Ar.init (L + (sp + 1))).σ.free.length = L + (sp + 1) := by show (List.range' 1 (L + (sp + 1))).length = _; simp
    omega
  have HFR : Hid (A.σ.free.length = sp + 1 ∧ A.σ.cap = L + (sp + 1) ∧ sp ≤ 200) := ⟨hfr, hg.planted.kept.cap, by omega⟩
  have HPI : Hid (pls (fun _ => 0) ri = hof [ri]) := by show _ = _; have := hof_pls [] ri; rw [hof_nil] at this; exact this
  have HHM : Hid (∀ j, pls (fun _ => 0) ri j ≤ 1048000) := fun j => by rw [pls_at]; split <;> omega
  have HRI : Hid (ri < 4294967296) := HTR.out.idx
  clear hg HR1 HE1 HC1 HT hfr HB1 HB2 HSP1 hspi hsp0
  go_wp2_with fail
  refine (awake15_any I HK.out w3).mono ?_
  rintro e w4 ⟨rfl, hb4⟩
  have HS4 := Lib.hid (HS3.out.calm hb4)
  clear hb4 HS3
  have HENS : Hid (∀ wx, Below w4.heap.size w4 wx → EnsAt wx a1 l) := fun wx hb => ens_row (w := wx) (B := w.heap.size) (c := c1) HLL.out ((HS4.out.calm hb).rows _ (List.mem_singleton.2 rfl)) HWF.out
  go_upto_region 6 with fail
  go_cut [56] from 49 to 56 (fun s56 wx => ∃ bb : Bool, s56 = .bool bb ∧ (bb = true → 0 < L) ∧ w4 = wx)
  case first =>
    by_cases hL0 : L = 0
    · have hl0 : (L : Int) = 0 := by omega
      have hd : decide ((L : Int) > 0) = false := decide_eq_false (by omega)
      have hd2 : decide ((0 : Int) < (L : Int)) = false := decide_eq_false (by omega)
      have hd3 : ¬ 0 < L := by omega
      clear hL0
      go_wp2_with fail
      go_meet
      exact ⟨false, rfl, (fun h => by cases h), rfl⟩
    · have hd : decide ((L : Int) > 0) = true := decide_eq_true (by omega)
      have hd2 : decide ((0 : Int) < (L : Int)) = true := decide_eq_true (by omega)
      have hd3 : 0 < L := by omega
      obtain ⟨bb, hbb⟩ : ∃ bb : Bool, (i.tmod 4 != 0) = bb := ⟨_, rfl⟩
      clear hL0
      go_wp2_with fail
      go_meet
      exact ⟨bb, by rw [← hbb], fun _ => hd3, rfl⟩
  case' rest =>
    obtain ⟨bb, rfl, hbb, rfl⟩ := hcut
    have HBBL := Lib.hid hbb
    clear hbb
    go_upto_if 56 with fail
    go_cut [2, 3] from 57 to 72 (fun s2 s3 wx => ∃ (lo' hi' : Int) (d : Nat), s2 = .int .i64 lo' ∧ s3 = .int .i64 hi' ∧ i64R lo' ∧ i64R hi' ∧ w4.drewN d = wx)
    case first =>
      cases bb with
      | false =>
        go_wp2_with fail
        go_meet
        exact ⟨lo, hi, 0, rfl, rfl, HARG.out.1, HARG.out.2.1, rfl⟩
      | true =>
        have hL0 := HBBL.out rfl
        have hli : (0 : Int) < (L : Int) := by omega
        have p1 := Int.emod_nonneg i (b := (L : Int)) (by omega)
        have p2 := Int.emod_lt_of_pos i (b := (L : Int)) (by omega)
        have p3 := Int.emod_nonneg j (b := (L : Int)) (by omega)
        have p4 := Int.emod_lt_of_pos j (b := (L : Int)) (by omega)
        obtain ⟨P, hP⟩ := Int.eq_ofNat_of_zero_le p1
        obtain ⟨Q, hQ⟩ := Int.eq_ofNat_of_zero_le p3
        rw [hP] at p2
        rw [hQ] at p4
        obtain ⟨eP, heP⟩ : ∃ e, l[P]? = some e := ⟨_, List.getElem?_eq_getElem (by have := HLL.out; omega)⟩
        obtain ⟨eQ, heQ⟩ : ∃ e, l[Q]? = some e := ⟨_, List.getElem?_eq_getElem (by have := HLL.out; omega)⟩
        have HWP := Lib.hid (HWF.out eP (List.mem_of_getElem? heP)).1
        have HWQ := Lib.hid (HWF.out eQ (List.mem_of_getElem? heQ)).1
        have HM1 : Hid (∀ wx, Calls Tryz.prog 10 #[.int .i64 i, .int .i64 (L : Int)] wx (Quiet wx (.int .i64 (P : Int)))) := fun wx => mod_quietc HARG.out.2.2.1.1 HARG.out.2.2.1.2 (by omega) (by omega) hP wx
        have HM2 : Hid (∀ wx, Calls Tryz.prog 10 #[.int .i64 j, .int .i64 (L : Int)] wx (Quiet wx (.int .i64 (Q : Int)))) := fun wx => mod_quietc HARG.out.2.2.2.1 HARG.out.2.2.2.2 (by omega) (by omega) hQ wx
        obtain ⟨b, off, hab, hb, c0, -⟩ := (HENS.out w4 (Below.refl _ _)).at heP
        obtain ⟨b', off', hab', hb', d0, -⟩ := (HENS.out w4 (Below.refl _ _)).at heQ
        rw [hab] at hab'
        obtain ⟨rfl, rfl⟩ : b = b' ∧ off = off' := by simpa using hab'
        have hP0 : (0 : Int) ≤ (P : Int) := by omega
        have hQ0 : (0 : Int) ≤ (Q : Int) := by omega
        have hPL : (P : Int) < (L : Int) := p2
        have hQL : (Q : Int) < (L : Int) := p4
        subst hab
        clear hab' heP heQ hb hb' p1 p3 hP hQ p2 p4 hL0
        go_upto_region 7 with fail
        go_quiet (first
          | (go_at_call_of 10 (Value.int .i64 i); exact Calls.quiet_of (HM1.out _))
          | (go_at_call_of 10 (Value.int .i64 j); exact Calls.quiet_of (HM2.out _)))
        rename Nat => dq
        go_wp2_with fail
        go_meet
        exact ⟨eP.key, eQ.key, dq, rfl, rfl, HWP.out, HWQ.out, rfl⟩
    case' rest =>
      obtain ⟨lo, hi, d4, rfl, rfl, hlo, hhi, rfl⟩ := hcut
      have HLH : Hid (i64R lo ∧ i64R hi) := ⟨hlo, hhi⟩
      have HS5 : Hid (Scn I w.heap.size w (w4.drewN d4) (.pointer (some pa)) A 0 [⟨34, 2, .slice a1 L c1, L, ensV l⟩] []) := HS4.out.calm (below_drewN (Below.refl _ _) d4)
      have HEN5 : Hid (∀ wx, Below (w4.drewN d4).heap.size (w4.drewN d4) wx → EnsAt wx a1 l) := fun wx hb => ens_row (w := wx) (B := w.heap.size) (c := c1) HLL.out ((HS5.out.calm hb).rows _ (List.mem_singleton.2 rfl)) HWF.out
      generalize w4.drewN d4 = w5 at HS5 HEN5 ⊢
      clear hlo hhi HBBL HARG HS4 HENS
      obtain ⟨V, hV⟩ : ∃ V, (wantE l drp lo hi).length = V := ⟨_, rfl⟩
      have HV : Hid ((wantE l drp lo hi).length = V ∧ V ≤ L ∧ WfL (wantE l drp lo hi) ∧ Up (wantE l drp lo hi)) := ⟨hV, by rw [← HLL.out, ← hV]; exact want_len _ _ _ _, by unfold wantE; split; exact out_wf HWF.out lo hi; exact bet_wf HWF.out lo hi, by unfold wantE; split; exact out_up HUP.out lo hi; exact bet_up HUP.out lo hi⟩
      clear hV
      go_wp2_with fail
      refine (between_any lo hi (HEN5.out w5 (Below.refl _ _)) HLL.out (by have := HLEN.out; omega)).mono ?_
      rintro e w6 ⟨a6, c6, rfl, hr6, hb6⟩
      have HS6 := Lib.hid (HS5.out.row hb6 hr6)
      have HB6 := Lib.hid hb6
      clear hr6 hb6
      obtain ⟨ZL, hZL⟩ : ∃ n, (betE l lo hi).length = n := ⟨_, rfl⟩
      rw [hZL] at HS6 ⊢
      have HZL := Lib.hid hZL
      clear hZL
      go_upto_if 77 with fail
      go_cut [22] from 78 to 81 (fun s22 wx => ∃ a2 c2, s22 = .slice a2 V c2 ∧ Scn I w.heap.size w wx (.pointer (some pa)) A 0 [⟨34, 2, .slice a2 V c2, V, ensV (wantE l drp lo hi)⟩, ⟨34, 2, .slice a1 L c1, L, ensV l⟩] [])
      case first =>
        cases drp with
        | false =>
          have hw : betE l lo hi = wantE l false lo hi := rfl
          have hzv : ZL = V := by rw [← HZL.out, hw]; exact HV.out.1
          rw [hw, hzv] at HS6
          have HZV := Lib.hid hzv
          clear hw hzv
          go_wp2_with fail
          go_meet
          exact ⟨a6, c6, by rw [HZV.out], HS6.out⟩
        | true =>
          go_wp2_with fail
          refine (outside_any lo hi (HEN5.out w6 HB6.out) HLL.out (by have := HLEN.out; omega)).mono ?_
          rintro e w7 ⟨a7, c7, rfl, hr7, hb7⟩
          have hw : outE l lo hi = wantE l true lo hi := rfl
          have hs7 := HS6.out.row hb7 hr7
          rw [hw, HV.out.1] at hs7 ⊢
          have HS7 : Hid (Scn I w.heap.size w w7 (.pointer (some pa)) A 0 [⟨34, 2, .slice a7 V c7, V, ensV (wantE l true lo hi)⟩, ⟨34, 2, .slice a1 L c1, L, ensV l⟩] []) := hs7.less (((List.Sublist.refl _).cons _).cons_cons _) (List.Sublist.refl _)
          clear hs7 hr7 hb7 hw
          go_wp2_with fail
          go_meet
          exact ⟨a7, c7, rfl, HS7.out⟩
      case' rest =>
        obtain ⟨a2, c2, rfl, hs6⟩ := hcut
        have HS7 := Lib.hid hs6
        clear hs6 HS6 HB6 HZL HS5 HEN5
        rename World => w7
        go_wp2_with fail
        refine HS7.out.dump.mono ?_
        rintro e w9 ⟨da, dc, db, dd, rfl, hs9, -⟩
        obtain ⟨N, hN⟩ : ∃ N, A.σ.cap = N := ⟨_, rfl⟩
        obtain ⟨M, hM⟩ : ∃ M, A.σ.free.length = M := ⟨_, rfl⟩
        rw [hN, hM] at hs9 ⊢
        have HNM : Hid (A.σ.cap = N ∧ A.σ.free.length = M ∧ (N : Int) ≤ 65536 ∧ (M : Int) ≤ 201 ∧ M = sp + 1) := ⟨hN, hM, by have := HFR.out; have := HLEN.out; omega, by have := HFR.out; omega, by have := HFR.out; omega⟩
        have HS9 := Lib.hid hs9
        clear hs9 hN hM HS7
        go_wp2_with fail
        refine HS9.out.reads.mono ?_
        rintro e w10 ⟨rfl, hs10⟩
        have hs11 := hs10.box #[.slice da N dc, .slice db M dd] 40
        clear hs10 HS9
        go_upto_region 12 with fail
        generalize w10.alloc (.cells #[.slice da N dc, .slice db M dd] 40) = w11 at hs11 ⊢
        generalize w10.heap.size = q at hs11 ⊢
        obtain ⟨rs, hrs⟩ : ∃ rs : List Row, rs = [⟨28, 1, .slice db M dd, M, u32s A.σ.free⟩, ⟨77, 11, .slice da N dc, N, slotsV A⟩, ⟨34, 2, .slice a2 V c2, V, ensV (wantE l drp lo hi)⟩, ⟨34, 2, .slice a1 L c1, L, ensV l⟩] := ⟨_, rfl⟩
        rw [← hrs] at hs11
        have HR0 : Hid ((⟨28, 1, .slice db M dd, M, u32s A.σ.free⟩ : Row) ∈ rs) := by show _ ∈ _; rw [hrs]; simp
        have HR1 : Hid ((⟨77, 11, .slice da N dc, N, slotsV A⟩ : Row) ∈ rs) := by show _ ∈ _; rw [hrs]; simp
        have HR2 : Hid ((⟨34, 2, .slice a2 V c2, V, ensV (wantE l drp lo hi)⟩ : Row) ∈ rs) := by show _ ∈ _; rw [hrs]; simp
        have HS11 := Lib.hid hs11
        clear hs11 hrs
        have HCEL : Hid (∀ {wx : World} {C : Ar} {rdx : Int} {rs' : List Row} {bs' : List (Nat × Obj)}, Scn I w.heap.size w wx (.pointer (some pa)) C rdx rs' (bs' ++ [(q, .cells #[.slice da N dc, .slice db M dd] 40 (0, 0))]) → wx.cell? ⟨q, 0, none⟩ = some (.slice da N dc) ∧ wx.cell? ⟨q, 1, none⟩ = some (.slice db M dd)) := fun {wx C rdx rs' bs'} h => two_cells (h.boxes (q, .cells #[.slice da N dc, .slice db M dd] 40 (0, 0)) (by simp)).2
        go_upto_if 86 with fail
        go_cut [25, 26] from 87 to 102 (fun s25 s26 wx => ∃ (x : Nat) (e : Int) (B : Ar) (rd : Int), s25 = .int .u32 (x : Int) ∧ s26 = .int .i64 e ∧ CutQ A 0 (pls (fun _ => 0) ri) ri l (wantE l drp lo hi) (.returned (.tuple #[.int .u32 (x : Int), .int .i64 e])) B rd ∧ Scn I w.heap.size w wx (.pointer (some pa)) B rd rs [(q, .cells #[.slice da N dc, .slice db M dd] 40 (0, 0))])
        case first =>
          cases drp with
          | false =>
            go_wp2_with fail
            refine (HS11.out.mut fun F hI => HK.out.keep lo hi w11 hI HPL.out.inv HHM.out HTR.out HWF.out (by decide) (by decide) HLH.out.1 HLH.out.2).mono ?_
            rintro e w12 ⟨B, rd, hq, hs12⟩
            have hq2 := hq
            obtain ⟨x, ev, rfl⟩ := cutQ_ret hq2
            have HQ : Hid (CutQ A 0 (pls (fun _ => 0) ri) ri l (wantE l false lo hi) (.returned (.tuple #[.int .u32 (x : Int), .int .i64 ev])) B rd) := hq
            have HS12 := Lib.hid hs12
            clear hq hq2 hs12 HS11
            go_wp2_with fail
            go_meet
            exact ⟨x, ev, B, rd, rfl, rfl, HQ.out, HS12.out⟩
          | true =>
            go_wp2_with fail
            refine (HS11.out.mut fun F hI => HK.out.drop lo hi w11 hI HPL.out.inv HHM.out HTR.out HWF.out (by decide) (by decide) HLH.out.1 HLH.out.2).mono ?_
            rintro e w12 ⟨B, rd, hq, hs12⟩
            have hq2 := hq
            obtain ⟨x, ev, rfl⟩ := cutQ_ret hq2
            have HQ : Hid (CutQ A 0 (pls (fun _ => 0) ri) ri l (wantE l true lo hi) (.returned (.tuple #[.int .u32 (x : Int), .int .i64 ev])) B rd) := hq
            have HS12 := Lib.hid hs12
            clear hq hq2 hs12 HS11
            go_wp2_with fail
            go_meet
            exact ⟨x, ev, B, rd, rfl, rfl, HQ.out, HS12.out⟩
        case' rest =>
          obtain ⟨x, ev, B, rd, rfl, rfl, hq, hs12⟩ := hcut
          rename World => w12
          obtain ⟨h40, h41, hq⟩ := hq
          have HS12 := Lib.hid hs12
          obtain ⟨H, hH⟩ : ∃ H, (xh L : Int) = H := ⟨_, rfl⟩
          have hH2 := (xh_spec (n := L) (by have := HLEN.out; omega)).2.1
          have hHb : 0 ≤ H ∧ H ≤ 80 := ⟨by omega, by omega⟩
          have hbd : cutBd l.length = 240 * (H + 2) := by unfold cutBd; rw [HLL.out, hH]
          have HRD : Hid (0 ≤ rd ∧ rd ≤ 0 + 240 * (H + 2) ∧ rd ≤ 20000 ∧ 240 * (H + 2) ≤ 20000) := ⟨h40, by omega, by omega, by omega⟩
          have HHI : Hid (xhI (L : Int) = H) := by show _ = _; rw [xhI_nat (by have := HLEN.out; omega)]; exact hH
          have HHT : Hid (∀ wx, Calls Tryz.prog 18 #[.int .i64 (L : Int)] wx (Calm wx (.int .i64 H))) := fun wx => by rw [← HHI.out]; exact height_kit _ wx (by omega) (by have := HLEN.out; omega)
          obtain ⟨hH0, hH80⟩ := hHb
          have v8 : IntKind.i64.wrap (H + 2) = H + 2 := by rw [IntKind.wrap_i64]; omega
          have v9 : IntKind.i64.wrap (240 * (H + 2)) = 240 * (H + 2) := by rw [IntKind.wrap_i64]; omega
          have hmm : ((M : Int) == (M : Int)) = true := by simp
          clear hs12 HS11 h40 h41 hH hH2 hbd
          rcases hq with ⟨hw, he, ⟨t2, hg⟩, hfree⟩ | ⟨hw, hw0, he, hg, hfree⟩ | ⟨hw, hw0, hfull, he, rfl⟩ | ⟨hw, hw0, hroom, j2, t2, he, hg⟩
          · rw [HV.out.1, HLL.out] at hw
            obtain ⟨hx, rfl⟩ : (x : Int) = (ri : Int) ∧ ev = 0 := by simpa using he
            obtain rfl : x = ri := by omega
            have p1 : ((V : Int) == (L : Int)) = true := by simp [hw]
            have prr : ((x : Int) == (x : Int)) = true := by simp
            have HFB : Hid (B.σ.free.length = M) := hfree.trans HNM.out.2.1
            have HINV : Hid (B.Inv [] (hof [x, x])) := by
              have := hg.inv
              rw [HPI.out, hof_pls] at this
              exact this
            have HBG : Hid (B.Agg ∧ True) := ⟨hg.agg, trivial⟩
            have HON : Hid (∀ z ∈ [x, x], z = 0 ∨ B.σ.on z = true) := fun z hz => by
              simp at hz
              rw [hz]
              exact hg.sub.idx
            have HXI : Hid (∀ z ∈ [x, x], z < 4294967296) := fun z hz => by
              simp at hz
              rw [hz]
              exact HRI.out
            clear hw he hx hg hfree
            go_wp2_with fail
            refine (HHT.out w12).mono ?_
            rintro e w13 ⟨rfl, hb13⟩
            have HS13 := Lib.hid (HS12.out.calm hb13)
            clear hb13 HS12
            go_wp2_with fail
            refine (within_any (most := 240 * (H + 2)) HS13.out.mr (Int.le_refl _) HRD.out.1 HRD.out.2.1 (by have := HRD.out; omega) (by have := HRD.out; omega)).mono ?_
            rintro e w14 ⟨rfl, hb14⟩
            have HS14 := Lib.hid (HS13.out.calm hb14)
            clear hb14 HS13
            go_upto_region 19 with fail
            obtain ⟨q0, q1⟩ := HCEL.out (bs' := []) HS14.out
            have hSd := HS14.out.calm (Below.refl _ _).drew
            go_region_held3 (fun w' => w'.cell? ⟨q, 0, none⟩ = some (.slice da N dc) ∧ w'.cell? ⟨q, 1, none⟩ = some (.slice db M dd)) (go_keep) (first
              | (go_at_call 19; refine hSd.free.mono ?_; rintro e wC ⟨rfl, hsC⟩; rw [HFB.out]; obtain ⟨q0, q1⟩ := HCEL.out (bs' := []) hsC)
              | (go_at_call 20; refine ((hsC.box _ _).sound HCHK.out HINV.out HBG.out.1 (us_at15 _ _ [x, x] #[.int .u32 (x : Int), .int .u32 (x : Int)] rfl HXI.out) (L := 2) rfl (by decide) HON.out).mono ?_; rintro e wE ⟨rfl, hbE⟩; have hsE := (hsC.box _ _).calm hbE; obtain ⟨q0, q1⟩ := HCEL.out (bs' := [_]) hsE))
            all_goals (go_wp2_with fail; go_ret; exact ⟨rfl, hsE.below⟩)
          · rw [HV.out.1, HLL.out] at hw
            obtain ⟨hx, rfl⟩ : (x : Int) = 0 ∧ ev = 0 := by simpa using he
            obtain rfl : x = 0 := by omega
            have hV0 : V = 0 := by rw [← HV.out.1, hw0]; rfl
            have p1 : ((V : Int) == (L : Int)) = false := by simp; omega
            have p2 : ((V : Int) == 0) = true := by simp [hV0]
            have HFB : Hid (B.σ.free.length = M) := hfree.trans HNM.out.2.1
            have HINV : Hid (B.Inv [] (hof [ri])) := by
              have := hg.inv
              rw [HPI.out, pls_zero] at this
              exact this
            have HBG : Hid (B.Agg ∧ True) := ⟨hg.agg, trivial⟩
            have HON : Hid (∀ z ∈ [ri], z = 0 ∨ B.σ.on z = true) := fun z hz => by
              simp at hz
              rw [hz]
              rcases HTR.out.sub.idx with h | h
              · exact .inl h
              · exact .inr (hg.kept.on _ h)
            have HXI : Hid (∀ z ∈ [ri], z < 4294967296) := fun z hz => by
              simp at hz
              rw [hz]
              exact HRI.out
            clear hw hw0 he hx hg hfree hV0
            go_wp2_with fail
            refine (HHT.out w12).mono ?_
            rintro e w13 ⟨rfl, hb13⟩
            have HS13 := Lib.hid (HS12.out.calm hb13)
            clear hb13 HS12
            go_wp2_with fail
            refine (within_any (most := 240 * (H + 2)) HS13.out.mr (Int.le_refl _) HRD.out.1 HRD.out.2.1 (by have := HRD.out; omega) (by have := HRD.out; omega)).mono ?_
            rintro e w14 ⟨rfl, hb14⟩
            have HS14 := Lib.hid (HS13.out.calm hb14)
            clear hb14 HS13
            go_upto_region 21 with fail
            obtain ⟨q0, q1⟩ := HCEL.out (bs' := []) HS14.out
            have hSd := HS14.out.calm (Below.refl _ _).drew
            go_region_held3 (fun w' => w'.cell? ⟨q, 0, none⟩ = some (.slice da N dc) ∧ w'.cell? ⟨q, 1, none⟩ = some (.slice db M dd)) (go_keep) (first
              | (go_at_call 19; refine hSd.free.mono ?_; rintro e wC ⟨rfl, hsC⟩; rw [HFB.out]; obtain ⟨q0, q1⟩ := HCEL.out (bs' := []) hsC)
              | (go_at_call 20; refine ((hsC.box _ _).sound HCHK.out HINV.out HBG.out.1 (us_at15 _ _ [ri] #[.int .u32 (ri : Int)] rfl HXI.out) (L := 1) rfl (by decide) HON.out).mono ?_; rintro e wE ⟨rfl, hbE⟩; have hsE := (hsC.box _ _).calm hbE; obtain ⟨q0, q1⟩ := HCEL.out (bs' := [_]) hsE))
            all_goals (go_wp2_with fail; go_ret; exact ⟨rfl, hsE.below⟩)
          · rw [HV.out.1, HLL.out] at hw
            obtain ⟨hx, rfl⟩ : (x : Int) = 0 ∧ ev = 2 := by simpa using he
            obtain rfl : x = 0 := by omega
            have hV0 : V ≠ 0 := fun h => hw0 (List.eq_nil_of_length_eq_zero (HV.out.1.trans h))
            have p1 : ((V : Int) == (L : Int)) = false := by simp; omega
            have p2 : ((V : Int) == 0) = false := by simp; omega
            have hms : decide ((M : Int) < SP) = true := decide_eq_true (by rw [← HSPL.out.1, ← HNM.out.2.1, ← HLL.out]; exact hfull)
            have hms2 : (M : Int) < SP := by rw [← HSPL.out.1, ← HNM.out.2.1, ← HLL.out]; exact hfull
            clear hw hw0 he hx hfull hV0
            go_wp2_with fail
            refine (HHT.out w12).mono ?_
            rintro e w13 ⟨rfl, hb13⟩
            have HS13 := Lib.hid (HS12.out.calm hb13)
            clear hb13 HS12
            go_wp2_with fail
            refine (within_any (most := 240 * (H + 2)) HS13.out.mr (Int.le_refl _) HRD.out.1 HRD.out.2.1 (by have := HRD.out; omega) (by have := HRD.out; omega)).mono ?_
            rintro e w14 ⟨rfl, hb14⟩
            have HS14 := Lib.hid (HS13.out.calm hb14)
            clear hb14 HS13
            obtain ⟨q0, q1⟩ := HCEL.out (bs' := []) HS14.out
            go_upto_region 23 with fail
            have hSd := HS14.out.calm (Below.refl _ _).drew
            go_region_held3 (fun w' => w'.cell? ⟨q, 0, none⟩ = some (.slice da N dc) ∧ w'.cell? ⟨q, 1, none⟩ = some (.slice db M dd)) (go_keep) (first
              | (go_at_call 13; refine hSd.dump.mono ?_; rintro e wC ⟨ea, ec, eb, ed, rfl, hsC, -⟩; rw [HNM.out.1, HNM.out.2.1] at hsC ⊢; obtain ⟨q0, q1⟩ := HCEL.out (bs' := []) hsC)
              | (go_at_call 21; refine (same_dump B.σ.free HNM.out.2.1 (hsC.slots_of (c := ec) HPL.out.inv HNM.out.1 (by simp)) (hsC.slots_of (c := dc) HPL.out.inv HNM.out.1 (by simp [HR1.out])) (hsC.rows ⟨28, 1, .slice eb M ed, M, u32s B.σ.free⟩ (by simp)) (hsC.rows ⟨28, 1, .slice db M dd, M, u32s B.σ.free⟩ (by simp [HR0.out])) (by have := HNM.out; omega) (by have := HNM.out; omega)).mono ?_; rintro e wD ⟨rfl, hbD⟩; have hsD := hsC.calm hbD; obtain ⟨q0, q1⟩ := HCEL.out (bs' := []) hsD))
            all_goals (go_wp2_with fail; go_ret; exact ⟨rfl, hsD.below⟩)
          · rw [HV.out.1, HLL.out] at hw
            obtain ⟨hx, rfl⟩ : (x : Int) = (j2 : Int) ∧ ev = 0 := by simpa using he
            obtain rfl : x = j2 := by omega
            have hV0 : V ≠ 0 := fun h => hw0 (List.eq_nil_of_length_eq_zero (HV.out.1.trans h))
            have p1 : ((V : Int) == (L : Int)) = false := by simp; omega
            have p2 : ((V : Int) == 0) = false := by simp; omega
            have hms : decide ((M : Int) < SP) = false := decide_eq_false (by rw [← HSPL.out.1, ← HNM.out.2.1, ← HLL.out]; omega)
            have hms2 : ¬ (M : Int) < SP := by rw [← HSPL.out.1, ← HNM.out.2.1, ← HLL.out]; omega
            have HTX := Lib.hid (hg.tree HV.out.2.2.2)
            have HINV : Hid (B.Inv [] (hof [ri, x])) := by
              have := hg.inv
              rw [HPI.out, hof_pls] at this
              exact this
            have HBG : Hid (B.Agg ∧ B.σ.cap = N ∧ KeptS N A.sl B.sl) := ⟨hg.agg, hg.kept.cap.trans HNM.out.1, kept_keptS2 hg.kept hg.gen⟩
            have HON : Hid (∀ z ∈ [ri, x], z = 0 ∨ B.σ.on z = true) := fun z hz => by
              simp at hz
              rcases hz with rfl | rfl
              · rcases HTR.out.sub.idx with h | h
                · exact .inl h
                · exact .inr (hg.kept.on _ h)
              · exact hg.sub.idx
            have HXI : Hid (∀ z ∈ [ri, x], z < 4294967296) := fun z hz => by
              simp at hz
              rcases hz with rfl | rfl
              · exact HRI.out
              · exact HTX.out.idx
            clear hw hw0 he hx hroom hg hV0
            go_wp2_with fail
            refine (HHT.out w12).mono ?_
            rintro e w13 ⟨rfl, hb13⟩
            have HS13 := Lib.hid (HS12.out.calm hb13)
            clear hb13 HS12
            go_wp2_with fail
            refine (within_any (most := 240 * (H + 2)) HS13.out.mr (Int.le_refl _) HRD.out.1 HRD.out.2.1 (by have := HRD.out; omega) (by have := HRD.out; omega)).mono ?_
            rintro e w14 ⟨rfl, hb14⟩
            have HS14 := Lib.hid (HS13.out.calm hb14)
            clear hb14 HS13
            obtain ⟨q0, q1⟩ := HCEL.out (bs' := []) HS14.out
            go_upto_region 24 with fail
            have hSd := HS14.out.calm (Below.refl _ _).drew
            go_region_held3 (fun w' => w'.cell? ⟨q, 0, none⟩ = some (.slice da N dc) ∧ w'.cell? ⟨q, 1, none⟩ = some (.slice db M dd)) (go_keep) (first
              | (go_at_call 13; refine hsT.dump.mono ?_; rintro e wC2 ⟨fa, fc, fb, fd, rfl, hsC2, -⟩; rw [HBG.out.2.1] at hsC2 ⊢; obtain ⟨q0, q1⟩ := HCEL.out (bs' := []) hsC2)
              | (go_at_call 13; refine hSd.dump.mono ?_; rintro e wC ⟨ea, ec, eb, ed, rfl, hsC, -⟩; rw [HBG.out.2.1] at hsC ⊢; obtain ⟨q0, q1⟩ := HCEL.out (bs' := []) hsC)
              | (go_at_call 22; refine (refTree_any (b := eb) (c := ec) (m := B.σ.free.length) (d := ed) HINV.out HBG.out.2.1 (hsC.slots_of (c := ec) HINV.out HBG.out.2.1 (by simp)) HTX.out (ens_row (w := wC) (B := w.heap.size) (c := c2) HV.out.1 (hsC.rows ⟨34, 2, .slice a2 V c2, V, ensV (wantE l drp lo hi)⟩ (List.mem_cons_of_mem _ (List.mem_cons_of_mem _ HR2.out))) HV.out.2.2.1) HV.out.1 (by have := HV.out; have := HLEN.out; omega)).mono ?_; rintro e wT ⟨rfl, hbT⟩; have hsT := hsC.calm hbT; obtain ⟨q0, q1⟩ := HCEL.out (bs' := []) hsT)
              | (go_at_call 23; refine (kept_any (hsC2.slots_of (c := dc) HPL.out.inv HNM.out.1 (by simp [HR1.out])) (hsC2.slots_of (c := fc) HINV.out HBG.out.2.1 (by simp)) HBG.out.2.2 (by have := HNM.out; omega)).mono ?_; rintro e wD ⟨rfl, hbD⟩; have hsD := hsC2.calm hbD; obtain ⟨q0, q1⟩ := HCEL.out (bs' := []) hsD)
              | (go_at_call 20; refine ((hsD.box _ _).sound HCHK.out HINV.out HBG.out.1 (us_at15 _ _ [ri, x] #[.int .u32 (ri : Int), .int .u32 (x : Int)] rfl HXI.out) (L := 2) rfl (by decide) HON.out).mono ?_; rintro e wE ⟨rfl, hbE⟩; have hsE := (hsD.box _ _).calm hbE; obtain ⟨q0, q1⟩ := HCEL.out (bs' := [_]) hsE))
            all_goals (go_wp2_with fail; go_ret; exact ⟨rfl, hsE.below⟩)
end Go.Proofs.YtnimbgcploohiaaGreat
