/- Of the proofs of JoinJoins, JoinConcatenates, JoinSplits: RefTreeIs, JnAw, RefKept, SameSlots, SameRows, SameDump, JnDuo. -/
import Derived.Test.YtehaffcjoafkcaaGreatK6
import Derived.Test.YtehaffcjoafkcaaGreatK15
import Derived.Test.YtehaffcjoafkcaaGreatK4
import Derived.Test.YtehaffcjoafkcaaGreatK5
import Derived.Test.YtehaffcjoafkcaaGreatK1
import Derived.Test.YtehaffcjoafkcaaGreatK3
import Derived.Test.YtehaffcjoafkcaaGreatK2
import Derived.Deep.RegionHeld3
import Derived.Deep.QuietTactic
import Derived.Deep.DeepCutAuto
set_option linter.unusedVariables false
set_option linter.unusedSimpArgs false
namespace Go.Proofs.YtehaffcjoafkcaaGreat
open Go.RowKit
theorem tree_errI {A : Ar} {i : Nat} {t : Tr} {l : List En} (h : TreeAt A i t l) : errT A t = 0 := by
  have hu : Asc none (t.keys A.nd) := by rw [Tr.ents_keys, h.ents]; exact up_asc l none h.up (fun k hk => by cases hk)
  unfold errT
  rw [(ordT_spec A.nd t none).1 hu]
  show (if balT A t = true then (0 : Int) else 8) = 0
  rw [if_pos (by rw [balT_bal h.agg h.sub]; exact h.bal)]
set_option maxHeartbeats 4000000 in
set_option maxRecDepth 100000 in
theorem refTree_any {A : Ar} {w : World} {a b la : Option Addr} {N c m d i L lc : Nat} {t : Tr} {l : List En} {held : Nat → Nat} (hv : A.Inv [] held) (hN : A.σ.cap = N) (hS : SlotsAt w a N A.sl) (hT : TreeAt A i t l) (hE : EnsAt w la l) (hL : l.length = L) (hl : L ≤ 65536) :
    Calls Tryz.prog 49 #[.agg #[.slice a N c, .slice b m d], .int .u32 (i : Int), .slice la L lc] w (Calm w (.bool true)) := by
  have hb1 : Below w.heap.size w (w.alloc (Obj.cells #[.slice a N c, .slice b m d] 38)) := (Below.refl _ _).alloc (Nat.le_refl _) _
  have hx1 := heap_alloc_new w (Obj.cells #[.slice a N c, .slice b m d] 38)
  have hg1 : w.heap.size < (w.alloc (Obj.cells #[.slice a N c, .slice b m d] 38)).heap.size := by simp
  have hNN : N ≤ 65536 := by have := hv.ok.cap2; omega
  have HCK : Hid (∀ wx, Below w.heap.size w wx → Calls Tryz.prog 70 #[.agg #[.slice a N c, .slice b m d], .int .u32 (i : Int)] wx (Calm wx (.int .i64 0))) := fun wx hx => by
    have h := refCheck_ok (b := b) (c := c) (m := m) (d := d) hv.ok hT.agg hN (hS.below hx) hT.sub hNN
    rw [tree_errI hT] at h
    exact h
  have HND : Hid (∀ wx, Below w.heap.size w wx → Calls Tryz.prog 71 #[.agg #[.slice a N c, .slice b m d], .int .u32 (i : Int)] wx (Calm wx (.agg (ndRow (A.nz i))))) := fun wx hx => refNode_any (hS.below hx) hv.ok hN hT.idx
  have HSZ : Hid ((A.nz i).size = (L : Int)) := by show _ = _; rw [nz_size hT.sub.idx hv.ok, hT.sub.size hT.agg, hT.size, hL]
  have HLI : Hid (∀ wx, Below w.heap.size w wx → Calls Tryz.prog 72 #[.agg #[.slice a N c, .slice b m d], .int .u32 (i : Int)] wx (MadeEns wx l)) := fun wx hx => by
    have h := listT_any hv.ok hT.sub wx a b N c m d hN (hS.below hx) (by rw [hT.size, hL]; omega)
    rw [hT.ents] at h
    exact h
  have HE := Lib.hid hE
  have HL := Lib.hid hL
  have HX1 := Lib.hid hx1
  have HG1 := Lib.hid hg1
  have HB1 := Lib.hid hb1
  have hli : (L : Int) ≤ 65536 := by omega
  clear hv hN hS hT hE hL hx1 hg1 hb1 hNN
  go_enter Tryz.func49, Tryz.ntmps49
  go_upto_region 1 with fail
  generalize w.alloc (Obj.cells #[.slice a N c, .slice b m d] 38) = w1 at HX1 HG1 HB1 ⊢
  generalize hg : w.heap.size = g at HX1 HG1 ⊢
  have HC : Hid (∀ wx, Below w1.heap.size w1 wx → wx.cell? ⟨g, 0, none⟩ = some (.slice a N c) ∧ wx.cell? ⟨g, 1, none⟩ = some (.slice b m d)) := fun wx hb => two_cells ((hb.block g HG1.out).trans HX1.out)
  have HW : Hid (∀ wx, Below w1.heap.size w1 wx → Below w.heap.size w wx) := fun wx hb => HB1.out.trans (hb.mono HB1.out.size)
  clear hg
  obtain ⟨c0, c1⟩ := HC.out w1 (Below.refl _ _)
  go_wp2_with fail
  refine (HCK.out w1 HB1.out).mono ?_
  rintro e w2 ⟨rfl, hb2⟩
  have HB2 := Lib.hid hb2
  clear hb2 c0 c1
  obtain ⟨c0, c1⟩ := HC.out w2 HB2.out
  go_wp2_with fail
  refine (HND.out w2 (HW.out _ HB2.out)).mono ?_
  rintro e w3 ⟨rfl, hb3⟩
  have HB3 : Hid (Below w1.heap.size w1 w3) := HB2.out.trans (hb3.mono HB2.out.size)
  clear hb3 c0 c1 HB2
  obtain ⟨c0, c1⟩ := HC.out w3 HB3.out
  unfold ndRow
  rw [HSZ.out]
  have hrs := run_size (.int .i64 (A.nz i).key) (.int .i64 (A.nz i).val) (.int .u32 ((A.nz i).left : Int)) (.int .u32 ((A.nz i).right : Int)) (.int .i64 (L : Int)) (.int .i64 (A.nz i).sum) (.int .i64 (A.nz i).mn) (.int .i64 (A.nz i).mx) w3
  go_wp2_with fail
  refine (HLI.out w3 (HW.out _ HB3.out)).mono ?_
  rintro e w4 hme
  clear hrs c0 c1
  have HWF : Hid (∀ y ∈ l, i64R y.key ∧ i64R y.val) := fun y hy => HE.out.wf y hy
  obtain ⟨a4, c4, rfl, hE4, hb4⟩ := made_ens hme HWF.out HL.out
  have HB4 : Hid (Below w1.heap.size w1 w4) := HB3.out.trans (hb4.mono HB3.out.size)
  have HE4 := Lib.hid hE4
  have HE0 := Lib.hid (HE.out.below (HW.out _ HB4.out))
  clear hme hE4 hb4 HB3
  go_wp2_with fail
  go_loopw [8] (fun x wr => ∃ k : Nat, k ≤ L ∧ x = .int .i64 (k : Int) ∧ ∃ q, wr = w4.drewN q) (fun x _ => L - (intOf x).toNat)
  case atStart => exact ⟨0, Nat.zero_le _, rfl, 0, rfl⟩
  case round =>
    obtain ⟨k, hk, rfl, q, rfl⟩ := hrel
    by_cases hlt : k < L
    · have hki : (k : Int) < (L : Int) := by omega
      have hk0 : (0 : Int) ≤ (k : Int) := by omega
      obtain ⟨e, he⟩ : ∃ e, l[k]? = some e := ⟨_, List.getElem?_eq_getElem (by have := HL.out; omega)⟩
      obtain ⟨g1, off, rfl, hb, c0, c1⟩ := HE0.out.at he
      obtain ⟨g2, off', rfl, hb', d0, d1⟩ := HE4.out.at he
      generalize e.key = x0 at c0 d0
      generalize e.val = x1 at c1 d1
      have HLT := Lib.hid hlt
      clear he hb hb' hk hlt
      go_wp2_with fail
      go_quiet (fail)
      go_wp2_with fail
      exact ⟨⟨k + 1, by have := HLT.out; omega, by go_num, _, rfl⟩, by have := HLT.out; simp [intOf]; omega⟩
    · have hki : ¬ (k : Int) < (L : Int) := by omega
      clear hlt hk
      go_wp2_with fail
      go_ret
      exact ⟨rfl, below_drewN (HW.out _ HB4.out) q⟩
end Go.Proofs.YtehaffcjoafkcaaGreat
set_option linter.unusedVariables false
namespace Go.Proofs.YtehaffcjoafkcaaGreat
def Tr.idxs : Tr → List Nat
  | .nil => []
  | .node i l r => l.idxs ++ i :: r.idxs
theorem Tr.idxs_len : ∀ t : Tr, t.idxs.length = t.size
  | .nil => rfl
  | .node i l r => by
    show (l.idxs ++ i :: r.idxs).length = l.size + r.size + 1
    rw [List.length_append, List.length_cons, Tr.idxs_len l, Tr.idxs_len r]
    omega
theorem Sub.top_mem {A : Ar} {i : Nat} {t : Tr} (h : Sub A i t) : i = 0 ∨ i ∈ t.idxs := by
  cases h with
  | nil => exact .inl rfl
  | node i l r _ _ _ _ => exact .inr (by show i ∈ l.idxs ++ i :: r.idxs; simp)
theorem Sub.closed {A : Ar} {i : Nat} {t : Tr} (h : Sub A i t) : ∀ k ∈ t.idxs, ((A.nd k).left = 0 ∨ (A.nd k).left ∈ t.idxs) ∧ ((A.nd k).right = 0 ∨ (A.nd k).right ∈ t.idxs) := by
  induction h with
  | nil => intro k hk; cases hk
  | node i l r h0 h1 hl hr ihl ihr =>
    intro k hk
    show ((A.nd k).left = 0 ∨ (A.nd k).left ∈ l.idxs ++ i :: r.idxs) ∧ ((A.nd k).right = 0 ∨ (A.nd k).right ∈ l.idxs ++ i :: r.idxs)
    have hk' : k ∈ l.idxs ++ i :: r.idxs := hk
    rw [List.mem_append, List.mem_cons] at hk'
    simp only [List.mem_append, List.mem_cons]
    rcases hk' with hk' | rfl | hk'
    · have := ihl k hk'
      exact ⟨this.1.imp_right .inl, this.2.imp_right .inl⟩
    · have h2 := hl.top_mem
      have h3 := hr.top_mem
      exact ⟨h2.imp_right .inl, h3.imp_right fun h => .inr (.inr h)⟩
    · have := ihr k hk'
      exact ⟨this.1.imp_right fun h => .inr (.inr h), this.2.imp_right fun h => .inr (.inr h)⟩
/-- all that is reached lies in the trees -/
theorem reach_idxs {A : Ar} (hok : A.σ.Ok) {l : List Nat} {ts : List Tr} (hT : ∀ x ∈ l, ∃ t ∈ ts, Sub A x t) {k : Nat} (h : A.Reach (hof l) k) : k = 0 ∨ ∃ t ∈ ts, (∃ i, Sub A i t) ∧ k ∈ t.idxs := by
  induction h with
  | root i hi =>
    unfold hof at hi
    split at hi
    · cases hi
    · have hm : i ∈ l := by
        rcases Nat.eq_zero_or_pos (l.count i) with h | h
        · omega
        · exact List.count_pos_iff.1 h
      obtain ⟨t, ht, hs⟩ := hT i hm
      exact hs.top_mem.imp_right fun h => ⟨t, ht, ⟨i, hs⟩, h⟩
  | left k hon hk ih =>
    rcases ih with rfl | ⟨t, ht, ⟨i, hs⟩, hm⟩
    · exact absurd (hok.on 0 hon).1 (by decide)
    · exact (hs.closed k hm).1.imp_right fun h => ⟨t, ht, ⟨i, hs⟩, h⟩
  | right k hon hk ih =>
    rcases ih with rfl | ⟨t, ht, ⟨i, hs⟩, hm⟩
    · exact absurd (hok.on 0 hon).1 (by decide)
    · exact (hs.closed k hm).2.imp_right fun h => ⟨t, ht, ⟨i, hs⟩, h⟩
theorem sub_len : ∀ (l m : List Nat), l.Nodup → (∀ x ∈ l, x ∈ m) → l.length ≤ m.length
  | [], m, _, _ => Nat.zero_le _
  | x :: t, m, hn, hs => by
    rw [List.nodup_cons] at hn
    have h1 := sub_len t (m.erase x) hn.2 fun y hy => (List.mem_erase_of_ne (fun (e : y = x) => hn.1 (e ▸ hy))).2 (hs y (by simp [hy]))
    have hx : x ∈ m := hs x (by simp)
    rw [List.length_erase_of_mem hx] at h1
    have := List.length_pos_of_mem hx
    rw [List.length_cons]
    omega
theorem Ar.Inv.used {A : Ar} {l : List Nat} {ts : List Tr} (h : A.Inv [] (hof l)) (ha : A.Agg) (hT : ∀ x ∈ l, ∃ t ∈ ts, Sub A x t) : A.σ.cap ≤ A.σ.free.length + (ts.map Tr.size).sum := by
  have h1 : (List.range' 1 A.σ.cap).length ≤ (A.σ.free ++ ts.flatMap Tr.idxs).length := sub_len _ _ List.nodup_range' fun x hx => by
    have hx' := List.mem_range'_1.1 hx
    rw [List.mem_append]
    cases ho : A.σ.on x with
    | false => exact .inl ((h.ok.free x).2 ⟨by omega, by omega, ho⟩)
    | true =>
      have hr := Ar.reach_all h ha 2147483648 x ho (by have := (ha.size x ho).1; omega)
      rcases reach_idxs h.ok hT hr with rfl | ⟨t, ht, -, hm⟩
      · omega
      · exact .inr (List.mem_flatMap.2 ⟨t, ht, hm⟩)
  rw [List.length_range', List.length_append, List.length_flatMap] at h1
  have h2 : (ts.map fun t => t.idxs.length).sum = (ts.map Tr.size).sum := by congr 1; exact List.map_congr_left fun t _ => t.idxs_len
  have h3 : (List.map (List.length ∘ Tr.idxs) ts).sum = (ts.map Tr.size).sum := h2
  omega
end Go.Proofs.YtehaffcjoafkcaaGreat
set_option linter.unusedVariables false
set_option linter.unusedSimpArgs false
namespace Go.Proofs.YtehaffcjoafkcaaGreat
open Go.RowKit
/-- a number of spare slots, whatever it is -/
def SpareQ (need : Int) (w : World) (e : Ending) (w' : World) : Prop := ∃ sp : Nat, e = .returned (.int .i64 (sp : Int)) ∧ (sp : Int) ≤ need + 8 ∧ w' = w
theorem spare13_any (n need : Int) (w : World) (h0 : 0 ≤ n) (h1 : n < 65536) (h2 : 0 ≤ need) (h3 : need ≤ 1000000) : Calls Tryz.prog 9 #[.int .u16 n, .int .i64 need] w (SpareQ need w) := by
  have v0 : IntKind.i64.wrap n = n := by rw [IntKind.wrap_i64]; omega
  have v1 : IntKind.i64.wrap (need + 2) = need + 2 := by rw [IntKind.wrap_i64]; omega
  have hne : ¬ need + 2 = 0 := by omega
  by_cases h4 : n.tmod 4 = 0
  · obtain ⟨r, hr⟩ : ∃ r : Nat, n.tmod (need + 2) = (r : Int) := ⟨(n.tmod (need + 2)).toNat, by rw [Int.tmod_eq_emod_of_nonneg h0]; have := Int.emod_nonneg n (b := need + 2) hne; omega⟩
    have hrl : (r : Int) ≤ need + 8 := by rw [← hr, Int.tmod_eq_emod_of_nonneg h0]; have := Int.emod_lt_of_pos n (b := need + 2) (by omega); omega
    have HR := Lib.hid hrl
    have h4b : (n.tmod 4 == 0) = true := by rw [h4]; rfl
    clear hrl h0 h1 h2 h3 h4
    go_enter Tryz.func9, Tryz.ntmps9
    go_wp2_with fail
    go_ret
    exact ⟨r, rfl, HR.out, rfl⟩
  · obtain ⟨r, hr⟩ : ∃ r : Nat, n.tmod 9 = (r : Int) := ⟨(n.tmod 9).toNat, by rw [Int.tmod_eq_emod_of_nonneg h0]; omega⟩
    have hrl : (r : Int) ≤ 8 := by rw [← hr, Int.tmod_eq_emod_of_nonneg h0]; omega
    have v2 : IntKind.i64.wrap (r : Int) = (r : Int) := by rw [IntKind.wrap_i64]; omega
    have v3 : IntKind.i64.wrap (need + (r : Int)) = need + (r : Int) := by rw [IntKind.wrap_i64]; omega
    obtain ⟨s, hs⟩ : ∃ s : Nat, need + (r : Int) = (s : Int) := ⟨(need + r).toNat, by omega⟩
    have HS : Hid (need + (r : Int) = (s : Int) ∧ (s : Int) ≤ need + 8) := ⟨hs, by omega⟩
    have h4b : (n.tmod 4 == 0) = false := by simpa using h4
    clear hrl h0 h1 h2 h3 h4 hs
    go_enter Tryz.func9, Tryz.ntmps9
    go_wp2_with fail
    go_ret
    first | exact ⟨s, rfl, HS.out.2, rfl⟩ | exact ⟨s, by rw [HS.out.1]; rfl, HS.out.2, rfl⟩
theorem tree13_any {I : AImpl} {B : Nat} {w0 w : World} {p : Value} {A : Ar} {rd : Int} {rs : List Row} {bs : List (Nat × Obj)} {held : Nat → Nat} {i L lc : Nat} {la : Option Addr} {t : Tr} {l : List En} (h : Scn I B w0 w p A rd rs bs) (hv : A.Inv [] held) (hT : TreeAt A i t l) (hE : EnsAt w la l) (hL : l.length = L) (hl : L ≤ 65536) :
    Calls Tryz.prog 20 #[p, .int .u32 (i : Int), .slice la L lc] w (Calm w (.bool true)) := by
  obtain ⟨F, hF, _⟩ := h.mr.has
  obtain ⟨pa, rfl⟩ := I.ptr hF
  have HH := Lib.hid h
  have HV := Lib.hid hv
  have HT := Lib.hid hT
  have HE := Lib.hid hE
  have HL : Hid (l.length = L ∧ L ≤ 65536) := ⟨hL, hl⟩
  clear h hv hT hE hL hl hF
  go_enter Tryz.func20, Tryz.ntmps20
  go_wp2_with fail
  refine HH.out.dump.mono ?_
  rintro e w1 ⟨da, dc, db, dd, rfl, hs1, hb1⟩
  have HS1 := Lib.hid (hs1.dumped HV.out rfl)
  have HB1 := Lib.hid hb1
  clear hs1 hb1
  go_wp2_with fail
  refine (refTree_any (a := da) (b := db) (c := dc) (m := A.σ.free.length) (d := dd) HV.out rfl HS1.out HT.out (HE.out.below HB1.out) HL.out.1 HL.out.2).mono ?_
  rintro e w2 ⟨rfl, hb2⟩
  have HB2 := Lib.hid (HB1.out.trans (hb2.mono HB1.out.size))
  clear hb2
  go_wp2_with fail
  go_ret
  exact ⟨rfl, HB2.out⟩
end Go.Proofs.YtehaffcjoafkcaaGreat
set_option linter.unusedVariables false
set_option linter.unusedSimpArgs false
namespace Go.Proofs.YtehaffcjoafkcaaGreat
open Go.RowKit
theorem xh_max {n k : Nat} (hn : n ≤ 2147483647) (h : n < wt (k + 1) - 1) : xh n ≤ k := by
  obtain ⟨a, b, c⟩ := xh_spec hn
  rcases Nat.lt_or_ge k (xh n) with h3 | h3
  · have := wt_mono (show k + 1 ≤ xh n by omega); omega
  · exact h3
theorem xhI_max {n : Int} (h0 : 0 ≤ n) (h1 : n ≤ 152) : 0 ≤ xhI n ∧ xhI n ≤ 14 := by
  have h2 : xh n.toNat ≤ 14 := xh_max (by omega) (by show _ < 153; omega)
  unfold xhI
  rw [if_pos ⟨h0, by omega⟩]
  omega
theorem join_le {l r : Int} (h0 : 0 ≤ l) (h1 : 0 ≤ r) (h2 : l + r ≤ 151) : joinI l r ≤ 64 ∧ 0 ≤ joinI l r := by
  have h3 := xhI_max (n := l + r + 0 + 1) (by omega) (by omega)
  unfold joinI needI
  have hv : vld l ∧ vld r ∧ vld 0 := by unfold vld; omega
  rw [if_pos hv]
  omega
theorem nil_of_ents {A : Ar} {i : Nat} {t : Tr} (h : Sub A i t) (he : t.ents A.nd = []) : i = 0 ∧ t = .nil := by
  have h1 : t.size = 0 := by have := Tr.ents_len A.nd t; rw [he] at this; exact this.symm
  cases h with
  | nil => exact ⟨rfl, rfl⟩
  | node i l r _ _ _ _ => have : (Tr.node i l r).size = l.size + r.size + 1 := rfl; omega
theorem Got2.fst {A B : Ar} {held : Nat → Nat} {j k : Nat} {t u : Tr} {l m : List En} (h : Got2 A held B j t l k u m) (hu : Up l) : TreeAt B j t l := ⟨⟨_, h.inv⟩, h.agg, h.sub, h.bal, h.ents, hu⟩
theorem tree_nil {A : Ar} {held : Nat → Nat} (h : A.Inv [] held) (hg : A.Agg) : TreeAt A 0 .nil [] := ⟨⟨_, h⟩, hg, .nil, rfl, rfl, List.Pairwise.nil⟩
section
variable {I : AImpl} {B : Nat} {w0 w : World} {p : Value} {A : Ar} {rd : Int} {rs : List Row} {bs : List (Nat × Obj)}
theorem Scn.size (h : Scn I B w0 w p A rd rs bs) (h0 : 0 ≤ rd) (h1 : rd ≤ 4398046511104) {i : Nat} {t : Tr} {l : List En} (hT : TreeAt A i t l) :
    Calls Tryz.prog 36 #[p, .int .u32 (i : Int)] w fun e w' => e = .returned (.int .i64 (l.length : Int)) ∧ ∃ rd', Scn I B w0 w' p A rd' rs bs ∧ rd ≤ rd' ∧ rd' ≤ rd + 1 := by
  obtain ⟨F, f1, f2, f3⟩ := h.mr.has
  refine (I.size p A rd F i w f1 h0 (by omega) hT.idx).mono ?_
  rintro e w1 ⟨F', hal, h5, h6⟩
  have hsz := hT.sub.size hT.agg
  rw [hT.size] at hsz
  rcases hT.sub.idx with h7 | h7
  · have hoff : A.σ.on i = false := by
      subst h7
      cases hc : A.σ.on 0 with
      | false => rfl
      | true => have := (I.ok f1).on 0 hc; omega
    obtain ⟨rfl, h8⟩ := h5 hoff
    have hst := h.mr.step f2 f3 hal h8
    have hz : A.sz i = 0 := by unfold Ar.sz; rw [if_pos h7]
    exact ⟨by rw [hz] at hsz; rw [← hsz], rd, h.step hst.1 hst.2, by omega, by omega⟩
  · obtain ⟨rfl, h8⟩ := h6 h7
    have hst := h.mr.step f2 f3 hal h8
    have h9 : i ≠ 0 := by have := (I.ok f1).on i h7; omega
    have hz : A.sz i = (A.nd i).size := by unfold Ar.sz; rw [if_neg h9]
    exact ⟨by rw [← hsz, hz], rd + 1, h.step hst.1 hst.2, by omega, by omega⟩
end
end Go.Proofs.YtehaffcjoafkcaaGreat
set_option linter.unusedVariables false
set_option linter.unusedSimpArgs false
namespace Go.Proofs.YtehaffcjoafkcaaGreat
open Go.RowKit
def l1 : List En := [⟨1, 10⟩]
def l15 : List En := [⟨1, 10⟩, ⟨5, 50⟩]
theorem l1_up : Up l1 := by unfold Up l1; simp
theorem l15_up : Up l15 := by unfold Up l15; simp
theorem l1_wf : WfL l1 := by
  intro y hy
  simp [l1] at hy
  subst hy
  exact ⟨⟨by decide, by decide⟩, ⟨by decide, by decide⟩⟩
theorem l15_wf : WfL l15 := by
  intro y hy
  simp [l15] at hy
  rcases hy with rfl | rfl <;> exact ⟨⟨by decide, by decide⟩, ⟨by decide, by decide⟩⟩
theorem l1_at (w : World) (t : TypeId) : EnsAt (w.alloc (.cells #[.int .i64 1, .int .i64 10] t)) (some ⟨w.heap.size, 0, none⟩) l1 := by
  have hr := heap_alloc_new w (.cells #[.int .i64 1, .int .i64 10] t)
  refine ⟨fun j e he => ⟨w.heap.size, 0, rfl, by simp, ?_⟩, l1_wf⟩
  match j, he with
  | 0, he => cases he; constructor <;> (rw [cell_of_row _ _ _ _ _ _ hr]; rfl)
  | j + 1, he => simp [l1] at he
set_option maxHeartbeats 4000000 in
set_option maxRecDepth 100000 in
theorem awake13_any (I : AImpl) (K : JoinImpl I) (w : World) : Calls Tryz.prog 10 #[] w (Calm w (.bool true)) := by
  have HK := Lib.hid K
  have HAT := Lib.hid (l1_at w 25)
  have HB := Lib.hid (below_new7 w (.cells #[.int .i64 1, .int .i64 10] 25))
  have HUPS : Hid (Up l1 ∧ Up l15 ∧ WfL l1 ∧ WfL l15 ∧ l1 ++ (⟨5, 50⟩ : En) :: [] = l15 ∧ AllLt l1 5 ∧ AllGt ([] : List En) 5 ∧ lowE l15 5 = l1 ∧ highE l15 5 = [] ∧ getE l15 5 = some ⟨5, 50⟩ ∧ ¬ wholeE l15 5) :=
    ⟨l1_up, l15_up, l1_wf, l15_wf, rfl, fun y hy => by (simp [l1] at hy; subst hy; decide), fun y hy => (by cases hy), rfl, rfl, rfl, fun h => by have h1 := h.1; cases h1⟩
  have HR5 : Hid (i64R 5 ∧ i64R 50 ∧ splitI (l15.length : Int) ≤ 48 ∧ joinI (l1.length : Int) (([] : List En).length : Int) ≤ 16 ∧ joinBd l1.length ([] : List En).length ≤ 10000 ∧ splitBd l15.length ≤ 10000) := ⟨⟨by decide, by decide⟩, ⟨by decide, by decide⟩, by decide, by decide, by decide, by decide⟩
  clear K
  go_enter Tryz.func10, Tryz.ntmps10
  go_wp2_with fail
  generalize w.alloc (.cells #[.int .i64 1, .int .i64 10] 25) = w1 at HAT HB ⊢
  refine (grow_any I (l := l1) (n := 1) (c := 1) (sp := 60) (m := 61) HAT.out rfl (by decide) (by decide) rfl (by decide) (by decide) (by decide) (by decide)).mono ?_
  rintro e w2 ⟨p, A, i, t, F, rfl, hg⟩
  obtain ⟨pa, rfl⟩ := I.ptr hg.is
  have HT := Lib.hid (hg.planted.tree l1_up)
  have HPL := Lib.hid hg.planted
  have hfr : A.σ.free.length = 60 := by
    have h := hg.planted.free
    have h2 : (Ar.init 61).σ.free.length = 61 := by show (List.range' 1 61).length = _; simp
    have h3 : l1.length = 1 := rfl
    omega
  have HFR : Hid (A.σ.free.length = 60 ∧ A.σ.cap = 61) := ⟨hfr, hg.planted.kept.cap⟩
  clear hfr
  have HS2 : Hid (Scn I w.heap.size w w2 (.pointer (some pa)) A 0 [] []) := Scn.start ⟨⟨F, hg.is, fun k hk => Nat.le_trans HB.out.size (hg.foot k hk), fun k hk => hk.elim⟩, HB.out.trans (hg.below.mono HB.out.size), Nat.le_trans HB.out.size hg.below.size⟩
  have HHM : Hid (∀ j, pls (fun _ => 0) i j ≤ 1048000) := fun j => by rw [pls_at]; split <;> omega
  have HPI : Hid (pls (fun _ => 0) i = hof [i]) := by show _ = _; have := hof_pls [] i; rw [hof_nil] at this; exact this
  clear hg HAT HB
  go_wp2_with fail
  refine (HS2.out.mut fun F hI => HK.out.join ⟨5, 50⟩ w2 hI HPL.out.inv HHM.out HT.out (tree_nil HPL.out.inv HPL.out.agg) HUPS.out.2.2.1 (fun y hy => by cases hy) (by decide) (by decide) HR5.out.1 HR5.out.2.1).mono ?_
  rintro e w3 ⟨B, rd3, ⟨h30, h31, hq⟩, hs3⟩
  have HS3 := Lib.hid hs3
  have HRD3 : Hid (0 ≤ rd3 ∧ rd3 ≤ 10000) := ⟨h30, by have := HR5.out; omega⟩
  clear hs3 HS2 h30 h31
  rcases hq with ⟨q1, -⟩ | ⟨-, q2, -⟩ | ⟨-, -, j, tj, rfl, hj, -⟩
  · exact absurd ⟨HUPS.out.2.2.2.2.2.1, HUPS.out.2.2.2.2.2.2.1⟩ q1
  · exact absurd q2 (by have := HR5.out; have := HFR.out; omega)
  rw [HUPS.out.2.2.2.2.1] at hj
  have HJ := Lib.hid hj
  have HTJ := Lib.hid (hj.tree HUPS.out.2.1)
  have HFB : Hid (48 ≤ B.σ.free.length) := by
    show _ ≤ _
    have h1 : B.Inv [] (hof [i, j]) := by have := hj.inv; rw [HPI.out, hof_pls] at this; exact this
    have h2 := h1.used hj.agg (ts := [t, tj]) (fun x hx => by
      simp at hx
      rcases hx with rfl | rfl
      · exact ⟨t, by simp, HPL.out.sub.kept hj.kept⟩
      · exact ⟨tj, by simp, hj.sub⟩)
    simp at h2
    have h3 := HT.out.size
    have h4 := HTJ.out.size
    have h5 : l1.length = 1 := rfl
    have h6 : l15.length = 2 := rfl
    have h7 := hj.kept.cap
    have h8 := HFR.out.2
    omega
  have HHJ : Hid (∀ x, pls (pls (fun _ => 0) i) j x ≤ 1048000) := fun x => by rw [pls_at, pls_at]; split <;> split <;> omega
  clear hj
  go_wp2_with fail
  refine (HS3.out.mut fun F hI => HK.out.split 5 w3 hI HJ.out.inv HHJ.out HTJ.out HUPS.out.2.2.2.1 HRD3.out.1 (by have := HRD3.out; omega) HR5.out.1).mono ?_
  rintro e w4 ⟨C, rd4, ⟨h40, h41, hq⟩, hs4⟩
  have HS4 := Lib.hid hs4
  have HRD4 : Hid (0 ≤ rd4 ∧ rd4 ≤ 20000) := ⟨by have := HRD3.out; omega, by have := HRD3.out; have := HR5.out; omega⟩
  clear hs4 HS3 h40 h41
  rcases hq with ⟨q1, -⟩ | ⟨-, q2, -⟩ | ⟨-, -, x, y, tx, ty, rfl, hxy⟩
  · exact absurd q1 HUPS.out.2.2.2.2.2.2.2.2.2.2
  · exact absurd q2 (by have := HR5.out; have := HFB.out; omega)
  have hl := HUPS.out.2.2.2.2.2.2.2.1
  have hh := HUPS.out.2.2.2.2.2.2.2.2.1
  rw [hl, hh] at hxy
  rw [HUPS.out.2.2.2.2.2.2.2.2.2.1]
  obtain ⟨rfl, rfl⟩ := nil_of_ents hxy.sub2 hxy.ents2
  have HTX := Lib.hid (hxy.fst HUPS.out.1)
  have HTJ2 := Lib.hid (HTJ.out.kept hxy.kept hxy.inv hxy.agg)
  have HLN : Hid ((l1.length : Int) = 1 ∧ (l15.length : Int) = 2) := ⟨rfl, rfl⟩
  clear hl hh hxy HTJ HJ
  go_wp2_with fail
  refine (HS4.out.size HRD4.out.1 (by have := HRD4.out; omega) HTJ2.out).mono ?_
  rintro e w5 ⟨rfl, rd5, hs5, h50, h51⟩
  rw [HLN.out.2]
  have HS5 := Lib.hid hs5
  have HRD5 : Hid (0 ≤ rd5 ∧ rd5 ≤ 30000) := ⟨by have := HRD4.out; omega, by have := HRD4.out; omega⟩
  clear hs5 HS4 h50 h51
  go_wp2_with fail
  refine (HS5.out.size HRD5.out.1 (by have := HRD5.out; omega) HTX.out).mono ?_
  rintro e w6 ⟨rfl, rd6, hs6, h60, h61⟩
  rw [HLN.out.1]
  have HB6 := Lib.hid hs6.below
  clear hs6 HS5 h60 h61
  go_wp2_with fail
  go_ret
  exact ⟨rfl, HB6.out⟩
end Go.Proofs.YtehaffcjoafkcaaGreat
set_option linter.unusedVariables false
set_option linter.unusedSimpArgs false
namespace Go.Proofs.YtehaffcjoafkcaaGreat
open Go.RowKit
theorem two_alloc (w : World) (x y : Array Value) (ty : TypeId) : ((w.alloc (.cells x ty)).alloc (.cells y ty)).drew.heap[w.heap.size]? = some (.cells x ty (0, 0)) ∧ ((w.alloc (.cells x ty)).alloc (.cells y ty)).drew.heap[w.heap.size + 1]? = some (.cells y ty (0, 0)) ∧ Below w.heap.size w ((w.alloc (.cells x ty)).alloc (.cells y ty)).drew := by
  have e1 : (w.alloc (.cells x ty)).heap.size = w.heap.size + 1 := by simp
  have h1 := heap_alloc_new w (.cells x ty)
  have h2 := heap_alloc_new (w.alloc (.cells x ty)) (.cells y ty)
  rw [e1] at h2
  have hb := below_newL (w.alloc (.cells x ty)) (.cells y ty)
  exact ⟨(hb.block _ (by omega)).trans h1, h2, ((below_newL w _).trans (hb.mono (by omega))).drew⟩
/-- every allocated slot is allocated later, with the same node and generation -/
def KeptS (n : Nat) (S T : Nat → Sl) : Prop := ∀ j, j < n → (S j).on = true → (T j).on = true ∧ (T j).nd = (S j).nd ∧ (T j).gen = (S j).gen
set_option maxHeartbeats 4000000 in
set_option maxRecDepth 100000 in
theorem kept_any {w : World} {a a' b b' : Option Addr} {n c c' m m' d d' : Nat} {S T : Nat → Sl} (h : SlotsAt w a n S) (h' : SlotsAt w a' n T) (hk : KeptS n S T) (hn : n ≤ 65536) :
    Calls Tryz.prog 21 #[.agg #[.slice a n c, .slice b m d], .agg #[.slice a' n c', .slice b' m' d']] w (Calm w (.bool true)) := by
  have hni : (n : Int) ≤ 65536 := by omega
  have HKK := Lib.hid hk
  have hx := (below_newL (w.alloc (Obj.cells #[.slice a n c, .slice b m d] 38)) (Obj.cells #[.slice a' n c', .slice b' m' d'] 38)).block w.heap.size (by simp) |>.trans (heap_alloc_new w (Obj.cells #[.slice a n c, .slice b m d] 38))
  have hy := heap_alloc_new (w.alloc (Obj.cells #[.slice a n c, .slice b m d] 38)) (Obj.cells #[.slice a' n c', .slice b' m' d'] 38)
  rw [show (w.alloc (Obj.cells #[.slice a n c, .slice b m d] 38)).heap.size = w.heap.size + 1 by simp] at hy
  have hb2 : Below w.heap.size w ((w.alloc (Obj.cells #[.slice a n c, .slice b m d] 38)).alloc (Obj.cells #[.slice a' n c', .slice b' m' d'] 38)) := (below_newL w _).trans ((below_newL _ _).mono (by simp))
  have hl2 : w.heap.size + 1 < ((w.alloc (Obj.cells #[.slice a n c, .slice b m d] 38)).alloc (Obj.cells #[.slice a' n c', .slice b' m' d'] 38)).heap.size := by simp
  have hS2 := h.below hb2
  have hT2 := h'.below hb2
  clear h h' hk
  go_enter Tryz.func21, Tryz.ntmps21
  go_upto_region 1 with fail
  generalize (w.alloc (Obj.cells #[.slice a n c, .slice b m d] 38)).alloc (Obj.cells #[.slice a' n c', .slice b' m' d'] 38) = w2 at hx hy hb2 hl2 hS2 hT2 ⊢
  obtain ⟨g1, hg1⟩ : ∃ g, w.heap.size = g := ⟨_, rfl⟩
  obtain ⟨g2, hg2⟩ : ∃ g, g1 + 1 = g := ⟨_, rfl⟩
  rw [hg1] at hx hy hl2 ⊢
  rw [hg2] at hy hl2 ⊢
  have HX := Lib.hid hx
  have HY := Lib.hid hy
  have HB2 := Lib.hid hb2
  have HL2 : Hid (g1 < w2.heap.size ∧ g2 < w2.heap.size) := ⟨by omega, hl2⟩
  have HS2 := Lib.hid hS2
  have HT2 := Lib.hid hT2
  clear hx hy hb2 hl2 hS2 hT2 hg1 hg2
  have HC : Hid (∀ wx, Below w2.heap.size w2 wx → wx.cell? ⟨g1, 0, none⟩ = some (.slice a n c) ∧ wx.cell? ⟨g2, 0, none⟩ = some (.slice a' n c')) := fun wx hb =>
    ⟨by rw [cell_of_row _ _ _ _ _ _ ((hb.block g1 HL2.out.1).trans HX.out)]; rfl, by rw [cell_of_row _ _ _ _ _ _ ((hb.block g2 HL2.out.2).trans HY.out)]; rfl⟩
  obtain ⟨c0, d0⟩ := HC.out w2 (Below.refl _ _)
  go_wp2_with fail
  clear c0 d0
  go_loopw [5] (fun i wr => ∃ k : Nat, k ≤ n ∧ i = .int .i64 (k : Int) ∧ Below w2.heap.size w2 wr) (fun i _ => n - (intOf i).toNat)
  case atStart => exact ⟨0, Nat.zero_le _, rfl, Below.refl _ _⟩
  case round =>
    obtain ⟨k, hk, rfl, hbr⟩ := hrel
    have HBR := Lib.hid hbr
    obtain ⟨c0, d0⟩ := HC.out wr hbr
    by_cases hlt : k < n
    · have hki : (k : Int) < (n : Int) := by omega
      have hk0 : (0 : Int) ≤ (k : Int) := by omega
      have HLT := Lib.hid hlt
      obtain ⟨p, off, hap, hp, s0, s1, s2, s3, s4, s5, s6, s7, s8, s9, s10⟩ := (HS2.out.below hbr).all hlt
      obtain ⟨p', off', hap', hp', t0, t1, t2, t3, t4, t5, t6, t7, t8, t9, t10⟩ := (HT2.out.below hbr).all hlt
      have HEQ : Hid ((S k).on = true → (T k).on = true ∧ (T k).gen = (S k).gen ∧ (T k).nd.key = (S k).nd.key ∧ (T k).nd.val = (S k).nd.val ∧ ((T k).nd.left : Int) = ((S k).nd.left : Int) ∧ ((T k).nd.right : Int) = ((S k).nd.right : Int) ∧ (T k).nd.size = (S k).nd.size ∧ (T k).nd.sum = (S k).nd.sum ∧ (T k).nd.mn = (S k).nd.mn ∧ (T k).nd.mx = (S k).nd.mx) := fun ho => by
        obtain ⟨e1, e2, e3⟩ := HKK.out k HLT.out ho
        rw [e2]
        exact ⟨e1, e3, rfl, rfl, rfl, rfl, rfl, rfl, rfl, rfl⟩
      generalize (S k).on = x0 at s0 HEQ
      generalize (S k).cnt = x1 at s1
      generalize (S k).gen = x2 at s2 HEQ
      generalize (S k).nd.key = x3 at s3 HEQ
      generalize (S k).nd.val = x4 at s4 HEQ
      generalize ((S k).nd.left : Int) = x5 at s5 HEQ
      generalize ((S k).nd.right : Int) = x6 at s6 HEQ
      generalize (S k).nd.size = x7 at s7 HEQ
      generalize (S k).nd.sum = x8 at s8 HEQ
      generalize (S k).nd.mn = x9 at s9 HEQ
      generalize (S k).nd.mx = x10 at s10 HEQ
      generalize (T k).on = y0 at t0 HEQ
      generalize (T k).cnt = y1 at t1
      generalize (T k).gen = y2 at t2 HEQ
      generalize (T k).nd.key = y3 at t3 HEQ
      generalize (T k).nd.val = y4 at t4 HEQ
      generalize ((T k).nd.left : Int) = y5 at t5 HEQ
      generalize ((T k).nd.right : Int) = y6 at t6 HEQ
      generalize (T k).nd.size = y7 at t7 HEQ
      generalize (T k).nd.sum = y8 at t8 HEQ
      generalize (T k).nd.mn = y9 at t9 HEQ
      generalize (T k).nd.mx = y10 at t10 HEQ
      subst hap
      subst hap'
      clear hk hlt hbr
      go_upto_region 6 with fail
      go_cut [6, 7] (fun s6 s7 wx => ∃ gx gy : Nat, s6 = .pointer (some ⟨gx, 0, none⟩) ∧ s7 = .pointer (some ⟨gy, 0, none⟩) ∧ wx.heap[gx]? = some (.cells #[.bool x0, .int .i64 x1, .int .u32 x2, .int .i64 x3, .int .i64 x4, .int .u32 x5, .int .u32 x6, .int .i64 x7, .int .i64 x8, .int .i64 x9, .int .i64 x10] 83 (0, 0)) ∧ wx.heap[gy]? = some (.cells #[.bool y0, .int .i64 y1, .int .u32 y2, .int .i64 y3, .int .i64 y4, .int .u32 y5, .int .u32 y6, .int .i64 y7, .int .i64 y8, .int .i64 y9, .int .i64 y10] 83 (0, 0)) ∧ Below wr.heap.size wr wx)
      case first =>
        obtain ⟨c0, d0⟩ := HC.out wr.drew HBR.out.drew
        go_region_held3 (fun w' => w'.cell? ⟨g1, 0, none⟩ = some (.slice (some ⟨p, off, none⟩) n c) ∧ w'.cell? ⟨g2, 0, none⟩ = some (.slice (some ⟨p', off', none⟩) n c') ∧ w'.cell? ⟨p, off + k * 11, none⟩ = some (.bool x0) ∧ w'.cell? ⟨p, off + k * 11 + 1, none⟩ = some (.int .i64 x1) ∧ w'.cell? ⟨p, off + k * 11 + 2, none⟩ = some (.int .u32 x2) ∧ w'.cell? ⟨p, off + k * 11 + 3, none⟩ = some (.int .i64 x3) ∧ w'.cell? ⟨p, off + k * 11 + 4, none⟩ = some (.int .i64 x4) ∧ w'.cell? ⟨p, off + k * 11 + 5, none⟩ = some (.int .u32 x5) ∧ w'.cell? ⟨p, off + k * 11 + 6, none⟩ = some (.int .u32 x6) ∧ w'.cell? ⟨p, off + k * 11 + 7, none⟩ = some (.int .i64 x7) ∧ w'.cell? ⟨p, off + k * 11 + 8, none⟩ = some (.int .i64 x8) ∧ w'.cell? ⟨p, off + k * 11 + 9, none⟩ = some (.int .i64 x9) ∧ w'.cell? ⟨p, off + k * 11 + 10, none⟩ = some (.int .i64 x10) ∧ w'.cell? ⟨p', off' + k * 11, none⟩ = some (.bool y0) ∧ w'.cell? ⟨p', off' + k * 11 + 1, none⟩ = some (.int .i64 y1) ∧ w'.cell? ⟨p', off' + k * 11 + 2, none⟩ = some (.int .u32 y2) ∧ w'.cell? ⟨p', off' + k * 11 + 3, none⟩ = some (.int .i64 y3) ∧ w'.cell? ⟨p', off' + k * 11 + 4, none⟩ = some (.int .i64 y4) ∧ w'.cell? ⟨p', off' + k * 11 + 5, none⟩ = some (.int .u32 y5) ∧ w'.cell? ⟨p', off' + k * 11 + 6, none⟩ = some (.int .u32 y6) ∧ w'.cell? ⟨p', off' + k * 11 + 7, none⟩ = some (.int .i64 y7) ∧ w'.cell? ⟨p', off' + k * 11 + 8, none⟩ = some (.int .i64 y8) ∧ w'.cell? ⟨p', off' + k * 11 + 9, none⟩ = some (.int .i64 y9) ∧ w'.cell? ⟨p', off' + k * 11 + 10, none⟩ = some (.int .i64 y10)) (go_keep) (fail)
        all_goals (go_wp2_with fail; go_meet)
        · have h := two_alloc wr #[.bool x0, .int .i64 x1, .int .u32 x2, .int .i64 x3, .int .i64 x4, .int .u32 x5, .int .u32 x6, .int .i64 x7, .int .i64 x8, .int .i64 x9, .int .i64 x10] #[.bool y0, .int .i64 y1, .int .u32 y2, .int .i64 y3, .int .i64 y4, .int .u32 y5, .int .u32 y6, .int .i64 y7, .int .i64 y8, .int .i64 y9, .int .i64 y10] 83
          exact ⟨_, _, rfl, rfl, h.1, h.2.1, h.2.2⟩
        · have h := two_alloc wr #[.bool y0, .int .i64 y1, .int .u32 y2, .int .i64 y3, .int .i64 y4, .int .u32 y5, .int .u32 y6, .int .i64 y7, .int .i64 y8, .int .i64 y9, .int .i64 y10] #[.bool x0, .int .i64 x1, .int .u32 x2, .int .i64 x3, .int .i64 x4, .int .u32 x5, .int .u32 x6, .int .i64 x7, .int .i64 x8, .int .i64 x9, .int .i64 x10] 83
          exact ⟨_, _, rfl, rfl, h.2.1, h.1, h.2.2⟩
      case' rest =>
        rename World => w5
        obtain ⟨gx, gy, rfl, rfl, hgx, hgy, hb5⟩ := hcut
        have HB5 : Hid (Below w2.heap.size w2 w5) := HBR.out.trans (hb5.mono HBR.out.size)
        have cx : ∀ j v, #[.bool x0, .int .i64 x1, .int .u32 x2, .int .i64 x3, .int .i64 x4, .int .u32 x5, .int .u32 x6, .int .i64 x7, .int .i64 x8, .int .i64 x9, .int .i64 x10][j]? = some v → w5.cell? ⟨gx, j, none⟩ = some v := fun j v hj => by rw [cell_of_row _ _ _ _ _ _ hgx]; exact hj
        have cy : ∀ j v, #[.bool y0, .int .i64 y1, .int .u32 y2, .int .i64 y3, .int .i64 y4, .int .u32 y5, .int .u32 y6, .int .i64 y7, .int .i64 y8, .int .i64 y9, .int .i64 y10][j]? = some v → w5.cell? ⟨gy, j, none⟩ = some v := fun j v hj => by rw [cell_of_row _ _ _ _ _ _ hgy]; exact hj
        have s0 : w5.cell? ⟨gx, 0, none⟩ = some (.bool x0) := cx 0 _ rfl
        have t0 : w5.cell? ⟨gy, 0, none⟩ = some (.bool y0) := cy 0 _ rfl
        have s1 : w5.cell? ⟨gx, 1, none⟩ = some (.int .i64 x1) := cx 1 _ rfl
        have t1 : w5.cell? ⟨gy, 1, none⟩ = some (.int .i64 y1) := cy 1 _ rfl
        have s2 : w5.cell? ⟨gx, 2, none⟩ = some (.int .u32 x2) := cx 2 _ rfl
        have t2 : w5.cell? ⟨gy, 2, none⟩ = some (.int .u32 y2) := cy 2 _ rfl
        have s3 : w5.cell? ⟨gx, 3, none⟩ = some (.int .i64 x3) := cx 3 _ rfl
        have t3 : w5.cell? ⟨gy, 3, none⟩ = some (.int .i64 y3) := cy 3 _ rfl
        have s4 : w5.cell? ⟨gx, 4, none⟩ = some (.int .i64 x4) := cx 4 _ rfl
        have t4 : w5.cell? ⟨gy, 4, none⟩ = some (.int .i64 y4) := cy 4 _ rfl
        have s5 : w5.cell? ⟨gx, 5, none⟩ = some (.int .u32 x5) := cx 5 _ rfl
        have t5 : w5.cell? ⟨gy, 5, none⟩ = some (.int .u32 y5) := cy 5 _ rfl
        have s6 : w5.cell? ⟨gx, 6, none⟩ = some (.int .u32 x6) := cx 6 _ rfl
        have t6 : w5.cell? ⟨gy, 6, none⟩ = some (.int .u32 y6) := cy 6 _ rfl
        have s7 : w5.cell? ⟨gx, 7, none⟩ = some (.int .i64 x7) := cx 7 _ rfl
        have t7 : w5.cell? ⟨gy, 7, none⟩ = some (.int .i64 y7) := cy 7 _ rfl
        have s8 : w5.cell? ⟨gx, 8, none⟩ = some (.int .i64 x8) := cx 8 _ rfl
        have t8 : w5.cell? ⟨gy, 8, none⟩ = some (.int .i64 y8) := cy 8 _ rfl
        have s9 : w5.cell? ⟨gx, 9, none⟩ = some (.int .i64 x9) := cx 9 _ rfl
        have t9 : w5.cell? ⟨gy, 9, none⟩ = some (.int .i64 y9) := cy 9 _ rfl
        have s10 : w5.cell? ⟨gx, 10, none⟩ = some (.int .i64 x10) := cx 10 _ rfl
        have t10 : w5.cell? ⟨gy, 10, none⟩ = some (.int .i64 y10) := cy 10 _ rfl
        clear cx cy hgx hgy hb5 c0 d0
        cases x0 with
        | false =>
          clear HEQ
          go_wp2_with fail
          exact ⟨⟨k + 1, by have := HLT.out; omega, by go_num, HB5.out⟩, by have := HLT.out; simp [intOf]; omega⟩
        | true =>
          obtain ⟨rfl, rfl, rfl, rfl, rfl, rfl, rfl, rfl, rfl, rfl⟩ := HEQ.out rfl
          clear HEQ
          have e2 : (y2 == y2) = true := by simp
          have f2 : (y2 != y2) = false := by simp
          have e3 : (y3 == y3) = true := by simp
          have f3 : (y3 != y3) = false := by simp
          have e4 : (y4 == y4) = true := by simp
          have f4 : (y4 != y4) = false := by simp
          have e5 : (y5 == y5) = true := by simp
          have f5 : (y5 != y5) = false := by simp
          have e6 : (y6 == y6) = true := by simp
          have f6 : (y6 != y6) = false := by simp
          have e7 : (y7 == y7) = true := by simp
          have f7 : (y7 != y7) = false := by simp
          have e8 : (y8 == y8) = true := by simp
          have f8 : (y8 != y8) = false := by simp
          have e9 : (y9 == y9) = true := by simp
          have f9 : (y9 != y9) = false := by simp
          have e10 : (y10 == y10) = true := by simp
          have f10 : (y10 != y10) = false := by simp
          go_wp2_with fail
          exact ⟨⟨k + 1, by have := HLT.out; omega, by go_num, HB5.out⟩, by have := HLT.out; simp [intOf]; omega⟩
    · obtain rfl : k = n := by omega
      clear hk hlt
      go_wp2_with fail
      go_ret
      exact ⟨rfl, HB2.out.trans (HBR.out.mono HB2.out.size)⟩
end Go.Proofs.YtehaffcjoafkcaaGreat
set_option linter.unusedVariables false
namespace Go.Proofs.YtehaffcjoafkcaaGreat
open Go.RowKit
set_option maxHeartbeats 2000000 in
set_option maxRecDepth 100000 in
theorem same_slots {w : World} {a a' : Option Addr} {n c c' : Nat} {S : Nat → Sl} (h : SlotsAt w a n S) (h' : SlotsAt w a' n S) (hn : n ≤ 65536) :
    Calls Tryz.prog 45 #[.slice a n c, .slice a' n c'] w (Calm w (.bool true)) := by
  have hni : (n : Int) ≤ 65536 := by omega
  have HH := Lib.hid h
  have HH' := Lib.hid h'
  clear h h'
  go_enter Tryz.func45, Tryz.ntmps45
  go_wp2
  go_loopw [5] (fun i wr => ∃ k : Nat, k ≤ n ∧ i = .int .i64 (k : Int) ∧ ∃ d, wr = w.drewN d) (fun i _ => n - (intOf i).toNat)
  case atStart => exact ⟨0, Nat.zero_le _, rfl, 0, rfl⟩
  case round =>
    obtain ⟨k, hk, rfl, d, rfl⟩ := hrel
    by_cases hlt : k < n
    · have hki : (k : Int) < (n : Int) := by omega
      have hk0 : (0 : Int) ≤ (k : Int) := by omega
      obtain ⟨b, off, rfl, hb, d0, d1, d2, d3, d4, d5, d6, d7, d8, d9, d10⟩ := HH.out.all hlt
      obtain ⟨b', off', rfl, hb', e0, e1, e2, e3, e4, e5, e6, e7, e8, e9, e10⟩ := HH'.out.all hlt
      generalize (S k).on = x0 at d0 e0
      generalize (S k).cnt = x1 at d1 e1
      generalize (S k).gen = x2 at d2 e2
      generalize (S k).nd.key = x3 at d3 e3
      generalize (S k).nd.val = x4 at d4 e4
      generalize ((S k).nd.left : Int) = x5 at d5 e5
      generalize ((S k).nd.right : Int) = x6 at d6 e6
      generalize (S k).nd.size = x7 at d7 e7
      generalize (S k).nd.sum = x8 at d8 e8
      generalize (S k).nd.mn = x9 at d9 e9
      generalize (S k).nd.mx = x10 at d10 e10
      go_wp2
      go_quiet (fail)
      go_wp2
      exact ⟨⟨k + 1, by omega, by go_num, _, rfl⟩, by simp [intOf]; omega⟩
    · obtain rfl : k = n := by omega
      go_wp2
      go_ret
      exact ⟨rfl, below_drewN (Below.refl _ _) d⟩
end Go.Proofs.YtehaffcjoafkcaaGreat
set_option linter.unusedVariables false
namespace Go.Proofs.YtehaffcjoafkcaaGreat
open Go.RowKit
theorem u32s_nth {l : List Nat} {j : Nat} (h : j < l.length) : (u32s l)[j]? = some (.int .u32 ((l.getD j 0 : Nat) : Int)) := by
  simp [u32s, List.getD_eq_getElem?_getD, h]
set_option maxHeartbeats 400000 in
theorem same_rows {B B' : Nat} {a a' : Option Addr} {c c' : Nat} (l : List Nat) (w : World) (hl : (l.length : Int) ≤ 65536) (h : w.ownsRow B 30 1 (.slice a l.length c) l.length (u32s l)) (h' : w.ownsRow B' 30 1 (.slice a' l.length c') l.length (u32s l)) :
    Calls Tryz.prog 46 #[.slice a l.length c, .slice a' l.length c'] w (Calm w (.bool true)) := by
  have HH := Lib.hid h
  have HH' := Lib.hid h'
  clear h h'
  obtain ⟨n, hn⟩ : ∃ n, n = l.length := ⟨_, rfl⟩
  rw [← hn] at hl ⊢
  have HN := Lib.hid hn
  clear hn
  go_enter Tryz.func46, Tryz.ntmps46
  go_wp2
  go_loopw [5] (fun i wr => ∃ k : Nat, k ≤ n ∧ i = .int .i64 k ∧ ∃ q, wr = w.drewN q) (fun i _ => n - (intOf i).toNat)
  case atStart => exact ⟨0, Nat.zero_le _, rfl, 0, rfl⟩
  case round =>
    obtain ⟨k, hk, rfl, q, rfl⟩ := hrel
    by_cases hlt : k < n
    · have hk2 : k < l.length := by rw [← HN.out]; exact hlt
      obtain ⟨b, rfl, hbb, hc⟩ := row_cell HH.out hk2
      obtain ⟨b', rfl, hbb', hc'⟩ := row_cell HH'.out hk2
      rw [u32s_nth hk2] at hc hc'
      have hlt' : (k : Int) < (n : Int) := by omega
      have hk0 : (0 : Int) ≤ (k : Int) := by omega
      generalize ((l.getD k 0 : Nat) : Int) = x at hc hc'
      have hne : (x != x) = false := by simp
      clear hk2
      go_wp2
      go_quiet (fail)
      go_wp2
      exact ⟨⟨k + 1, by omega, by go_num, _, rfl⟩, by simp [intOf]; omega⟩
    · obtain rfl : k = n := by omega
      go_wp2
      go_ret
      exact ⟨rfl, below_drewN (Below.refl _ _) q⟩
end Go.Proofs.YtehaffcjoafkcaaGreat
set_option linter.unusedVariables false
namespace Go.Proofs.YtehaffcjoafkcaaGreat
open Go.RowKit
theorem same_rows_at {B B' M : Nat} {a a' : Option Addr} {c c' : Nat} (l : List Nat) {w : World} (hM : l.length = M) (hl : (M : Int) ≤ 65536) (h : w.ownsRow B 30 1 (.slice a M c) M (u32s l)) (h' : w.ownsRow B' 30 1 (.slice a' M c') M (u32s l)) :
    Calls Tryz.prog 46 #[.slice a M c, .slice a' M c'] w (Calm w (.bool true)) := by
  subst hM
  exact same_rows l w hl h h'
set_option maxHeartbeats 2000000 in
set_option maxRecDepth 100000 in
theorem same_dump {w : World} {a a' b b' : Option Addr} {c c' d d' n M B B' : Nat} {S : Nat → Sl} (fr : List Nat) (hM : fr.length = M) (h : SlotsAt w a n S) (h' : SlotsAt w a' n S) (hf : w.ownsRow B 30 1 (.slice b M d) M (u32s fr)) (hf' : w.ownsRow B' 30 1 (.slice b' M d') M (u32s fr)) (hn : n ≤ 65536) (hm : M ≤ 65536) :
    Calls Tryz.prog 16 #[.agg #[.slice a n c, .slice b M d], .agg #[.slice a' n c', .slice b' M d']] w (Calm w (.bool true)) := by
  have hb1 := below_new7 w (Obj.cells #[Value.slice a n c, Value.slice b M d] 38)
  have hb2 := below_new7 (w.alloc (Obj.cells #[Value.slice a n c, Value.slice b M d] 38)) (Obj.cells #[Value.slice a' n c', Value.slice b' M d'] 38)
  have hbb := below_chain7 hb1 hb2
  have hx1 := two_cells (heap_alloc2_old w (Obj.cells #[Value.slice a n c, Value.slice b M d] 38) (Obj.cells #[Value.slice a' n c', Value.slice b' M d'] 38))
  have hx2 := two_cells (heap_alloc2_new w (Obj.cells #[Value.slice a n c, Value.slice b M d] 38) (Obj.cells #[Value.slice a' n c', Value.slice b' M d'] 38))
  have HS := Lib.hid (h.below hbb)
  have HS' := Lib.hid (h'.below hbb)
  have HF := Lib.hid (row_below hf hbb)
  have HF' := Lib.hid (row_below hf' hbb)
  have HB := Lib.hid hbb
  have HX1 := Lib.hid (heap_alloc2_old w (Obj.cells #[Value.slice a n c, Value.slice b M d] 38) (Obj.cells #[Value.slice a' n c', Value.slice b' M d'] 38))
  have HX2 := Lib.hid (heap_alloc2_new w (Obj.cells #[Value.slice a n c, Value.slice b M d] 38) (Obj.cells #[Value.slice a' n c', Value.slice b' M d'] 38))
  obtain ⟨c0, c1⟩ := hx1
  obtain ⟨e0, e1⟩ := hx2
  clear h h' hf hf' hb1 hb2 hbb
  go_enter Tryz.func16, Tryz.ntmps16
  go_upto_region 1 with fail
  generalize (w.alloc (Obj.cells #[Value.slice a n c, Value.slice b M d] 38)).alloc (Obj.cells #[Value.slice a' n c', Value.slice b' M d'] 38) = w1 at HS HS' HF HF' HB HX1 HX2 c0 c1 e0 e1 ⊢
  have hlt1 : w.heap.size < w1.heap.size := (Array.getElem?_eq_some_iff.1 HX1.out).1
  have hlt2 : w.heap.size + 1 < w1.heap.size := (Array.getElem?_eq_some_iff.1 HX2.out).1
  obtain ⟨p, hp⟩ : ∃ p, w.heap.size = p := ⟨_, rfl⟩
  rw [hp] at HX1 HX2 HB c0 c1 e0 e1 hlt1 hlt2 ⊢
  have HPP := Lib.hid hp
  clear hp
  go_wp2_with fail
  refine (same_slots HS.out HS'.out hn).mono ?_
  rintro e w2 ⟨rfl, hb2⟩
  have hY1 := (hb2.block _ hlt1).trans HX1.out
  have hY2 := (hb2.block _ hlt2).trans HX2.out
  clear c0 c1 e0 e1
  obtain ⟨c0, c1⟩ := two_cells hY1
  obtain ⟨e0, e1⟩ := two_cells hY2
  have HG := Lib.hid (row_below HF.out hb2)
  have HG' := Lib.hid (row_below HF'.out hb2)
  have HBB := Lib.hid (HB.out.trans (hb2.mono (by rw [← HPP.out]; exact HB.out.size)))
  clear hY1 hY2 hb2 hlt1 hlt2
  go_wp2_with fail
  refine (same_rows_at fr hM (by omega) HG.out HG'.out).mono ?_
  rintro e w3 ⟨rfl, hb3⟩
  have HB3 := Lib.hid (HBB.out.trans (hb3.mono (by rw [← HPP.out]; exact HBB.out.size)))
  clear hb3 c0 c1 e0 e1
  go_wp2_with fail
  go_ret
  exact ⟨rfl, by rw [HPP.out]; exact HB3.out⟩
end Go.Proofs.YtehaffcjoafkcaaGreat
set_option linter.unusedVariables false
set_option linter.unusedSimpArgs false
namespace Go.Proofs.YtehaffcjoafkcaaGreat
open Go.RowKit
theorem wp_append_ens {o : Oper} {a : Act} {w w2 : World} {K : Act → World → Prop} {Q : Exit → Act → World → Prop} {Z : Nat} {l0 l : List En} {v : Value} (s x : Operand)
    (ho : o.op = .call { callee := .builtin .append, args := #[s, x], argTypes := #[22, 22] })
    (hc : ESt Z w2 l0 v w) (hZ : w2.heap.size = Z) (hs : a.eval s = v) (ad : Option Addr) (c m : Nat) (hm : l.length = m) (hx : a.eval x = .slice ad m c) (hrow : EnsAt w ad l) (hl : l0.length + m ≤ 100000000)
    (h : ∀ v' w', ESt Z w2 (l0 ++ l) v' w' → K (a.put o.dst v') w') : Oper.wp Tryz.prog o a w K Q := by
  obtain ⟨i, ji, jz0, jz1, jz2⟩ := info_parts enInfo
  subst hm
  cases ad with
  | some x0 =>
    refine wp_append_own w s x 22 ho Z 25 i (.agg #[.int .i64 0, .int .i64 0]) 2 16 Tryz.underlying22 ji jz0 jz1 jz2 rfl (by decide) v l0.length (ensV l0) hs hc.row x0 l.length c (ensV l) hx (ensV_len l) hrow.cellV (ensV_ones l) (by unfold maxLen; omega) (by omega) (by have := hc.below.size; omega) ?_
    intro v' w' ho' hg _
    refine h v' w' ?_
    obtain ⟨a', c', hv⟩ := row_val ho'
    refine ⟨⟨a', c', by rw [List.length_append]; exact hv⟩, ?_, hc.below.grown hg (by have := hc.below.size; omega) (row_from hc.row)⟩
    rw [List.length_append, ensV_app]
    exact ho'
  | none =>
    have hl0 : l = [] := by
      cases l with
      | nil => rfl
      | cons y t => obtain ⟨_, _, hb, _⟩ := hrow.cell 0 y rfl; cases hb
    subst hl0
    have hK2 := h v w (by rw [List.append_nil]; exact hc)
    unfold Oper.wp
    simp only [List.length_nil] at hx
    have hc0 : ∀ c', (Builtin.append_ #[22, 22] o.type #[v, .slice none 0 c']).run Tryz.prog w = .ok v w := fun c' => by
      refine Eq.trans ?_ (run_append_owned_none (P := Tryz.prog) (w := w) Z 22 o.type 25 i 2 Tryz.underlying22 ji v l0.length (ensV l0) hc.row)
      rfl
    simp [execOp, ho, resolve, invoke, builtin, hs, hx, hc0, Result.andThen]
    exact hK2
theorem step_append_ens {ops : Array Oper} {o : Oper} {a : Act} {w w2 : World} {K : Act → World → Prop} {Q : Exit → Act → World → Prop} {E : Prop} {Z : Nat} {l0 l : List En} {v : Value} (hgd : o.guard = none) (s x : Operand)
    (ho : o.op = .call { callee := .builtin .append, args := #[s, x], argTypes := #[22, 22] })
    (hc : ESt Z w2 l0 v w) (hZ : w2.heap.size = Z) (hs : a.eval s = v) (ad : Option Addr) (c m : Nat) (hm : l.length = m) (hx : a.eval x = .slice ad m c) (hrow : EnsAt w ad l) (hl : l0.length + m ≤ 100000000)
    (h : ∀ v' w', ESt Z w2 (l0 ++ l) v' w' → K (a.put o.dst v') w') : if Region.wanted o (yielded ops a.tmps) = true then Oper.wp Tryz.prog o a w K Q else E := by
  have hw : Region.wanted o (yielded ops a.tmps) = true := by simp [Region.wanted, hgd]
  rw [if_pos hw]
  exact wp_append_ens s x ho hc hZ hs ad c m hm hx hrow hl h
end Go.Proofs.YtehaffcjoafkcaaGreat
set_option linter.unusedVariables false
set_option linter.unusedSimpArgs false
namespace Go.Proofs.YtehaffcjoafkcaaGreat
open Go.RowKit
structure Paired (I : AImpl) (l : List En) (sp P Q : Nat) (w : World) (p : Value) (A : Ar) (x y : Nat) (tx ty : Tr) (F : Nat → Prop) (w' : World) : Prop where
  pq : P ≤ Q ∧ Q ≤ l.length
  is : I.Is w' p A 0 F
  foot : ∀ k, F k → w.heap.size ≤ k
  below : Below w.heap.size w w'
  inv : A.Inv [] (hof [x, y])
  agg : A.Agg
  cap : A.σ.cap = l.length + 1 + sp
  tx : TreeAt A x tx (l.take P)
  ty : TreeAt A y ty (l.drop Q)
def PairRes (I : AImpl) (a : Option Addr) (l : List En) (sp : Nat) (w : World) (e : Ending) (w' : World) : Prop :=
  ∃ (p : Value) (A : Ar) (x y P Q : Nat) (tx ty : Tr) (F : Nat → Prop) (a2 a3 : Option Addr) (c2 c3 : Nat),
    e = .returned (.tuple #[p, .int .u32 (x : Int), .int .u32 (y : Int), .slice a2 P c2, .slice a3 (l.length - Q) c3, .bool true]) ∧ Paired I l sp P Q w p A x y tx ty F w' ∧ (∀ wx, EnsAt wx a l → EnsAt wx a2 (l.take P) ∧ EnsAt wx a3 (l.drop Q)) ∧ P ≤ c2 ∧ c2 ≤ maxLen ∧ l.length - Q ≤ c3 ∧ c3 ≤ maxLen
theorem up_take {l : List En} (h : Up l) (k : Nat) : Up (l.take k) := List.Pairwise.sublist (List.take_sublist _ _) h
theorem up_drop {l : List En} (h : Up l) (k : Nat) : Up (l.drop k) := List.Pairwise.sublist (List.drop_sublist _ _) h
theorem results_tmp6 {fn : Func} {a b c d e f : Tmp} (h : fn.results = #[.tmp a, .tmp b, .tmp c, .tmp d, .tmp e, .tmp f]) (tmps : Array Value) (P : Program) (w : World) :
    (results fn tmps).run P w = .ok (.tuple #[tmps.getD a undef, tmps.getD b undef, tmps.getD c undef, tmps.getD d undef, tmps.getD e undef, tmps.getD f undef]) w := by
  simp [results, h]
theorem add_block (x : Addr) (k : Nat) : (x.add k).block = x.block := by unfold Addr.add; split <;> rfl
theorem EnsAt.tail {w : World} {a : Option Addr} {l : List En} (h : EnsAt w a l) (k : Nat) : EnsAt w (a.map fun x => x.add (k * 2)) (l.drop k) :=
  ⟨fun j e he => by
    rw [List.getElem?_drop] at he
    obtain ⟨b, off, rfl, hlt, h1, h2⟩ := h.cell (k + j) e he
    refine ⟨b, off + k * 2, by simp [Addr.add], hlt, ?_, ?_⟩
    · rw [← h1]; congr 2; omega
    · rw [← h2]; congr 2; omega, fun e he => h.wf e (List.mem_of_mem_drop he)⟩
set_option maxHeartbeats 4000000 in
set_option maxRecDepth 100000 in
theorem pair13_any (I : AImpl) {l : List En} {a : Option Addr} {L c sp : Nat} {at_ skip tilt : Int} {w : World} (hE : EnsAt w a l) (hL : l.length = L) (hc : L ≤ c) (hcm : c ≤ maxLen) (hu : Up l) (hl : L ≤ 1000) (hsp : sp ≤ 1000) (hat : i64R at_) (hsk : i64R skip) (ht0 : 0 ≤ tilt) (ht1 : tilt < 18446744073709551616) :
    Calls Tryz.prog 8 #[.slice a L c, .int .i64 at_, .int .i64 skip, .int .u64 tilt, .int .i64 (sp : Int)] w (PairRes I a l sp w) := by
  obtain ⟨P, hP⟩ := Int.eq_ofNat_of_zero_le (Int.emod_nonneg at_ (b := (L : Int) + 1) (by omega))
  have hPL := Int.emod_lt_of_pos at_ (b := (L : Int) + 1) (by omega)
  obtain ⟨S, hS⟩ := Int.eq_ofNat_of_zero_le (Int.emod_nonneg skip (b := (3 : Int)) (by omega))
  have hS3 := Int.emod_lt_of_pos skip (b := (3 : Int)) (by omega)
  obtain ⟨Q, hQ⟩ : ∃ Q, min (P + S) L = Q := ⟨_, rfl⟩
  have HPQ : Hid (P ≤ Q ∧ Q ≤ L ∧ P ≤ L ∧ S ≤ 2) := ⟨by omega, by omega, by omega, by omega⟩
  have HM1 : Hid (∀ wx, Calls Tryz.prog 26 #[.int .i64 at_, .int .i64 ((L : Int) + 1)] wx (fun e w' => e = .returned (.int .i64 (P : Int)) ∧ wx = w')) := fun wx => (mod_any at_ ((L : Int) + 1) wx hat.1 hat.2 (by omega) (by omega)).mono fun e w' ⟨h1, h2⟩ => ⟨by rw [h1, hP], h2⟩
  have HM2 : Hid (∀ wx, Calls Tryz.prog 26 #[.int .i64 skip, .int .i64 3] wx (fun e w' => e = .returned (.int .i64 (S : Int)) ∧ wx = w')) := fun wx => (mod_any skip 3 wx hsk.1 hsk.2 (by omega) (by omega)).mono fun e w' ⟨h1, h2⟩ => ⟨by rw [h1, hS], h2⟩
  have hmin : ∀ (w : World) (ts : Array TypeId) (t : TypeId), (Builtin.min_ ts t #[.int .i64 ((P : Int) + (S : Int)), .int .i64 (L : Int)]).run Tryz.prog w = .ok (.int .i64 (Q : Int)) w := fun w ts t => by
    rw [min_run]
    congr 2
    omega
  have HLL := Lib.hid hL
  have HE := Lib.hid hE
  have HU := Lib.hid hu
  have HC : Hid (L ≤ c ∧ c ≤ maxLen ∧ L ≤ 1000 ∧ sp ≤ 1000) := ⟨hc, hcm, hl, hsp⟩
  have HT : Hid (0 ≤ tilt ∧ tilt < 18446744073709551616) := ⟨ht0, ht1⟩
  have hLi : (L : Int) ≤ 1000 := by omega
  have hPi : (P : Int) ≤ (L : Int) := by omega
  have hQi : (Q : Int) ≤ (L : Int) := by omega
  have hSi : (S : Int) ≤ 2 := by omega
  have hsi : (sp : Int) ≤ 1000 := by omega
  have hci : (L : Int) ≤ (c : Int) := by omega
  have hcx : (c : Int) ≤ 9223372036854775807 := by unfold maxLen at hcm; omega
  have hL0 : (0 : Int) ≤ (L : Int) := by omega
  have hP0 : (0 : Int) ≤ (P : Int) := by omega
  have hS0 : (0 : Int) ≤ (S : Int) := by omega
  have hQ0 : (0 : Int) ≤ (Q : Int) := by omega
  have hsp0 : (0 : Int) ≤ (sp : Int) := by omega
  have HCAP : Hid ((L : Int) + 1 + (sp : Int) = ((L + 1 + sp : Nat) : Int)) := by show _ = _; omega
  have hPt : ((P : Nat) : Int).toNat = P := Int.toNat_natCast _
  have hQt : ((Q : Nat) : Int).toNat = Q := Int.toNat_natCast _
  clear hE hL hc hcm hu hl hsp hat hsk ht0 ht1 hP hPL hS hS3 hQ
  go_enter Tryz.func8, Tryz.ntmps8
  go_wp2_with (first
    | (go_at_call_of 26 (Value.int .i64 at_); refine (HM1.out _).mono ?_; rintro e wy ⟨rfl, rfl⟩)
    | (go_at_call_of 26 (Value.int .i64 skip); refine (HM2.out _).mono ?_; rintro e wy ⟨rfl, rfl⟩))
  rw [HCAP.out]
  refine (I.new_ok (L + 1 + sp) w (by omega) (by have := HC.out; omega)).mono ?_
  rintro e w1 ⟨p, F, rfl, hI, hF, hb1⟩
  obtain ⟨pa, rfl⟩ := I.ptr hI
  have HI := Lib.hid hI
  have HF := Lib.hid hF
  have HB1 := Lib.hid hb1
  have HE1 : Hid (EnsAt w1 a l) := HE.out.below hb1
  have HFB : Hid (∀ b off, a = some ⟨b, off, none⟩ → L ≠ 0 → b < w.heap.size) := fun b off e h0 => by
    obtain ⟨b', off', h1, h2, _⟩ := HE.out.cell 0 (l[0]'(by have := HLL.out; omega)) (List.getElem?_eq_getElem _)
    rw [e] at h1
    simp at h1
    omega
  have HTL : Hid ((l.take P).length = P ∧ (l.drop Q).length = L - Q) := ⟨by rw [List.length_take]; have := HLL.out; have := HPQ.out; omega, by rw [List.length_drop, HLL.out]⟩
  clear hI hF hb1
  go_wp2_with fail
  refine (plant_any I P (l.take P) a c tilt (.pointer (some pa)) (Ar.init (L + 1 + sp)) 0 F (fun _ => 0) w1 HTL.out.1 HI.out (Ar.init_inv (by omega) (by have := HC.out; omega)) (Ar.init_agg _) (fun j => by have := HC.out; have := HPQ.out; show 0 + _ ≤ _; omega) (by have := HPQ.out; show P ≤ (St.init _).free.length; simp [St.init]; omega) (HE1.out.take P) (fun h0 b off e hFb => by have := HF.out b hFb; have := HFB.out b off e (by have := HPQ.out; omega); omega) (by have := HPQ.out; have := HC.out; omega) HC.out.2.1 HT.out.1 HT.out.2).mono ?_
  rintro e w2 ⟨A1, x, tx, F1, hP1, rfl, hal1, hI1⟩
  have HP1 := Lib.hid hP1
  have HI1 := Lib.hid hI1
  have hF1 : ∀ k, F1 k → w.heap.size ≤ k := hal1.from HB1.out.size HF.out
  have HF1 := Lib.hid hF1
  have HB2 : Hid (Below w.heap.size w w2) := hal1.below HB1.out HB1.out.size HF.out
  have HE2 : Hid (EnsAt w2 a l) := HE.out.below HB2.out
  have hf1 : A1.σ.free.length + P = L + 1 + sp := by
    have := hP1.free
    rw [HTL.out.1] at this
    simpa [Ar.init, St.init] using this
  have HFR1 := Lib.hid hf1
  clear hP1 hI1 hal1 hF1 hf1 HI HF HB1 HE1
  by_cases hcQ : c = Q
  · obtain rfl : Q = c := hcQ.symm
    clear hcQ
    have HCC : Hid (L - Q ≤ 0 ∧ 0 ≤ maxLen) := ⟨by have := HPQ.out; have := HC.out; omega, Nat.zero_le _⟩
    have hnil : l.drop Q = [] := List.eq_nil_of_length_eq_zero (by have := HTL.out.2; have := HCC.out; omega)
    have HE3 : Hid (EnsAt w2 a (l.drop Q)) := by show EnsAt _ _ _; rw [hnil]; exact EnsAt.nil _ _
    have HTAIL : Hid (∀ wx, EnsAt wx a l → EnsAt wx a (l.drop Q)) := fun wx _ => by rw [hnil]; exact EnsAt.nil _ _
    have HFB3 : Hid (∀ b off, a = some ⟨b, off, none⟩ → L - Q ≠ 0 → b < w.heap.size) := fun b off e h0 => absurd HCC.out.1 (by omega)
    clear hnil
    go_wp2_with fail
    refine (plant_any I (L - Q) (l.drop Q) _ _ _ (.pointer (some pa)) A1 0 F1 (pls (fun _ => 0) x) w2 HTL.out.2 HI1.out HP1.out.inv HP1.out.agg (fun j => by have := HC.out; rw [pls_at]; split <;> omega) (by have := HPQ.out; have := HFR1.out; omega) HE3.out (fun h0 b off e hFb => ?_) HCC.out.1 HCC.out.2 (u64_in _).1 (u64_in _).2).mono ?_
    · have h1 := HF1.out b hFb
      have h2 := HFB3.out b off e h0
      omega
    rintro e w3 ⟨A2, y, ty, F2, hP2, rfl, hal2, hI2⟩
    have HB3 : Hid (Below w.heap.size w w3) := hal2.below HB2.out HB2.out.size HF1.out
    have HRES : Hid (∀ (a2 a3 : Option Addr) (c2 c3 : Nat), (∀ wx, EnsAt wx a l → EnsAt wx a2 (l.take P) ∧ EnsAt wx a3 (l.drop Q)) → P ≤ c2 → c2 ≤ maxLen → L - Q ≤ c3 → c3 ≤ maxLen → ∀ d, PairRes I a l sp w (.returned (.tuple #[.pointer (some pa), .int .u32 (x : Int), .int .u32 (y : Int), .slice a2 P c2, .slice a3 (L - Q) c3, .bool true])) (w3.drewN d)) := fun a2 a3 c2 c3 e2 b1 b2 b3 b4 d =>
      ⟨.pointer (some pa), A2, x, y, P, Q, tx, ty, F2, a2, a3, c2, c3, by rw [HLL.out], ⟨⟨HPQ.out.1, by rw [HLL.out]; exact HPQ.out.2.1⟩, I.below hI2 (below_drewN (Below.refl _ _) d), hal2.from HB2.out.size HF1.out, HB3.out.trans ((below_drewN (Below.refl w3.heap.size w3) d).mono HB3.out.size),
        by have := hP2.inv; rw [show pls (fun _ => 0) x = hof [x] by have h := hof_pls [] x; rw [hof_nil] at h; exact h, hof_pls] at this; exact this, hP2.agg, by rw [hP2.kept.cap, HP1.out.kept.cap, HLL.out]; rfl,
        ⟨⟨_, hP2.inv⟩, hP2.agg, HP1.out.sub.kept hP2.kept, HP1.out.bal, (Tr.ents_kept hP2.kept HP1.out.sub).trans HP1.out.ents, up_take HU.out P⟩, ⟨⟨_, hP2.inv⟩, hP2.agg, hP2.sub, hP2.bal, hP2.ents, up_drop HU.out Q⟩⟩,
        e2, b1, b2, by rw [HLL.out]; exact b3, b4⟩
    clear hP2 hal2 hI2 HE3 HF1 HFB3
    go_upto_region 8 with fail
    go_quiet (fail)
    go_wp2_with fail
    (try simp only [Exit.inBlock, Exit.then])
    refine bodyPost_ret (results_tmp6 rfl _ _ _) rfl ?_
    exact HRES.out _ _ _ _ (fun wx h => ⟨h.take P, HTAIL.out wx h⟩) (by have := HPQ.out; have := HC.out; omega) HC.out.2.1 HCC.out.1 HCC.out.2 _
  · have HCC : Hid (L - Q ≤ c - Q ∧ c - Q ≤ maxLen) := ⟨by have := HC.out; omega, by have := HC.out; omega⟩
    have HE3 : Hid (EnsAt w2 (a.map fun x => x.add (Q * 2)) (l.drop Q)) := HE2.out.tail Q
    have HTAIL : Hid (∀ wx, EnsAt wx a l → EnsAt wx (a.map fun x => x.add (Q * 2)) (l.drop Q)) := fun wx h => h.tail Q
    have HFB3 : Hid (∀ b off, (a.map fun x => x.add (Q * 2)) = some ⟨b, off, none⟩ → L - Q ≠ 0 → b < w.heap.size) := fun b off e h0 => by
      obtain ⟨b', off', h1, h2, _⟩ := HE.out.cell 0 (l[0]'(by have := HLL.out; omega)) (List.getElem?_eq_getElem _)
      rw [h1] at e
      have e2 := congrArg Addr.block (Option.some.inj e)
      rw [add_block] at e2
      have e3 : b' = b := e2
      rw [← e3]; exact h2
    go_wp2_with fail
    refine (plant_any I (L - Q) (l.drop Q) _ _ _ (.pointer (some pa)) A1 0 F1 (pls (fun _ => 0) x) w2 HTL.out.2 HI1.out HP1.out.inv HP1.out.agg (fun j => by have := HC.out; rw [pls_at]; split <;> omega) (by have := HPQ.out; have := HFR1.out; omega) HE3.out (fun h0 b off e hFb => ?_) HCC.out.1 HCC.out.2 (u64_in _).1 (u64_in _).2).mono ?_
    · have h1 := HF1.out b hFb
      have h2 := HFB3.out b off e h0
      omega
    rintro e w3 ⟨A2, y, ty, F2, hP2, rfl, hal2, hI2⟩
    have HB3 : Hid (Below w.heap.size w w3) := hal2.below HB2.out HB2.out.size HF1.out
    have HRES : Hid (∀ (a2 a3 : Option Addr) (c2 c3 : Nat), (∀ wx, EnsAt wx a l → EnsAt wx a2 (l.take P) ∧ EnsAt wx a3 (l.drop Q)) → P ≤ c2 → c2 ≤ maxLen → L - Q ≤ c3 → c3 ≤ maxLen → ∀ d, PairRes I a l sp w (.returned (.tuple #[.pointer (some pa), .int .u32 (x : Int), .int .u32 (y : Int), .slice a2 P c2, .slice a3 (L - Q) c3, .bool true])) (w3.drewN d)) := fun a2 a3 c2 c3 e2 b1 b2 b3 b4 d =>
      ⟨.pointer (some pa), A2, x, y, P, Q, tx, ty, F2, a2, a3, c2, c3, by rw [HLL.out], ⟨⟨HPQ.out.1, by rw [HLL.out]; exact HPQ.out.2.1⟩, I.below hI2 (below_drewN (Below.refl _ _) d), hal2.from HB2.out.size HF1.out, HB3.out.trans ((below_drewN (Below.refl w3.heap.size w3) d).mono HB3.out.size),
        by have := hP2.inv; rw [show pls (fun _ => 0) x = hof [x] by have h := hof_pls [] x; rw [hof_nil] at h; exact h, hof_pls] at this; exact this, hP2.agg, by rw [hP2.kept.cap, HP1.out.kept.cap, HLL.out]; rfl,
        ⟨⟨_, hP2.inv⟩, hP2.agg, HP1.out.sub.kept hP2.kept, HP1.out.bal, (Tr.ents_kept hP2.kept HP1.out.sub).trans HP1.out.ents, up_take HU.out P⟩, ⟨⟨_, hP2.inv⟩, hP2.agg, hP2.sub, hP2.bal, hP2.ents, up_drop HU.out Q⟩⟩,
        e2, b1, b2, by rw [HLL.out]; exact b3, b4⟩
    clear hP2 hal2 hI2 HE3 HF1 HFB3
    go_upto_region 8 with fail
    go_quiet (fail)
    go_wp2_with fail
    (try simp only [Exit.inBlock, Exit.then])
    refine bodyPost_ret (results_tmp6 rfl _ _ _) rfl ?_
    exact HRES.out _ _ _ _ (fun wx h => ⟨h.take P, HTAIL.out wx h⟩) (by have := HPQ.out; have := HC.out; omega) HC.out.2.1 HCC.out.1 HCC.out.2 _
end Go.Proofs.YtehaffcjoafkcaaGreat
set_option linter.unusedVariables false
set_option linter.unusedSimpArgs false
namespace Go.Proofs.YtehaffcjoafkcaaGreat
open Go.RowKit
theorem Scn.init2 {I : AImpl} {n c : Nat} {w w1 w2 : World} {p : Value} {A : Ar} {rd : Int} {F : Nat → Prop} {a : Option Addr} {xs : List Value} {ty : TypeId} {s : Nat} (hI : I.Is w2 p A rd F) (hF : ∀ k, F k → w1.heap.size ≤ k) (hb : Below w1.heap.size w1 w2) (hb1 : Below w.heap.size w w1) (hr : w1.ownsRow w.heap.size ty s (.slice a n c) n xs) :
    Scn I w.heap.size w w2 p A rd [⟨ty, s, .slice a n c, n, xs⟩] [] := by
  refine ⟨⟨⟨F, hI, fun k hk => Nat.le_trans hb1.size (hF k hk), fun k hk => ?_⟩, hb1.trans (hb.mono hb1.size), Nat.le_trans hb1.size hb.size⟩, fun r hr' => ?_, fun b hb' => (by cases hb'), ?_, List.Pairwise.nil, fun r hr' b hb' => (by cases hb')⟩
  · rcases hk with ⟨r, hr', hk⟩ | ⟨b, hb', _⟩
    · simp at hr'
      subst hr'
      have h1 := row_lt hr k hk
      exact ⟨Nat.lt_of_lt_of_le h1.2 hb.size, fun hF' => by have := hF k hF'; omega⟩
    · cases hb'
  · simp at hr'
    subst hr'
    exact row_below hr hb
  · exact List.pairwise_singleton _ _
/-- two trees and the lists that stand for them -/
structure Duo2 (A : Ar) (a1 : Option Addr) (l : List En) (X Y : Nat) (tX tY : Tr) (LX LY : List En) (aX aY : Option Addr) (PX PY : Nat) : Prop where
  tx : TreeAt A X tX LX
  ty : TreeAt A Y tY LY
  inv : A.Inv [] (hof [X, Y])
  agg : A.Agg
  wx : WfL LX
  wy : WfL LY
  lx : LX.length = PX
  ly : LY.length = PY
  sum : PX + PY ≤ l.length
  en : ∀ w, EnsAt w a1 l → EnsAt w aX LX ∧ EnsAt w aY LY
theorem Paired.duo {I : AImpl} {l : List En} {sp P Q x y : Nat} {w w' : World} {p : Value} {A : Ar} {tx ty : Tr} {F : Nat → Prop} {a1 a2 a3 : Option Addr} (h : Paired I l sp P Q w p A x y tx ty F w') (hw : WfL l) (he : ∀ wx, EnsAt wx a1 l → EnsAt wx a2 (l.take P) ∧ EnsAt wx a3 (l.drop Q)) :
    Duo2 A a1 l x y tx ty (l.take P) (l.drop Q) a2 a3 P (l.length - Q) :=
  ⟨h.tx, h.ty, h.inv, h.agg, fun y hy => hw y (List.mem_of_mem_take hy), fun y hy => hw y (List.mem_of_mem_drop hy), by rw [List.length_take]; have := h.pq; omega, List.length_drop .., by have := h.pq; omega, he⟩
theorem kept_keptS2 {A B : Ar} {n : Nat} (hk : A.Kept B) (hg : ∀ i, A.σ.on i = true → B.σ.gen i = A.σ.gen i) : KeptS n A.sl B.sl := fun x _ hx => ⟨hk.on _ hx, hk.nd _ hx, hg _ hx⟩
end Go.Proofs.YtehaffcjoafkcaaGreat
