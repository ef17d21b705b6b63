/- The walk of AuditFindsDamage. Condition: the program's Check and the statements' build keep their contracts. -/
import Derived.Test.YticmaddcomemhaaAuBuilt
import Derived.Test.YticmaddcomemhaaAuAwake
import Derived.Test.YticmaddcomemhaaAudDam
import Derived.Test.YticmaddcomemhaaSlotsAid
import Derived.Deep.DeepCutAuto
set_option linter.unusedVariables false
namespace Go.Proofs.Yticmaddcomemhaa
open Go.RowKit
def sl0 : Value := .agg #[.bool false, .int .i64 0, .int .u32 0, .int .i64 0, .int .i64 0, .int .u32 0, .int .u32 0, .int .i64 0, .int .i64 0, .int .i64 0, .int .i64 0]
theorem sl0Info : (Try.prog.info? 46).map (fun i => (i.zero, i.size, i.bytes)) = some (some sl0, 11, 80) := by kernel_rfl
theorem slots_len (A : Ar) : (slotsV A).length = A.σ.cap * 11 := by
  unfold slotsV
  have key : ∀ l : List Nat, (l.flatMap (slotV A)).length = l.length * 11 := fun l => by
    induction l with
    | nil => rfl
    | cons a t ih => rw [List.flatMap_cons, List.length_append, ih, List.length_cons]; simp [slotV, ndV]; omega
  rw [key, List.length_range']
theorem slots_ones (A : Ar) : ∀ u ∈ slotsV A, u.oneCell' = true := fun u hu => by
  unfold slotsV at hu
  obtain ⟨i, _, h⟩ := List.mem_flatMap.1 hu
  simp [slotV, ndV] at h
  rcases h with rfl | rfl | rfl | rfl | rfl | rfl | rfl | rfl | rfl | rfl | rfl <;> rfl
theorem slots_nth (A : Ar) {j t : Nat} (hj : j < A.σ.cap) (ht : t < 11) : (slotsV A)[j * 11 + t]? = (slV (A.sl j))[t]? :=
  flat_at (f := slotV A) (m := 11) (fun x => rfl) (List.range' 1 A.σ.cap) j t (j + 1) (by rw [List.getElem?_range' hj]; simp; omega) ht
/-- the cells of slot i, with one of them changed, read as the slots S' -/
theorem slots_set {w : World} {B c g i o : Nat} {A : Ar} {v : Value} {S' : Nat → Sl} (h : w.ownsRow B 46 11 (.slice (some ⟨g, 0, none⟩) A.σ.cap c) A.σ.cap ((slotsV A).set (i * 11 + o) v)) (hi : i < A.σ.cap) (ho : o < 11)
    (hne : ∀ j, j ≠ i → S' j = A.sl j) (hs : slV (S' i) = (slV (A.sl i)).set o v) (hk : ∀ j, j < A.σ.cap → (S' j).nd.left < 4294967296 ∧ (S' j).nd.right < 4294967296) : SlotsAt w (some ⟨g, 0, none⟩) A.σ.cap S' := by
  refine ⟨fun j hj => ⟨g, 0, rfl, (row_lt h g rfl).2, fun t u hu => ?_⟩, hk⟩
  have ht : t < 11 := by have := (List.getElem?_eq_some_iff.1 hu).1; simpa [slV] using this
  rw [Nat.zero_add, h.cellAt (j * 11 + t) (by omega), List.getElem?_set]
  by_cases e : j = i
  · subst e
    rw [hs, List.getElem?_set] at hu
    by_cases e2 : o = t
    · subst e2
      rw [if_pos rfl] at hu ⊢
      have h3 : o < (slV (A.sl j)).length := by simp [slV]; omega
      rw [if_pos h3] at hu
      rw [if_pos (by rw [slots_len]; omega)]
      exact hu
    · rw [if_neg e2] at hu
      rw [if_neg (by omega), slots_nth A hj ht]
      exact hu
  · rw [if_neg (by omega), slots_nth A hj ht, ← hne j e]
    exact hu
def withCnt (S : Nat → Sl) (i : Nat) (x : Int) : Nat → Sl := fun j => if j = i then ⟨(S i).on, x, (S i).gen, (S i).nd⟩ else S j
def withSize (S : Nat → Sl) (i : Nat) (x : Int) : Nat → Sl := fun j => if j = i then ⟨(S i).on, (S i).cnt, (S i).gen, ⟨(S i).nd.key, (S i).nd.val, (S i).nd.left, (S i).nd.right, x, (S i).nd.sum, (S i).nd.mn, (S i).nd.mx⟩⟩ else S j
def withOn (S : Nat → Sl) (i : Nat) (x : Bool) : Nat → Sl := fun j => if j = i then ⟨x, (S i).cnt, (S i).gen, (S i).nd⟩ else S j
/-- an allocated slot is no child of its own -/
theorem no_self {A : Ar} {st : List Nat} {held : Nat → Nat} (h : A.Inv st held) (ha : A.Agg) {i : Nat} (ho : A.σ.on (i + 1) = true) : (A.nd (i + 1)).left ≠ i + 1 ∧ (A.nd (i + 1)).right ≠ i + 1 := by
  have hn := congrArg Nd.size (ha.node (i + 1) ho)
  have hn2 : (A.node (A.nd (i + 1)).key (A.nd (i + 1)).val (A.nd (i + 1)).left (A.nd (i + 1)).right).size = 1 + A.sz (A.nd (i + 1)).left + A.sz (A.nd (i + 1)).right := rfl
  rw [hn2] at hn
  have hc := h.child (i + 1) ho
  have hz : ∀ y, (y = 0 ∨ A.σ.on y = true) → 0 ≤ A.sz y := fun y hy => by
    unfold Ar.sz
    split
    · exact Int.le_refl 0
    · rcases hy with hy | hy
      · contradiction
      · have := ha.size y hy; omega
  have hzl := hz _ hc.1
  have hzr := hz _ hc.2
  have hself : A.sz (i + 1) = (A.nd (i + 1)).size := by unfold Ar.sz; rw [if_neg (by omega)]
  refine ⟨fun e => ?_, fun e => ?_⟩
  · rw [e] at hn hzl; omega
  · rw [e] at hn hzr; omega
set_option maxHeartbeats 8000000 in
set_option maxRecDepth 100000 in
theorem damage_walk (hck : PCheckSpec) (hbs : BuildSpec) (cc : Int) (sa : Option Addr) (sm cap : Nat) (at_ by_ kd : Int) (w : World) (hv1 : -9223372036854775808 ≤ cc) (hv2 : cc ≤ 9223372036854775807) (hl : Steps6 w sa sm) (hc : sm ≤ cap) (hm : cap ≤ maxLen) (hv3 : -9223372036854775808 ≤ at_) (hv4 : at_ ≤ 9223372036854775807) (hv5 : -9223372036854775808 ≤ by_) (hv6 : by_ ≤ 9223372036854775807) (hk0 : 0 ≤ kd) (hk1 : kd < 256) :
    Calls Try.prog 5 #[.int .i64 cc, .slice sa sm cap, .int .i64 at_, .int .i64 by_, .int .u8 kd] w (TrueRes6 w) := by
  obtain ⟨i0, ji, jz0, jz1, jz2⟩ := info_parts uInfo
  obtain ⟨iS, si, sz0, sz1, sz2⟩ := info_parts sl0Info
  have hr := Int.emod_nonneg cc (b := 30) (by omega)
  have hr2 := Int.emod_lt_of_pos cc (b := 30) (by omega)
  obtain ⟨r, hr3⟩ := Int.eq_ofNat_of_zero_le hr
  rw [hr3] at hr2
  have hr4 : r < 30 := by omega
  have HR := Lib.hid hr3
  obtain ⟨n, hn⟩ : ∃ n : Nat, n = r + 1 := ⟨_, rfl⟩
  have HN : Hid ((1 : Int) + (r : Int) = (n : Int)) := by show (1 : Int) + (r : Int) = (n : Int); omega
  have hn1 : 1 ≤ n := by omega
  have hn2 : n ≤ 30 := by omega
  have HLI := Lib.hid hl
  have HCK := Lib.hid hck
  have HBS := Lib.hid hbs
  clear hr hr2 hr3 hn hl hck hbs
  go_enter Try.func5, Try.ntmps5
  go_wp2_with fail
  refine (mod_any cc 30 _ hv1 hv2 (by decide) (by decide)).mono ?_
  rintro e w1 ⟨rfl, rfl⟩
  rw [HR.out]
  go_wp2_with fail
  rw [HN.out]
  refine (HBS.out _ n sm cap _ HLI.out hc hm hn1 hn2).mono ?_
  rintro e w2 ⟨A, l, a, b, x, c, d, xc, rfl, hT⟩
  have hb3 := below_new w2 (Obj.cells #[Value.slice a A.σ.cap c, .slice b A.σ.free.length d] 25)
  have hX := DBox.new w2 a b A.σ.cap c A.σ.free.length d
  have HT := Lib.hid hT
  have HB3 := Lib.hid hb3
  have HX := Lib.hid hX
  have hcap30 : A.σ.cap ≤ 30 := by rw [hT.cap]; exact hn2
  obtain ⟨N, hN⟩ : ∃ N, A.σ.cap = N := ⟨_, rfl⟩
  obtain ⟨M, hM⟩ : ∃ M, A.σ.free.length = M := ⟨_, rfl⟩
  obtain ⟨L, hL⟩ : ∃ L, l.length = L := ⟨_, rfl⟩
  have hL61 : L ≤ 61 := by rw [← hL]; exact hT.len
  have hL1 : 1 ≤ L := by rw [← hL]; exact hT.zero.1
  have hM6 : M ≤ 65536 := by rw [← hM]; exact hT.freelen
  have HNN := Lib.hid hN
  have HMM := Lib.hid hM
  have HLL := Lib.hid hL
  rw [hN] at hcap30 HX HB3
  rw [hM] at HX HB3
  rw [hN, hM, hL]
  have HCL : Hid (chk A.sl N A.σ.free l (onR A) = []) := by show _ = _; rw [← hN]; exact hT.clean
  have hrow2 := hT.row
  rw [hL] at hrow2
  have HROW := Lib.hid hrow2
  clear hT hb3 hX hN hM hL hrow2
  have hNi : (N : Int) ≤ 30 := by omega
  have hLi : (L : Int) ≤ 61 := by omega
  have hLi1 : (1 : Int) ≤ (L : Int) := by omega
  go_upto_region 2 with fail
  generalize w2.alloc (Obj.cells #[Value.slice a N c, .slice b M d] 25) = w3 at HX HB3 ⊢
  obtain ⟨q, hq⟩ : ∃ q, w2.heap.size = q := ⟨_, rfl⟩
  rw [hq] at HX ⊢
  have HQ := Lib.hid hq
  clear hq
  have HQL : Hid (q < w3.heap.size) := HX.out.lt
  have HSL : Hid (∀ wx, Below w3.heap.size w3 wx → SlotsAt wx a N A.sl) := fun wx hb => by rw [← HNN.out]; exact HT.out.slots (HB3.out.trans (hb.mono HB3.out.size))
  have HFR : Hid (∀ wx, Below w3.heap.size w3 wx → U32At wx b A.σ.free) := fun wx hb => HT.out.frees (HB3.out.trans (hb.mono HB3.out.size))
  have HXX : Hid (∀ wx, Below w3.heap.size w3 wx → wx.cell? ⟨q, 0, none⟩ = some (.slice a N c) ∧ wx.cell? ⟨q, 1, none⟩ = some (.slice b M d)) := fun wx hb => (HX.out.below hb HQL.out).cells
  have HEND : Hid (∀ wx, Below w3.heap.size w3 wx → TrueRes6 w (.returned (.bool true)) wx) := fun wx hb => ⟨rfl, HT.out.below.trans ((HB3.out.trans (hb.mono HB3.out.size)).mono HT.out.below.size)⟩
  have hN1 : 1 ≤ N := by rw [← HNN.out]; exact HT.out.inv.ok.cap1
  have hNi1 : (1 : Int) ≤ (N : Int) := by omega
  have hNz : ((N : Int) == 0) = false := by simp; omega
  have HRT : Hid (∀ wx, Below w3.heap.size w3 wx → U32At wx x l) := fun wx hb => HT.out.roots (HB3.out.trans (hb.mono HB3.out.size))
  obtain ⟨hc0, hc1⟩ := HXX.out _ (Below.refl _ _)
  clear hc0 hc1
  go_wp2_with fail
  refine (awake_any HCK.out w3).mono ?_
  rintro e w4 ⟨rfl, hb4⟩
  obtain ⟨hc0, hc1⟩ := HXX.out _ hb4
  have HB4 := Lib.hid hb4
  have hx6 := Int.emod_nonneg at_ (b := (N : Int)) (by omega)
  have hx7 := Int.emod_lt_of_pos at_ (b := (N : Int)) (by omega)
  obtain ⟨i, hi⟩ := Int.eq_ofNat_of_zero_le hx6
  have hiN : i < N := by omega
  have hy6 := Int.emod_nonneg by_ (b := 1000) (by omega)
  have hy7 := Int.emod_lt_of_pos by_ (b := 1000) (by omega)
  obtain ⟨bb, hbb⟩ := Int.eq_ofNat_of_zero_le hy6
  have hbb1 : bb < 1000 := by omega
  have HI := Lib.hid hi
  have HBBE := Lib.hid hbb
  clear hb4 hx6 hx7 hi hy6 hy7 hbb
  go_wp2_with fail
  refine (mod_any at_ N _ hv3 hv4 hNi1 (by omega)).mono ?_
  rintro e w5 ⟨rfl, rfl⟩
  rw [HI.out]
  go_wp2_with fail
  refine (mod_any by_ 1000 _ hv5 hv6 (by decide) (by decide)).mono ?_
  rintro e w5 ⟨rfl, rfl⟩
  rw [HBBE.out]
  obtain ⟨bi, hbi⟩ : ∃ bi : Int, 1 + (bb : Int) = bi := ⟨_, rfl⟩
  have HBI := Lib.hid hbi
  have hbi1 : 1 ≤ bi := by omega
  have hbi2 : bi ≤ 1000 := by omega
  have hbbi : (bb : Int) ≤ 999 := by omega
  have hbbi0 : (0 : Int) ≤ (bb : Int) := by omega
  have hin0 : (0 : Int) ≤ (i : Int) := by omega
  have hinN : (i : Int) < (N : Int) := by omega
  clear hbi
  have hsl4 : w4.ownsRow w.heap.size 46 11 (.slice a A.σ.cap c) A.σ.cap (slotsV A) := row_below HT.out.sl (HB3.out.trans (HB4.out.mono HB3.out.size))
  obtain ⟨g, hga⟩ : ∃ g, a = some ⟨g, 0, none⟩ := by
    rcases hsl4.2 with ⟨_, hn0⟩ | ⟨g2, cap2, cur2, e3, _⟩
    · rw [HNN.out] at hn0; omega
    · simp only [Value.slice.injEq] at e3
      exact ⟨g2, e3.1⟩
  subst hga
  have hnews : ∀ j u, (slotsV A)[j]? = some u → w4.cell? ((⟨g, 0, none⟩ : Addr).add j) = some u := fun j u hu => by
    have hj : j < A.σ.cap * 11 := by have := (List.getElem?_eq_some_iff.1 hu).1; rwa [slots_len] at this
    have e9 : (⟨g, 0, none⟩ : Addr).add j = ⟨g, j, none⟩ := by unfold Addr.add; split <;> simp_all
    rw [e9, hsl4.cellAt j hj]
    exact hu
  have hslen : (slotsV A).length = N * 11 := by rw [slots_len, HNN.out]
  have hfr4 := HFR.out _ HB4.out
  have HNATS : Hid (N ≤ 30 ∧ M ≤ 65536 ∧ L ≤ 61 ∧ 1 ≤ L ∧ i < N ∧ 1 ≤ N ∧ bb < 1000) := ⟨hcap30, hM6, hL61, hL1, hiN, hN1, hbb1⟩
  have hmax : 0 + N ≤ maxLen := by unfold maxLen; omega
  have hbyt : (0 + N) * 80 ≤ 140737488355328 := by omega
  clear hsl4 hr4 hn1 hn2 hcap30 hM6 hL61 hL1 hiN hN1 hbb1 hc hm hv1 hv2 hv3 hv4 hv5 hv6
  go_upto_region 8 with (first
    | (at_builtin; refine wpList_append_own _ rfl (.const (.slice none 0 0)) (.tmp 48) 22 rfl w4.heap.size 46 iS sl0 11 80 Try.underlying22 si sz0 sz1 sz2 rfl (by decide) (.slice none 0 0) 0 [] rfl (World.ownsRow_nil _ _ _ _) ⟨g, 0, none⟩ N c (slotsV A) rfl hslen hnews (slots_ones A) hmax hbyt (Nat.le_refl _) ?_; intro v6 w6 ho6 hg6 _; rw [Nat.zero_add, List.nil_append] at ho6; have hb6 : Below w4.heap.size w4 w6 := (Below.refl _ _).grown hg6 (Nat.le_refl _) (fun k hk => by cases hk); obtain ⟨hc0, hc1⟩ := HXX.out _ (below_chain HB4.out hb6); have hfr6 := hfr4.below hb6; have hsz6 := hb6.size)
    | (at_builtin; refine wpList_append_at rfl (.const (.slice none 0 0)) (.tmp 51) 23 rfl w4.heap.size 32 i0 (.int .u32 0) 4 Try.underlying23 ji jz0 jz1 jz2 rfl (.slice none 0 0) 0 [] rfl (World.ownsRow_nil _ _ _ _) b d A.σ.free M HMM.out.symm rfl hfr6 (by have := HNATS.out; unfold maxLen; omega) (by have := HNATS.out; omega) hsz6 ?_; intro v7 w7 ho7 hg7; rw [Nat.zero_add, List.nil_append] at ho7))
  rw [HBI.out]
  obtain ⟨sa', scap, rfl⟩ := row_val ho6
  have hpos : 0 < N := by have := HNATS.out; omega
  obtain ⟨g2, rfl⟩ : ∃ g2, sa' = some ⟨g2, 0, none⟩ := by
    rcases ho6.2 with ⟨_, hn0⟩ | ⟨g2, cap2, cur2, e3, _⟩
    · omega
    · simp only [Value.slice.injEq] at e3
      exact ⟨g2, e3.1⟩
  obtain ⟨fa, fcap, rfl⟩ := row_val ho7
  have hb7 : Below w4.heap.size w4 w7 := hb6.grown hg7 hsz6 (fun k hk => by cases hk)
  have ho67 := row_keep ho6 fun k hk => hg7.block k (row_lt ho6 k hk).2 (fun e => by cases e)
  have hB7 := below_chain HB4.out hb7
  have HROWS : Hid (w7.ownsRow w4.heap.size 46 11 (.slice (some ⟨g2, 0, none⟩) N scap) N (slotsV A)) := ho67
  have HROWF : Hid (w7.ownsRow w4.heap.size 32 1 (.slice fa M fcap) M (u32s A.σ.free)) := ho7
  have HB7 := Lib.hid hB7
  have HFLT : Hid (∀ y ∈ A.σ.free, y < 4294967296) := fun y hy => by have := (HT.out.inv.ok.free y).1 hy; have := HT.out.inv.ok.cap2; omega
  have HIN : Hid (i < A.σ.cap) := by show i < _; rw [HNN.out]; exact HNATS.out.2.2.2.2.1
  have HKID : Hid (∀ j, j < A.σ.cap → (A.sl j).nd.left < 4294967296 ∧ (A.sl j).nd.right < 4294967296) := (slots_at HT.out.inv HT.out.sl).kid
  have HCALL : Hid (∀ (wx : World) (s' f' : Option Addr) (cs cf m' : Nat) (S' : Nat → Sl) (fr' : List Nat), Below w3.heap.size w3 wx → fr'.length = m' → m' ≤ 70000 → SlotsAt wx s' N S' → U32At wx f' fr' → (∀ R', chk S' N fr' l R' ≠ []) →
      Calls Try.prog 17 #[.agg #[.slice s' N cs, .slice f' m' cf], .slice x L xc] wx (fun e w' => ∃ (ua : Option Addr) (H uc : Nat), 0 < H ∧ e = .returned (.slice ua H uc) ∧ Below w3.heap.size w3 w')) := fun wx s' f' cs cf m' S' fr' hb hm' hm7 hs hf hne => by
    refine (HCK.out wx s' f' x N cs m' cf xc L S' fr' l hm' HLL.out hs hf (HRT.out _ hb) (by have := HNATS.out; omega) (by omega) (by have := HNATS.out; omega) (fun j => @decide (Rch S' N l (j + 1)) (Classical.propDecidable _)) (fun j _ => by simp)).mono ?_
    rintro e w' ⟨ua, uc, rfl, _, hb'⟩
    exact ⟨ua, _, uc, List.length_pos_iff.2 (hne _), rfl, below_chain hb hb'⟩
  clear hb6 hb7 ho6 ho7 ho67 hg6 hg7 hB7 hsz6 hfr4 hfr6 hnews hslen hmax hbyt hc0 hc1 hpos
  have hr5 : kd % 5 = 0 ∨ kd % 5 = 1 ∨ kd % 5 = 2 ∨ kd % 5 = 3 ∨ kd % 5 = 4 := by omega
  obtain ⟨z5, hz5⟩ : ∃ z, kd % 5 = z := ⟨_, rfl⟩
  have HZ5 := Lib.hid hz5
  rw [hz5] at hr5
  clear hz5
  rcases hr5 with rfl | rfl | rfl | rfl | rfl
  · have hcell := HROWS.out.cellAt (i * 11 + 1) (by have := HNATS.out; omega)
    rw [slots_nth A HIN.out (by decide)] at hcell
    change w7.cell? ⟨g2, i * 11 + 1, none⟩ = some (.int .i64 (A.cnt (i + 1))) at hcell
    have hfz := HROWS.out.frozenAt (i * 11 + 1)
    have hst := (HROWS.out.stored (i * 11 + 1) (.int .i64 (A.cnt (i + 1) + bi))).1
    have hcb : -4611686018427387904 ≤ A.cnt (i + 1) ∧ A.cnt (i + 1) ≤ 4611686018427387904 := by
      by_cases ho : A.σ.on (i + 1) = true
      · have h1 := cnt_small HT.out.inv (by have := HT.out.len; omega) ho
        have h2 := HT.out.inv.cnt (i + 1) ho
        simp at h2
        omega
      · have := (HT.out.inv.off (i + 1) (by simpa using ho)).1
        omega
    obtain ⟨hcb1, hcb2⟩ := hcb
    have hS : SlotsAt (w7.setCell ⟨g2, i * 11 + 1, none⟩ (.int .i64 (A.cnt (i + 1) + bi))) (some ⟨g2, 0, none⟩) N (withCnt A.sl i (A.cnt (i + 1) + bi)) := by
      rw [← HNN.out]
      rw [← HNN.out] at hst
      refine slots_set hst HIN.out (by decide) (fun j hj => by unfold withCnt; rw [if_neg hj]) ?_ (fun j hj => ?_)
      · unfold withCnt; rw [if_pos rfl]; rfl
      · unfold withCnt; split
        · rename_i e; subst e; exact HKID.out j hj
        · exact HKID.out j hj
    have hU : U32At (w7.setCell ⟨g2, i * 11 + 1, none⟩ (.int .i64 (A.cnt (i + 1) + bi))) fa A.σ.free := row_u32 (by rw [HMM.out]; exact row_keep HROWF.out fun k hk => heap_setCell_other _ _ _ _ (fun e => row_ne (by decide) HROWF.out HROWS.out k hk (by rw [e]; rfl))) HFLT.out
    have hB : Below w3.heap.size w3 (w7.setCell ⟨g2, i * 11 + 1, none⟩ (.int .i64 (A.cnt (i + 1) + bi))) := HB7.out.setCell (by have := row_from HROWS.out g2 rfl; have := HB4.out.size; show _ ≤ g2; omega) _
    have HC := Lib.hid (HCALL.out _ (some ⟨g2, 0, none⟩) fa scap fcap M _ _ hB HMM.out (by have := HNATS.out; omega) hS hU (fun R' => by
      have h9 := HCL.out
      exact dam_count (i := i) h9 (by have := HNATS.out; omega) (show bi ≠ 0 by omega) (fun j => by unfold withCnt; split <;> simp_all) (fun j => by unfold withCnt; split <;> simp_all) (by unfold withCnt; rw [if_pos rfl]; rfl)))
    clear hst hS hU hB
    go_upto_region 10 with fail
    rw [HZ5.out]
    go_wp2_with fail
    refine HC.out.mono ?_
    rintro e w9 ⟨ua, H, uc, hH, rfl, hb9⟩
    have hHi : (0 : Int) < (H : Int) := by omega
    have HB9 := Lib.hid hb9
    clear hb9
    go_wp2
    go_ret
    exact HEND.out _ HB9.out
  · cases hon : A.σ.on (i + 1)
    · have hcell := HROWS.out.cellAt (i * 11) (by have := HNATS.out; omega)
      rw [show i * 11 = i * 11 + 0 from rfl, slots_nth A HIN.out (by decide)] at hcell
      change w7.cell? ⟨g2, i * 11, none⟩ = some (.bool (A.σ.on (i + 1))) at hcell
      rw [hon] at hcell
      clear hon
      go_upto_region 10 with fail
      rw [HZ5.out]
      go_wp2
      go_ret
      exact HEND.out _ HB7.out
    · have hcell0 := HROWS.out.cellAt (i * 11) (by have := HNATS.out; omega)
      rw [show i * 11 = i * 11 + 0 from rfl, slots_nth A HIN.out (by decide)] at hcell0
      change w7.cell? ⟨g2, i * 11, none⟩ = some (.bool (A.σ.on (i + 1))) at hcell0
      rw [hon] at hcell0
      have hsz := HT.out.agg.size (i + 1) hon
      obtain ⟨hsz1, hsz2⟩ := hsz
      have hns := no_self HT.out.inv HT.out.agg hon
      have hcell := HROWS.out.cellAt (i * 11 + 7) (by have := HNATS.out; omega)
      rw [slots_nth A HIN.out (by decide)] at hcell
      change w7.cell? ⟨g2, i * 11 + 7, none⟩ = some (.int .i64 (A.nd (i + 1)).size) at hcell
      have hfz := HROWS.out.frozenAt (i * 11 + 7)
      have hst := (HROWS.out.stored (i * 11 + 7) (.int .i64 ((A.nd (i + 1)).size + bi))).1
      have hS : SlotsAt (w7.setCell ⟨g2, i * 11 + 7, none⟩ (.int .i64 ((A.nd (i + 1)).size + bi))) (some ⟨g2, 0, none⟩) N (withSize A.sl i ((A.nd (i + 1)).size + bi)) := by
        rw [← HNN.out]
        rw [← HNN.out] at hst
        refine slots_set hst HIN.out (by decide) (fun j hj => by unfold withSize; rw [if_neg hj]) ?_ (fun j hj => ?_)
        · unfold withSize; rw [if_pos rfl]; rfl
        · unfold withSize; split
          · rename_i e; subst e; exact HKID.out j hj
          · exact HKID.out j hj
      have HC := Lib.hid (HCALL.out (w7.setCell ⟨g2, i * 11 + 7, none⟩ (.int .i64 ((A.nd (i + 1)).size + bi))) (some ⟨g2, 0, none⟩) fa scap fcap M _ _ (HB7.out.setCell (by have := row_from HROWS.out g2 rfl; have := HB4.out.size; show _ ≤ g2; omega) _) HMM.out (by have := HNATS.out; omega) hS (row_u32 (by rw [HMM.out]; exact row_keep HROWF.out fun k hk => heap_setCell_other _ _ _ _ (fun e => row_ne (by decide) HROWF.out HROWS.out k hk (by rw [e]; rfl))) HFLT.out) (fun R' => by
        have h9 := HCL.out
        exact dam_size (i := i) (x := (A.nd (i + 1)).size + bi) h9 (by have := HNATS.out; omega) (fun e => by have e2 : (A.nd (i + 1)).size + bi = (A.nd (i + 1)).size := e; omega) (fun j => by unfold withSize; split <;> simp_all) (fun j => by unfold withSize; split <;> simp_all) (fun j hj => by unfold withSize; rw [if_neg hj]) (by unfold withSize; rw [if_pos rfl]) hon hns.1 hns.2))
      clear hst hS hon hns
      generalize (A.nd (i + 1)).size = sz at hcell hsz1 hsz2 HC
      go_upto_region 10 with fail
      rw [HZ5.out]
      go_wp2_with fail
      refine HC.out.mono ?_
      rintro e w9 ⟨ua, H, uc, hH, rfl, hb9⟩
      have hHi : (0 : Int) < (H : Int) := by omega
      have HB9 := Lib.hid hb9
      clear hb9
      go_wp2
      go_ret
      exact HEND.out _ HB9.out
  · cases hon : A.σ.on (i + 1)
    · have hcell := HROWS.out.cellAt (i * 11 + 0) (by have := HNATS.out; omega)
      rw [slots_nth A HIN.out (by decide)] at hcell
      change w7.cell? ⟨g2, i * 11, none⟩ = some (.bool (A.σ.on (i + 1))) at hcell
      have hfz := HROWS.out.frozenAt (i * 11)
      have hst := (HROWS.out.stored (i * 11 + 0) (.bool (!false))).1
      have hS : SlotsAt (w7.setCell ⟨g2, i * 11, none⟩ (.bool (!false))) (some ⟨g2, 0, none⟩) N (withOn A.sl i (!false)) := by
        rw [← HNN.out]
        rw [← HNN.out] at hst
        refine slots_set hst HIN.out (by decide) (fun j hj => by unfold withOn; rw [if_neg hj]) ?_ (fun j hj => ?_)
        · unfold withOn; rw [if_pos rfl]; rfl
        · unfold withOn; split
          · rename_i e; subst e; exact HKID.out j hj
          · exact HKID.out j hj
      have HC := Lib.hid (HCALL.out (w7.setCell ⟨g2, i * 11, none⟩ (.bool (!false))) (some ⟨g2, 0, none⟩) fa scap fcap M _ _ (HB7.out.setCell (by have := row_from HROWS.out g2 rfl; have := HB4.out.size; show _ ≤ g2; omega) _) HMM.out (by have := HNATS.out; omega) hS (row_u32 (by rw [HMM.out]; exact row_keep HROWF.out fun k hk => heap_setCell_other _ _ _ _ (fun e => row_ne (by decide) HROWF.out HROWS.out k hk (by rw [e]; rfl))) HFLT.out) (fun R' => by
        have h9 := HCL.out
        exact dam_mark (i := i) h9 (by have := HNATS.out; omega) (by unfold withOn; rw [if_pos rfl]; exact (congrArg not hon).symm)))
      clear hst hS
      rw [hon] at hcell
      clear hon
      go_upto_region 10 with fail
      rw [HZ5.out]
      go_wp2_with fail
      refine HC.out.mono ?_
      rintro e w9 ⟨ua, H, uc, hH, rfl, hb9⟩
      have hHi : (0 : Int) < (H : Int) := by omega
      have HB9 := Lib.hid hb9
      clear hb9
      go_wp2
      go_ret
      exact HEND.out _ HB9.out
    · have hcell := HROWS.out.cellAt (i * 11 + 0) (by have := HNATS.out; omega)
      rw [slots_nth A HIN.out (by decide)] at hcell
      change w7.cell? ⟨g2, i * 11, none⟩ = some (.bool (A.σ.on (i + 1))) at hcell
      have hfz := HROWS.out.frozenAt (i * 11)
      have hst := (HROWS.out.stored (i * 11 + 0) (.bool (!true))).1
      have hS : SlotsAt (w7.setCell ⟨g2, i * 11, none⟩ (.bool (!true))) (some ⟨g2, 0, none⟩) N (withOn A.sl i (!true)) := by
        rw [← HNN.out]
        rw [← HNN.out] at hst
        refine slots_set hst HIN.out (by decide) (fun j hj => by unfold withOn; rw [if_neg hj]) ?_ (fun j hj => ?_)
        · unfold withOn; rw [if_pos rfl]; rfl
        · unfold withOn; split
          · rename_i e; subst e; exact HKID.out j hj
          · exact HKID.out j hj
      have HC := Lib.hid (HCALL.out (w7.setCell ⟨g2, i * 11, none⟩ (.bool (!true))) (some ⟨g2, 0, none⟩) fa scap fcap M _ _ (HB7.out.setCell (by have := row_from HROWS.out g2 rfl; have := HB4.out.size; show _ ≤ g2; omega) _) HMM.out (by have := HNATS.out; omega) hS (row_u32 (by rw [HMM.out]; exact row_keep HROWF.out fun k hk => heap_setCell_other _ _ _ _ (fun e => row_ne (by decide) HROWF.out HROWS.out k hk (by rw [e]; rfl))) HFLT.out) (fun R' => by
        have h9 := HCL.out
        exact dam_mark (i := i) h9 (by have := HNATS.out; omega) (by unfold withOn; rw [if_pos rfl]; exact (congrArg not hon).symm)))
      clear hst hS
      rw [hon] at hcell
      clear hon
      go_upto_region 10 with fail
      rw [HZ5.out]
      go_wp2_with fail
      refine HC.out.mono ?_
      rintro e w9 ⟨ua, H, uc, hH, rfl, hb9⟩
      have hHi : (0 : Int) < (H : Int) := by omega
      have HB9 := Lib.hid hb9
      clear hb9
      go_wp2
      go_ret
      exact HEND.out _ HB9.out
  · cases hfr : A.σ.free with
    | nil =>
      have hM0 : M = 0 := by rw [← HMM.out, hfr]; rfl
      have hMz : ((M : Int) == 0) = true := by simp [hM0]
      clear hfr hM0
      go_upto_region 10 with fail
      rw [HZ5.out]
      go_wp2
      go_ret
      exact HEND.out _ HB7.out
    | cons y t =>
      have hMl : M = t.length + 1 := by rw [← HMM.out, hfr]; rfl
      have hMz : ((M : Int) == 0) = false := by simp; omega
      have hM1 : (1 : Int) ≤ (M : Int) := by omega
      have hym := (HT.out.inv.ok.free y).1 (by rw [hfr]; simp)
      have hnd := HT.out.inv.ok.nodup
      rw [hfr, List.nodup_cons] at hnd
      obtain ⟨gf, rfl⟩ := row_head HROWF.out (by omega)
      have hcaps := row_caps HROWF.out
      have hfc1 : (1 : Int) ≤ (fcap : Int) := by omega
      have hfc2 : (M : Int) ≤ (fcap : Int) := by omega
      have hfc3 : (fcap : Int) ≤ 9223372036854775807 := by have := hcaps.2; unfold maxLen at this; omega
      have hrf : w7.ownsRow w4.heap.size 32 1 (.slice (some ⟨gf, 0, none⟩) A.σ.free.length fcap) A.σ.free.length (u32s A.σ.free) := by rw [HMM.out]; exact HROWF.out
      have hU := u32at_rest hrf HFLT.out 1
      have hdrop : A.σ.free.drop 1 = t := by rw [hfr]; rfl
      rw [hdrop] at hU
      have hSL : SlotsAt w7 (some ⟨g2, 0, none⟩) N A.sl := by
        rw [← HNN.out]
        have := HROWS.out
        rw [← HNN.out] at this
        exact slots_at HT.out.inv this
      have hcall := fun R' => (dam_free (i := y - 1) (fr' := t) (rs' := l) (R' := R') HCL.out (by have := HNN.out; omega) (by rw [show y - 1 + 1 = y by omega, hfr, List.count_cons_self, List.count_eq_zero.2 hnd.1]; omega))
      have HC := fun (ff : Option Addr) hUU => HCALL.out w7 (some ⟨g2, 0, none⟩) ff scap (fcap - 1) (M - 1) A.sl t HB7.out (by omega) (by have := HNATS.out; omega) hSL hUU hcall
      clear hfr hym hnd hcaps hrf hdrop hcall hMl
      by_cases hf1 : fcap = 1
      · rw [if_pos hf1] at hU
        have HCC := Lib.hid (HC _ hU)
        subst hf1
        clear hU HC hSL
        go_upto_region 10 with fail
        rw [HZ5.out]
        go_wp2_with fail
        refine HCC.out.mono ?_
        rintro e w9 ⟨ua, H, uc, hH, rfl, hb9⟩
        have hHi : (0 : Int) < (H : Int) := by omega
        have HB9 := Lib.hid hb9
        clear hb9
        go_wp2
        go_ret
        exact HEND.out _ HB9.out
      · rw [if_neg hf1] at hU
        have HCC := Lib.hid (HC _ hU)
        clear hU HC hSL
        go_upto_region 10 with fail
        rw [HZ5.out]
        go_wp2_with fail
        refine HCC.out.mono ?_
        rintro e w9 ⟨ua, H, uc, hH, rfl, hb9⟩
        have hHi : (0 : Int) < (H : Int) := by omega
        have HB9 := Lib.hid hb9
        clear hb9
        go_wp2
        go_ret
        exact HEND.out _ HB9.out
  · have hkw : IntKind.u32.wrap ((i : Int) + 1) = (i : Int) + 1 := by rw [IntKind.wrap_u32']; omega
    have ho9 := row_below HROWF.out (below_new w7 (Obj.cells #[Value.int .u32 ((i : Int) + 1)] 32))
    have hs9 := row_below HROWS.out (below_new w7 (Obj.cells #[Value.int .u32 ((i : Int) + 1)] 32))
    have hnew := cell_new1 w7 (Value.int .u32 ((i : Int) + 1)) 32
    have hb9 := HB7.out.trans ((below_new w7 (Obj.cells #[Value.int .u32 ((i : Int) + 1)] 32)).mono HB7.out.size)
    have h34 := HB4.out.size
    have hsz9 : w4.heap.size ≤ (w7.alloc (Obj.cells #[Value.int .u32 ((i : Int) + 1)] 32)).heap.size := by have := (row_lt HROWS.out g2 rfl).2; have := row_from HROWS.out g2 rfl; simp; omega
    go_upto_region 10 with fail
    rw [HZ5.out]
    go_wp2_with (at_builtin; refine wpList_append_own _ rfl (.tmp 55) (.tmp 59) 23 rfl w4.heap.size 32 i0 (.int .u32 0) 1 4 Try.underlying23 ji jz0 jz1 jz2 rfl (by decide) _ M (u32s A.σ.free) rfl ho9 ⟨w7.heap.size, 0, none⟩ 1 1 [.int .u32 ((i : Int) + 1)] rfl rfl hnew (one_cell1 _ _) (by have := HNATS.out; unfold maxLen; omega) (by have := HNATS.out; omega) hsz9 ?_; intro v10 w10 ho10 hg10 _; obtain ⟨ya, yc, rfl⟩ := row_val ho10)
    have hB10 : Below w3.heap.size w3 w10 := hb9.grown hg10 (Nat.le_trans h34 hsz9) (fun k hk => Nat.le_trans h34 (row_from ho9 k hk))
    have hsl10 : w10.ownsRow w4.heap.size 46 11 (.slice (some ⟨g2, 0, none⟩) N scap) N (slotsV A) := row_keep hs9 fun k hk => hg10.block k (row_lt hs9 k hk).2 (fun e => row_ne (by decide) hs9 ho9 k hk e.symm)
    have hSL : SlotsAt w10 (some ⟨g2, 0, none⟩) N A.sl := by
      rw [← HNN.out]
      rw [← HNN.out] at hsl10
      exact slots_at HT.out.inv hsl10
    have hlen : (A.σ.free ++ [i + 1]).length = M + 1 := by rw [List.length_append, HMM.out]; rfl
    have hU : U32At w10 ya (A.σ.free ++ [i + 1]) := row_u32 (by rw [hlen, u32s_app]; exact ho10) (fun y hy => by
      rcases List.mem_append.1 hy with h | h
      · exact HFLT.out y h
      · simp at h; have := HNATS.out; omega)
    have HCC := Lib.hid (HCALL.out w10 (some ⟨g2, 0, none⟩) ya scap yc (M + 1) A.sl (A.σ.free ++ [i + 1]) hB10 hlen (by have := HNATS.out; omega) hSL hU (fun R' => dam_free (i := i) (rs' := l) (R' := R') HCL.out (by have := HNATS.out; omega) (by rw [List.count_append]; simp)))
    clear hkw ho9 hs9 hnew hb9 h34 hsz9 hB10 hsl10 hSL hlen hU ho10 hg10
    go_wp2_with fail
    refine HCC.out.mono ?_
    rintro e w9 ⟨ua, H, uc, hH, rfl, hb9⟩
    have hHi : (0 : Int) < (H : Int) := by omega
    have HB9 := Lib.hid hb9
    clear hb9
    go_wp2
    go_ret
    exact HEND.out _ HB9.out
end Go.Proofs.Yticmaddcomemhaa
