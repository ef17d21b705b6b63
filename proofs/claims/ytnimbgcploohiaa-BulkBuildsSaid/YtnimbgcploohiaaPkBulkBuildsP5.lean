/- Of the proof of PkBulkBuildsP: BkShp, LawBkBuild. -/
import Derived.Test.YtnimbgcploohiaaPk1
import Derived.Test.YtnimbgcploohiaaPk2
import Derived.Test.YtnimbgcploohiaaPk3
import Derived.Test.YtnimbgcploohiaaPk4
import Derived.Test.YtnimbgcploohiaaPk5
import Derived.Test.YtnimbgcploohiaaPk7
import Derived.Test.YtnimbgcploohiaaPkBulkBuildsP1
import Derived.Test.YtnimbgcploohiaaPkBulkBuildsP2
import Derived.Test.YtnimbgcploohiaaPkBulkBuildsP3
import Derived.Deep.RegionHeld3
import Derived.Deep.QuietTactic
import Derived.Deep.DeepCutAuto
set_option linter.unusedVariables false
set_option linter.unusedSimpArgs false
namespace Go.Proofs.Ytnimbgcploohiaa
open Go.RowKit
theorem allocated_at {w : World} {a b : Option Addr} {N c m d i : Nat} {A : Ar} (h : SlotsAt w a N A.sl) (hok : A.σ.Ok) (hN : A.σ.cap = N) (hi : i < 4294967296) :
    Calls Try.prog 41 #[.agg #[.slice a N c, .slice b m d], .int .u32 (i : Int)] w (Calm w (.bool (A.σ.on i))) := by
  have hcap := hok.cap2
  have hal := al_on hok i
  have hcall := dallocated_any (b := b) (m := m) (d := d) (c := c) h (by omega) hi
  have e : decide (1 ≤ i ∧ i ≤ N ∧ (A.sl (i - 1)).on = true) = A.σ.on i := by
    rw [← hN]
    have h2 : (1 ≤ i ∧ i ≤ A.σ.cap ∧ (A.sl (i - 1)).on = true) ↔ A.σ.on i = true := hal
    cases ho : A.σ.on i
    · exact decide_eq_false fun h3 => by rw [h2, ho] at h3; cases h3
    · exact decide_eq_true (h2.2 ho)
  rw [e] at hcall
  exact hcall
def ShpSpec (A : Ar) (a b : Option Addr) (N c m d : Nat) (t : Tr) : Prop :=
  ∀ (w : World) (i : Nat) (la : Option Addr) (L lc : Nat) (l : List En), SlotsAt w a N A.sl → Sub A i t → t.mid → t.ents A.nd = l → EnsAt w la l → l.length = L → L ≤ 65536 → L ≤ lc → lc ≤ maxLen →
    Calls Try.prog 13 #[.agg #[.slice a N c, .slice b m d], .int .u32 (i : Int), .slice la L lc] w (Calm w (.bool true))
set_option maxHeartbeats 8000000 in
set_option maxRecDepth 100000 in
theorem shp_node {A : Ar} {a b : Option Addr} {N c m d i : Nat} {u v : Tr} {w : World} {la : Option Addr} {L lc : Nat} {l : List En} (hok : A.σ.Ok) (hN : A.σ.cap = N) (h0 : i ≠ 0) (hon : A.σ.on i = true) (hsl : Sub A (A.nd i).left u) (hsr : Sub A (A.nd i).right v)
    (hm : (Tr.node i u v).mid) (he : (Tr.node i u v).ents A.nd = l) (ihl : ShpSpec A a b N c m d u) (ihr : ShpSpec A a b N c m d v) (hS : SlotsAt w a N A.sl) (hE : EnsAt w la l) (hL : l.length = L) (hL6 : L ≤ 65536) (hLc : L ≤ lc) (hcm : lc ≤ maxLen) :
    Calls Try.prog 13 #[.agg #[.slice a N c, .slice b m d], .int .u32 (i : Int), .slice la L lc] w (Calm w (.bool true)) := by
  have hcap := hok.cap2
  have hi := hok.on i hon
  rw [hN] at hi hcap
  obtain ⟨m1, m2, m3⟩ := hm
  rw [Tr.ents_node] at he
  have hlen : L = u.size + v.size + 1 := by rw [← hL, ← he, List.length_append, List.length_cons, Tr.ents_len, Tr.ents_len]; omega
  obtain ⟨M, hM⟩ : ∃ M, u.size = M := ⟨_, rfl⟩
  have hMl : (u.ents A.nd).length = M := by rw [Tr.ents_len, hM]
  have hdv : (L : Int).tdiv 2 = (M : Int) := by rw [Int.tdiv_eq_ediv_of_nonneg (by omega)]; omega
  have hml : M < L := by omega
  have htk : l.take M = u.ents A.nd := by rw [← he, ← hMl, List.take_left]
  have hx : l = (u.ents A.nd ++ [⟨(A.nd i).key, (A.nd i).val⟩]) ++ v.ents A.nd := by rw [← he, List.append_assoc]; rfl
  have hdr : l.drop (M + 1) = v.ents A.nd := by
    rw [hx, show M + 1 = (u.ents A.nd ++ [(⟨(A.nd i).key, (A.nd i).val⟩ : En)]).length by rw [List.length_append, hMl]; rfl, List.drop_left]
  have hat : l[M]? = some ⟨(A.nd i).key, (A.nd i).val⟩ := by rw [← he, List.getElem?_append_right (by rw [hMl]; omega), hMl, Nat.sub_self]; rfl
  obtain ⟨g, off, rfl, hlb, e0, e1⟩ := hE.cell M _ hat
  have HK : Hid ((A.nd i).left < 4294967296 ∧ (A.nd i).right < 4294967296) := by
    have hk := hS.kid (i - 1) (by omega)
    have ei : A.sl (i - 1) = ⟨A.σ.on i, A.cnt i, A.σ.gen i, A.nd i⟩ := by unfold Ar.sl; rw [show i - 1 + 1 = i by omega]
    rw [ei] at hk
    exact hk
  have HC1 : Hid (∀ wx, Below w.heap.size w wx → Calls Try.prog 13 #[.agg #[.slice a N c, .slice b m d], .int .u32 ((A.nd i).left : Int), .slice (some ⟨g, off, none⟩) M lc] wx (Calm wx (.bool true))) := fun wx hb =>
    ihl wx _ _ M lc _ (hS.below hb) hsl m2 rfl (by rw [← htk]; exact (hE.below hb).take M) hMl (by omega) (by omega) hcm
  have HC2 : Hid (∀ wx, Below w.heap.size w wx → Calls Try.prog 13 #[.agg #[.slice a N c, .slice b m d], .int .u32 ((A.nd i).right : Int), .slice (if lc = M + 1 then some ⟨g, off, none⟩ else some ⟨g, off + (M + 1) * 2, none⟩) (L - (M + 1)) (lc - (M + 1))] wx (Calm wx (.bool true))) := fun wx hb =>
    ihr wx _ _ (L - (M + 1)) (lc - (M + 1)) _ (hS.below hb) hsr m3 rfl (by
      rw [← hdr]
      by_cases hc : lc = M + 1
      · have : l.drop (M + 1) = [] := List.eq_nil_of_length_eq_zero (by rw [List.length_drop]; omega)
        rw [this]; exact EnsAt.nil _ _
      · rw [if_neg hc]; exact (hE.below hb).drop (M + 1)) (by rw [Tr.ents_len]; omega) (by omega) (by omega) (by omega)
  have HAL : Hid (∀ wx, Below w.heap.size w wx → Calls Try.prog 41 #[.agg #[.slice a N c, .slice b m d], .int .u32 (i : Int)] wx (Calm wx (.bool true))) := fun wx hb => by rw [← hon]; exact allocated_at (hS.below hb) hok hN (by omega)
  have hbn := below_new7 w (Obj.cells #[Value.slice a N c, Value.slice b m d] 33)
  have hbox := heap_alloc_new w (Obj.cells #[Value.slice a N c, Value.slice b m d] 33)
  have HBN := Lib.hid hbn
  have HBOX := Lib.hid hbox
  have HS := Lib.hid hS
  have HE := Lib.hid hE
  have HAT := Lib.hid hat
  have hne : ((L : Int) == 0) = false := by simp; omega
  have hL1 : (1 : Int) ≤ (L : Int) := by omega
  have hLi : (L : Int) ≤ 65536 := by omega
  have hci : (L : Int) ≤ (lc : Int) := by omega
  have hcx : (lc : Int) ≤ 9223372036854775807 := by unfold maxLen at hcm; omega
  have hMi : (M : Int) < (L : Int) := by omega
  have hM0 : (0 : Int) ≤ (M : Int) := by omega
  have hX1 : (1 : Int) ≤ (i : Int) := by omega
  have HI : Hid (1 ≤ i ∧ i ≤ N ∧ N ≤ 65536) := ⟨hi.1, hi.2, hcap⟩
  obtain ⟨M1, hM1⟩ : ∃ M1, M + 1 = M1 := ⟨_, rfl⟩
  rw [hM1] at HC2
  have hwM : IntKind.i64.wrap ((M : Int) + 1) = (M1 : Int) := by rw [IntKind.wrap_i64]; omega
  have hwM2 : IntKind.i64.wrap (M : Int) = (M : Int) := by rw [IntKind.wrap_i64]; omega
  have hMt : ((M1 : Int)).toNat = M1 := Int.toNat_natCast _
  have hMt0 : ((M : Int)).toNat = M := Int.toNat_natCast _
  have hM10 : (0 : Int) ≤ (M1 : Int) := by omega
  have hM1L : (M1 : Int) ≤ (L : Int) := by omega
  have hMc : (M : Int) ≤ (lc : Int) := by omega
  clear hok hN h0 hon hsl hsr m1 m2 m3 he ihl ihr hS hE hL hL6 hi hcap hlen hM hMl hml htk hx hdr hat hbn hbox e0 e1 hM1
  go_enter Try.func13, Try.ntmps13
  go_upto_region 1 with fail
  generalize w.alloc (Obj.cells #[Value.slice a N c, Value.slice b m d] 33) = w1 at HBN HBOX ⊢
  obtain ⟨q, hq⟩ : ∃ q, w.heap.size = q := ⟨_, rfl⟩
  rw [hq] at HBOX HBN ⊢
  have HQ := Lib.hid hq
  clear hq
  obtain ⟨hc0, hc1⟩ := two_cells HBOX.out
  go_wp2_with fail
  refine (HAL.out w1 (by rw [HQ.out]; exact HBN.out)).mono ?_
  rintro e w2 ⟨rfl, hb2⟩
  have hq2 : q < w1.heap.size := (Array.getElem?_eq_some_iff.1 HBOX.out).1
  have hbox2 := (hb2.block q hq2).trans HBOX.out
  obtain ⟨hc0, hc1⟩ := two_cells hbox2
  have HB2 : Hid (Below q w w2) := HBN.out.trans (hb2.mono (Nat.le_of_lt hq2))
  have hS2 := HS.out.below (HQ.out ▸ HB2.out)
  obtain ⟨j, rfl⟩ : ∃ j, i = j + 1 := ⟨i - 1, by have := HI.out; omega⟩
  obtain ⟨b', off', rfl, hlb', _, _, _, d3, d4, d5, d6, d7, d8, d9, d10⟩ := hS2.all (show j < N by have := HI.out; omega)
  have en : (A.sl j).nd = A.nd (j + 1) := rfl
  rw [en] at d3 d4 d5 d6 d7 d8 d9 d10
  generalize A.nd (j + 1) = x at d3 d4 d5 d6 d7 d8 d9 d10 HC1 HC2 HAT HK
  obtain ⟨Xi, hXi⟩ : ∃ Y : Int, ((j + 1 : Nat) : Int) = Y := ⟨_, rfl⟩
  have hXw : IntKind.u32.wrap (Xi - 1) = Xi - 1 := by rw [IntKind.wrap_u32']; have := HI.out; omega
  have hX2 : (Xi - 1).toNat = j := by omega
  have hX4 : Xi - 1 < (N : Int) := by have := HI.out; omega
  have hX5 : (0 : Int) ≤ Xi - 1 := by omega
  rw [hXi] at hX1 ⊢
  have HBOX2 := Lib.hid hbox2
  clear hXi en hb2 hbox2 hS2 HBN HBOX HAL hlb'
  go_upto_region 6 with fail
  rw [show #[Value.int .i64 x.key, .int .i64 x.val, .int .u32 (x.left : Int), .int .u32 (x.right : Int), .int .i64 x.size, .int .i64 x.sum, .int .i64 x.mn, .int .i64 x.mx] = ndRow x from rfl]
  have hbp := below_new7 w2 (Obj.cells (ndRow x) 66)
  have hbx := heap_alloc_new w2 (Obj.cells (ndRow x) 66)
  have HB3 : Hid (Below q w (w2.alloc (Obj.cells (ndRow x) 66))) := HB2.out.trans (hbp.mono (by have := HB2.out.size; have := (Array.getElem?_eq_some_iff.1 HBOX2.out).1; omega))
  have HX3 := Lib.hid ((hbp.block q (Array.getElem?_eq_some_iff.1 HBOX2.out).1).trans HBOX2.out)
  generalize w2.alloc (Obj.cells (ndRow x) 66) = w3 at HB3 HX3 hbx ⊢
  generalize w2.heap.size = p at hbx ⊢
  have HP3 := Lib.hid hbx
  have HCX : Hid (∀ wx, Below w3.heap.size w3 wx → Below w.heap.size w wx ∧ wx.cell? ⟨q, 0, none⟩ = some (.slice (some ⟨b', off', none⟩) N c) ∧ wx.cell? ⟨q, 1, none⟩ = some (.slice b m d) ∧ wx.cell? ⟨p, 0, none⟩ = some (.int .i64 x.key) ∧ wx.cell? ⟨p, 1, none⟩ = some (.int .i64 x.val) ∧ wx.cell? ⟨p, 2, none⟩ = some (.int .u32 (x.left : Int)) ∧ wx.cell? ⟨p, 3, none⟩ = some (.int .u32 (x.right : Int)) ∧ wx.cell? ⟨g, off + M * 2, none⟩ = some (.int .i64 x.key) ∧ wx.cell? ⟨g, off + M * 2 + 1, none⟩ = some (.int .i64 x.val)) := fun wx hb => by
    have h1 := (hb.block q (Array.getElem?_eq_some_iff.1 HX3.out).1).trans HX3.out
    have h2 := (hb.block p (Array.getElem?_eq_some_iff.1 HP3.out).1).trans HP3.out
    have hbw : Below w.heap.size w wx := by rw [HQ.out]; exact HB3.out.trans (hb.mono (Nat.le_of_lt (Array.getElem?_eq_some_iff.1 HX3.out).1))
    obtain ⟨g2, off2, h3, -, h4, h5⟩ := (HE.out.below hbw).cell M _ HAT.out
    simp at h3
    obtain ⟨rfl, rfl⟩ := h3
    exact ⟨hbw, (two_cells h1).1, (two_cells h1).2, by rw [cell_of_row _ _ _ _ _ _ h2]; rfl, by rw [cell_of_row _ _ _ _ _ _ h2]; rfl, by rw [cell_of_row _ _ _ _ _ _ h2]; rfl, by rw [cell_of_row _ _ _ _ _ _ h2]; rfl, h4, h5⟩
  have HQ3 : Hid (q ≤ w3.heap.size) := Nat.le_of_lt (Array.getElem?_eq_some_iff.1 HX3.out).1
  clear d3 d4 d5 d6 d7 d8 d9 d10 hbp hbx HB2 HX3 HP3 HBOX2 hc0 hc1 hq2
  obtain ⟨-, hc0, hc1, hp0, hp1, hp2, hp3, he0, he1⟩ := HCX.out _ (Below.refl _ _)
  have hbd : Below w3.heap.size w3 w3.drew := (Below.refl _ _).drew
  go_region_held3 (fun w' => Below w3.heap.size w3 w' ∧ w'.cell? ⟨q, 0, none⟩ = some (.slice (some ⟨b', off', none⟩) N c) ∧ w'.cell? ⟨q, 1, none⟩ = some (.slice b m d) ∧ w'.cell? ⟨p, 0, none⟩ = some (.int .i64 x.key) ∧ w'.cell? ⟨p, 1, none⟩ = some (.int .i64 x.val) ∧ w'.cell? ⟨p, 2, none⟩ = some (.int .u32 (x.left : Int)) ∧ w'.cell? ⟨p, 3, none⟩ = some (.int .u32 (x.right : Int)) ∧ w'.cell? ⟨g, off + M * 2, none⟩ = some (.int .i64 x.key) ∧ w'.cell? ⟨g, off + M * 2 + 1, none⟩ = some (.int .i64 x.val)) (go_keep) (first
    | (go_at_call_of 13 (Value.int .u32 (x.left : Int)); refine (HC1.out _ (HCX.out _ hbd).1).mono ?_; rintro e wA ⟨rfl, hbA⟩; have hB1 : Below w3.heap.size w3 wA := hbd.trans (hbA.mono hbd.size); obtain ⟨-, hc0, hc1, hp0, hp1, hp2, hp3, he0, he1⟩ := HCX.out wA hB1)
    | (go_at_call_of 13 (Value.int .u32 (x.right : Int)); refine (HC2.out _ (HCX.out _ hB1).1).mono ?_; rintro e wB ⟨rfl, hbB⟩; generalize (if lc = M1 then (some ⟨g, off, none⟩ : Option Addr) else some ⟨g, off + M1 * 2, none⟩) = pp; have hB2 : Below w3.heap.size w3 wB := hB1.trans (hbB.mono hB1.size); obtain ⟨-, hc0, hc1, hp0, hp1, hp2, hp3, he0, he1⟩ := HCX.out wB hB2))
  all_goals (go_wp2_with fail; go_ret; exact ⟨rfl, (HCX.out wB hB2).1⟩)
set_option maxRecDepth 100000 in
theorem shaped_any {A : Ar} {a b : Option Addr} {N c m d : Nat} (hok : A.σ.Ok) (hN : A.σ.cap = N) : ∀ t : Tr, ShpSpec A a b N c m d t
  | .nil => fun w i la L lc l hS hsub hm he hE hL hL6 hLc hcm => by
    obtain rfl : i = 0 := by
      cases hsub with
      | nil => rfl
    obtain rfl : L = 0 := by rw [← hL, ← he]; rfl
    have HB := Lib.hid (below_new7 w (Obj.cells #[Value.slice a N c, Value.slice b m d] 33))
    clear hS hsub hm he hE hL hL6 hLc hcm
    go_enter Try.func13, Try.ntmps13
    go_upto_region 1 with fail
    generalize w.alloc (Obj.cells #[Value.slice a N c, Value.slice b m d] 33) = w1 at HB ⊢
    obtain ⟨q, hq⟩ : ∃ q, w.heap.size = q := ⟨_, rfl⟩
    rw [hq] at HB ⊢
    have HQ := Lib.hid hq
    clear hq
    go_wp2_with fail
    go_ret
    exact ⟨rfl, by rw [HQ.out]; exact HB.out⟩
  | .node i u v => fun w i' la L lc l hS hsub hm he hE hL hL6 hLc hcm => by
    obtain ⟨rfl, h0, hon, hsl, hsr⟩ : i = i' ∧ i' ≠ 0 ∧ A.σ.on i' = true ∧ Sub A (A.nd i').left u ∧ Sub A (A.nd i').right v := by
      cases hsub with
      | node _ _ _ h1 h2 h3 h4 => exact ⟨rfl, h1, h2, h3, h4⟩
    exact shp_node hok hN h0 hon hsl hsr hm he (shaped_any hok hN u) (shaped_any hok hN v) hS hE hL hL6 hLc hcm
end Go.Proofs.Ytnimbgcploohiaa
set_option linter.unusedVariables false
set_option linter.unusedSimpArgs false
namespace Go.Proofs.Ytnimbgcploohiaa
open Go.RowKit
theorem u1_at (w : World) (t : TypeId) (x : Nat) (hx : x < 4294967296) : U32At (w.alloc (.cells #[.int .u32 (x : Int)] t)) (some ⟨w.heap.size, 0, none⟩) [x] := by
  have hr := heap_alloc_new w (.cells #[.int .u32 (x : Int)] t)
  refine ⟨fun j hj => ⟨w.heap.size, 0, rfl, by simp, ?_⟩, fun z hz => ?_⟩
  · match j, hj with
    | 0, _ => rw [cell_of_row _ _ _ _ _ _ hr]; rfl
    | j + 1, hj => exact absurd hj (by simp)
  · simp at hz
    rw [hz]
    exact hx
theorem pow_dec {H L : Nat} (h : 2 ^ H ≤ 2 * L + 1) (hL : L ≤ 200) : decide (wrap64 ((2 : Int) ^ H) ≤ 2 * (L : Int) + 1) = true := by
  have hpw : ((2 : Int) ^ H) = ((2 ^ H : Nat) : Int) := by rw [Int.natCast_pow]; rfl
  obtain ⟨PW, hPW⟩ : ∃ P : Nat, 2 ^ H = P := ⟨_, rfl⟩
  rw [hPW] at hpw h
  clear hPW
  rw [hpw]
  have h3 : wrap64 (PW : Int) = (PW : Int) := by unfold wrap64; omega
  rw [h3]
  exact decide_eq_true (by omega)
set_option maxHeartbeats 16000000 in
set_option maxRecDepth 100000 in
theorem builds_walk (I : AImpl) (hchk : CheckSpec) (K : BkImpl I) {a : Option Addr} {n c : Nat} {raw : List En} {srt : Bool} {free : Int} {w : World} (hE : EnsAt w a raw) (hn : raw.length = n) (hnm : n ≤ 9223372036854775807) (hc : n ≤ c) (hcm : c ≤ maxLen) (hf0 : 0 ≤ free) (hf1 : free < 65536) :
    Calls Try.prog 3 #[.slice a n c, .bool srt, .int .u16 free] w (Calm w (.bool true)) := by
  have HK := Lib.hid K
  have HCHK := Lib.hid hchk
  have HF : Hid (0 ≤ free ∧ free < 65536) := ⟨hf0, hf1⟩
  have HE := Lib.hid hE
  have HN : Hid (raw.length = n ∧ n ≤ c ∧ c ≤ maxLen) := ⟨hn, hc, hcm⟩
  have HWF : Hid (WfL (listE raw 200)) := fun y hy => hE.wf y (listE_mem hy)
  have HL := Lib.hid (list_any (c := c) (k := 200) hE hn hnm (by decide))
  have HLEN := Lib.hid (listE_len raw 200)
  by_cases hbig : 200 < n
  · have q1 : decide ((n : Int) > 200) = true := decide_eq_true (by omega)
    have q2 : decide ((200 : Int) < (n : Int)) = true := decide_eq_true (by omega)
    clear K hchk hE hn hnm hc hcm hf0 hf1 hbig
    go_enter Try.func3, Try.ntmps3
    go_wp2_with fail
    refine (awake15_any I HK.out w).mono ?_
    rintro e w1 ⟨rfl, hb⟩
    have HB := Lib.hid hb
    clear hb
    go_wp2_with fail
    go_ret
    exact ⟨rfl, HB.out⟩
  · have q1 : decide ((n : Int) > 200) = false := decide_eq_false (by omega)
    have q2 : decide ((200 : Int) < (n : Int)) = false := decide_eq_false (by omega)
    have HNB : Hid (n ≤ 200) := by show _ ≤ _; omega
    clear K hchk hE hn hnm hc hcm hf0 hf1 hbig
    go_enter Try.func3, Try.ntmps3
    go_upto_if 21 with fail
    go_cut [7] from 22 to 23 (fun s7 wx => ∃ la L lc l, s7 = .slice la L lc ∧ EnsAt wx la l ∧ l.length = L ∧ L ≤ 200 ∧ L ≤ lc ∧ lc ≤ maxLen ∧ Below w.heap.size w wx)
    case first =>
      cases srt with
      | false =>
        go_wp2_with fail
        go_meet
        exact ⟨a, n, c, raw, rfl, HE.out, HN.out.1, HNB.out, HN.out.2.1, HN.out.2.2, Below.refl _ _⟩
      | true =>
        go_wp2_with fail
        refine HL.out.mono ?_
        rintro e w1 ⟨a1, c1, rfl, hr1, hb1⟩
        have HR1 := Lib.hid hr1
        have HB1 := Lib.hid hb1
        clear hr1 hb1
        go_wp2_with fail
        go_meet
        have hrc := row_caps HR1.out
        exact ⟨a1, _, c1, listE raw 200, rfl, ens_row rfl HR1.out HWF.out, rfl, HLEN.out, hrc.1, hrc.2, HB1.out⟩
    case' rest =>
      rename World => w1
      obtain ⟨la, L, lc, l, rfl, hE, hL, hL2, hlc, hlm, hb1⟩ := hcut
      have HE1 := Lib.hid hE
      have HLL : Hid (l.length = L ∧ L ≤ 200 ∧ L ≤ lc ∧ lc ≤ maxLen) := ⟨hL, hL2, hlc, hlm⟩
      have HB1 := Lib.hid hb1
      have hLi : (L : Int) ≤ 200 := by omega
      clear hE hL hL2 hlc hlm hb1 HL HE HN HWF HLEN HNB q1 q2
      have v0 : IntKind.i64.wrap free = free := by have := HF.out; rw [IntKind.wrap_i64]; omega
      have v1 : IntKind.i64.wrap ((L : Int) + 2) = (L : Int) + 2 := by rw [IntKind.wrap_i64]; omega
      have hne : ¬ (L : Int) + 2 = 0 := by omega
      obtain ⟨bb, hbb⟩ : ∃ bb : Bool, (free.tmod 4 == 0) = bb := ⟨_, rfl⟩
      go_upto_if 28 with fail
      go_cut [8] from 29 to 34 (fun s8 wx => ∃ sp : Nat, s8 = .int .i64 (sp : Int) ∧ sp ≤ L + 1 ∧ w1 = wx)
      case first =>
        cases bb with
        | false =>
          go_wp2_with fail
          go_meet
          exact ⟨L, rfl, by omega, rfl⟩
        | true =>
          obtain ⟨r, hr⟩ : ∃ r : Nat, free.tmod ((L : Int) + 2) = (r : Int) := ⟨(free.tmod ((L : Int) + 2)).toNat, by have := HF.out; rw [Int.tmod_eq_emod_of_nonneg this.1]; have := Int.emod_nonneg free (b := (L : Int) + 2) hne; omega⟩
          have hrl : r ≤ L + 1 := by
            have h1 : (r : Int) < (L : Int) + 2 := by rw [← hr, Int.tmod_eq_emod_of_nonneg HF.out.1]; exact Int.emod_lt_of_pos free (by omega)
            omega
          have HR := Lib.hid hrl
          clear hrl
          go_wp2_with fail
          go_meet
          exact ⟨r, rfl, HR.out, rfl⟩
      case' rest =>
        obtain ⟨sp, rfl, hsp, rfl⟩ := hcut
        have HSP : Hid (sp ≤ L + 1 ∧ (sp : Int) + 1 = ((sp + 1 : Nat) : Int)) := ⟨hsp, by omega⟩
        have hsi : (sp : Int) ≤ 201 := by omega
        have hs0 : (0 : Int) ≤ (sp : Int) := by omega
        have hws : IntKind.i64.wrap ((sp : Int) + 1) = (sp : Int) + 1 := by rw [IntKind.wrap_i64]; omega
        clear hsp v0 v1 hne hbb
        go_wp2_with fail
        rw [HSP.out.2]
        refine (I.new_ok (sp + 1) _ (by omega) (by omega)).mono ?_
        rintro e w2 ⟨p, F, rfl, hI, hF, hb2⟩
        obtain ⟨pa, rfl⟩ := I.ptr hI
        have HS2 : Hid (Scn I w1.heap.size w1 w2 (.pointer (some pa)) (Ar.init (sp + 1)) 0 [] []) := Scn.start ⟨⟨F, hI, hF, fun k hk => hk.elim⟩, hb2, hb2.size⟩
        have HINV0 : Hid ((Ar.init (sp + 1)).Inv [] (fun _ => 0) ∧ (Ar.init (sp + 1)).Agg) := ⟨Ar.init_inv (by omega) (by omega), Ar.init_agg _⟩
        have HCF : Hid ((Ar.init (sp + 1)).σ.cap = sp + 1 ∧ (Ar.init (sp + 1)).σ.free.length = sp + 1) := ⟨rfl, by show (List.range' 1 (sp + 1)).length = _; simp⟩
        have HSP1 : Hid ((sp : Int) + 1 = ((sp + 1 : Nat) : Int)) := HSP.out.2
        generalize Ar.init (sp + 1) = A at HS2 HINV0 HCF
        obtain ⟨N, hN⟩ : ∃ N, sp + 1 = N := ⟨_, rfl⟩
        rw [hN] at HCF HSP1
        have HNN : Hid (sp + 1 = N ∧ N ≤ 202) := ⟨hN, by omega⟩
        have hNi : (N : Int) ≤ 202 := by omega
        have hwn : IntKind.i64.wrap ((sp : Int) + 1) = (N : Int) := by rw [IntKind.wrap_i64]; have := HSP1.out; omega
        clear hws
        clear hI hF hb2 hN
        go_wp2_with fail
        refine (awake15_any I HK.out w2).mono ?_
        rintro e w3 ⟨rfl, hb3⟩
        have HS3 := Lib.hid (HS2.out.calm hb3)
        clear hb3 HS2
        go_wp2_with fail
        refine HS3.out.dump.mono ?_
        rintro e w4 ⟨da, dc, db, dd, rfl, hs4, -⟩
        rw [HCF.out.1, HCF.out.2] at hs4 ⊢
        have hs5 := hs4.box #[.slice da N dc, .slice db N dd] 33
        clear hs4 HS3
        go_upto_region 13 with fail
        generalize w4.alloc (.cells #[.slice da N dc, .slice db N dd] 33) = w5 at hs5 ⊢
        generalize w4.heap.size = q at hs5 ⊢
        have HS5 := Lib.hid hs5
        have HENS : Hid (∀ wx, Below w1.heap.size w1 wx → EnsAt wx la l) := fun wx hb => HE1.out.below hb
        clear hs5
        go_wp2_with fail
        refine (HS5.out.mutF fun F hI hF hG => HK.out.build w5 hI HINV0.out.1 HINV0.out.2 (fun j => by show (0 : Nat) ≤ _; omega) (HENS.out w5 HS5.out.below) HLL.out.1 (by have := HLL.out; omega) (fun h0 b off h hFb => by
          obtain ⟨b', off', h1, h2, _⟩ := HE1.out.cell 0 (l[0]'(by have := HLL.out; omega)) (List.getElem?_eq_getElem _)
          rw [h] at h1
          simp at h1
          have := hF b hFb
          omega) HLL.out.2.2.1 HLL.out.2.2.2 (by decide) (by decide)).mono ?_
        rintro e w6 ⟨B, rd6, ⟨h60, h61, hq⟩, hs6⟩
        have HS6 := Lib.hid hs6
        have HRD6 : Hid (0 ≤ rd6 ∧ rd6 ≤ 10000) := ⟨h60, by have := HLL.out; omega⟩
        clear hs6 HS5 h60 h61
        have HCEL : Hid (∀ {wx : World} {C : Ar} {rdx : Int} {rs' : List Row} {bs' : List (Nat × Obj)}, Scn I w1.heap.size w1 wx (.pointer (some pa)) C rdx rs' (bs' ++ [(q, .cells #[.slice da N dc, .slice db N dd] 33 (0, 0))]) → wx.cell? ⟨q, 0, none⟩ = some (.slice da N dc) ∧ wx.cell? ⟨q, 1, none⟩ = some (.slice db N dd)) := fun {wx C rdx rs' bs'} h => two_cells (h.boxes (q, .cells #[.slice da N dc, .slice db N dd] 33 (0, 0)) (by simp)).2
        rcases hq with ⟨hup, rfl, rfl⟩ | ⟨hup, hfull, rfl, rfl⟩ | ⟨hup, hroom, j, t, rfl, hg, hmid, hfree⟩
        · have HV : Hid (¬ Up l) := hup
          clear hup
          go_wp2_with fail
          refine (asc_no (c := lc) (HENS.out w6 HS6.out.below) HLL.out.1 (by have := HLL.out; omega) HV.out).mono ?_
          rintro e w7 ⟨rfl, hb7⟩
          have HS7 := Lib.hid (HS6.out.calm hb7)
          clear hb7 HS6
          obtain ⟨q0, q1⟩ := HCEL.out (bs' := []) HS7.out
          have hSd := HS7.out.calm (Below.refl _ _).drew
          go_upto_region 22 with fail
          go_region_held3 (fun w' => w'.cell? ⟨q, 0, none⟩ = some (.slice da N dc) ∧ w'.cell? ⟨q, 1, none⟩ = some (.slice db N dd)) (go_keep) (first
            | (go_at_call 9; refine hSd.dump.mono ?_; rintro e wC ⟨ea, ec, eb, ed, rfl, hsC, -⟩; rw [HCF.out.1, HCF.out.2] at hsC ⊢; obtain ⟨q0, q1⟩ := HCEL.out (bs' := []) hsC)
            | (go_at_call 12; refine (same_dump B.σ.free HCF.out.2 (hsC.slots_of (c := ec) HINV0.out.1 HCF.out.1 (by simp)) (hsC.slots_of (c := dc) HINV0.out.1 HCF.out.1 (by simp)) (hsC.rows ⟨35, 1, .slice eb N ed, N, u32s B.σ.free⟩ (by simp)) (hsC.rows ⟨35, 1, .slice db N dd, N, u32s B.σ.free⟩ (by simp)) (by have := HNN.out; omega) (by have := HNN.out; omega)).mono ?_; rintro e wD ⟨rfl, hbD⟩; have hsD := hsC.calm hbD; obtain ⟨q0, q1⟩ := HCEL.out (bs' := []) hsD))
          all_goals (go_wp2_with fail; go_ret; exact ⟨rfl, HB1.out.trans (hsD.below.mono HB1.out.size)⟩)
        · have HV : Hid (Up l) := hup
          have hlt : decide ((N : Int) < (L : Int)) = true := decide_eq_true (by have h1 := HCF.out.2; have h2 := HLL.out.1; omega)
          have hlt2 : (N : Int) < (L : Int) := by have h1 := HCF.out.2; have h2 := HLL.out.1; omega
          clear hup hfull
          go_wp2_with fail
          refine (asc_yes (c := lc) (HENS.out w6 HS6.out.below) HLL.out.1 (by have := HLL.out; omega) HV.out).mono ?_
          rintro e w7 ⟨rfl, hb7⟩
          have HS7 := Lib.hid (HS6.out.calm hb7)
          clear hb7 HS6
          obtain ⟨q0, q1⟩ := HCEL.out (bs' := []) HS7.out
          have hSd := HS7.out.calm (Below.refl _ _).drew
          go_upto_region 22 with fail
          go_region_held3 (fun w' => w'.cell? ⟨q, 0, none⟩ = some (.slice da N dc) ∧ w'.cell? ⟨q, 1, none⟩ = some (.slice db N dd)) (go_keep) (first
            | (go_at_call 9; refine hSd.dump.mono ?_; rintro e wC ⟨ea, ec, eb, ed, rfl, hsC, -⟩; rw [HCF.out.1, HCF.out.2] at hsC ⊢; obtain ⟨q0, q1⟩ := HCEL.out (bs' := []) hsC)
            | (go_at_call 12; refine (same_dump B.σ.free HCF.out.2 (hsC.slots_of (c := ec) HINV0.out.1 HCF.out.1 (by simp)) (hsC.slots_of (c := dc) HINV0.out.1 HCF.out.1 (by simp)) (hsC.rows ⟨35, 1, .slice eb N ed, N, u32s B.σ.free⟩ (by simp)) (hsC.rows ⟨35, 1, .slice db N dd, N, u32s B.σ.free⟩ (by simp)) (by have := HNN.out; omega) (by have := HNN.out; omega)).mono ?_; rintro e wD ⟨rfl, hbD⟩; have hsD := hsC.calm hbD; obtain ⟨q0, q1⟩ := HCEL.out (bs' := []) hsD))
          all_goals (go_wp2_with fail; go_ret; exact ⟨rfl, HB1.out.trans (hsD.below.mono HB1.out.size)⟩)
        · have HV : Hid (Up l) := hup
          have hlt : decide ((N : Int) < (L : Int)) = false := decide_eq_false (by have h1 := HCF.out.2; have h2 := HLL.out.1; omega)
          have hlt2 : ¬ (N : Int) < (L : Int) := by have h1 := HCF.out.2; have h2 := HLL.out.1; omega
          have HTR := Lib.hid (hg.tree hup)
          obtain ⟨M2, hM2⟩ : ∃ M, B.σ.free.length = M := ⟨_, rfl⟩
          have HM2 : Hid (B.σ.free.length = M2 ∧ M2 + L = N) := ⟨hM2, by have h1 := HCF.out.2; have h2 := HLL.out.1; omega⟩
          have HBC : Hid (B.σ.cap = N) := hg.kept.cap.trans HCF.out.1
          have HGT := Lib.hid hg
          have HMID := Lib.hid hmid
          have hM2i : (N : Int) - (L : Int) = (M2 : Int) := by have := HM2.out.2; omega
          have hw9 : IntKind.i64.wrap ((N : Int) - (L : Int)) = (M2 : Int) := by rw [IntKind.wrap_i64]; omega
          have hmm : ((M2 : Int) == (M2 : Int)) = true := by simp
          have hht := Tr.mid_ht t hmid
          rw [HTR.out.size, HLL.out.1] at hht
          clear hup hroom hg hmid hfree hM2 hM2i
          go_wp2_with fail
          refine (asc_yes (c := lc) (HENS.out w6 HS6.out.below) HLL.out.1 (by have := HLL.out; omega) HV.out).mono ?_
          rintro e w7 ⟨rfl, hb7⟩
          have HS7 := Lib.hid (HS6.out.calm hb7)
          clear hb7 HS6
          go_wp2_with fail
          refine HS7.out.dump.mono ?_
          rintro e w8 ⟨ea, ec, eb, ed, rfl, hs8, -⟩
          rw [HBC.out, HM2.out.1] at hs8 ⊢
          have hs9 := hs8.box #[.slice ea N ec, .slice eb M2 ed] 33
          clear hs8 HS7
          go_upto_region 24 with fail
          generalize w8.alloc (.cells #[.slice ea N ec, .slice eb M2 ed] 33) = w9 at hs9 ⊢
          generalize w8.heap.size = q2 at hs9 ⊢
          have HS9 := Lib.hid hs9
          have HCE2 : Hid (∀ {wx : World} {C : Ar} {rdx : Int} {rs' : List Row} {bs' : List (Nat × Obj)}, Scn I w1.heap.size w1 wx (.pointer (some pa)) C rdx rs' (bs' ++ (q2, .cells #[.slice ea N ec, .slice eb M2 ed] 33 (0, 0)) :: [(q, .cells #[.slice da N dc, .slice db N dd] 33 (0, 0))]) → wx.cell? ⟨q2, 0, none⟩ = some (.slice ea N ec) ∧ wx.cell? ⟨q2, 1, none⟩ = some (.slice eb M2 ed)) := fun {wx C rdx rs' bs'} h => two_cells (h.boxes (q2, .cells #[.slice ea N ec, .slice eb M2 ed] 33 (0, 0)) (by simp)).2
          clear hs9
          obtain ⟨q0, q1⟩ := HCE2.out (bs' := []) HS9.out
          go_wp2_with fail
          refine (shaped_any (c := ec) (b := eb) (m := M2) (d := ed) HGT.out.inv.ok HBC.out t w9 j la L lc l (HS9.out.slots_of (c := ec) HGT.out.inv HBC.out (by simp)) HTR.out.sub HMID.out HTR.out.ents (HENS.out w9 HS9.out.below) HLL.out.1 (by have := HLL.out; omega) HLL.out.2.2.1 HLL.out.2.2.2).mono ?_
          rintro e w10 ⟨rfl, hb10⟩
          have HS10 := Lib.hid (HS9.out.calm hb10)
          clear hb10 HS9
          obtain ⟨q0, q1⟩ := HCE2.out (bs' := []) HS10.out
          go_wp2_with fail
          refine (refTree_any (b := eb) (c := ec) (m := M2) (d := ed) HGT.out.inv HBC.out (HS10.out.slots_of (c := ec) HGT.out.inv HBC.out (by simp)) HTR.out (HENS.out w10 HS10.out.below) HLL.out.1 (by have := HLL.out; omega)).mono ?_
          rintro e w11 ⟨rfl, hb11⟩
          have HS11 := Lib.hid (HS10.out.calm hb11)
          clear hb11 HS10
          obtain ⟨q0, q1⟩ := HCE2.out (bs' := []) HS11.out
          go_wp2_with fail
          refine HS11.out.free.mono ?_
          rintro e w12 ⟨rfl, hs12⟩
          rw [HM2.out.1]
          have HS12 := Lib.hid hs12
          clear hs12 HS11
          have HSW : Hid (∀ (wx : World) (rdx : Int) (rs' : List Row) (bs' : List (Nat × Obj)) (rc : Nat), Scn I w1.heap.size w1 wx (.pointer (some pa)) B rdx rs' bs' → Calls Try.prog 16 #[.pointer (some pa), .slice (some ⟨wx.heap.size, 0, none⟩) 1 rc] (wx.alloc (.cells #[.int .u32 (j : Int)] 35)) (Calm (wx.alloc (.cells #[.int .u32 (j : Int)] 35)) (.bool true))) := fun wx rdx rs' bs' rc h =>
            (h.box _ _).sound HCHK.out (by have h2 := HGT.out.inv; have h3 := hof_pls [] j; rw [hof_nil] at h3; rw [h3] at h2; exact h2) HGT.out.agg (u1_at _ _ j HTR.out.idx) (L := 1) rfl (by decide) (fun z hz => by simp at hz; rw [hz]; exact HTR.out.sub.idx)
          obtain ⟨q0, q1⟩ := HCE2.out (bs' := []) HS12.out
          go_wp2_with fail
          refine (HSW.out w12 _ _ _ 1 HS12.out).mono ?_
          rintro e w13 ⟨rfl, hb13⟩
          have HS13 := Lib.hid ((HS12.out.box #[.int .u32 (j : Int)] 35).calm hb13)
          clear hb13 HS12 HSW q0 q1
          obtain ⟨q0, q1⟩ := HCE2.out (bs' := [_]) HS13.out
          have hh6 : t.ht ≤ 60 := by
            rcases Nat.lt_or_ge 60 t.ht with h | h
            · have := Nat.pow_le_pow_right (n := 2) (by decide) (Nat.le_of_lt h)
              have h2 := HLL.out
              omega
            · exact h
          have HHT := Lib.hid (height_any (a := ea) (b := eb) (m := M2) (d := ed) (c := ec) HGT.out.inv.ok HGT.out.agg HBC.out HTR.out.sub w13 (HS13.out.slots_of (c := ec) HGT.out.inv HBC.out (by simp)))
          generalize t.ht = H at HHT hht hh6
          have hhi : (H : Int) ≤ 60 := by omega
          have hh0 : (0 : Int) ≤ (H : Int) := by omega
          have hwu : IntKind.u64.wrap (H : Int) = (H : Int) := by rw [IntKind.wrap_u64]; omega
          go_wp2_with fail
          refine HHT.out.mono ?_
          rintro e w14 ⟨rfl, hb14⟩
          have HS14 := Lib.hid (HS13.out.calm hb14)
          clear hb14 HS13 HHT
          have HDC : Hid (decide (wrap64 ((2 : Int) ^ H) ≤ 2 * (L : Int) + 1) = true) := pow_dec hht HLL.out.2.1
          clear hht
          go_wp2_with fail
          go_ret
          exact ⟨by rw [← HDC.out]; rfl, HB1.out.trans (HS14.out.below.mono HB1.out.size)⟩
end Go.Proofs.Ytnimbgcploohiaa
