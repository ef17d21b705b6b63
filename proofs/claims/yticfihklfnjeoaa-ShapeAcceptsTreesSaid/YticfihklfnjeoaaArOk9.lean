/- The program's arena: Dump. -/
import Derived.Test.YticfihklfnjeoaaArOk8
set_option linter.unusedVariables false
namespace Go.Proofs.Yticfihklfnjeoaa
open Go.RowKit
def sltZ : Value := .agg #[.bool false, .int .i64 0, .int .u32 0, .int .i64 0, .int .i64 0, .int .u32 0, .int .u32 0, .int .i64 0, .int .i64 0, .int .i64 0, .int .i64 0]
theorem sltInfo : (Try.prog.info? 49).map (fun i => (i.zero, i.size, i.bytes)) = some (some sltZ, 11, 80) := by kernel_rfl
def slp (A : Ar) (k : Nat) : List Value := (List.range' 1 k).flatMap (slotV A)
theorem slp_succ (A : Ar) (k : Nat) : slp A (k + 1) = slp A k ++ slotV A (k + 1) := by
  unfold slp
  rw [List.range'_concat, List.flatMap_append]
  simp [Nat.add_comm]
theorem newc11 (w : World) (xs : Array Value) (t : TypeId) : ∀ j u, xs.toList[j]? = some u → (w.alloc (.cells xs t)).cell? ((⟨w.heap.size, 0, none⟩ : Addr).add j) = some u := by
  intro j u hu
  have e : (⟨w.heap.size, 0, none⟩ : Addr).add j = ⟨w.heap.size, j, none⟩ := by unfold Addr.add; split <;> simp_all
  rw [e, cell_of_row _ _ _ _ _ _ (heap_alloc_new w (.cells xs t))]
  simpa using hu
theorem slotV_ones (A : Ar) (k : Nat) : ∀ u ∈ slotV A k, u.oneCell' = true := by
  intro u hu
  simp [slotV, ndV] at hu
  rcases hu with rfl | rfl | rfl | rfl | rfl | rfl | rfl | rfl | rfl | rfl | rfl <;> rfl
theorem step_append11 {P : Program} {w : World} {ops : Array Oper} {o : Oper} {a : Act} {K : Act → World → Prop} {Q : Exit → Act → World → Prop} {E : Prop} (hgd : o.guard = none) (s x : Operand) (t : TypeId)
    (ho : o.op = .call { callee := .builtin .append, args := #[s, x], argTypes := #[t, t] })
    (base : Nat) (e : TypeId) (i : TypeInfo) (z : Value) (size bytes : Nat) (ht : P.underlying t = some (.slice e)) (hi : P.info? e = some i) (hz : i.zero = some z)
    (hsize : i.size = size) (hby : i.bytes = bytes) (hzs : z.cells.size = size) (hsz : 0 < size)
    (v : Value) (n : Nat) (xs : List Value) (hs : a.eval s = v) (hown : w.ownsRow base e size v n xs)
    (ad : Addr) (m c : Nat) (news : List Value) (hx : a.eval x = .slice (some ad) m c) (hl : news.length = m * size) (hnews : ∀ j u, news[j]? = some u → w.cell? (ad.add j) = some u) (h1 : ∀ u ∈ news, u.oneCell' = true)
    (h63 : n + m ≤ maxLen) (hbytes : (n + m) * bytes ≤ 140737488355328) (hbase : base ≤ w.heap.size)
    (h : ∀ v' w', w'.ownsRow base e size v' (n + m) (xs ++ news) → w.grownBy w' v.ownBlock → K (a.put o.dst v') w') : if Region.wanted o (yielded ops a.tmps) = true then Oper.wp P o a w K Q else E := by
  have hw : Region.wanted o (yielded ops a.tmps) = true := by simp [Region.wanted, hgd]
  rw [if_pos hw]
  exact wp_append_own w s x t ho base e i z size bytes ht hi hz hsize hby hzs hsz v n xs hs hown ad m c news hx hl hnews h1 h63 hbytes hbase fun v' w' h2 h3 _ => h v' w' h2 h3
/-- the description at hand in memory, after k slots -/
structure DmpRel (A : Ar) (B : Nat) (w3 : World) (k : Nat) (x : Value) (wr : World) : Prop where
  val : ∃ a c, x = .slice a k c
  row : wr.ownsRow B 49 11 x k (slp A k)
  below : Below w3.heap.size w3 wr
def ADumpR (w : World) (A : Ar) (e : Ending) (w' : World) : Prop :=
  ∃ a c b d, e = .returned (.agg #[.slice a A.σ.cap c, .slice b A.σ.free.length d]) ∧ w'.ownsRow w.heap.size 49 11 (.slice a A.σ.cap c) A.σ.cap (slotsV A) ∧
      w'.ownsRow w.heap.size 30 1 (.slice b A.σ.free.length d) A.σ.free.length (u32s A.σ.free) ∧ Below w.heap.size w w'
theorem row9n {w : World} {g : Nat} {t : TypeId} {c0 c1 c2 c3 c4 c5 c6 c7 c8 : Value} (h : w.heap[g]? = some (.cells #[c0, c1, c2, c3, c4, c5, c6, c7, c8] t (0, 0))) :
    w.cell? ⟨g, 0, none⟩ = some c0 ∧ w.cell? ⟨g, 1, none⟩ = some c1 ∧ w.cell? ⟨g, 2, none⟩ = some c2 ∧ w.cell? ⟨g, 3, none⟩ = some c3 ∧ w.cell? ⟨g, 4, none⟩ = some c4 ∧ w.cell? ⟨g, 5, none⟩ = some c5 ∧ w.cell? ⟨g, 6, none⟩ = some c6 ∧ w.cell? ⟨g, 7, none⟩ = some c7 ∧ w.cell? ⟨g, 8, none⟩ = some c8 := by
  refine ⟨?_, ?_, ?_, ?_, ?_, ?_, ?_, ?_, ?_⟩ <;> (rw [cell_of_row _ _ _ _ _ _ h]; rfl)
/-- the nine cells of a slot, as an array -/
def celA (A : Ar) (i : Nat) : Array Value := #[.int .i64 (A.nd i).key, .int .i64 (A.nd i).val, .int .u32 ((A.nd i).left : Int), .int .u32 ((A.nd i).right : Int), .int .i64 (A.nd i).size, .int .i64 (A.nd i).sum, .int .i64 (A.nd i).mn, .int .i64 (A.nd i).mx, .int .i64 (A.cnt i)]
section
variable {I : Impl} {w w' wr : World} {ab : Nat} {sp : Addr} {A A' : Ar} {rd : Int} {cc g : Nat} {Fs Fs' : Nat → Prop}
set_option maxHeartbeats 4000000 in
set_option maxRecDepth 100000 in
theorem a_dump (h : LieA I w ab sp A rd (some ⟨g, 0, none⟩) cc Fs) : Calls Try.prog 19 #[.pointer (some ⟨ab, 0, none⟩)] w (ADumpR w A) := by
  obtain ⟨i0, hi, hz0, hz1, hz2⟩ := info_parts sltInfo
  have HU : Hid _ := Lib.hid Try.underlying37
  have hin : (Try.prog.info? 37).map (·.size) = some 2 := by kernel_rfl
  have HIN := Lib.hid hin
  have hcap := h.ok.cap2
  have hci : (A.σ.cap : Int) ≤ 65536 := by omega
  have hci0 : (0 : Int) ≤ (A.σ.cap : Int) := by omega
  have HOK := Lib.hid h.ok
  have hb1 := below_al w (Obj.cells #[Value.slice none 0 0, Value.slice none 0 0] 37)
  have h1 := h.below hb1
  have HP0 := Lib.hid (heap_alloc_new w (Obj.cells #[Value.slice none 0 0, Value.slice none 0 0] 37))
  have HB1 := Lib.hid hb1
  clear h hin hb1
  go_enter Try.func19, Try.ntmps19
  go_upto_region 1 with fail
  generalize w.alloc (Obj.cells #[Value.slice none 0 0, Value.slice none 0 0] 37) = w1 at h1 HP0 HB1 ⊢
  obtain ⟨p0, hp0⟩ : ∃ p0, w.heap.size = p0 := ⟨_, rfl⟩
  rw [hp0] at HP0 ⊢
  have HPP := Lib.hid hp0
  obtain ⟨c0, c1, c2⟩ := h1.cells
  have H1 := Lib.hid h1
  have hsz1 := HB1.out.size
  have hpl : p0 < w1.heap.size := (Array.getElem?_eq_some_iff.1 HP0.out).1
  rw [hp0] at hsz1
  have HPL := Lib.hid hpl
  clear h1 hp0 hpl
  go_upto_region 2 with (refine wpList_make_own _ rfl (.const (.int .i64 0)) (.tmp 11) 35 rfl w1.heap.size 49 i0 sltZ 11 Try.underlying35 hi hz0 hz1 .i64 .i64 (A.σ.cap : Int) A.σ.cap rfl rfl rfl (by rw [hz2]; omega) (by unfold maxLen; omega) (Nat.le_refl _) ?_; intro w2 ho2 hg2)
  have hb2 : Below w1.heap.size w1 w2 := (Below.refl _ _).grown hg2 (Nat.le_refl _) (fun k hk => by cases hk)
  have HREL : Hid (DmpRel A w1.heap.size w1 0 (.slice (some ⟨w1.heap.size, 0, none⟩) 0 A.σ.cap) w2) := ⟨⟨_, _, rfl⟩, ho2, hb2⟩
  have h2 := H1.out.below hb2
  clear c0 c1 c2 ho2 hg2 hb2 hsz1
  obtain ⟨c0, c1, c2⟩ := h2.cells
  clear h2
  go_wp2_with fail
  go_loopg [3, 18] A.σ.cap (fun gk x i wr => ∃ k, k ≤ A.σ.cap ∧ gk = A.σ.cap - k ∧ i = .int .i64 (k : Int) ∧ DmpRel A w1.heap.size w1 k x wr)
  case atStart => exact ⟨0, Nat.zero_le _, rfl, rfl, HREL.out⟩
  case round =>
    clear HREL c0 c1 c2
    obtain ⟨k, hk, hg, rfl, hR⟩ := hrel
    have HG := Lib.hid hg
    obtain ⟨xa, xc, rfl⟩ := hR.val
    have HL := Lib.hid (H1.out.below hR.below)
    have HR := Lib.hid hR
    clear hR hg
    by_cases hlt : k < A.σ.cap
    · have hki : (k : Int) < (A.σ.cap : Int) := by omega
      have hki0 : (0 : Int) ≤ (k : Int) := by omega
      obtain ⟨g0, g1, g2, g3, g4, g5, g6, g7, g8⟩ := HL.out.nine hlt
      have HLT := Lib.hid hlt
      have hal := below_al wr (Obj.cells (celA A (k + 1)) 78)
      have HX := Lib.hid (heap_alloc_new wr (Obj.cells (celA A (k + 1)) 78))
      have HL3 := Lib.hid (HL.out.below hal)
      have HR3 : Hid (DmpRel A w1.heap.size w1 k (.slice xa k xc) (wr.alloc (Obj.cells (celA A (k + 1)) 78))) := ⟨⟨_, _, rfl⟩, row_below HR.out.row hal, HR.out.below.trans (hal.mono HR.out.below.size)⟩
      clear hal hlt
      go_upto_region 5 with fail
      rw [show #[Value.int .i64 (A.nd (k + 1)).key, .int .i64 (A.nd (k + 1)).val, .int .u32 ((A.nd (k + 1)).left : Int), .int .u32 ((A.nd (k + 1)).right : Int), .int .i64 (A.nd (k + 1)).size, .int .i64 (A.nd (k + 1)).sum, .int .i64 (A.nd (k + 1)).mn, .int .i64 (A.nd (k + 1)).mx, .int .i64 (A.cnt (k + 1))] = celA A (k + 1) from rfl]
      clear g0 g1 g2 g3 g4 g5 g6 g7 g8
      generalize wr.alloc (Obj.cells (celA A (k + 1)) 78) = w3 at HX HL3 HR3 ⊢
      have HOWN : Hid (∀ b, (Value.slice xa k xc).ownBlock = some b → b < wr.heap.size) := fun b e => (row_lt HR.out.row b e).2
      generalize wr.heap.size = q at HX HOWN ⊢
      have hx := HX.out
      unfold celA at hx
      obtain ⟨g0, g1, g2, g3, g4, g5, g6, g7, g8⟩ := row9n hx
      obtain ⟨c0, c1, c2⟩ := HL3.out.cells
      have hkw : IntKind.u32.wrap ((k : Int) + 1) = (k : Int) + 1 := by rw [IntKind.wrap_u32']; omega
      have hcalls : ∀ wx : World, Below w3.heap.size w3 wx → Calls Try.prog 35 #[.pointer (some sp), .int .u32 ((k : Int) + 1)] wx (Quiet wx (.bool (A.σ.on (k + 1)))) ∧ Calls Try.prog 36 #[.pointer (some sp), .int .u32 ((k : Int) + 1)] wx (Quiet wx (.int .u32 (A.σ.gen (k + 1)))) := fun wx hb =>
        ⟨I.allocated _ _ _ (k + 1) _ (I.below HL3.out.slots hb) (by omega), I.generation _ _ _ (k + 1) _ (I.below HL3.out.slots hb) (by omega)⟩
      have HCALLS := Lib.hid hcalls
      have hrow : ∀ wx : World, Below w3.heap.size w3 wx → (wx.alloc (Obj.cells (slotV A (k + 1)).toArray 49)).ownsRow w1.heap.size 49 11 (.slice xa k xc) k (slp A k) := fun wx hb => row_below (row_below HR3.out.row hb) (below_al _ _)
      have HROW := Lib.hid hrow
      have hsz3 : w1.heap.size ≤ w3.heap.size := HR3.out.below.size
      have hafter : ∀ wx w6 : World, Below w3.heap.size w3 wx → (wx.alloc (Obj.cells (slotV A (k + 1)).toArray 49)).grownBy w6 (Value.slice xa k xc).ownBlock → Below w1.heap.size w1 w6 ∧ w6.cell? ⟨ab, 0, none⟩ = some (.pointer (some sp)) ∧ w6.cell? ⟨q, 8, none⟩ = some (.int .i64 (A.cnt (k + 1))) ∧
          w6.cell? ⟨q, 0, none⟩ = some (.int .i64 (A.nd (k + 1)).key) ∧ w6.cell? ⟨q, 1, none⟩ = some (.int .i64 (A.nd (k + 1)).val) ∧ w6.cell? ⟨q, 2, none⟩ = some (.int .u32 ((A.nd (k + 1)).left : Int)) ∧ w6.cell? ⟨q, 3, none⟩ = some (.int .u32 ((A.nd (k + 1)).right : Int)) ∧
          w6.cell? ⟨q, 4, none⟩ = some (.int .i64 (A.nd (k + 1)).size) ∧ w6.cell? ⟨q, 5, none⟩ = some (.int .i64 (A.nd (k + 1)).sum) ∧ w6.cell? ⟨q, 6, none⟩ = some (.int .i64 (A.nd (k + 1)).mn) ∧ w6.cell? ⟨q, 7, none⟩ = some (.int .i64 (A.nd (k + 1)).mx) := fun wx w6 hb hg => by
        have hb2 := trans_of' hb (below_al wx (Obj.cells (slotV A (k + 1)).toArray 49))
        have hown : ∀ b, (Value.slice xa k xc).ownBlock = some b → w1.heap.size ≤ b := fun b e => row_from HR.out.row b e
        have hb1 : Below w1.heap.size w1 (wx.alloc (Obj.cells (slotV A (k + 1)).toArray 49)) := HR3.out.below.trans (hb2.mono HR3.out.below.size)
        have hb6 := hb1.grown hg hb1.size hown
        have hc := (H1.out.below hb6).cells.1
        have hql : q < w3.heap.size := (Array.getElem?_eq_some_iff.1 HX.out).1
        have hq := (hg.block q (Nat.lt_of_lt_of_le hql hb2.size) (fun e => by have := HOWN.out q e.symm; omega)).trans ((hb2.block q hql).trans HX.out)
        unfold celA at hq
        obtain ⟨k0, k1, k2, k3, k4, k5, k6, k7, k8⟩ := row9n hq
        exact ⟨hb6, hc, k8, k0, k1, k2, k3, k4, k5, k6, k7⟩
      have HAFTER := Lib.hid hafter
      clear hx hcalls hrow hafter
      go_upto_region 6 with fail
      go_region_held3 (fun w' => w'.cell? ⟨ab, 0, none⟩ = some (.pointer (some sp)) ∧ w'.cell? ⟨q, 8, none⟩ = some (.int .i64 (A.cnt (k + 1))) ∧
        w'.cell? ⟨q, 0, none⟩ = some (.int .i64 (A.nd (k + 1)).key) ∧ w'.cell? ⟨q, 1, none⟩ = some (.int .i64 (A.nd (k + 1)).val) ∧ w'.cell? ⟨q, 2, none⟩ = some (.int .u32 ((A.nd (k + 1)).left : Int)) ∧ w'.cell? ⟨q, 3, none⟩ = some (.int .u32 ((A.nd (k + 1)).right : Int)) ∧
        w'.cell? ⟨q, 4, none⟩ = some (.int .i64 (A.nd (k + 1)).size) ∧ w'.cell? ⟨q, 5, none⟩ = some (.int .i64 (A.nd (k + 1)).sum) ∧ w'.cell? ⟨q, 6, none⟩ = some (.int .i64 (A.nd (k + 1)).mn) ∧ w'.cell? ⟨q, 7, none⟩ = some (.int .i64 (A.nd (k + 1)).mx)) (go_keep) (first
        | (go_at_call 35; refine (HCALLS.out _ (by exact ⟨rfl, rfl, rfl, Nat.le_refl _, fun _ _ => rfl⟩)).1.mono ?_; rintro e wx ⟨rfl, da, rfl⟩)
        | (go_at_call 36; refine (HCALLS.out _ (by exact ⟨rfl, rfl, rfl, Nat.le_refl _, fun _ _ => rfl⟩)).2.mono ?_; rintro e wx ⟨rfl, db, rfl⟩)
        | (refine step_append11 rfl (.tmp 26) (.tmp 44) 35 rfl w1.heap.size 49 i0 sltZ 11 80 Try.underlying35 hi hz0 hz1 hz2 rfl (by decide) _ k (slp A k) rfl (HROW.out _ (by exact ⟨rfl, rfl, rfl, Nat.le_refl _, fun _ _ => rfl⟩)) _ 1 1 (slotV A (k + 1)) rfl rfl (newc11 _ _ _) (slotV_ones A _) (by unfold maxLen; omega) (by omega) (by simp; omega) ?_; intro v6 w6 ho6 hg6; obtain ⟨va, vc, rfl⟩ := row_val ho6; obtain ⟨hb6, s0, s1, s2, s3, s4, s5, s6, s7, s8, s9⟩ := HAFTER.out _ w6 (by exact ⟨rfl, rfl, rfl, Nat.le_refl _, fun _ _ => rfl⟩) hg6))
      all_goals
        have HREL : Hid (DmpRel A w1.heap.size w1 (k + 1) (.slice va (k + 1) vc) w6) := ⟨⟨_, _, rfl⟩, by rw [slp_succ]; exact ho6, hb6⟩
        clear ho6 hg6 hb6 s0 s1 s2 s3 s4 s5 s6 s7 s8 s9 c0 c1 c2 g0 g1 g2 g3 g4 g5 g6 g7 g8
        go_wp2_with fail
        go_roundg (A.σ.cap - (k + 1))
        case measure => have := HG.out; have := HLT.out; omega
        case rel => exact ⟨k + 1, by have := HLT.out; omega, rfl, by go_num, HREL.out⟩
    · have hkc : k = A.σ.cap := by omega
      have hkci : ¬ (k : Int) < (A.σ.cap : Int) := by omega
      have HKC := Lib.hid hkc
      clear hkc hlt
      obtain ⟨c0, c1, c2⟩ := HL.out.cells
      go_wp2_with fail
      refine (I.order _ _ _ _ HL.out.slots).mono ?_
      rintro e w4 ⟨b, dd, rfl, hfr, hb4⟩
      have HFR := Lib.hid hfr
      have HR4 : Hid (DmpRel A w1.heap.size w1 k (.slice xa k xc) w4) := ⟨⟨_, _, rfl⟩, row_below HR.out.row hb4, HR.out.below.trans (hb4.mono HR.out.below.size)⟩
      have HP : Hid (w4.heap[p0]? = some (Obj.cells #[Value.slice none 0 0, Value.slice none 0 0] 37 (0, 0))) := (HR4.out.below.block p0 HPL.out).trans HP0.out
      have hs14 := HR.out.below.size
      clear c0 c1 c2 hfr hb4
      go_wp2_with (refine wpList_store_row rfl 37 (.tmp 2) (.tmp 53) rfl p0 #[.slice xa k xc, .slice b A.σ.free.length dd] rfl rfl 37 _ HP.out HIN.out rfl (by simp [Value.oneCell']) ?_)
      refine bodyPost_ret (v := .agg #[.slice xa k xc, .slice b A.σ.free.length dd]) (results_cell_row rfl _ _ p0 37 _ (0, 0) _ rfl (setRow_heap _ _ _ _ _ _ HP.out) HU.out rfl HIN.out) rfl ?_
      have hrow := HR4.out.row
      rw [HKC.out] at hrow ⊢
      have hpp := HPP.out
      have hpl := HPL.out
      have hbb := HB1.out.trans (HR4.out.below.mono HB1.out.size)
      refine ⟨xa, xc, b, dd, rfl, ?_, ?_, below_row hbb (by omega)⟩
      · refine row_mono (row_keep hrow fun j hj => setRow_other _ _ _ _ ?_) HB1.out.size
        have := row_from hrow j hj; omega
      · refine row_mono (row_keep HFR.out fun j hj => setRow_other _ _ _ _ ?_) (by omega)
        have := row_from HFR.out j hj; omega
end
end Go.Proofs.Yticfihklfnjeoaa
