/- The program's traversal of a tree: visit; over contracts of an arena. -/
import Derived.Test.YticfihklfnjeoaaShOk2
set_option linter.unusedVariables false
set_option linter.unusedSimpArgs false
namespace Go.Proofs.Yticfihklfnjeoaa
open Go.RowKit
def VisRes (I : AImpl) (B : Nat) (w0 : World) (p : Value) (A : Ar) (q : Nat) (t : Tr) (u : Nat) (s : Option Int) (b : Bool) (top : Int) (X : Nat → Prop) (w : World) (e : Ending) (w' : World) : Prop :=
  Keeps X w w' ∧ ((∃ s', e = .returned (.tuple #[.agg #[.int .i64 (t.size : Int), .int .i64 (t.ht : Int)], .int .i64 0]) ∧ ordT A.nd t s = some s' ∧ t.size ≤ u ∧ TW I B w0 w' p A (top + (t.size : Int)) q (u - t.size) s' (b || !balT A t) X) ∨
    (∃ u' s' b', e = .returned (.tuple #[.agg #[.int .i64 0, .int .i64 0], .int .i64 7]) ∧ (ordT A.nd t s = none ∨ u < t.size) ∧ TW I B w0 w' p A (top + (u : Int) + 1) q u' s' b' X))
def VisSpec (I : AImpl) (B : Nat) (w0 : World) (p : Value) (A : Ar) (q : Nat) (i : Nat) (t : Tr) : Prop :=
  ∀ (u : Nat) (s : Option Int) (b : Bool) (top : Int) (X : Nat → Prop) (w : World), TW I B w0 w p A top q u s b X → 0 ≤ top → top + (u : Int) + 1 ≤ 4398046511104 → u ≤ 65536 →
    Calls Try.prog 43 #[.pointer (some ⟨q, 0, none⟩), .int .u32 (i : Int)] w (VisRes I B w0 p A q t u s b top X w)
theorem keeps_set2 {w : World} {X : Nat → Prop} {g : Nat} (hg : ¬ X g) (x y : Value) : Keeps X w ((w.setCell ⟨g, 0, none⟩ x).setCell ⟨g, 1, none⟩ y) := fun k hk => by
  have hne : k ≠ g := fun e => hg (e ▸ hk)
  rw [heap_setCell_other _ _ _ _ hne, heap_setCell_other _ _ _ _ hne]
theorem row_set2 {w : World} {g : Nat} {x0 y0 x y : Value} {ty : TypeId} (h : w.heap[g]? = some (.cells #[x0, y0] ty (0, 0))) : ((w.setCell ⟨g, 0, none⟩ x).setCell ⟨g, 1, none⟩ y).heap[g]? = some (.cells #[x, y] ty (0, 0)) := by
  rw [heap_setCell_same _ g 1 _ _ _ (heap_setCell_same w g 0 _ _ _ h)]; rfl
set_option maxHeartbeats 8000000 in
set_option maxRecDepth 100000 in
theorem vis_node {I : AImpl} {B : Nat} {w0 : World} {pa : Addr} {A : Ar} {q i : Nat} {l r : Tr} (hok : A.σ.Ok) (ha : A.Agg) (h0 : i ≠ 0) (h1 : A.σ.on i = true) (hsl : Sub A (A.nd i).left l) (hsr : Sub A (A.nd i).right r)
    (ihl : VisSpec I B w0 (.pointer (some pa)) A q (A.nd i).left l) (ihr : VisSpec I B w0 (.pointer (some pa)) A q (A.nd i).right r) : VisSpec I B w0 (.pointer (some pa)) A q i (.node i l r) := by
  intro u s b top X w hw ht0 ht1 hu
  have HU : Hid _ := Lib.hid Try.underlying42
  have hin : (Try.prog.info? 42).map (·.size) = some 2 := by kernel_rfl
  have HIN := Lib.hid hin
  have hi := hok.on i h1
  have hcap := hok.cap2
  have hht : (Tr.node i l r).ht = 1 + max l.ht r.ht := rfl
  have hsz : (Tr.node i l r).size = l.size + r.size + 1 := rfl
  have HT : Hid (0 ≤ top ∧ top + (u : Int) + 1 ≤ 4398046511104) := ⟨ht0, ht1⟩
  have HUU : Hid (u ≤ 65536) := hu
  have HHT := Lib.hid hht
  have HSZ := Lib.hid hsz
  have HBAL : Hid (balT A (.node i l r) = (bal (l.size : Int) (r.size : Int) && balT A l && balT A r)) := by
    show balT A (.node i l r) = _
    rw [← hsl.size ha, ← hsr.size ha]; rfl
  have HHL : Hid (l.ht ≤ 65536) := Nat.le_trans (hsl.ht_cap hok ha) hcap
  have HHR : Hid (r.ht ≤ 65536) := Nat.le_trans (hsr.ht_cap hok ha) hcap
  have hne0 : ((i : Int) == 0) = false := by simp; omega
  have hi32 : i < 4294967296 := by omega
  have HI := Lib.hid hi32
  have HON := Lib.hid h1
  have HL := Lib.hid ihl
  have HR := Lib.hid ihr
  have HORD : Hid (∀ s1, ordT A.nd l s = some s1 → (∀ k, s1 = some k → k < (A.nd i).key) → ordT A.nd (.node i l r) s = ordT A.nd r (some (A.nd i).key)) := fun s1 h1 h2 => by
    conv => lhs; unfold ordT
    rw [h1]
    cases s1 with
    | none => rfl
    | some k =>
      show (if (A.nd i).key ≤ k then none else _) = _
      rw [if_neg (by have := h2 k rfl; omega)]
  have HORN : Hid (∀ k, ordT A.nd l s = some (some k) → (A.nd i).key ≤ k → ordT A.nd (.node i l r) s = none) := fun k h1 h2 => by
    conv => lhs; unfold ordT
    rw [h1]
    show (if (A.nd i).key ≤ k then none else _) = _
    rw [if_pos h2]
  have HORL : Hid (ordT A.nd l s = none → ordT A.nd (.node i l r) s = none) := fun h1 => by unfold ordT; rw [h1]
  have HB : Hid (B ≤ w.heap.size) := hw.ms.hB
  have HG : Hid (¬ X w.heap.size) := fun hx => Nat.lt_irrefl _ (hw.lt hx)
  have hw1 := hw.alloc (Obj.cells #[Value.int .i64 0, .int .i64 0] 42)
  have hr1 := heap_alloc_new w (Obj.cells #[Value.int .i64 0, .int .i64 0] 42)
  have hk1 : Keeps X w (w.alloc (Obj.cells #[Value.int .i64 0, .int .i64 0] 42)) := hw.keeps (below_new7 w _)
  clear hw ihl ihr hok h1 hht hsz hi hcap hi32 ht0 ht1 hin hu hsl hsr ha
  go_enter Try.func43, Try.ntmps43
  go_upto_region 1 with fail
  generalize w.alloc (Obj.cells #[Value.int .i64 0, .int .i64 0] 42) = w1 at hw1 hr1 hk1 ⊢
  generalize w.heap.size = g at hw1 hr1 HB HG ⊢
  have HW1 := Lib.hid hw1
  have HR1 := Lib.hid hr1
  have HK1 := Lib.hid hk1
  clear hw1 hr1 hk1
  -- how it ends
  have HERR : Hid (∀ (wx : World) (u' : Nat) (s' : Option Int) (b' : Bool) (x0 y0 : Value), TW I B w0 wx (.pointer (some pa)) A (top + (u : Int) + 1) q u' s' b' (fun k => X k ∨ k = g) → Keeps X w wx → wx.heap[g]? = some (.cells #[x0, y0] 42 (0, 0)) →
      (ordT A.nd (.node i l r) s = none ∨ u < (Tr.node i l r).size) → VisRes I B w0 (.pointer (some pa)) A q (.node i l r) u s b top X w (.returned (.tuple #[.agg #[.int .i64 0, .int .i64 0], .int .i64 7])) ((wx.setCell ⟨g, 0, none⟩ (.int .i64 0)).setCell ⟨g, 1, none⟩ (.int .i64 0))) := by
    intro wx u' s' b' x0 y0 h1 h2 h3 h4
    exact ⟨fun k hk => (keeps_set2 HG.out _ _ k hk).trans (h2 k hk), .inr ⟨u', s', b', rfl, h4, (((h1.cell (.inr rfl) HB.out 0 _).cell (.inr rfl) HB.out 1 _)).less fun k hk => .inl hk⟩⟩
  have HFIN : Hid (∀ (wx : World) (s' : Option Int) (x0 y0 : Value) (x y : Int), TW I B w0 wx (.pointer (some pa)) A (top + 1 + (l.size : Int) + (r.size : Int)) q (u - 1 - l.size - r.size) s' (b || !balT A (.node i l r)) (fun k => X k ∨ k = g) → Keeps X w wx → wx.heap[g]? = some (.cells #[x0, y0] 42 (0, 0)) →
      ordT A.nd (.node i l r) s = some s' → l.size + r.size + 1 ≤ u → x = (l.size : Int) + 1 + (r.size : Int) → y = 1 + max (l.ht : Int) (r.ht : Int) →
      VisRes I B w0 (.pointer (some pa)) A q (.node i l r) u s b top X w (.returned (.tuple #[.agg #[.int .i64 x, .int .i64 y], .int .i64 0])) ((wx.setCell ⟨g, 0, none⟩ (.int .i64 x)).setCell ⟨g, 1, none⟩ (.int .i64 y))) := by
    intro wx s' x0 y0 x y h1 h2 h3 h4 h5 hx hy
    have e1 : ((Tr.node i l r).size : Int) = x := by rw [HSZ.out, hx]; omega
    have e2 : ((Tr.node i l r).ht : Int) = y := by rw [HHT.out, hy]; omega
    refine ⟨fun k hk => (keeps_set2 HG.out _ _ k hk).trans (h2 k hk), .inl ⟨s', by rw [e1, e2], h4, by rw [HSZ.out]; exact h5, ?_⟩⟩
    have h6 := ((h1.cell (.inr rfl) HB.out 0 (.int .i64 x)).cell (.inr rfl) HB.out 1 (.int .i64 y)).less (Y := X) fun k hk => .inl hk
    rw [show top + ((Tr.node i l r).size : Int) = top + 1 + (l.size : Int) + (r.size : Int) by rw [HSZ.out]; omega, show u - (Tr.node i l r).size = u - 1 - l.size - r.size by rw [HSZ.out]; omega]
    exact h6
  go_wp2_with fail
  refine (read_on HW1.out (by have := HT.out; omega) HI.out HON.out HUU.out).mono ?_
  rintro e w2 ⟨hk2, hres⟩
  have HR2 := Lib.hid ((hk2 g (.inr rfl)).trans HR1.out)
  have HK2 : Hid (Keeps X w w2) := fun k hk => (hk2 k (.inl hk)).trans (HK1.out k hk)
  clear hk2
  rcases hres with ⟨u2, hu2, rfl, hw2⟩ | ⟨hu2, rfl, hw2⟩
  · have HU2 := Lib.hid hu2
    clear hu2 HR1 HK1 HW1
    unfold ndRow
    go_upto_region 4 with fail
    rw [show #[Value.int .i64 (A.nd i).key, .int .i64 (A.nd i).val, .int .u32 ((A.nd i).left : Int), .int .u32 ((A.nd i).right : Int), .int .i64 (A.nd i).size, .int .i64 (A.nd i).sum, .int .i64 (A.nd i).mn, .int .i64 (A.nd i).mx] = ndRow (A.nd i) from rfl]
    have hb3 := below_new7 w2 (Obj.cells (ndRow (A.nd i)) 47)
    have hw3 := hw2.alloc (Obj.cells (ndRow (A.nd i)) 47)
    have hn3 := heap_alloc_new w2 (Obj.cells (ndRow (A.nd i)) 47)
    have hk3 : Keeps X w (w2.alloc (Obj.cells (ndRow (A.nd i)) 47)) := fun k hk => (hw2.keeps hb3 k (.inl hk)).trans (HK2.out k hk)
    have hr3 := (hw2.keeps hb3 g (.inr rfl)).trans HR2.out
    have HNB : Hid (B ≤ w2.heap.size) := hw2.ms.hB
    generalize w2.alloc (Obj.cells (ndRow (A.nd i)) 47) = w3 at hw3 hn3 hk3 hr3 ⊢
    generalize w2.heap.size = gn at hw3 hn3 HNB ⊢
    have x2 : w3.cell? ⟨gn, 2, none⟩ = some (.int .u32 ((A.nd i).left : Int)) := by rw [cell_of_row _ _ _ _ _ _ hn3]; rfl
    have HW3 := Lib.hid hw3
    have HN3 := Lib.hid hn3
    have HR3 := Lib.hid hr3
    have HK3 := Lib.hid hk3
    clear hw2 hb3 hw3 hn3 hk3 hr3 HR2 HK2
    go_wp2_with fail
    refine (HL.out u2 s b (top + 1) (fun k => (X k ∨ k = g) ∨ k = gn) w3 HW3.out (by have := HT.out; omega) (by have := HT.out; have := HU2.out; omega) (by have := HUU.out; have := HU2.out; omega)).mono ?_
    rintro e w4 ⟨hk4, hres⟩
    have HR4 := Lib.hid ((hk4 g (.inl (.inr rfl))).trans HR3.out)
    have HN4 := Lib.hid ((hk4 gn (.inr rfl)).trans HN3.out)
    have HK4 : Hid (Keeps X w w4) := fun k hk => (hk4 k (.inl (.inl hk))).trans (HK3.out k hk)
    clear hk4 x2 HW3 HR3 HN3 HK3
    rcases hres with ⟨s1, rfl, ho1, hz1, hw4⟩ | ⟨u', s', b', rfl, ho1, hw4⟩
    · have HO1 := Lib.hid ho1
      have HZ1 := Lib.hid hz1
      have hb5 := below_new7 w4 (Obj.cells #[Value.int .i64 (l.size : Int), .int .i64 (l.ht : Int)] 42)
      have hw5 := hw4.alloc (Obj.cells #[Value.int .i64 (l.size : Int), .int .i64 (l.ht : Int)] 42)
      have hl5 := heap_alloc_new w4 (Obj.cells #[Value.int .i64 (l.size : Int), .int .i64 (l.ht : Int)] 42)
      have hk5 : Keeps X w (w4.alloc (Obj.cells #[Value.int .i64 (l.size : Int), .int .i64 (l.ht : Int)] 42)) := fun k hk => (hw4.keeps hb5 k (.inl (.inl hk))).trans (HK4.out k hk)
      have hr5 := (hw4.keeps hb5 g (.inl (.inr rfl))).trans HR4.out
      have hn5 := (hw4.keeps hb5 gn (.inr rfl)).trans HN4.out
      go_upto_region 7 with fail
      generalize w4.alloc (Obj.cells #[Value.int .i64 (l.size : Int), .int .i64 (l.ht : Int)] 42) = w5 at hw5 hl5 hk5 hr5 hn5 ⊢
      generalize w4.heap.size = gl at hw5 hl5 ⊢
      have x0 : w5.cell? ⟨gn, 0, none⟩ = some (.int .i64 (A.nd i).key) := by rw [cell_of_row _ _ _ _ _ _ hn5]; rfl
      have HW5 := Lib.hid hw5
      have HL5 := Lib.hid hl5
      have HN5 := Lib.hid hn5
      have HR5 := Lib.hid hr5
      have HK5 := Lib.hid hk5
      clear ho1 hz1 hb5 hw5 hl5 hn5 hk5 hr5 hw4 HR4 HN4 HK4
      go_wp2_with fail
      by_cases hgo : ∀ k, s1 = some k → k < (A.nd i).key
      · have HORD2 : Hid (ordT A.nd (.node i l r) s = ordT A.nd r (some (A.nd i).key)) := HORD.out s1 HO1.out hgo
        refine (pass_ok HW5.out (A.nd i).key hgo).mono ?_
        rintro e w6 ⟨rfl, hw6, hk6⟩
        have HW6 := Lib.hid hw6
        have HL6 := Lib.hid ((hk6 gl (.inr rfl)).trans HL5.out)
        have HR6 := Lib.hid ((hk6 g (.inl (.inl (.inr rfl)))).trans HR5.out)
        have hn6 := (hk6 gn (.inl (.inr rfl))).trans HN5.out
        have HK6 : Hid (Keeps X w w6) := fun k hk => (hk6 k (.inl (.inl (.inl hk)))).trans (HK5.out k hk)
        have x3 : w6.cell? ⟨gn, 3, none⟩ = some (.int .u32 ((A.nd i).right : Int)) := by rw [cell_of_row _ _ _ _ _ _ hn6]; rfl
        clear hw6 hk6 hn6 x0 hgo HW5 HL5 HN5 HR5 HK5 HORD HORN
        go_wp2_with fail
        refine (HR.out (u2 - l.size) (some (A.nd i).key) (b || !balT A l) (top + 1 + (l.size : Int)) (fun k => ((X k ∨ k = g) ∨ k = gn) ∨ k = gl) w6 HW6.out (by have := HT.out; omega) (by have := HT.out; have := HU2.out; have := HZ1.out; omega) (by have := HUU.out; have := HU2.out; omega)).mono ?_
        rintro e w7 ⟨hk7, hres⟩
        have HR7 := Lib.hid ((hk7 g (.inl (.inl (.inr rfl)))).trans HR6.out)
        have HL7 := Lib.hid ((hk7 gl (.inr rfl)).trans HL6.out)
        have HK7 : Hid (Keeps X w w7) := fun k hk => (hk7 k (.inl (.inl (.inl hk)))).trans (HK6.out k hk)
        clear hk7 x3 HW6 HR6 HL6 HK6
        rcases hres with ⟨s2, rfl, ho2, hz2, hw7⟩ | ⟨u', s', b', rfl, ho2, hw7⟩
        · have HO2 : Hid (ordT A.nd (.node i l r) s = some s2) := HORD2.out.trans ho2
          have HZ2 : Hid (l.size + r.size + 1 ≤ u ∧ r.size ≤ 65536 ∧ l.size ≤ 65536) := by
            have h1 := HU2.out; have h2 := HZ1.out; have h3 := HUU.out
            exact ⟨by omega, by omega, by omega⟩
          have hb8 := below_new7 w7 (Obj.cells #[Value.int .i64 (r.size : Int), .int .i64 (r.ht : Int)] 42)
          have hw8 := hw7.alloc (Obj.cells #[Value.int .i64 (r.size : Int), .int .i64 (r.ht : Int)] 42)
          have hx8 := heap_alloc_new w7 (Obj.cells #[Value.int .i64 (r.size : Int), .int .i64 (r.ht : Int)] 42)
          have hk8 : Keeps X w (w7.alloc (Obj.cells #[Value.int .i64 (r.size : Int), .int .i64 (r.ht : Int)] 42)) := fun k hk => (hw7.keeps hb8 k (.inl (.inl (.inl hk)))).trans (HK7.out k hk)
          have hr8 := (hw7.keeps hb8 g (.inl (.inl (.inr rfl)))).trans HR7.out
          have hl8 := (hw7.keeps hb8 gl (.inr rfl)).trans HL7.out
          have hw8' : TW I B w0 (w7.alloc (Obj.cells #[Value.int .i64 (r.size : Int), .int .i64 (r.ht : Int)] 42)) (.pointer (some pa)) A (top + 1 + (l.size : Int) + (r.size : Int)) q (u - 1 - l.size - r.size) s2 ((b || !balT A l) || !balT A r) (fun k => ((X k ∨ k = g) ∨ k = gl) ∨ k = w7.heap.size) := by
            rw [show u - 1 - l.size - r.size = u2 - l.size - r.size by have := HU2.out; omega]
            exact hw8.less fun k hk => by
              rcases hk with ((hk | hk) | hk) | hk
              · exact .inl (.inl (.inl (.inl hk)))
              · exact .inl (.inl (.inl (.inr hk)))
              · exact .inl (.inr hk)
              · exact .inr hk
          go_upto_region 13 with fail
          generalize w7.alloc (Obj.cells #[Value.int .i64 (r.size : Int), .int .i64 (r.ht : Int)] 42) = w8 at hw8' hx8 hk8 hr8 hl8 ⊢
          generalize w7.heap.size = gr at hw8' hx8 ⊢
          obtain ⟨y0, y1⟩ := two_of hl8
          obtain ⟨z0, z1⟩ := two_of hx8
          have HW8 := Lib.hid hw8'
          have HL8 := Lib.hid hl8
          have HX8 := Lib.hid hx8
          have HR8 := Lib.hid hr8
          have HK8 := Lib.hid hk8
          clear ho2 hz2 hb8 hw8 hw8' hx8 hk8 hr8 hl8 hw7 HR7 HL7 HK7 HORD2
          go_wp2_with fail
          refine (balancedP_any (l.size : Int) (r.size : Int) w8 (by omega) (by have := HZ2.out; omega) (by omega) (by have := HZ2.out; omega)).mono ?_
          rintro e w9 ⟨rfl, hb9⟩
          have hw9 := HW8.out.calm hb9
          have hl9 := (HW8.out.keeps hb9 gl (.inl (.inr rfl))).trans HL8.out
          have hx9 := (HW8.out.keeps hb9 gr (.inr rfl)).trans HX8.out
          have hr9 := (HW8.out.keeps hb9 g (.inl (.inl (.inr rfl)))).trans HR8.out
          have hk9 : Keeps X w w9 := fun k hk => (HW8.out.keeps hb9 k (.inl (.inl (.inl hk)))).trans (HK8.out k hk)
          clear y0 y1 z0 z1 hb9 HW8 HL8 HX8 HR8 HK8
          -- the last region, whatever the mark
          have key : ∀ (wx : World) (bb : Bool), TW I B w0 wx (.pointer (some pa)) A (top + 1 + (l.size : Int) + (r.size : Int)) q (u - 1 - l.size - r.size) s2 bb (fun k => ((X k ∨ k = g) ∨ k = gl) ∨ k = gr) → bb = (b || !balT A (.node i l r)) → Keeps X w wx → wx.heap[g]? = some (.cells #[.int .i64 0, .int .i64 0] 42 (0, 0)) →
              ∀ x y : Int, x = (l.size : Int) + 1 + (r.size : Int) → y = 1 + max (l.ht : Int) (r.ht : Int) → VisRes I B w0 (.pointer (some pa)) A q (.node i l r) u s b top X w (.returned (.tuple #[.agg #[.int .i64 x, .int .i64 y], .int .i64 0])) ((wx.setCell ⟨g, 0, none⟩ (.int .i64 x)).setCell ⟨g, 1, none⟩ (.int .i64 y)) := by
            rintro wx bb h1 rfl h2 h3 x y hx hy
            exact HFIN.out wx s2 _ _ x y (h1.less fun k hk => by (rcases hk with hk | hk; exact .inl (.inl (.inl hk)); exact .inl (.inl (.inr hk)))) h2 h3 HO2.out HZ2.out.1 hx hy
          have HKEY := Lib.hid key
          have HLN : Hid (0 ≤ (l.size : Int) ∧ (l.size : Int) ≤ 65536 ∧ 0 ≤ (r.size : Int) ∧ (r.size : Int) ≤ 65536 ∧ 0 ≤ (l.ht : Int) ∧ (l.ht : Int) ≤ 65536 ∧ 0 ≤ (r.ht : Int) ∧ (r.ht : Int) ≤ 65536) := by
            have h1 := HZ2.out; have h2 := HHL.out; have h3 := HHR.out
            exact ⟨by omega, by omega, by omega, by omega, by omega, by omega, by omega, by omega⟩
          clear key
          have hbal := HBAL.out
          generalize bal (l.size : Int) (r.size : Int) = bz at hbal ⊢
          generalize hLS : (l.size : Int) = LS at hl9 HKEY HLN hw9 ⊢
          generalize hRS : (r.size : Int) = RS at hx9 HKEY HLN hw9 ⊢
          generalize hLH : (l.ht : Int) = LH at hl9 HKEY HLN ⊢
          generalize hRH : (r.ht : Int) = RH at hx9 HKEY HLN ⊢
          clear hLS hRS hLH hRH
          have k1 : IntKind.i64.wrap (LS + 1) = LS + 1 := by rw [IntKind.wrap_i64]; have := HLN.out; omega
          have k2 : IntKind.i64.wrap (LS + 1 + RS) = LS + 1 + RS := by rw [IntKind.wrap_i64]; have := HLN.out; omega
          have K3 : Hid (wrap64 (1 + LH) = 1 + LH) := by have h1 := HLN.out; show wrap64 (1 + LH) = 1 + LH; unfold wrap64; omega
          have K4 : Hid (wrap64 (1 + RH) = 1 + RH) := by have h1 := HLN.out; show wrap64 (1 + RH) = 1 + RH; unfold wrap64; omega
          cases bz with
          | true =>
            obtain ⟨y0, y1⟩ := two_of hl9
            obtain ⟨z0, z1⟩ := two_of hx9
            obtain ⟨r0, r1⟩ := two_of hr9
            have f0 := frozen_of_row _ _ 0 _ _ hr9
            have f1 := frozen_of_row _ _ 1 _ _ hr9
            have HR9 := Lib.hid hr9
            have HE : Hid (∀ x y : Int, x = LS + 1 + RS → y = 1 + max LH RH → VisRes I B w0 (.pointer (some pa)) A q (.node i l r) u s b top X w (.returned (.tuple #[.agg #[.int .i64 x, .int .i64 y], .int .i64 0])) ((w9.setCell ⟨g, 0, none⟩ (.int .i64 x)).setCell ⟨g, 1, none⟩ (.int .i64 y))) := 
              HKEY.out w9 _ hw9 (by rw [hbal]; cases b <;> cases balT A l <;> cases balT A r <;> rfl) hk9 hr9
            clear hw9 hl9 hx9 hr9 hk9 hbal HKEY
            go_wp2_with fail
            · refine bodyPost_ret (results_row_tmp rfl _ _ g 42 #[.int .i64 (LS + 1 + RS), .int .i64 (wrap64 (1 + RH))] (0, 0) _ rfl (row_set2 HR9.out) HU.out rfl HIN.out) rfl ?_
              exact HE.out _ _ rfl (by rw [K4.out]; omega)
            · refine bodyPost_ret (results_row_tmp rfl _ _ g 42 #[.int .i64 (LS + 1 + RS), .int .i64 (wrap64 (1 + LH))] (0, 0) _ rfl (row_set2 HR9.out) HU.out rfl HIN.out) rfl ?_
              exact HE.out _ _ rfl (by rw [K3.out]; omega)
          | false =>
            have f4 := hw9.frozen 4
            obtain ⟨-, -, -, -, c4⟩ := hw9.cells
            have hwa := hw9.set4
            have hla := (hwa.2 gl (.inl (.inr rfl))).trans hl9
            have hxa := (hwa.2 gr (.inr rfl)).trans hx9
            have hra := (hwa.2 g (.inl (.inl (.inr rfl)))).trans hr9
            have hka : Keeps X w (w9.setCell ⟨q, 4, none⟩ (.bool true)) := fun k hk => (hwa.2 k (.inl (.inl (.inl hk)))).trans (hk9 k hk)
            clear hw9 hl9 hx9 hr9 hk9
            go_upto_region 17 with fail
            generalize w9.setCell ⟨q, 4, none⟩ (.bool true) = wa at hwa hla hxa hra hka ⊢
            clear f4 c4
            obtain ⟨y0, y1⟩ := two_of hla
            obtain ⟨z0, z1⟩ := two_of hxa
            obtain ⟨r0, r1⟩ := two_of hra
            have f0 := frozen_of_row _ _ 0 _ _ hra
            have f1 := frozen_of_row _ _ 1 _ _ hra
            have HR9 := Lib.hid hra
            have HE : Hid (∀ x y : Int, x = LS + 1 + RS → y = 1 + max LH RH → VisRes I B w0 (.pointer (some pa)) A q (.node i l r) u s b top X w (.returned (.tuple #[.agg #[.int .i64 x, .int .i64 y], .int .i64 0])) ((wa.setCell ⟨g, 0, none⟩ (.int .i64 x)).setCell ⟨g, 1, none⟩ (.int .i64 y))) := 
              HKEY.out wa _ hwa.1 (by rw [hbal]; cases b <;> rfl) hka hra
            clear hwa hla hxa hra hka hbal HKEY
            go_wp2_with fail
            · refine bodyPost_ret (results_row_tmp rfl _ _ g 42 #[.int .i64 (LS + 1 + RS), .int .i64 (wrap64 (1 + RH))] (0, 0) _ rfl (row_set2 HR9.out) HU.out rfl HIN.out) rfl ?_
              exact HE.out _ _ rfl (by rw [K4.out]; omega)
            · refine bodyPost_ret (results_row_tmp rfl _ _ g 42 #[.int .i64 (LS + 1 + RS), .int .i64 (wrap64 (1 + LH))] (0, 0) _ rfl (row_set2 HR9.out) HU.out rfl HIN.out) rfl ?_
              exact HE.out _ _ rfl (by rw [K3.out]; omega)
        · have HC : Hid (ordT A.nd (.node i l r) s = none ∨ u < (Tr.node i l r).size) := by
            rcases ho2 with h | h
            · exact .inl (HORD2.out.trans h)
            · right
              have h2 := HU2.out
              rw [HSZ.out]; omega
          have hw7' : TW I B w0 w7 (.pointer (some pa)) A (top + (u : Int) + 1) q u' s' b' (fun k => X k ∨ k = g) := (hw7.le (by have h2 := HU2.out; have h3 := HZ1.out; omega)).less fun k hk => .inl (.inl hk)
          clear ho2 hw7
          go_upto_region 13 with fail
          have hb8 := below_new7 w7 (Obj.cells #[Value.int .i64 0, .int .i64 0] 42)
          have hw8 := hw7'.calm hb8
          have hr8 := (hw7'.keeps hb8 g (.inr rfl)).trans HR7.out
          have hk8 : Keeps X w (w7.alloc (Obj.cells #[Value.int .i64 0, .int .i64 0] 42)) := fun k hk => (hw7'.keeps hb8 k (.inl hk)).trans (HK7.out k hk)
          generalize w7.alloc (Obj.cells #[Value.int .i64 0, .int .i64 0] 42) = w8 at hw8 hr8 hk8 ⊢
          obtain ⟨r0, r1⟩ := two_of hr8
          have f0 := frozen_of_row _ _ 0 _ _ hr8
          have f1 := frozen_of_row _ _ 1 _ _ hr8
          have HW8 := Lib.hid hw8
          have HR8 := Lib.hid hr8
          have HK8 := Lib.hid hk8
          clear hb8 hw8 hr8 hk8 hw7' HR7 HK7
          go_wp2_with fail
          refine bodyPost_ret (results_row_tmp rfl _ _ g 42 #[.int .i64 0, .int .i64 0] (0, 0) _ rfl (row_set2 HR8.out) HU.out rfl HIN.out) rfl ?_
          exact HERR.out w8 _ _ _ _ _ HW8.out HK8.out HR8.out HC.out
      · obtain ⟨k, rfl, hle⟩ : ∃ k, s1 = some k ∧ (A.nd i).key ≤ k := by
          cases s1 with
          | none => exact absurd (fun k hk => by cases hk) hgo
          | some k => exact ⟨k, rfl, Int.not_lt.1 fun h => hgo fun k' hk => by cases hk; exact h⟩
        have HC : Hid (ordT A.nd (.node i l r) s = none ∨ u < (Tr.node i l r).size) := .inl (HORN.out k HO1.out hle)
        refine (pass_bad HW5.out (A.nd i).key hle).mono ?_
        rintro e w6 ⟨rfl, hw6, hk6⟩
        have hr6 := (hk6 g (.inl (.inl (.inr rfl)))).trans HR5.out
        have hkk6 : Keeps X w w6 := fun k hk => (hk6 k (.inl (.inl (.inl hk)))).trans (HK5.out k hk)
        have hw6' : TW I B w0 w6 (.pointer (some pa)) A (top + (u : Int) + 1) q _ _ _ (fun k => X k ∨ k = g) := (hw6.le (by have h2 := HU2.out; have h3 := HZ1.out; omega)).less fun k hk => .inl (.inl hk)
        obtain ⟨r0, r1⟩ := two_of hr6
        have f0 := frozen_of_row _ _ 0 _ _ hr6
        have f1 := frozen_of_row _ _ 1 _ _ hr6
        have HW6 := Lib.hid hw6'
        have HR6 := Lib.hid hr6
        have HK6 := Lib.hid hkk6
        clear hw6 hk6 hr6 hkk6 hw6' hgo hle x0
        go_wp2_with fail
        refine bodyPost_ret (results_row_tmp rfl _ _ g 42 #[.int .i64 0, .int .i64 0] (0, 0) _ rfl (row_set2 HR6.out) HU.out rfl HIN.out) rfl ?_
        exact HERR.out w6 _ _ _ _ _ HW6.out HK6.out HR6.out HC.out
    · have HC : Hid (ordT A.nd (.node i l r) s = none ∨ u < (Tr.node i l r).size) := by
        rcases ho1 with h | h
        · exact .inl (HORL.out h)
        · right
          have h2 := HU2.out
          rw [HSZ.out]; omega
      have hw7' : TW I B w0 w4 (.pointer (some pa)) A (top + (u : Int) + 1) q u' s' b' (fun k => X k ∨ k = g) := (hw4.le (by have h2 := HU2.out; omega)).less fun k hk => .inl hk
      clear ho1 hw4
      go_upto_region 7 with fail
      have hb8 := below_new7 w4 (Obj.cells #[Value.int .i64 0, .int .i64 0] 42)
      have hw8 := hw7'.calm hb8
      have hr8 := (hw7'.keeps hb8 g (.inr rfl)).trans HR4.out
      have hk8 : Keeps X w (w4.alloc (Obj.cells #[Value.int .i64 0, .int .i64 0] 42)) := fun k hk => (hw7'.keeps hb8 k (.inl hk)).trans (HK4.out k hk)
      generalize w4.alloc (Obj.cells #[Value.int .i64 0, .int .i64 0] 42) = w8 at hw8 hr8 hk8 ⊢
      obtain ⟨r0, r1⟩ := two_of hr8
      have f0 := frozen_of_row _ _ 0 _ _ hr8
      have f1 := frozen_of_row _ _ 1 _ _ hr8
      have HW8 := Lib.hid hw8
      have HR8 := Lib.hid hr8
      have HK8 := Lib.hid hk8
      clear hb8 hw8 hr8 hk8 hw7' HR4 HK4
      go_wp2_with fail
      refine bodyPost_ret (results_row_tmp rfl _ _ g 42 #[.int .i64 0, .int .i64 0] (0, 0) _ rfl (row_set2 HR8.out) HU.out rfl HIN.out) rfl ?_
      exact HERR.out w8 _ _ _ _ _ HW8.out HK8.out HR8.out HC.out
  · have HC : Hid (ordT A.nd (.node i l r) s = none ∨ u < (Tr.node i l r).size) := by
      right
      rw [HSZ.out]; omega
    have hw7' : TW I B w0 w2 (.pointer (some pa)) A (top + (u : Int) + 1) q u s b (fun k => X k ∨ k = g) := hw2.le (by omega)
    clear hu2 hw2 HR1 HK1 HW1
    unfold ndRow
    go_upto_region 4 with fail
    rw [show #[Value.int .i64 Nd.zero.key, .int .i64 Nd.zero.val, .int .u32 (Nd.zero.left : Int), .int .u32 (Nd.zero.right : Int), .int .i64 Nd.zero.size, .int .i64 Nd.zero.sum, .int .i64 Nd.zero.mn, .int .i64 Nd.zero.mx] = ndRow Nd.zero from rfl]
    have hb8 := below_new7 w2 (Obj.cells (ndRow Nd.zero) 47)
    have hw8 := hw7'.calm hb8
    have hr8 := (hw7'.keeps hb8 g (.inr rfl)).trans HR2.out
    have hk8 : Keeps X w (w2.alloc (Obj.cells (ndRow Nd.zero) 47)) := fun k hk => (hw7'.keeps hb8 k (.inl hk)).trans (HK2.out k hk)
    generalize w2.alloc (Obj.cells (ndRow Nd.zero) 47) = w8 at hw8 hr8 hk8 ⊢
    obtain ⟨r0, r1⟩ := two_of hr8
    have f0 := frozen_of_row _ _ 0 _ _ hr8
    have f1 := frozen_of_row _ _ 1 _ _ hr8
    have HW8 := Lib.hid hw8
    have HR8 := Lib.hid hr8
    have HK8 := Lib.hid hk8
    clear hb8 hw8 hr8 hk8 hw7' HR2 HK2
    go_wp2_with fail
    refine bodyPost_ret (results_row_tmp rfl _ _ g 42 #[.int .i64 0, .int .i64 0] (0, 0) _ rfl (row_set2 HR8.out) HU.out rfl HIN.out) rfl ?_
    exact HERR.out w8 _ _ _ _ _ HW8.out HK8.out HR8.out HC.out
end Go.Proofs.Yticfihklfnjeoaa
