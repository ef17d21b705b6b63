/- The references from the allocated slots of a dump: the reference's InEdges. Which slots of a dump are reachable: what is marked at each step of a search by a work stack. No program is spoken of. -/
import Derived.Test.YtkhfofpbmnapjaaDumpB
import Derived.Deep.CutRange
set_option linter.unusedVariables false
namespace Go.Proofs.Ytkhfofpbmnapjaa
open Go.RowKit

/-- child t (0 or 1) of a slot -/
def kd (s : Sl) (t : Nat) : Nat := if t = 0 then s.nd.left else s.nd.right
/-- the references to x from the first t children of a slot, if it is allocated -/
def ph (t : Nat) (s : Sl) (x : Nat) : Nat := if s.on = true then ((List.range t).map fun u => hit (kd s u) x).sum else 0
theorem ph_succ (t : Nat) (s : Sl) (x : Nat) : ph (t + 1) s x = ph t s x + if s.on = true ∧ kd s t = x then 1 else 0 := by
  unfold ph
  by_cases h : s.on = true
  · rw [if_pos h, if_pos h, List.range_succ, List.map_append, List.sum_append]
    simp [hit, h]
  · rw [if_neg h, if_neg h, if_neg (fun e => h e.1)]
theorem ph_zero (s : Sl) (x : Nat) : ph 0 s x = 0 := by unfold ph; simp
theorem ph_le (t : Nat) (s : Sl) (x : Nat) : ph t s x ≤ t := by
  induction t with
  | zero => rw [ph_zero]; exact Nat.le_refl _
  | succ t ih => rw [ph_succ]; split <;> omega
/-- the references to x from the first k slots -/
def eg (S : Nat → Sl) (k : Nat) (x : Nat) : Nat := ((List.range k).map fun m => ph 2 (S m) x).sum
theorem eg_succ (S : Nat → Sl) (k x : Nat) : eg S (k + 1) x = eg S k x + ph 2 (S k) x := by
  unfold eg
  rw [List.range_succ, List.map_append, List.sum_append]
  simp
theorem eg_le (S : Nat → Sl) (k x : Nat) : eg S k x ≤ 2 * k := by
  induction k with
  | zero => unfold eg; simp
  | succ k ih => rw [eg_succ]; have := ph_le 2 (S k) x; omega
/-- the box of a dump -/
structure DBox (w : World) (q : Nat) (a b : Option Addr) (n c m d : Nat) : Prop where
  box : w.heap[q]? = some (.cells #[.slice a n c, .slice b m d] 32 (0, 0))
theorem DBox.new (w : World) (a b : Option Addr) (n c m d : Nat) : DBox (w.alloc (Obj.cells #[.slice a n c, .slice b m d] 32)) w.heap.size a b n c m d := ⟨heap_alloc_new w _⟩
section
variable {w w' : World} {q : Nat} {a b : Option Addr} {n c m d : Nat}
theorem DBox.lt (h : DBox w q a b n c m d) : q < w.heap.size := (Array.getElem?_eq_some_iff.1 h.box).1
theorem DBox.below {B : Nat} (h : DBox w q a b n c m d) (hb : Below B w w') (hq : q < B) : DBox w' q a b n c m d := ⟨(hb.block q hq).trans h.box⟩
theorem DBox.cells (h : DBox w q a b n c m d) : w.cell? ⟨q, 0, none⟩ = some (.slice a n c) ∧ w.cell? ⟨q, 1, none⟩ = some (.slice b m d) := by
  refine ⟨?_, ?_⟩ <;> (rw [cell_of_row _ _ _ _ _ _ h.box]; rfl)
end
/-- the eleven cells of a slot -/
theorem SlotsAt.all {w : World} {a : Option Addr} {n : Nat} {S : Nat → Sl} (h : SlotsAt w a n S) {i : Nat} (hi : i < n) : ∃ b off, a = some ⟨b, off, none⟩ ∧ b < w.heap.size ∧
    w.cell? ⟨b, off + i * 11, none⟩ = some (.bool (S i).on) ∧ w.cell? ⟨b, off + i * 11 + 1, none⟩ = some (.int .i64 (S i).cnt) ∧ w.cell? ⟨b, off + i * 11 + 2, none⟩ = some (.int .u32 (S i).gen) ∧
    w.cell? ⟨b, off + i * 11 + 3, none⟩ = some (.int .i64 (S i).nd.key) ∧ w.cell? ⟨b, off + i * 11 + 4, none⟩ = some (.int .i64 (S i).nd.val) ∧ w.cell? ⟨b, off + i * 11 + 5, none⟩ = some (.int .u32 ((S i).nd.left : Int)) ∧
    w.cell? ⟨b, off + i * 11 + 6, none⟩ = some (.int .u32 ((S i).nd.right : Int)) ∧ w.cell? ⟨b, off + i * 11 + 7, none⟩ = some (.int .i64 (S i).nd.size) ∧ w.cell? ⟨b, off + i * 11 + 8, none⟩ = some (.int .i64 (S i).nd.sum) ∧
    w.cell? ⟨b, off + i * 11 + 9, none⟩ = some (.int .i64 (S i).nd.mn) ∧ w.cell? ⟨b, off + i * 11 + 10, none⟩ = some (.int .i64 (S i).nd.mx) := by
  obtain ⟨b, off, ha, hlt, hc⟩ := h.cell i hi
  exact ⟨b, off, ha, hlt, hc 0 _ rfl, hc 1 _ rfl, hc 2 _ rfl, hc 3 _ rfl, hc 4 _ rfl, hc 5 _ rfl, hc 6 _ rfl, hc 7 _ rfl, hc 8 _ rfl, hc 9 _ rfl, hc 10 _ rfl⟩
theorem two_cells {w : World} {k : Nat} {x y : Value} {t : TypeId} (h : w.heap[k]? = some (.cells #[x, y] t (0, 0))) : w.cell? ⟨k, 0, none⟩ = some x ∧ w.cell? ⟨k, 1, none⟩ = some y := by
  refine ⟨?_, ?_⟩ <;> (rw [cell_of_row _ _ _ _ _ _ h]; rfl)
def EdgeRel (S : Nat → Sl) (n q : Nat) (w1 : World) (f : Nat → Nat) (wr : World) : Prop :=
  wr.ownsRow (q + 1) 3 1 (.slice (some ⟨q + 1, 0, none⟩) n n) n (natR n f) ∧ Below (q + 1) w1 wr
theorem EdgeRel.store {S : Nat → Sl} {n q : Nat} {w1 wr : World} {f g : Nat → Nat} (h : EdgeRel S n q w1 f wr) (j : Nat) (x : Int) (hx : x = ((g j : Nat) : Int)) (hs : q + 1 ≤ w1.heap.size) (hg : ∀ i, i < n → i ≠ j → g i = f i) :
    EdgeRel S n q w1 g (wr.setCell ⟨q + 1, j, none⟩ (.int .i64 x)) := by
  refine ⟨?_, h.2.setCell (Nat.le_refl _) _⟩
  have h1 := (h.1.stored j (.int .i64 x)).1
  rw [natR_set f x (g j) hx] at h1
  have e : natR n (fun i => if i = j then g j else f i) = natR n g := by
    unfold natR
    refine List.map_congr_left fun i hi => ?_
    rw [List.mem_range] at hi
    show Value.int .i64 (((if i = j then g j else f i : Nat)) : Int) = Value.int .i64 ((g i : Nat) : Int)
    by_cases e : i = j
    · rw [if_pos e, e]
    · rw [if_neg e, hg i hi e]
  rw [e] at h1
  exact h1
theorem EdgeRel.below {S : Nat → Sl} {n q : Nat} {w1 wr w' : World} {f : Nat → Nat} (h : EdgeRel S n q w1 f wr) (hb : Below wr.heap.size wr w') (hs : q + 1 ≤ w1.heap.size) : EdgeRel S n q w1 f w' :=
  ⟨row_below h.1 hb, h.2.trans (hb.mono (Nat.le_trans hs h.2.size))⟩
theorem kid_at {w : World} {kb t : Nat} {s : Sl} (h : w.heap[kb]? = some (.cells #[.int .u32 (s.nd.left : Int), .int .u32 (s.nd.right : Int)] 114 (0, 0))) (ht : t < 2) : w.cell? ⟨kb, t, none⟩ = some (.int .u32 ((kd s t : Nat) : Int)) := by
  obtain ⟨h0, h1⟩ := two_cells h
  rcases (show t = 0 ∨ t = 1 by omega) with rfl | rfl
  · exact h0
  · exact h1
theorem EdgeRel.same {S : Nat → Sl} {n q : Nat} {w1 wr : World} {f g : Nat → Nat} (h : EdgeRel S n q w1 f wr) (hg : ∀ i, i < n → g i = f i) : EdgeRel S n q w1 g wr := by
  refine ⟨?_, h.2⟩
  have e : natR n g = natR n f := by
    unfold natR
    refine List.map_congr_left fun i hi => ?_
    rw [List.mem_range] at hi
    show Value.int .i64 ((g i : Nat) : Int) = Value.int .i64 ((f i : Nat) : Int)
    rw [hg i hi]
  rw [e]
  exact h.1
set_option maxHeartbeats 2000000 in
set_option maxRecDepth 100000 in
theorem inEdges_any {w : World} {a b : Option Addr} {n c m d : Nat} {S : Nat → Sl} (h : SlotsAt w a n S) (hn : n ≤ 65536) :
    Calls Try.prog 59 #[.agg #[.slice a n c, .slice b m d]] w (MadeRow w n fun i => eg S n (i + 1)) := by
  obtain ⟨i0, hi, hz0, hz1, hz2⟩ := info_parts i64sInfo
  have hni : (n : Int) ≤ 65536 := by omega
  have hni0 : (0 : Int) ≤ (n : Int) := by omega
  have hb1 : Below w.heap.size w (w.alloc (Obj.cells #[Value.slice a n c, Value.slice b m d] 32)) := (Below.refl _ _).alloc (Nat.le_refl _) _
  have HB := Lib.hid hb1
  have HS := Lib.hid (h.below hb1)
  have HX := Lib.hid (DBox.new w a b n c m d)
  have hsz : (w.alloc (Obj.cells #[Value.slice a n c, Value.slice b m d] 32)).heap.size = w.heap.size + 1 := by simp
  have HZ := Lib.hid hsz
  obtain ⟨hc0, hc1⟩ := HX.out.cells
  clear hb1 h hsz
  go_enter Try.func59, Try.ntmps59
  go_upto_region 1 with fail
  generalize hW1 : w.alloc (Obj.cells #[Value.slice a n c, Value.slice b m d] 32) = w1 at *
  clear hW1
  generalize hQ : w.heap.size = q at *
  have HQ := Lib.hid hQ
  clear hQ
  go_wp2_with (refine wpList_make_full _ rfl (.tmp 9) (.tmp 9) 107 rfl (q + 1) 3 i0 (.int .i64 0) 1 Try.underlying107 hi hz0 hz1 .i64 .i64 (n : Int) (n : Int) n rfl rfl rfl rfl (by rw [hz2]; omega) (by unfold maxLen; omega) (Nat.le_of_eq HZ.out.symm) ?_; intro w2 ho2 hg2)
  rw [natR_zero, HZ.out] at ho2
  rw [HZ.out]
  have hb2 : Below (q + 1) w1 w2 := (Below.refl _ _).grown hg2 (Nat.le_of_eq HZ.out.symm) (fun k hk => by cases hk)
  have HE : Hid (EdgeRel S n q w1 (fun i => eg S 0 (i + 1)) w2) := ⟨by simpa [eg] using ho2, hb2⟩
  clear hg2 ho2 hb2 hc0 hc1
  go_loopw [4] (fun i wr => ∃ k : Nat, k ≤ n ∧ i = .int .i64 (k : Int) ∧ EdgeRel S n q w1 (fun i => eg S k (i + 1)) wr) (fun i _ => n - (intOf i).toNat)
  case atStart => exact ⟨0, Nat.zero_le _, rfl, HE.out⟩
  case round =>
    clear HE
    obtain ⟨k, hk, rfl, hE⟩ := hrel
    have hb := hE.2
    have hs := hb.size
    have hX := HX.out.below hb (by omega)
    obtain ⟨hc0, hc1⟩ := hX.cells
    by_cases hlt : k < n
    · have hki : (k : Int) < (n : Int) := by omega
      have hki0 : (0 : Int) ≤ (k : Int) := by omega
      have hS := HS.out.below (hb.mono (Nat.le_of_eq HZ.out))
      obtain ⟨b', off, rfl, hlb, d0, d1, d2, d3, d4, d5, d6, d7, d8, d9, d10⟩ := hS.all hlt
      obtain ⟨hl1, hl2⟩ := hS.kid k hlt
      have HE := Lib.hid hE
      have HSS := Lib.hid hS
      clear hS hE hX
      go_wp2_with fail
      refine (kids_any _ _ _ _ _ _ _ _ _ _ _ _).mono ?_
      rintro e w3 ⟨rfl, hb3⟩
      clear hc0 hc1 d0 d1 d2 d3 d4 d5 d6 d7 d8 d9 d10
      go_wp2
      have hE3 := HE.out.below hb3 (Nat.le_of_eq HZ.out.symm)
      have hal := (Below.refl w3.heap.size w3).alloc (Nat.le_refl _) (Obj.cells #[Value.int .u32 ((S k).nd.left : Int), .int .u32 ((S k).nd.right : Int)] 114)
      have hE4 := hE3.below hal (Nat.le_of_eq HZ.out.symm)
      have hkb : q + 1 < w3.heap.size := (row_lt hE3.1 (q + 1) rfl).2
      have hK := heap_alloc_new w3 (Obj.cells #[Value.int .u32 ((S k).nd.left : Int), .int .u32 ((S k).nd.right : Int)] 114)
      have HK : Hid (EdgeRel S n q w1 (fun i => eg S k (i + 1) + ph 0 (S k) (i + 1)) (w3.alloc (Obj.cells #[Value.int .u32 ((S k).nd.left : Int), .int .u32 ((S k).nd.right : Int)] 114)) ∧ (w3.alloc (Obj.cells #[Value.int .u32 ((S k).nd.left : Int), .int .u32 ((S k).nd.right : Int)] 114)).heap[w3.heap.size]? = some (Obj.cells #[Value.int .u32 ((S k).nd.left : Int), .int .u32 ((S k).nd.right : Int)] 114)) := ⟨hE4.same (fun i _ => by rw [ph_zero]; rfl), hK⟩
      generalize w3.alloc (Obj.cells #[Value.int .u32 ((S k).nd.left : Int), .int .u32 ((S k).nd.right : Int)] 114) = w4 at HK ⊢
      generalize w3.heap.size = kb at hkb HK ⊢
      clear hE3 hal hE4 hK hb3 hb hs hlb
      go_loopw [6] (fun i w5 => ∃ t : Nat, t ≤ 2 ∧ i = .int .i64 (t : Int) ∧ EdgeRel S n q w1 (fun i => eg S k (i + 1) + ph t (S k) (i + 1)) w5 ∧ w5.heap[kb]? = some (Obj.cells #[Value.int .u32 ((S k).nd.left : Int), .int .u32 ((S k).nd.right : Int)] 114)) (fun i _ => 2 - (intOf i).toNat)
      case atStart => exact ⟨0, by omega, rfl, HK.out.1, HK.out.2⟩
      case round =>
        clear HK
        obtain ⟨t, ht, rfl, hE, hK⟩ := hrel
        have hb := hE.2
        by_cases htl : t < 2
        · have hti : (t : Int) < 2 := by omega
          have hti0 : (0 : Int) ≤ (t : Int) := by omega
          obtain ⟨hc0, hc1⟩ := (HX.out.below hb (by omega)).cells
          obtain ⟨b2, off2, hbo, hlb, d0, _⟩ := (HS.out.below (hb.mono (Nat.le_of_eq HZ.out))).all hlt
          simp only [Option.some.injEq, Addr.mk.injEq, and_true] at hbo
          obtain ⟨rfl, rfl⟩ := hbo
          have hkt := kid_at (s := S k) hK htl
          have hX4 : (kd (S k) t) < 4294967296 := by unfold kd; split <;> assumption
          have hph := fun x => ph_succ t (S k) x
          have HP := Lib.hid hph
          have HKB := Lib.hid hK
          clear hph hK hb hc1
          generalize hXX : kd (S k) t = X at hkt hX4
          have HXX := Lib.hid hXX
          clear hXX
          have hXi : (X : Int) < 4294967296 := by omega
          by_cases hon : (S k).on = true ∧ 1 ≤ X ∧ X ≤ n
          · obtain ⟨hon, hx1, hx2⟩ := hon
            obtain ⟨j, rfl⟩ : ∃ j, X = j + 1 := ⟨X - 1, by omega⟩
            have HON := Lib.hid hon
            rw [hon] at d0
            have hjn : j < n := by omega
            have hji : (j : Int) < (n : Int) := by omega
            have hj1 : (1 : Int) ≤ (j : Int) + 1 := by omega
            have hjn2 : (j : Int) + 1 ≤ (n : Int) := by omega
            have hxw : ((j + 1 : Nat) : Int) = (j : Int) + 1 := by omega
            have hcj := (hE.1.cellAt j (by omega)).trans (natR_at _ hjn)
            have hfj := hE.1.frozenAt j
            have hle := eg_le S k (j + 1)
            have hle2 := ph_le t (S k) (j + 1)
            have HE := Lib.hid hE
            generalize hT : eg S k (j + 1) + ph t (S k) (j + 1) = T at hcj
            have HT := Lib.hid hT
            have hTi : (T : Int) ≤ 1000000 := by omega
            have hTi0 : (0 : Int) ≤ (T : Int) := by omega
            clear hT hE hon hx1 hx2 hle hle2
            go_wp2
            refine ⟨⟨t + 1, by omega, by go_num, HE.out.store j _ ?_ (Nat.le_of_eq HZ.out.symm) ?_, (heap_setCell_other _ _ _ _ (by show kb ≠ q + 1; omega)).trans HKB.out⟩, by simp [intOf]; omega⟩
            · rw [HP.out, if_pos ⟨HON.out, HXX.out⟩, ← Nat.add_assoc, HT.out]; omega
            · intro i hi hne
              rw [HP.out, if_neg (fun e => hne (by have := HXX.out.symm.trans e.2; omega))]; rfl
          · have hsame : EdgeRel S n q w1 (fun i => eg S k (i + 1) + ph (t + 1) (S k) (i + 1)) _ := hE.same (fun i hi => by
              rw [HP.out, if_neg (fun e => hon ⟨e.1, by have := HXX.out.symm.trans e.2; omega, by have := HXX.out.symm.trans e.2; omega⟩)]; rfl)
            have HSM := Lib.hid hsame
            clear hsame hE
            cases ho : (S k).on
            · rw [ho] at d0
              clear ho hon
              go_wp2
              exact ⟨⟨t + 1, by omega, by go_num, HSM.out, HKB.out⟩, by simp [intOf]; omega⟩
            · rw [ho] at d0
              by_cases hx0 : X = 0
              · subst hx0
                clear ho hon
                go_wp2
                exact ⟨⟨t + 1, by omega, by go_num, HSM.out, HKB.out⟩, by simp [intOf]; omega⟩
              · have h1 : (1 : Int) ≤ (X : Int) := by omega
                have h2 : ¬ (X : Int) ≤ (n : Int) := by
                  intro h3; exact hon ⟨ho, by omega, by omega⟩
                clear ho hon hx0
                go_wp2
                exact ⟨⟨t + 1, by omega, by go_num, HSM.out, HKB.out⟩, by simp [intOf]; omega⟩
        · obtain rfl : t = 2 := by omega
          have HEE := Lib.hid hE
          clear hE hK hb
          go_wp2
          exact ⟨⟨k + 1, by omega, by go_num, HEE.out.same (fun i _ => by rw [eg_succ])⟩, by simp [intOf]; omega⟩
    · obtain rfl : k = n := by omega
      have HE := Lib.hid hE
      have HBB := Lib.hid hb
      clear hE hX hc1
      go_wp2
      go_ret
      exact ⟨_, rfl, row_mono HE.out.1 (by rw [HQ.out]; omega), by rw [HQ.out]; exact HB.out.trans (HBB.out.mono (by omega))⟩
end Go.Proofs.Ytkhfofpbmnapjaa
set_option linter.unusedVariables false
namespace Go.Proofs.Ytkhfofpbmnapjaa

/-- x is an allocated slot -/
def Al (S : Nat → Sl) (n x : Nat) : Prop := 1 ≤ x ∧ x ≤ n ∧ (S (x - 1)).on = true
instance (S : Nat → Sl) (n x : Nat) : Decidable (Al S n x) := by unfold Al; exact inferInstance
inductive Rch (S : Nat → Sl) (n : Nat) (rs : List Nat) : Nat → Prop where
  | root (x : Nat) : x ∈ rs → Al S n x → Rch S n rs x
  | kid (x t : Nat) : Rch S n rs x → t < 2 → Al S n (kd (S (x - 1)) t) → Rch S n rs (kd (S (x - 1)) t)
theorem Rch.al {S : Nat → Sl} {n : Nat} {rs : List Nat} {x : Nat} (h : Rch S n rs x) : Al S n x := by
  cases h with
  | root _ _ h => exact h
  | kid _ _ _ _ h => exact h
def setB (B : Nat → Bool) (j : Nat) : Nat → Bool := fun i => if i = j then true else B i
structure MInv (S : Nat → Sl) (n : Nat) (rs : List Nat) (B : Nat → Bool) (st : List Nat) : Prop where
  sound : ∀ j, j < n → B j = true → Rch S n rs (j + 1)
  stack : ∀ x ∈ st, Al S n x → Rch S n rs x
  roots : ∀ x ∈ rs, Al S n x → B (x - 1) = true ∨ x ∈ st
  kids : ∀ j, j < n → B j = true → ∀ t, t < 2 → Al S n (kd (S j) t) → B (kd (S j) t - 1) = true ∨ kd (S j) t ∈ st
theorem MInv.start (S : Nat → Sl) (n : Nat) (rs : List Nat) : MInv S n rs (fun _ => false) rs :=
  ⟨(fun j _ h => (by cases h)), (fun x h1 h2 => .root x h1 h2), (fun x h _ => .inr h), (fun j _ h => (by cases h))⟩
theorem MInv.skip {S : Nat → Sl} {n : Nat} {rs : List Nat} {B : Nat → Bool} {t : List Nat} {x : Nat} (h : MInv S n rs B (t ++ [x])) (hx : Al S n x → B (x - 1) = true) : MInv S n rs B t := by
  have key : ∀ y, Al S n y → (B (y - 1) = true ∨ y ∈ t ++ [x]) → B (y - 1) = true ∨ y ∈ t := fun y hy h1 => by
    rcases h1 with h1 | h1
    · exact .inl h1
    · rcases List.mem_append.1 h1 with h2 | h2
      · exact .inr h2
      · simp at h2; subst h2; exact .inl (hx hy)
  exact ⟨h.sound, fun y hy => h.stack y (by simp [hy]), fun y h1 h2 => key y h2 (h.roots y h1 h2), fun j h1 h2 u hu h3 => key _ h3 (h.kids j h1 h2 u hu h3)⟩
theorem MInv.mark {S : Nat → Sl} {n : Nat} {rs : List Nat} {B : Nat → Bool} {t : List Nat} {j : Nat} (h : MInv S n rs B (t ++ [j + 1])) (hx : Al S n (j + 1)) : MInv S n rs (setB B j) (t ++ [(S j).nd.left, (S j).nd.right]) := by
  have hr : Rch S n rs (j + 1) := h.stack _ (by simp) hx
  have hB : ∀ i, B i = true → setB B j i = true := fun i hi => by unfold setB; split <;> simp [hi]
  have key : ∀ y, Al S n y → (B (y - 1) = true ∨ y ∈ t ++ [j + 1]) → setB B j (y - 1) = true ∨ y ∈ t ++ [(S j).nd.left, (S j).nd.right] := fun y hy h1 => by
    rcases h1 with h1 | h1
    · exact .inl (hB _ h1)
    · rcases List.mem_append.1 h1 with h2 | h2
      · exact .inr (by simp [h2])
      · simp at h2; subst h2; exact .inl (by unfold setB; simp)
  refine ⟨fun i hi hb => ?_, fun y hy ha => ?_, fun y h1 h2 => key y h2 (h.roots y h1 h2), fun i hi hb u hu h3 => ?_⟩
  · unfold setB at hb
    by_cases e : i = j
    · subst e; exact hr
    · rw [if_neg e] at hb; exact h.sound i hi hb
  · rcases List.mem_append.1 hy with h2 | h2
    · exact h.stack y (by simp [h2]) ha
    · simp at h2
      rcases h2 with rfl | rfl
      · exact Rch.kid (S := S) (j + 1) 0 hr (by decide) ha
      · exact Rch.kid (S := S) (j + 1) 1 hr (by decide) ha
  · unfold setB at hb
    by_cases e : i = j
    · subst e
      refine .inr ?_
      unfold kd
      split <;> simp
    · rw [if_neg e] at hb; exact key _ h3 (h.kids i hi hb u hu h3)
theorem MInv.done {S : Nat → Sl} {n : Nat} {rs : List Nat} {B : Nat → Bool} (h : MInv S n rs B []) {j : Nat} (hj : j < n) : B j = true ↔ Rch S n rs (j + 1) := by
  refine ⟨h.sound j hj, fun hr => ?_⟩
  have key : ∀ y, Rch S n rs y → B (y - 1) = true := fun y hy => by
    induction hy with
    | root x h1 h2 =>
      rcases h.roots x h1 h2 with h3 | h3
      · exact h3
      · cases h3
    | kid x t h1 h2 h3 ih =>
      have h4 := h1.al
      obtain ⟨h5, h6, _⟩ := h4
      rcases h.kids (x - 1) (by omega) ih t h2 h3 with h7 | h7
      · exact h7
      · cases h7
  exact key _ hr
/-- how many are not marked -/
def um : Nat → (Nat → Bool) → Nat
  | 0, _ => 0
  | n + 1, B => um n B + if B n = true then 0 else 1
theorem um_le (B : Nat → Bool) : ∀ n, um n B ≤ n
  | 0 => Nat.le_refl _
  | n + 1 => by unfold um; have := um_le B n; split <;> omega
theorem um_out (B : Nat → Bool) (j : Nat) : ∀ n, n ≤ j → um n (setB B j) = um n B
  | 0, _ => rfl
  | n + 1, h => by
    unfold um
    rw [um_out B j n (by omega)]
    have : setB B j n = B n := by unfold setB; rw [if_neg (by omega)]
    rw [this]
theorem um_set (B : Nat → Bool) {j : Nat} (hb : B j = false) : ∀ n, j < n → um n (setB B j) + 1 = um n B
  | 0, h => by omega
  | n + 1, h => by
    unfold um
    by_cases e : j = n
    · subst e
      rw [um_out B j j (Nat.le_refl _), hb]
      have : setB B j j = true := by unfold setB; simp
      rw [this]
      simp
    · have ih := um_set B hb n (by omega)
      have : setB B j n = B n := by unfold setB; rw [if_neg (by omega)]
      rw [this]
      omega
end Go.Proofs.Ytkhfofpbmnapjaa
