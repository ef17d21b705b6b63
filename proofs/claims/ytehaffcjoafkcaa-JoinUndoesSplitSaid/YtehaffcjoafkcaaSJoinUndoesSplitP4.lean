/- Of the proof of SJoinUndoesSplitP: SlotsAt, RefNode, ArSide, RefNear, KitList, LkCon, Scene, ScnMut, RefRsv, Got, BalW, Mid, JnN, MidF, Box8, Ins. -/
import Derived.Test.YtehaffcjoafkcaaSJoinUndoesSplitP1
import Derived.Test.YtehaffcjoafkcaaSJoinUndoesSplitP2
import Derived.Test.YtehaffcjoafkcaaSJoinUndoesSplitP3
import Derived.Laws.NewBlocks
import Derived.Deep.DeepCutAuto
set_option linter.unusedVariables false
namespace Go.Proofs.Ytehaffcjoafkcaa
open Go.RowKit
theorem flat_at {α : Type} {f : α → List Value} {m : Nat} (hm : ∀ x, (f x).length = m) : ∀ (l : List α) (i j : Nat) (x : α), l[i]? = some x → j < m → (l.flatMap f)[i * m + j]? = (f x)[j]?
  | [], i, j, x, h, hj => by simp at h
  | a :: t, 0, j, x, h, hj => by
    simp at h
    subst h
    rw [List.flatMap_cons, Nat.zero_mul, Nat.zero_add, List.getElem?_append_left (by rw [hm]; exact hj)]
  | a :: t, i + 1, j, x, h, hj => by
    simp at h
    rw [List.flatMap_cons, List.getElem?_append_right (by rw [hm, Nat.succ_mul]; omega), hm, show (i + 1) * m + j - m = i * m + j by rw [Nat.succ_mul]; omega]
    exact flat_at hm t i j x h hj
/-- a dump's row of slots, read -/
theorem slots_at {w : World} {B c : Nat} {a : Option Addr} {A : Ar} {st : List Nat} {held : Nat → Nat} (hI : A.Inv st held) (h : w.ownsRow B 92 11 (.slice a A.σ.cap c) A.σ.cap (slotsV A)) : SlotsAt w a A.σ.cap A.sl := by
  have hcap := hI.ok.cap2
  refine ⟨fun i hi => ?_, fun i hi => ?_⟩
  · rcases h.2 with ⟨hv, hn⟩ | ⟨g, cap, cur, hv, hB, hc, hn, hcm, hs, ht⟩
    · omega
    · simp only [Value.slice.injEq] at hv
      obtain ⟨rfl, _, _⟩ := hv
      refine ⟨g, 0, rfl, (Array.getElem?_eq_some_iff.1 hc).1, fun j v hv => ?_⟩
      have hj : j < 11 := by have := (List.getElem?_eq_some_iff.1 hv).1; simpa [slV] using this
      rw [Nat.zero_add, h.cellAt (i * 11 + j) (by omega)]
      have h1 := flat_at (f := slotV A) (m := 11) (fun x => rfl) (List.range' 1 A.σ.cap) i j (i + 1) (by rw [List.getElem?_range' hi]; simp; omega) hj
      show ((List.range' 1 A.σ.cap).flatMap (slotV A))[i * 11 + j]? = some v
      rw [h1]
      exact hv
  · show (A.nd (i + 1)).left < _ ∧ (A.nd (i + 1)).right < _
    by_cases ho : A.σ.on (i + 1) = true
    · have hc := hI.child (i + 1) ho
      have key : ∀ y, (y = 0 ∨ A.σ.on y = true) → y < 4294967296 := fun y hy => by
        rcases hy with hy | hy
        · omega
        · have := hI.ok.on y hy; omega
      exact ⟨key _ hc.1, key _ hc.2⟩
    · rw [(hI.off (i + 1) (by simpa using ho)).2]
      exact ⟨by decide, by decide⟩
end Go.Proofs.Ytehaffcjoafkcaa
set_option linter.unusedVariables false
set_option linter.unusedSimpArgs false
namespace Go.Proofs.Ytehaffcjoafkcaa
open Go.RowKit
/-- the node at an index; a zero node where there is none -/
def Ar.nz (A : Ar) (i : Nat) : Nd := if A.σ.on i = true then A.nd i else Nd.zero
def ndRow (x : Nd) : Array Value := #[.int .i64 x.key, .int .i64 x.val, .int .u32 (x.left : Int), .int .u32 (x.right : Int), .int .i64 x.size, .int .i64 x.sum, .int .i64 x.mn, .int .i64 x.mx]
theorem ndRow_one (x : Nd) : (ndRow x).all (·.oneCell') = true := by simp [ndRow, Value.oneCell']
set_option maxHeartbeats 1000000 in
set_option maxRecDepth 100000 in
theorem refNode_any {w : World} {a b : Option Addr} {N c m d i : Nat} {A : Ar} (h : SlotsAt w a N A.sl) (hok : A.σ.Ok) (hN : A.σ.cap = N) (hi : i < 4294967296) :
    Calls Try.prog 47 #[.agg #[.slice a N c, .slice b m d], .int .u32 (i : Int)] w (Calm w (.agg (ndRow (A.nz i)))) := by
  have hcap := hok.cap2
  have hz : ∀ w, (zeroValue 65).run Try.prog w = .ok (.agg (ndRow Nd.zero)) w := by
    have h : (Try.prog.info? 65).map (·.zero) = some (some (.agg (ndRow Nd.zero))) := by kernel_rfl
    intro w
    cases hi : Try.prog.info? 65 with
    | none => simp [hi] at h
    | some i =>
      have hz : i.zero = some (.agg (ndRow Nd.zero)) := by simpa [hi] using h
      simp [zeroValue, typeInfo, hi, hz]
  have hin : (Try.prog.info? 65).map (·.size) = some 8 := by kernel_rfl
  have HI := Lib.hid hin
  have hal := al_on hok i
  obtain ⟨w1, hw1⟩ : ∃ w1, w1 = (w.alloc (Obj.cells #[Value.slice a N c, Value.slice b m d] 61)).alloc (Obj.cells (ndRow Nd.zero) 65) := ⟨_, rfl⟩
  have hb1 : Below w.heap.size w w1 := by rw [hw1]; exact ((Below.refl _ _).alloc (Nat.le_refl _) _).alloc (by simp) _
  have HB1 := Lib.hid hb1
  have hrow1 : w1.heap[w.heap.size + 1]? = some (.cells (ndRow Nd.zero) 65 (0, 0)) := by rw [hw1]; exact heap_alloc2_new w _ _
  have HR1 := Lib.hid hrow1
  have hbox : w1.heap[w.heap.size]? = some (.cells #[Value.slice a N c, Value.slice b m d] 61 (0, 0)) := by rw [hw1]; exact heap_alloc2_old w _ _
  obtain ⟨hc0, hc1⟩ := two_cells hbox
  have hs1 := h.below hb1
  have HS1 := Lib.hid hs1
  have HBOX := Lib.hid hbox
  have hcall := dallocated_any (b := b) (m := m) (d := d) (c := c) hs1 (by omega) hi
  have HC : Hid (Calls Try.prog 67 #[.agg #[.slice a N c, .slice b m d], .int .u32 (i : Int)] w1 (Calm w1 (.bool (A.σ.on i)))) := by
    have e : decide (1 ≤ i ∧ i ≤ N ∧ (A.sl (i - 1)).on = true) = A.σ.on i := by
      rw [← hN]
      have h2 : (1 ≤ i ∧ i ≤ A.σ.cap ∧ (A.sl (i - 1)).on = true) ↔ A.σ.on i = true := hal
      cases ho : A.σ.on i
      · exact decide_eq_false fun h3 => by rw [h2, ho] at h3; cases h3
      · exact decide_eq_true (h2.2 ho)
    rw [e] at hcall
    exact hcall
  clear hcall hal hs1 hrow1 hb1 hbox hin
  go_enter Try.func47, Try.ntmps47
  go_upto_region 1 with fail
  rw [← hw1]
  have HU : Hid _ := Lib.hid Try.underlying65
  have hq : w.heap.size + 1 < w1.heap.size := (Array.getElem?_eq_some_iff.1 HR1.out).1
  have hsz1 : w.heap.size ≤ w1.heap.size := by omega
  clear hw1 hz h
  go_wp2_with fail
  refine HC.out.mono ?_
  rintro e w2 ⟨rfl, hb2⟩
  have HR2 : Hid (w2.heap[w.heap.size + 1]? = some (.cells (ndRow Nd.zero) 65 (0, 0))) := (hb2.block _ hq).trans HR1.out
  have HB2 : Hid (Below w.heap.size w w2) := HB1.out.trans (hb2.mono hsz1)
  have hbox2 := (hb2.block w.heap.size (by omega)).trans HBOX.out
  obtain ⟨hc0, hc1⟩ := two_cells hbox2
  have hS2 := HS1.out.below hb2
  clear hbox2 hb2 hsz1 hq
  cases ho : A.σ.on i
  · have hnz : A.nz i = Nd.zero := by unfold Ar.nz; rw [ho]; rfl
    have HNZ := Lib.hid hnz
    clear hnz hS2 ho
    go_wp2_with (refine wpList_store_row rfl 65 (.tmp 4) (.tmp 9) rfl (w.heap.size + 1) (ndRow Nd.zero) rfl rfl 65 _ HR2.out HI.out rfl (ndRow_one _) ?_)
    exact bodyPost_ret (v := .agg (ndRow Nd.zero)) (results_cell_row rfl _ _ (w.heap.size + 1) 65 (ndRow Nd.zero) (0, 0) _ rfl (setRow_heap _ _ _ _ _ _ HR2.out) HU.out rfl HI.out) rfl ⟨by rw [HNZ.out], below_setRow HB2.out (Nat.le_succ _) _⟩
  · have hnz : A.nz i = A.nd i := by unfold Ar.nz; rw [ho]; rfl
    have h1 := hok.on i ho
    rw [hN] at h1
    obtain ⟨j, rfl⟩ : ∃ j, i = j + 1 := ⟨i - 1, by omega⟩
    obtain ⟨b', off, rfl, hlb, _, _, _, d3, d4, d5, d6, d7, d8, d9, d10⟩ := hS2.all (show j < N by omega)
    have e : (A.sl j).nd = A.nd (j + 1) := rfl
    rw [e] at d3 d4 d5 d6 d7 d8 d9 d10
    generalize A.nd (j + 1) = x at d3 d4 d5 d6 d7 d8 d9 d10 hnz
    have HNZ := Lib.hid hnz
    have hX1 : (1 : Int) ≤ ((j + 1 : Nat) : Int) := by omega
    obtain ⟨Xi, hXi⟩ : ∃ Y : Int, ((j + 1 : Nat) : Int) = Y := ⟨_, rfl⟩
    have hXw : IntKind.u32.wrap (Xi - 1) = Xi - 1 := by rw [IntKind.wrap_u32']; omega
    have hX2 : (Xi - 1).toNat = j := by omega
    have hX4 : Xi - 1 < (N : Int) := by omega
    have hX5 : (0 : Int) ≤ Xi - 1 := by omega
    rw [hXi] at hX1 ⊢
    clear hXi hnz hS2 ho h1 e hi
    go_wp2_with (refine wpList_store_row rfl 65 (.tmp 4) (.tmp 16) rfl (w.heap.size + 1) (ndRow x) rfl rfl 65 _ HR2.out HI.out rfl (ndRow_one _) ?_)
    exact bodyPost_ret (v := .agg (ndRow x)) (results_cell_row rfl _ _ (w.heap.size + 1) 65 (ndRow x) (0, 0) _ rfl (setRow_heap _ _ _ _ _ _ HR2.out) HU.out rfl HI.out) rfl ⟨by rw [HNZ.out], below_setRow HB2.out (Nat.le_succ _) _⟩
end Go.Proofs.Ytehaffcjoafkcaa
set_option linter.unusedVariables false
set_option linter.unusedSimpArgs false
namespace Go.Proofs.Ytehaffcjoafkcaa
open Go.RowKit
/-- keys ascending, plain -/
theorem up_asc : ∀ (l : List En) (s : Option Int), Up l → (∀ k, s = some k → ∀ y ∈ l, k < y.key) → Asc s (l.map (·.key))
  | [], s, h, hs => by cases s <;> trivial
  | x :: t, s, h, hs => by
    unfold Up at h
    rw [List.pairwise_cons] at h
    have ih := up_asc t (some x.key) h.2 (fun k hk y hy => by cases hk; exact h.1 y hy)
    cases s with
    | none => exact ih
    | some k => exact ⟨hs k rfl x (by simp), ih⟩
def Keeps (G : Nat → Prop) (w w' : World) : Prop := ∀ k, G k → w'.heap[k]? = w.heap[k]?
end Go.Proofs.Ytehaffcjoafkcaa
set_option linter.unusedVariables false
set_option linter.unusedSimpArgs false
namespace Go.Proofs.Ytehaffcjoafkcaa
open Go.RowKit
def rankE (l : List En) (k : Int) : Nat := l.countP fun e => decide (e.key < k)
def getE (l : List En) (k : Int) : Option En := l.find? fun e => decide (e.key = k)
def selE (l : List En) (i : Int) : Option En := if 0 ≤ i then l[i.toNat]? else none
def floorE (l : List En) (k : Int) : Option En := if (getE l k).isSome then selE l (rankE l k) else selE l ((rankE l k : Int) - 1)
def ceilE (l : List En) (k : Int) : Option En := selE l (rankE l k)
def belowE (l : List En) (k : Int) : Option En := selE l ((rankE l k : Int) - 1)
/-- the cells of an entry, of none zeros -/
def enA (o : Option En) : Array Value := #[.int .i64 (o.elim 0 (·.key)), .int .i64 (o.elim 0 (·.val))]
theorem rankE_le (l : List En) (k : Int) : rankE l k ≤ l.length := List.countP_le_length
theorem below_newL (w : World) (o : Obj) : Below w.heap.size w (w.alloc o) := (Below.refl _ _).alloc (Nat.le_refl _) _
theorem EnsAt.at {w : World} {a : Option Addr} {l : List En} {j : Nat} {e : En} (h : EnsAt w a l) (he : l[j]? = some e) : ∃ b off, a = some ⟨b, off, none⟩ ∧ b < w.heap.size ∧ w.cell? ⟨b, off + j * 2, none⟩ = some (.int .i64 e.key) ∧ w.cell? ⟨b, off + j * 2 + 1, none⟩ = some (.int .i64 e.val) := h.cell j e he
end Go.Proofs.Ytehaffcjoafkcaa
set_option linter.unusedVariables false
set_option linter.unusedSimpArgs false
namespace Go.Proofs.Ytehaffcjoafkcaa
open Go.RowKit
theorem two_ofE {w : World} {g : Nat} {x y : Int} {ty : TypeId} (h : w.heap[g]? = some (.cells #[.int .i64 x, .int .i64 y] ty (0, 0))) : w.cell? ⟨g, 0, none⟩ = some (.int .i64 x) ∧ w.cell? ⟨g, 1, none⟩ = some (.int .i64 y) := by
  constructor <;> (rw [cell_of_row _ _ _ _ _ _ h]; rfl)
end Go.Proofs.Ytehaffcjoafkcaa
set_option linter.unusedVariables false
set_option linter.unusedSimpArgs false
namespace Go.Proofs.Ytehaffcjoafkcaa
open Go.RowKit
def InsRel (Z : Nat) (w2 : World) (l : List En) (e : En) (x d i : Value) (wr : World) : Prop :=
  ∃ (o : List En) (db : Bool) (j : Nat), i = .int .i64 (j : Int) ∧ d = .bool db ∧ j ≤ l.length ∧ ESt Z w2 o x wr ∧ o ++ insF e (l.drop j) db = insE l e
theorem below_new7e (w : World) (o : Obj) : Below w.heap.size w (w.alloc o) := (Below.refl _ _).alloc (Nat.le_refl _) _
theorem insF_cons (e x : En) (t : List En) (d : Bool) : insF e (x :: t) d = (if (!d && decide (e.key ≤ x.key)) = true then [e] else []) ++ (if x.key ≠ e.key then [x] else []) ++ insF e t (d || (!d && decide (e.key ≤ x.key))) := rfl
set_option maxHeartbeats 4000000 in
set_option maxRecDepth 100000 in
theorem insert_any {w : World} {a : Option Addr} {c : Nat} {l : List En} (e : En) (h : EnsAt w a l) (he : i64R e.key ∧ i64R e.val) (hl : l.length ≤ 1000000) :
    Calls Try.prog 14 #[.slice a l.length c, .agg #[.int .i64 e.key, .int .i64 e.val]] w (MadeEns w (insE l e)) := by
  obtain ⟨n, hn⟩ : ∃ n, l.length = n := ⟨_, rfl⟩
  have hb1 : Below w.heap.size w (w.alloc (Obj.cells #[Value.int .i64 e.key, Value.int .i64 e.val] 31)) := (Below.refl _ _).alloc (Nat.le_refl _) _
  have hbox := heap_alloc_new w (Obj.cells #[Value.int .i64 e.key, Value.int .i64 e.val] 31)
  have HB := Lib.hid hb1
  have HBOX := Lib.hid hbox
  have HE := Lib.hid (h.below hb1)
  have HN := Lib.hid hn
  have hni : (n : Int) ≤ 1000000 := by omega
  rw [hn]
  clear hb1 hbox hl hn h
  go_enter Try.func14, Try.ntmps14
  go_upto_region 1 with fail
  generalize w.alloc (Obj.cells #[Value.int .i64 e.key, Value.int .i64 e.val] 31) = w2 at HB HBOX HE ⊢
  obtain ⟨q, hq⟩ : ∃ q, w.heap.size = q := ⟨_, rfl⟩
  rw [hq] at HBOX HB ⊢
  have HQ := Lib.hid hq
  clear hq
  obtain ⟨Z, hZ⟩ : ∃ Z, w2.heap.size = Z := ⟨_, rfl⟩
  have HZ := Lib.hid hZ
  have hqz : q < Z := by rw [← hZ]; exact (Array.getElem?_eq_some_iff.1 HBOX.out).1
  have HQZ := Lib.hid hqz
  have HI0 : Hid (InsRel Z w2 l e (.slice none 0 0) (.bool false) (.int .i64 0) w2) := ⟨[], false, 0, rfl, rfl, Nat.zero_le _, ESt.start w2 hZ, rfl⟩
  clear hZ hqz
  go_wp2_with fail
  go_loopw [5, 6, 7] (fun x d i wr => InsRel Z w2 l e x d i wr) (fun _ _ i _ => n - (intOf i).toNat)
  case atStart => exact HI0.out
  case round =>
    clear HI0
    obtain ⟨o, db, j, rfl, rfl, hj, hst, hinv⟩ := hrel
    have HST := Lib.hid hst
    have HINV := Lib.hid hinv
    have hol : o.length ≤ n + 1 := by
      have h1 := congrArg List.length hinv
      have h2 := insE_len l e
      have h3 := HN.out
      rw [List.length_append] at h1
      omega
    have HOL := Lib.hid hol
    rw [HN.out] at hj
    obtain ⟨xa, xc, hx⟩ := hst.val
    subst hx
    have hbz : w2.heap.size ≤ wr.heap.size := hst.below.size
    have hbox2 := (hst.below.block q HQZ.out).trans HBOX.out
    have hkc : wr.cell? ⟨q, 0, none⟩ = some (.int .i64 e.key) := by rw [cell_of_row _ _ _ _ _ _ hbox2]; rfl
    have hvc : wr.cell? ⟨q, 1, none⟩ = some (.int .i64 e.val) := by rw [cell_of_row _ _ _ _ _ _ hbox2]; rfl
    have HBX := Lib.hid hbox2
    by_cases hlt : j < n
    · have hji : (j : Int) < (n : Int) := by omega
      have hj0 : (0 : Int) ≤ (j : Int) := by omega
      have HJ : Hid (j < n) := hlt
      have hjl : j < l.length := by rw [HN.out]; exact hlt
      have HEC := HE.out.cell j l[j] (List.getElem?_eq_getElem hjl)
      obtain ⟨b, off, rfl, hlb, d0, d1⟩ := HEC
      rw [HZ.out] at hlb
      have HF : Hid (∀ wx, Below Z w2 wx → wx.cell? ⟨b, off + j * 2, none⟩ = some (.int .i64 (l[j]).key) ∧ wx.cell? ⟨b, off + j * 2 + 1, none⟩ = some (.int .i64 (l[j]).val) ∧ wx.cell? ⟨q, 0, none⟩ = some (.int .i64 e.key) ∧ wx.cell? ⟨q, 1, none⟩ = some (.int .i64 e.val)) := fun wx hb => by
        have h1 := (hb.block q HQZ.out).trans HBOX.out
        exact ⟨by rw [← d0]; exact hb.cell (p := ⟨b, off + j * 2, none⟩) hlb, by rw [← d1]; exact hb.cell (p := ⟨b, off + j * 2 + 1, none⟩) hlb, by rw [cell_of_row _ _ _ _ _ _ h1]; rfl, by rw [cell_of_row _ _ _ _ _ _ h1]; rfl⟩
      have hdrop : l.drop j = l[j] :: l.drop (j + 1) := List.drop_eq_getElem_cons hjl
      have HD : Hid (o ++ ((if (!db && decide (e.key ≤ (l[j]).key)) = true then [e] else []) ++ (if (l[j]).key ≠ e.key then [l[j]] else []) ++ insF e (l.drop (j + 1)) (db || (!db && decide (e.key ≤ (l[j]).key)))) = insE l e) := by
        have h1 := HINV.out
        rw [hdrop, insF_cons] at h1
        exact h1
      generalize l[j] = x at HF HD d0 d1
      clear d0 d1
      have HOL2 : Hid (o.length ≤ n + 1 ∧ (o ++ [e]).length ≤ n + 2 ∧ n ≤ 1000000) := ⟨hol, by simp; omega, by omega⟩
      clear hst hinv hbox2 hjl hdrop hlt hj hol HINV hkc hvc HBX
      have HOLD : Hid (o.length ≤ 100000000) := by
        have := HOL2.out
        show o.length ≤ 100000000
        omega
      obtain ⟨c0, c1, hkc, hvc⟩ := HF.out wr HST.out.below
      cases db
      · by_cases hge : e.key ≤ x.key
        · by_cases hne : x.key ≠ e.key
          · skip
            have HFIN : Hid ((o ++ [e]) ++ [x] ++ insF e (l.drop (j + 1)) true = insE l e) := by
              have h1 := HD.out
              simp [hge, hne] at h1
              show (o ++ [e]) ++ [x] ++ insF e (l.drop (j + 1)) true = insE l e
              try simp
              exact h1
            have hn1 : (x.key == e.key) = false := by simp; exact hne
            have hn2 : ¬ x.key = e.key := hne
            have hg : decide (e.key ≤ x.key) = true := decide_eq_true hge
            go_upto_region 6 with fail
            go_quiet (fail)
            rename Nat => d1
            clear c0 c1 hkc hvc
            have HS3 : Hid (ESt Z w2 o _ (wr.drewN d1)) := HST.out.from (below_drewN (Below.refl _ _) d1) HZ.out
            generalize wr.drewN d1 = w3 at HS3 ⊢
            clear HST
            obtain ⟨c0, c1, hkc, hvc⟩ := HF.out w3 HS3.out.below
            go_upto_region 9 with (at_builtin; refine wpList_append_en rfl (.tmp 26) (.tmp 28) rfl (HS3.out.from (below_new7e _ _) HZ.out) HZ.out rfl e w3.heap.size rfl (cell_newE _ _ _) (by have := HOL.out; omega) ?_; intro v5 w5 hc5)
            obtain ⟨xa5, xc5, hx5⟩ := hc5.val
            subst hx5
            have HS5 := Lib.hid hc5
            clear c0 c1 hkc hvc hc5 HS3
            generalize w5 = w3 at HS5 ⊢
            have HS3 := HS5
            clear HS5
            obtain ⟨c0, c1, hkc, hvc⟩ := HF.out w3 HS3.out.below
            go_quiet (fail)
            rename Nat => d2
            clear c0 c1 hkc hvc
            have HS4 : Hid (ESt Z w2 (o ++ [e]) _ (w3.drewN d2)) := HS3.out.from (below_drewN (Below.refl _ _) d2) HZ.out
            generalize w3.drewN d2 = w4 at HS4 ⊢
            clear HS3
            obtain ⟨c0, c1, hkc, hvc⟩ := HF.out w4 HS4.out.below
            go_wp2_with (at_builtin; refine wpList_append_en rfl (.tmp 38) (.tmp 43) rfl (HS4.out.from (below_new7e _ _) HZ.out) HZ.out rfl x w4.heap.size rfl (cell_newE _ _ _) (by have := HOL2.out; omega) ?_; intro v5 w5 hc5)
            exact ⟨⟨(o ++ [e]) ++ [x], true, j + 1, by go_num, rfl, by have := HJ.out; have := HN.out; omega, hc5, HFIN.out⟩, by have := HJ.out; simp [intOf]; omega⟩
          · skip
            have HFIN : Hid ((o ++ [e]) ++ insF e (l.drop (j + 1)) true = insE l e) := by
              have h1 := HD.out
              simp [hge, hne] at h1
              show (o ++ [e]) ++ insF e (l.drop (j + 1)) true = insE l e
              try simp
              exact h1
            have hn2 : x.key = e.key := Classical.not_not.1 hne
            have hn1 : (x.key == e.key) = true := by simp; exact hn2
            have hg : decide (e.key ≤ x.key) = true := decide_eq_true hge
            go_upto_region 6 with fail
            go_quiet (fail)
            rename Nat => d1
            clear c0 c1 hkc hvc
            have HS3 : Hid (ESt Z w2 o _ (wr.drewN d1)) := HST.out.from (below_drewN (Below.refl _ _) d1) HZ.out
            generalize wr.drewN d1 = w3 at HS3 ⊢
            clear HST
            obtain ⟨c0, c1, hkc, hvc⟩ := HF.out w3 HS3.out.below
            go_upto_region 9 with (at_builtin; refine wpList_append_en rfl (.tmp 26) (.tmp 28) rfl (HS3.out.from (below_new7e _ _) HZ.out) HZ.out rfl e w3.heap.size rfl (cell_newE _ _ _) (by have := HOL.out; omega) ?_; intro v5 w5 hc5)
            obtain ⟨xa5, xc5, hx5⟩ := hc5.val
            subst hx5
            have HS5 := Lib.hid hc5
            clear c0 c1 hkc hvc hc5 HS3
            generalize w5 = w3 at HS5 ⊢
            have HS3 := HS5
            clear HS5
            obtain ⟨c0, c1, hkc, hvc⟩ := HF.out w3 HS3.out.below
            go_quiet (fail)
            rename Nat => d2
            clear c0 c1 hkc hvc
            have HS4 : Hid (ESt Z w2 (o ++ [e]) _ (w3.drewN d2)) := HS3.out.from (below_drewN (Below.refl _ _) d2) HZ.out
            generalize w3.drewN d2 = w4 at HS4 ⊢
            clear HS3
            obtain ⟨c0, c1, hkc, hvc⟩ := HF.out w4 HS4.out.below
            go_wp2_with fail
            exact ⟨⟨o ++ [e], true, j + 1, by go_num, rfl, by have := HJ.out; have := HN.out; omega, HS4.out, HFIN.out⟩, by have := HJ.out; simp [intOf]; omega⟩
        · have hne : x.key ≠ e.key := by omega
          have HFIN : Hid ((o) ++ [x] ++ insF e (l.drop (j + 1)) false = insE l e) := by
            have h1 := HD.out
            simp [hge, hne] at h1
            show (o) ++ [x] ++ insF e (l.drop (j + 1)) false = insE l e
            try simp
            exact h1
          have hn1 : (x.key == e.key) = false := by simp; exact hne
          have hn2 : ¬ x.key = e.key := hne
          have hg : decide (e.key ≤ x.key) = false := decide_eq_false hge
          go_upto_region 6 with fail
          go_quiet (fail)
          rename Nat => d1
          clear c0 c1 hkc hvc
          have HS3 : Hid (ESt Z w2 o _ (wr.drewN d1)) := HST.out.from (below_drewN (Below.refl _ _) d1) HZ.out
          generalize wr.drewN d1 = w3 at HS3 ⊢
          clear HST
          go_upto_region 9 with fail
          obtain ⟨c0, c1, hkc, hvc⟩ := HF.out w3 HS3.out.below
          go_quiet (fail)
          rename Nat => d2
          clear c0 c1 hkc hvc
          have HS4 : Hid (ESt Z w2 (o) _ (w3.drewN d2)) := HS3.out.from (below_drewN (Below.refl _ _) d2) HZ.out
          generalize w3.drewN d2 = w4 at HS4 ⊢
          clear HS3
          obtain ⟨c0, c1, hkc, hvc⟩ := HF.out w4 HS4.out.below
          go_wp2_with (at_builtin; refine wpList_append_en rfl (.tmp 38) (.tmp 43) rfl (HS4.out.from (below_new7e _ _) HZ.out) HZ.out rfl x w4.heap.size rfl (cell_newE _ _ _) (by have := HOL2.out; omega) ?_; intro v5 w5 hc5)
          exact ⟨⟨(o) ++ [x], false, j + 1, by go_num, rfl, by have := HJ.out; have := HN.out; omega, hc5, HFIN.out⟩, by have := HJ.out; simp [intOf]; omega⟩
      · by_cases hne : x.key ≠ e.key
        · skip
          have HFIN : Hid ((o) ++ [x] ++ insF e (l.drop (j + 1)) true = insE l e) := by
            have h1 := HD.out
            simp [hne] at h1
            show (o) ++ [x] ++ insF e (l.drop (j + 1)) true = insE l e
            try simp
            exact h1
          have hn1 : (x.key == e.key) = false := by simp; exact hne
          have hn2 : ¬ x.key = e.key := hne
          go_upto_region 6 with fail
          go_quiet (fail)
          rename Nat => d1
          clear c0 c1 hkc hvc
          have HS3 : Hid (ESt Z w2 o _ (wr.drewN d1)) := HST.out.from (below_drewN (Below.refl _ _) d1) HZ.out
          generalize wr.drewN d1 = w3 at HS3 ⊢
          clear HST
          go_upto_region 9 with fail
          obtain ⟨c0, c1, hkc, hvc⟩ := HF.out w3 HS3.out.below
          go_quiet (fail)
          rename Nat => d2
          clear c0 c1 hkc hvc
          have HS4 : Hid (ESt Z w2 (o) _ (w3.drewN d2)) := HS3.out.from (below_drewN (Below.refl _ _) d2) HZ.out
          generalize w3.drewN d2 = w4 at HS4 ⊢
          clear HS3
          obtain ⟨c0, c1, hkc, hvc⟩ := HF.out w4 HS4.out.below
          go_wp2_with (at_builtin; refine wpList_append_en rfl (.tmp 38) (.tmp 43) rfl (HS4.out.from (below_new7e _ _) HZ.out) HZ.out rfl x w4.heap.size rfl (cell_newE _ _ _) (by have := HOL2.out; omega) ?_; intro v5 w5 hc5)
          exact ⟨⟨(o) ++ [x], true, j + 1, by go_num, rfl, by have := HJ.out; have := HN.out; omega, hc5, HFIN.out⟩, by have := HJ.out; simp [intOf]; omega⟩
        · skip
          have HFIN : Hid ((o) ++ insF e (l.drop (j + 1)) true = insE l e) := by
            have h1 := HD.out
            simp [hne] at h1
            show (o) ++ insF e (l.drop (j + 1)) true = insE l e
            try simp
            exact h1
          have hn2 : x.key = e.key := Classical.not_not.1 hne
          have hn1 : (x.key == e.key) = true := by simp; exact hn2
          go_upto_region 6 with fail
          go_quiet (fail)
          rename Nat => d1
          clear c0 c1 hkc hvc
          have HS3 : Hid (ESt Z w2 o _ (wr.drewN d1)) := HST.out.from (below_drewN (Below.refl _ _) d1) HZ.out
          generalize wr.drewN d1 = w3 at HS3 ⊢
          clear HST
          go_upto_region 9 with fail
          obtain ⟨c0, c1, hkc, hvc⟩ := HF.out w3 HS3.out.below
          go_quiet (fail)
          rename Nat => d2
          clear c0 c1 hkc hvc
          have HS4 : Hid (ESt Z w2 (o) _ (w3.drewN d2)) := HS3.out.from (below_drewN (Below.refl _ _) d2) HZ.out
          generalize w3.drewN d2 = w4 at HS4 ⊢
          clear HS3
          obtain ⟨c0, c1, hkc, hvc⟩ := HF.out w4 HS4.out.below
          go_wp2_with fail
          exact ⟨⟨o, true, j + 1, by go_num, rfl, by have := HJ.out; have := HN.out; omega, HS4.out, HFIN.out⟩, by have := HJ.out; simp [intOf]; omega⟩
    · have hjn : j = n := by omega
      have hdr : l.drop j = [] := List.drop_eq_nil_of_le (by rw [HN.out]; omega)
      rw [hdr] at hinv
      have hlt0 : ¬ (j : Int) < (n : Int) := by omega
      have HBW : Hid (∀ wx, Below Z w2 wx → Below w.heap.size w wx) := fun wx hb => by rw [HQ.out]; exact HB.out.trans (hb.mono (Nat.le_of_lt HQZ.out))
      have HOLD : Hid (o.length ≤ 100000000) := by
        show o.length ≤ 100000000
        omega
      clear hst hbox2 HBX HINV hdr hjn hlt hj hol
      cases db
      · have HF : Hid (o ++ [e] = insE l e) := hinv
        clear hinv
        go_wp2_with (at_builtin; refine wpList_append_en rfl (.tmp 47) (.tmp 49) rfl (HST.out.from (below_new7e _ _) HZ.out) HZ.out rfl e wr.heap.size rfl (cell_newE _ _ _) HOLD.out ?_; intro v5 w5 hc5)
        go_ret
        obtain ⟨xa5, xc5, hx5⟩ := hc5.val
        subst hx5
        have hrow := hc5.row
        have hbl := HBW.out _ hc5.below
        rw [HF.out] at hrow ⊢
        exact ⟨xa5, xc5, rfl, row_mono hrow (by rw [HQ.out]; exact Nat.le_of_lt HQZ.out), hbl⟩
      · have HF : Hid (o = insE l e) := by
          have h1 := hinv
          unfold insF at h1
          show o = insE l e
          simpa using h1
        clear hinv
        go_wp2_with fail
        go_ret
        have hrow := HST.out.row
        have hbl := HBW.out _ HST.out.below
        rw [HF.out] at hrow ⊢
        exact ⟨xa, xc, rfl, row_mono hrow (by rw [HQ.out]; exact Nat.le_of_lt HQZ.out), hbl⟩
def LRel (w : World) (raw : List En) (k : Nat) (x i : Value) (wr : World) : Prop :=
  ∃ (j : Nat) (a : Option Addr) (c : Nat), i = .int .i64 (j : Int) ∧ j ≤ k ∧ j ≤ raw.length ∧ x = .slice a (listE raw j).length c ∧ wr.ownsRow w.heap.size 31 2 (.slice a (listE raw j).length c) (listE raw j).length (ensV (listE raw j)) ∧ Below w.heap.size w wr
set_option maxHeartbeats 2000000 in
set_option maxRecDepth 100000 in
theorem list_any {w : World} {a : Option Addr} {n c k : Nat} {raw : List En} (h : EnsAt w a raw) (hn : raw.length = n) (hnm : n ≤ 9223372036854775807) (hk : k ≤ 100000) :
    Calls Try.prog 4 #[.slice a n c, .int .i64 (k : Int)] w (MadeEns w (listE raw k)) := by
  have HE := Lib.hid h
  have HN := Lib.hid hn
  have hni : (n : Int) ≤ 9223372036854775807 := by omega
  have hki : (k : Int) ≤ 100000 := by omega
  have HKK : Hid (k ≤ 100000) := hk
  have HR0 : Hid (LRel w raw k (.slice none 0 0) (.int .i64 0) w) := ⟨0, none, 0, rfl, Nat.zero_le _, Nat.zero_le _, rfl, World.ownsRow_nil _ _ _ _, Below.refl _ _⟩
  clear h hn hnm hk
  go_enter Try.func4, Try.ntmps4
  go_wp2_with fail
  go_loopw [5, 6] (fun x i wr => LRel w raw k x i wr) (fun _ i _ => k - (intOf i).toNat)
  case atStart => exact HR0.out
  case round =>
    clear HR0
    obtain ⟨j, xa, xc, rfl, hjk, hjl, rfl, hrow, hb⟩ := hrel
    have HROW := Lib.hid hrow
    have HB := Lib.hid hb
    have hlen := listE_len raw j
    have HLEN : Hid ((listE raw j).length ≤ 1000000) := (by show (listE raw j).length ≤ 1000000; omega)
    have HWF : Hid (∀ y ∈ listE raw j, i64R y.key ∧ i64R y.val) := fun y hy => HE.out.wf y (listE_mem hy)
    by_cases hlt : j < n
    · have hji : (j : Int) < (n : Int) := by omega
      have hj0 : (0 : Int) ≤ (j : Int) := by omega
      by_cases hlk : j < k
      · have hji2 : (j : Int) < (k : Int) := by omega
        have hjr : j < raw.length := by rw [HN.out]; exact hlt
        have HS : Hid (listE raw (j + 1) = insE (listE raw j) raw[j]) := listE_succ hjr
        have HX : Hid (i64R (raw[j]).key ∧ i64R (raw[j]).val) := HE.out.wf _ (List.getElem_mem hjr)
        obtain ⟨b, off, rfl, hlb, c0, c1⟩ := (HE.out.below hb).cell j raw[j] (List.getElem?_eq_getElem hjr)
        generalize raw[j] = e at c0 c1 HS HX
        have HJ : Hid (j < k ∧ j + 1 ≤ raw.length) := ⟨hlk, hjr⟩
        have HSL : Hid (EnsAt wr xa (listE raw j)) := ens_at hrow HWF.out
        clear hrow hb hlen hjr hlt hlk hjk hjl
        generalize hL : listE raw j = L at HROW HLEN HWF HS HSL ⊢
        clear hL
        go_wp2_with fail
        refine (insert_any e HSL.out HX.out HLEN.out).mono ?_
        rintro ee w3 ⟨a3, c3, rfl, hrow3, hb3⟩
        rw [← HS.out] at hrow3 ⊢
        have HR : Hid (LRel w raw k (.slice a3 (listE raw (j + 1)).length c3) (.int .i64 ((j : Int) + 1)) w3) := ⟨j + 1, a3, c3, by congr 1, HJ.out.1, HJ.out.2, rfl, row_mono hrow3 HB.out.size, HB.out.trans (hb3.mono HB.out.size)⟩
        clear hrow3 hb3
        generalize (listE raw (j + 1)).length = LL at HR ⊢
        go_wp2_with fail
        exact ⟨HR.out, by have := HJ.out; simp [intOf]; omega⟩
      · have hlk0 : ¬ (j : Int) < (k : Int) := by omega
        obtain rfl : j = k := by omega
        clear hrow hb hlen hlt hlk hjk hjl hlk0
        go_wp2_with fail
        go_ret
        exact ⟨xa, xc, rfl, HROW.out, HB.out⟩
    · have hlt0 : ¬ (j : Int) < (n : Int) := by omega
      have HF : Hid (listE raw j = listE raw k) := by
        show listE raw j = listE raw k
        unfold listE
        rw [List.take_of_length_le (show raw.length ≤ j by rw [HN.out]; omega), List.take_of_length_le (show raw.length ≤ k by rw [HN.out]; omega)]
      clear hrow hb hlen hlt hjk hjl
      go_wp2_with fail
      go_ret
      have hr := HROW.out
      rw [HF.out] at hr ⊢
      exact ⟨xa, xc, rfl, hr, HB.out⟩
end Go.Proofs.Ytehaffcjoafkcaa
set_option linter.unusedVariables false
set_option linter.unusedSimpArgs false
namespace Go.Proofs.Ytehaffcjoafkcaa
open Go.RowKit
/-- index i of the arena is the tree t with the entries l -/
structure TreeAt (A : Ar) (i : Nat) (t : Tr) (l : List En) : Prop where
  inv : ∃ held, A.Inv [] held
  agg : A.Agg
  sub : Sub A i t
  bal : t.bal = true
  ents : t.ents A.nd = l
  up : Up l
theorem Planted.tree {A A' : Ar} {held : Nat → Nat} {l : List En} {i : Nat} {t : Tr} (h : Planted A held l A' i t) (hu : Up l) : TreeAt A' i t l := ⟨⟨_, h.inv⟩, h.agg, h.sub, h.bal, h.ents, hu⟩
theorem TreeAt.size {A : Ar} {i : Nat} {t : Tr} {l : List En} (h : TreeAt A i t l) : t.size = l.length := by rw [← h.ents, Tr.ents_len]
theorem TreeAt.ht {A : Ar} {i : Nat} {t : Tr} {l : List En} (h : TreeAt A i t l) (hl : l.length ≤ 2147483647) : t.ht ≤ xh l.length := by
  have h1 := balT_ht h.agg h.sub (by rw [balT_bal h.agg h.sub]; exact h.bal)
  rw [h.size] at h1
  exact xh_le hl (by omega)
theorem TreeAt.idx {A : Ar} {i : Nat} {t : Tr} {l : List En} (h : TreeAt A i t l) : i < 4294967296 := by
  obtain ⟨held, hv⟩ := h.inv
  rcases h.sub.idx with h1 | h1
  · omega
  · have := hv.ok.on i h1; have := hv.ok.cap2; omega
/-- how often may be read -/
def mostI (n : Nat) : Int := 4 * ((xh n : Int) + 2)
/-- a call that reads: what it returns, what it leaves -/
def ReadsTo (I : AImpl) (p : Value) (A : Ar) (rd : Int) (F : Nat → Prop) (bd : Int) (v : Value) (w : World) (e : Ending) (w' : World) : Prop :=
  ∃ F' rd', e = .returned v ∧ Alters F F' w w' ∧ I.Is w' p A rd' F' ∧ rd ≤ rd' ∧ rd' ≤ rd + bd
/-- an entry, or none, as a result -/
def enR (o : Option En) : Value := .tuple #[.agg (enA o), .bool o.isSome]
structure LkImpl (I : AImpl) : Prop where
  first : ∀ {p : Value} {A : Ar} {rd : Int} {F : Nat → Prop} {i : Nat} {t : Tr} {l : List En} (w : World), I.Is w p A rd F → TreeAt A i t l → 0 ≤ rd → rd ≤ 1099511627776 → (∀ e ∈ l, i64R e.key) →
    Calls Try.prog 18 #[p, .int .u32 (i : Int)] w (ReadsTo I p A rd F (mostI l.length) (enR l.head?) w)
  last : ∀ {p : Value} {A : Ar} {rd : Int} {F : Nat → Prop} {i : Nat} {t : Tr} {l : List En} (w : World), I.Is w p A rd F → TreeAt A i t l → 0 ≤ rd → rd ≤ 1099511627776 → (∀ e ∈ l, i64R e.key) →
    Calls Try.prog 19 #[p, .int .u32 (i : Int)] w (ReadsTo I p A rd F (mostI l.length) (enR l.getLast?) w)
  floor : ∀ {p : Value} {A : Ar} {rd : Int} {F : Nat → Prop} {i : Nat} {t : Tr} {l : List En} (k : Int) (w : World), I.Is w p A rd F → TreeAt A i t l → 0 ≤ rd → rd ≤ 1099511627776 → i64R k →
    Calls Try.prog 36 #[p, .int .u32 (i : Int), .int .i64 k] w (ReadsTo I p A rd F (mostI l.length) (enR (floorE l k)) w)
  ceiling : ∀ {p : Value} {A : Ar} {rd : Int} {F : Nat → Prop} {i : Nat} {t : Tr} {l : List En} (k : Int) (w : World), I.Is w p A rd F → TreeAt A i t l → 0 ≤ rd → rd ≤ 1099511627776 → i64R k →
    Calls Try.prog 35 #[p, .int .u32 (i : Int), .int .i64 k] w (ReadsTo I p A rd F (mostI l.length) (enR (ceilE l k)) w)
/-- the arena with its count of reads, beside the boxes of G -/
structure MR (I : AImpl) (B : Nat) (w0 w : World) (p : Value) (A : Ar) (rd : Int) (G : Nat → Prop) : Prop where
  has : ∃ F, I.Is w p A rd F ∧ (∀ k, F k → B ≤ k) ∧ ∀ k, G k → k < w.heap.size ∧ ¬ F k
  below : Below B w0 w
  hB : B ≤ w.heap.size
section
variable {I : AImpl} {B : Nat} {w0 w w' : World} {p : Value} {A : Ar} {rd : Int} {G : Nat → Prop}
theorem MR.calm (h : MR I B w0 w p A rd G) (hb : Below w.heap.size w w') : MR I B w0 w' p A rd G := by
  obtain ⟨F, h1, h4, h5⟩ := h.has
  exact ⟨⟨F, I.below h1 hb, h4, fun k hk => ⟨Nat.lt_of_lt_of_le (h5 k hk).1 hb.size, (h5 k hk).2⟩⟩, h.below.trans (hb.mono h.hB), Nat.le_trans h.hB hb.size⟩
theorem MR.lt (h : MR I B w0 w p A rd G) {k : Nat} (hk : G k) : k < w.heap.size := by
  obtain ⟨F, h1, h4, h5⟩ := h.has
  exact (h5 k hk).1
theorem MR.keeps (h : MR I B w0 w p A rd G) (hb : Below w.heap.size w w') : Keeps G w w' := fun k hk => hb.block k (h.lt hk)
theorem MR.alloc (h : MR I B w0 w p A rd G) (o : Obj) : MR I B w0 (w.alloc o) p A rd (fun k => G k ∨ k = w.heap.size) := by
  have hb := below_new7 w o
  have h' := h.calm hb
  obtain ⟨F, h1, h4, h5⟩ := h.has
  refine ⟨⟨F, I.below h1 hb, h4, fun k hk => ?_⟩, h'.below, h'.hB⟩
  rcases hk with hk | rfl
  · exact ⟨Nat.lt_of_lt_of_le (h5 k hk).1 hb.size, (h5 k hk).2⟩
  · exact ⟨by simp, fun hF => Nat.lt_irrefl _ (I.dom h1 _ hF)⟩
theorem MR.less {G' : Nat → Prop} (h : MR I B w0 w p A rd G) (hG : ∀ k, G' k → G k) : MR I B w0 w p A rd G' := by
  obtain ⟨F, h1, h4, h5⟩ := h.has
  exact ⟨⟨F, h1, h4, fun k hk => h5 k (hG k hk)⟩, h.below, h.hB⟩
/-- a fresh block joins the boxes -/
theorem MR.fresh {G' : Nat → Prop} (h : MR I B w0 w p A rd G) (hb : Below w.heap.size w w') (hG : ∀ k, G' k → G k ∨ (w.heap.size ≤ k ∧ k < w'.heap.size)) : MR I B w0 w' p A rd G' := by
  have h' := h.calm hb
  obtain ⟨F, h1, h4, h5⟩ := h.has
  refine ⟨⟨F, I.below h1 hb, h4, fun k hk => ?_⟩, h'.below, h'.hB⟩
  rcases hG k hk with hk | ⟨h6, h7⟩
  · exact ⟨Nat.lt_of_lt_of_le (h5 k hk).1 hb.size, (h5 k hk).2⟩
  · exact ⟨h7, fun hF => by have := I.dom h1 _ hF; omega⟩
theorem MR.step {rd' : Int} {F F' : Nat → Prop} (h : MR I B w0 w p A rd G) (hF : ∀ k, F k → B ≤ k) (hG : ∀ k, G k → k < w.heap.size ∧ ¬ F k) (hal : Alters F F' w w') (hI : I.Is w' p A rd' F') : MR I B w0 w' p A rd' G ∧ Keeps G w w' :=
  ⟨⟨⟨F', hI, hal.from h.hB hF, hal.apart hG⟩, hal.below h.below h.hB hF, Nat.le_trans h.hB hal.size⟩, fun k hk => hal.block k (hG k hk).1 (hG k hk).2⟩
/-- what a call that reads leaves beside boxes -/
def MRes (I : AImpl) (B : Nat) (w0 : World) (p : Value) (A : Ar) (rd bd : Int) (G : Nat → Prop) (v : Value) (w : World) (e : Ending) (w' : World) : Prop :=
  e = .returned v ∧ ∃ rd', MR I B w0 w' p A rd' G ∧ Keeps G w w' ∧ rd ≤ rd' ∧ rd' ≤ rd + bd
theorem mr_call {bd : Int} {v : Value} {f : FuncId} {args : Array Value} (h : MR I B w0 w p A rd G) (hc : ∀ F, I.Is w p A rd F → Calls Try.prog f args w (ReadsTo I p A rd F bd v w)) : Calls Try.prog f args w (MRes I B w0 p A rd bd G v w) := by
  obtain ⟨F, h1, h4, h5⟩ := h.has
  refine (hc F h1).mono ?_
  rintro e w1 ⟨F', rd', he, hal, hI, h6, h7⟩
  have := h.step h4 h5 hal hI
  exact ⟨he, rd', this.1, this.2, h6, h7⟩
end
theorem xhI_nat {n : Nat} (h : n ≤ 2147483647) : xhI (n : Int) = (xh n : Int) := by
  unfold xhI
  rw [if_pos ⟨by omega, by omega⟩, Int.toNat_natCast]
end Go.Proofs.Ytehaffcjoafkcaa
set_option linter.unusedVariables false
set_option linter.unusedSimpArgs false
namespace Go.Proofs.Ytehaffcjoafkcaa
open Go.RowKit
structure Row where
  e : TypeId
  s : Nat
  v : Value
  n : Nat
  xs : List Value
/-- the blocks of rows and boxes -/
def SG (rs : List Row) (bs : List (Nat × Obj)) (k : Nat) : Prop := (∃ r ∈ rs, r.v.ownBlock = some k) ∨ ∃ b ∈ bs, b.1 = k
structure Scn (I : AImpl) (B : Nat) (w0 w : World) (p : Value) (A : Ar) (rd : Int) (rs : List Row) (bs : List (Nat × Obj)) : Prop where
  mr : MR I B w0 w p A rd (SG rs bs)
  rows : ∀ r ∈ rs, w.ownsRow B r.e r.s r.v r.n r.xs
  boxes : ∀ b ∈ bs, B ≤ b.1 ∧ w.heap[b.1]? = some b.2
  rr : rs.Pairwise fun x y => ∀ k, x.v.ownBlock = some k → y.v.ownBlock ≠ some k
  bb : bs.Pairwise fun x y => x.1 ≠ y.1
  rb : ∀ r ∈ rs, ∀ b ∈ bs, r.v.ownBlock ≠ some b.1
section
variable {I : AImpl} {B : Nat} {w0 w w' : World} {p : Value} {A : Ar} {rd rd' : Int} {rs : List Row} {bs : List (Nat × Obj)}
theorem Scn.start (h : MR I B w0 w p A rd (fun _ => False)) : Scn I B w0 w p A rd [] [] :=
  ⟨h.less fun k hk => (by (rcases hk with ⟨r, hr, _⟩ | ⟨b, hb, _⟩); (cases hr); (cases hb)), fun r hr => (by cases hr), fun b hb => (by cases hb), List.Pairwise.nil, List.Pairwise.nil, fun r hr => (by cases hr)⟩
theorem Scn.step (h : Scn I B w0 w p A rd rs bs) (hm : MR I B w0 w' p A rd' (SG rs bs)) (hk : Keeps (SG rs bs) w w') : Scn I B w0 w' p A rd' rs bs :=
  ⟨hm, fun r hr => row_keep (h.rows r hr) fun k hk' => hk k (.inl ⟨r, hr, hk'⟩), fun b hb => ⟨(h.boxes b hb).1, (hk b.1 (.inr ⟨b, hb, rfl⟩)).trans (h.boxes b hb).2⟩, h.rr, h.bb, h.rb⟩
theorem Scn.calm (h : Scn I B w0 w p A rd rs bs) (hb : Below w.heap.size w w') : Scn I B w0 w' p A rd rs bs := h.step (h.mr.calm hb) (h.mr.keeps hb)
theorem Scn.lt (h : Scn I B w0 w p A rd rs bs) {k : Nat} (hk : SG rs bs k) : k < w.heap.size := h.mr.lt hk
/-- a new box -/
theorem Scn.box (h : Scn I B w0 w p A rd rs bs) (cs : Array Value) (t : TypeId) : Scn I B w0 (w.alloc (.cells cs t)) p A rd rs ((w.heap.size, .cells cs t (0, 0)) :: bs) := by
  have hb := below_new7 w (.cells cs t)
  have h' := h.calm hb
  refine ⟨h.mr.fresh hb fun k hk => ?_, h'.rows, fun b hb' => ?_, h.rr, List.pairwise_cons.2 ⟨fun b hb' e => ?_, h.bb⟩, fun r hr b hb' => ?_⟩
  · rcases hk with hk | ⟨b, hb', rfl⟩
    · exact .inl (.inl hk)
    · rcases List.mem_cons.1 hb' with rfl | hb'
      · exact .inr ⟨Nat.le_refl _, by simp⟩
      · exact .inl (.inr ⟨b, hb', rfl⟩)
  · rcases List.mem_cons.1 hb' with rfl | hb'
    · exact ⟨h.mr.hB, heap_alloc_new w _⟩
    · exact h'.boxes b hb'
  · have := h.lt (.inr ⟨b, hb', rfl⟩)
    have e' : w.heap.size = b.1 := e
    omega
  · rcases List.mem_cons.1 hb' with rfl | hb'
    · intro e
      have := h.lt (.inl ⟨r, hr, e⟩)
      exact Nat.lt_irrefl _ this
    · exact h.rb r hr b hb'
/-- a row that was made -/
theorem Scn.row (h : Scn I B w0 w p A rd rs bs) (hb : Below w.heap.size w w') {e : TypeId} {s n : Nat} {v : Value} {xs : List Value} (hr : w'.ownsRow w.heap.size e s v n xs) : Scn I B w0 w' p A rd (⟨e, s, v, n, xs⟩ :: rs) bs := by
  have h' := h.calm hb
  refine ⟨h.mr.fresh hb fun k hk => ?_, fun r hr' => ?_, h'.boxes, List.pairwise_cons.2 ⟨fun r hr' k hk e' => ?_, h.rr⟩, h.bb, fun r hr' b hb' => ?_⟩
  · rcases hk with ⟨r, hr', hk⟩ | hk
    · rcases List.mem_cons.1 hr' with rfl | hr'
      · exact .inr (row_lt hr k hk)
      · exact .inl (.inl ⟨r, hr', hk⟩)
    · exact .inl (.inr hk)
  · rcases List.mem_cons.1 hr' with rfl | hr'
    · exact row_mono hr h.mr.hB
    · exact h'.rows r hr'
  · have h1 := (row_lt hr k hk).1
    have h2 := h.lt (.inl ⟨r, hr', e'⟩)
    omega
  · rcases List.mem_cons.1 hr' with rfl | hr'
    · intro e'
      have h1 := (row_lt hr _ e').1
      have h2 := h.lt (.inr ⟨b, hb', rfl⟩)
      omega
    · exact h.rb r hr' b hb'
theorem Scn.less {rs' : List Row} {bs' : List (Nat × Obj)} (h : Scn I B w0 w p A rd rs bs) (h1 : rs'.Sublist rs) (h2 : bs'.Sublist bs) : Scn I B w0 w p A rd rs' bs' :=
  ⟨h.mr.less fun k hk => by (rcases hk with ⟨r, hr, hk⟩ | ⟨b, hb, hk⟩; exact .inl ⟨r, h1.subset hr, hk⟩; exact .inr ⟨b, h2.subset hb, hk⟩), fun r hr => h.rows r (h1.subset hr), fun b hb => h.boxes b (h2.subset hb), h.rr.sublist h1, h.bb.sublist h2, fun r hr b hb => h.rb r (h1.subset hr) b (h2.subset hb)⟩
theorem Scn.below (h : Scn I B w0 w p A rd rs bs) : Below B w0 w := h.mr.below
/-- two rows that were made by one call -/
theorem Scn.row2 (h : Scn I B w0 w p A rd rs bs) (hb : Below w.heap.size w w') {e e' : TypeId} {s s' n n' : Nat} {v v' : Value} {xs xs' : List Value} (hr : w'.ownsRow w.heap.size e s v n xs) (hr2 : w'.ownsRow w.heap.size e' s' v' n' xs') (hne : ∀ k, v'.ownBlock = some k → v.ownBlock ≠ some k) :
    Scn I B w0 w' p A rd (⟨e', s', v', n', xs'⟩ :: ⟨e, s, v, n, xs⟩ :: rs) bs := by
  have h1 := h.row hb hr
  refine ⟨h.mr.fresh hb fun k hk => ?_, fun r hr' => ?_, h1.boxes, List.pairwise_cons.2 ⟨fun r hr' k hk e' => ?_, h1.rr⟩, h.bb, fun r hr' b hb' => ?_⟩
  · rcases hk with ⟨r, hr', hk⟩ | hk
    · rcases List.mem_cons.1 hr' with rfl | hr'
      · exact .inr (row_lt hr2 k hk)
      · rcases List.mem_cons.1 hr' with rfl | hr'
        · exact .inr (row_lt hr k hk)
        · exact .inl (.inl ⟨r, hr', hk⟩)
    · exact .inl (.inr hk)
  · rcases List.mem_cons.1 hr' with rfl | hr'
    · exact row_mono hr2 h.mr.hB
    · exact h1.rows r hr'
  · rcases List.mem_cons.1 hr' with rfl | hr'
    · exact hne k hk e'
    · have h2 := (row_lt hr2 k hk).1
      have h3 := h.lt (.inl ⟨r, hr', e'⟩)
      omega
  · rcases List.mem_cons.1 hr' with rfl | hr'
    · intro e'
      have h2 := (row_lt hr2 _ e').1
      have h3 := h.lt (.inr ⟨b, hb', rfl⟩)
      omega
    · exact h1.rb r hr' b hb'
theorem Scn.dump (h : Scn I B w0 w p A rd rs bs) : Calls Try.prog 26 #[p] w
    fun e w' => ∃ a c b d, e = .returned (.agg #[.slice a A.σ.cap c, .slice b A.σ.free.length d]) ∧ Scn I B w0 w' p A rd (⟨26, 1, .slice b A.σ.free.length d, A.σ.free.length, u32s A.σ.free⟩ :: ⟨92, 11, .slice a A.σ.cap c, A.σ.cap, slotsV A⟩ :: rs) bs ∧ Below w.heap.size w w' := by
  obtain ⟨F, h1, _⟩ := h.mr.has
  refine (I.dump p A rd F w h1).mono ?_
  rintro e w1 ⟨a, c, b, d, rfl, hr1, hr2, hb⟩
  exact ⟨a, c, b, d, rfl, h.row2 hb hr1 hr2 (row_ne (by decide) hr2 hr1), hb⟩
end
theorem ens_row {w : World} {B n c : Nat} {a : Option Addr} {l : List En} (hn : l.length = n) (h : w.ownsRow B 31 2 (.slice a n c) n (ensV l)) (hw : ∀ e ∈ l, i64R e.key ∧ i64R e.val) : EnsAt w a l := by
  subst hn
  exact ens_at h hw
theorem Scn.init {I : AImpl} {m n c i : Nat} {l : List En} {w w1 w2 : World} {p : Value} {A : Ar} {t : Tr} {F : Nat → Prop} {a : Option Addr} {xs : List Value} {ty : TypeId} {s : Nat} (hg : Grown I m l w1 p A i t F w2) (hb1 : Below w.heap.size w w1) (hr : w1.ownsRow w.heap.size ty s (.slice a n c) n xs) :
    Scn I w.heap.size w w2 p A 0 [⟨ty, s, .slice a n c, n, xs⟩] [] := by
  refine ⟨⟨⟨F, hg.is, fun k hk => Nat.le_trans hb1.size (hg.foot k hk), fun k hk => ?_⟩, hb1.trans (hg.below.mono hb1.size), Nat.le_trans hb1.size hg.below.size⟩, fun r hr' => ?_, fun b hb => (by cases hb), ?_, List.Pairwise.nil, fun r hr' b hb => (by cases hb)⟩
  · rcases hk with ⟨r, hr', hk⟩ | ⟨b, hb, _⟩
    · simp at hr'
      subst hr'
      have h1 := row_lt hr k hk
      exact ⟨Nat.lt_of_lt_of_le h1.2 hg.below.size, fun hF => by have := hg.foot k hF; omega⟩
    · cases hb
  · simp at hr'
    subst hr'
    exact row_below hr hg.below
  · exact List.pairwise_singleton _ _
end Go.Proofs.Ytehaffcjoafkcaa
set_option linter.unusedVariables false
set_option linter.unusedSimpArgs false
namespace Go.Proofs.Ytehaffcjoafkcaa
open Go.RowKit
theorem MR.stepA {I : AImpl} {B : Nat} {w0 w w' : World} {p : Value} {A A' : Ar} {rd rd' : Int} {G F F' : Nat → Prop} (h : MR I B w0 w p A rd G) (hF : ∀ k, F k → B ≤ k) (hG : ∀ k, G k → k < w.heap.size ∧ ¬ F k) (hal : Alters F F' w w') (hI : I.Is w' p A' rd' F') : MR I B w0 w' p A' rd' G ∧ Keeps G w w' :=
  ⟨⟨⟨F', hI, hal.from h.hB hF, hal.apart hG⟩, hal.below h.below h.hB hF, Nat.le_trans h.hB hal.size⟩, fun k hk => hal.block k (hG k hk).1 (hG k hk).2⟩
/-- a call that alters the arena: what it returns and leaves -/
def Mut (I : AImpl) (p : Value) (F : Nat → Prop) (Q : Ending → Ar → Int → Prop) (w : World) (e : Ending) (w' : World) : Prop :=
  ∃ F' A' rd', Alters F F' w w' ∧ I.Is w' p A' rd' F' ∧ Q e A' rd'
section
variable {I : AImpl} {B : Nat} {w0 w w' : World} {p : Value} {A : Ar} {rd rd' : Int} {rs : List Row} {bs : List (Nat × Obj)}
theorem Scn.stepA {A' : Ar} (h : Scn I B w0 w p A rd rs bs) (hm : MR I B w0 w' p A' rd' (SG rs bs)) (hk : Keeps (SG rs bs) w w') : Scn I B w0 w' p A' rd' rs bs :=
  ⟨hm, fun r hr => row_keep (h.rows r hr) fun k hk' => hk k (.inl ⟨r, hr, hk'⟩), fun b hb => ⟨(h.boxes b hb).1, (hk b.1 (.inr ⟨b, hb, rfl⟩)).trans (h.boxes b hb).2⟩, h.rr, h.bb, h.rb⟩
theorem Scn.mut {f : FuncId} {args : Array Value} {Q : Ending → Ar → Int → Prop} (h : Scn I B w0 w p A rd rs bs) (hc : ∀ F, I.Is w p A rd F → Calls Try.prog f args w (Mut I p F Q w)) :
    Calls Try.prog f args w fun e w' => ∃ A' rd', Q e A' rd' ∧ Scn I B w0 w' p A' rd' rs bs := by
  obtain ⟨F, f1, f2, f3⟩ := h.mr.has
  refine (hc F f1).mono ?_
  rintro e w1 ⟨F', A', rd', hal, hI, hq⟩
  have hst := h.mr.stepA f2 f3 hal hI
  exact ⟨A', rd', hq, h.stepA hst.1 hst.2⟩
theorem Scn.free (h : Scn I B w0 w p A rd rs bs) : Calls Try.prog 12 #[p] w fun e w' => e = .returned (.int .i64 (A.σ.free.length : Int)) ∧ Scn I B w0 w' p A rd rs bs := by
  obtain ⟨F, f1, f2, f3⟩ := h.mr.has
  refine (I.freeN p A rd F w f1).mono ?_
  rintro e w1 ⟨h3, q, h4⟩
  exact ⟨h3, by subst h4; exact h.calm (below_drewN (Below.refl _ _) _)⟩
end
/-- a dump's rows, later -/
theorem Scn.slots_of {I : AImpl} {B : Nat} {w0 w : World} {p : Value} {A A0 : Ar} {rd : Int} {rs : List Row} {bs : List (Nat × Obj)} {st : List Nat} {held : Nat → Nat} {a : Option Addr} {c N : Nat} (h : Scn I B w0 w p A rd rs bs) (hv : A0.Inv st held) (hN : A0.σ.cap = N) (hm : (⟨92, 11, .slice a N c, N, slotsV A0⟩ : Row) ∈ rs) : SlotsAt w a N A0.sl := by
  subst hN
  exact slots_at hv (h.rows _ hm)
theorem Scn.dumped {I : AImpl} {B : Nat} {w0 w : World} {p : Value} {A A0 : Ar} {rd : Int} {u : Row} {rs : List Row} {bs : List (Nat × Obj)} {st : List Nat} {held : Nat → Nat} {a : Option Addr} {c N : Nat} (h : Scn I B w0 w p A rd (u :: ⟨92, 11, .slice a N c, N, slotsV A0⟩ :: rs) bs) (hv : A0.Inv st held) (hN : A0.σ.cap = N) : SlotsAt w a N A0.sl := h.slots_of (c := c) hv hN (List.Mem.tail _ (List.Mem.head _))
theorem made_ens {w w' : World} {l : List En} {e : Ending} (h : MadeEns w l e w') (hw : ∀ e ∈ l, i64R e.key ∧ i64R e.val) {N : Nat} (hN : l.length = N) : ∃ a c, e = .returned (.slice a N c) ∧ EnsAt w' a l ∧ Below w.heap.size w w' := by
  subst hN
  obtain ⟨a, c, h1, h2, h3⟩ := h
  exact ⟨a, c, h1, ens_at h2 hw, h3⟩
theorem hof_nil : hof [] = fun _ => 0 := by
  funext i
  unfold hof
  split <;> simp
theorem hof_le (l : List Nat) (j : Nat) : hof l j ≤ l.length := by
  unfold hof
  split
  · exact Nat.zero_le _
  · exact List.count_le_length
end Go.Proofs.Ytehaffcjoafkcaa
set_option linter.unusedVariables false
set_option linter.unusedSimpArgs false
namespace Go.Proofs.Ytehaffcjoafkcaa
open Go.RowKit
def in64 (x : Int) : Prop := -9223372036854775808 ≤ x ∧ x ≤ 9223372036854775807
def vld (x : Int) : Prop := 0 ≤ x ∧ x ≤ 65536
instance (x : Int) : Decidable (vld x) := by unfold vld; exact inferInstance
def needI (a b c more extra factor : Int) : Int := if vld a ∧ vld b ∧ vld c then extra + factor * (xhI (a + b + c + more) + 2) else -1
theorem xhI_in {n : Int} (h0 : 0 ≤ n) (h1 : n ≤ 1000000) : 0 ≤ xhI n ∧ xhI n < 80 := by
  unfold xhI
  rw [if_pos ⟨h0, by omega⟩]
  have := (xh_spec (n := n.toNat) (by omega)).2.1
  omega
def joinI (l r : Int) : Int := needI l r 0 1 0 4
def splitI (n : Int) : Int := needI n 0 0 0 0 12
end Go.Proofs.Ytehaffcjoafkcaa
set_option linter.unusedVariables false
set_option linter.unusedSimpArgs false
namespace Go.Proofs.Ytehaffcjoafkcaa
open Go.RowKit
/-- j is the tree t with the entries l in B; what A had stays; one reference more, to j -/
structure Got (A : Ar) (held : Nat → Nat) (B : Ar) (j : Nat) (t : Tr) (l : List En) : Prop where
  kept : A.Kept B
  gen : ∀ i, A.σ.on i = true → B.σ.gen i = A.σ.gen i
  inv : B.Inv [] (pls held j)
  agg : B.Agg
  sub : Sub B j t
  ents : t.ents B.nd = l
  bal : t.bal = true
theorem Got.tree {A B : Ar} {held : Nat → Nat} {j : Nat} {t : Tr} {l : List En} (h : Got A held B j t l) (hu : Up l) : TreeAt B j t l := ⟨⟨_, h.inv⟩, h.agg, h.sub, h.bal, h.ents, hu⟩
theorem TreeAt.kept {A B : Ar} {held : Nat → Nat} {i : Nat} {t : Tr} {l : List En} (h : TreeAt A i t l) (hk : A.Kept B) (hB : B.Inv [] held) (hg : B.Agg) : TreeAt B i t l :=
  ⟨⟨_, hB⟩, hg, h.sub.kept hk, h.bal, (Tr.ents_kept hk h.sub).trans h.ents, h.up⟩
theorem hof_pls (l : List Nat) (i : Nat) : pls (hof l) i = hof (l ++ [i]) := by
  by_cases h : i = 0
  · subst h; rw [pls_zero, hof_zero]
  · unfold pls; rw [if_neg h, hof_more l h]
/-- two trees -/
structure Got2 (A : Ar) (held : Nat → Nat) (B : Ar) (j : Nat) (t : Tr) (l : List En) (k : Nat) (u : Tr) (m : List En) : Prop where
  kept : A.Kept B
  gen : ∀ i, A.σ.on i = true → B.σ.gen i = A.σ.gen i
  inv : B.Inv [] (pls (pls held j) k)
  agg : B.Agg
  sub : Sub B j t
  ents : t.ents B.nd = l
  bal : t.bal = true
  sub2 : Sub B k u
  ents2 : u.ents B.nd = m
  bal2 : u.bal = true
/-- numbers of 64 bits -/
def WfL (l : List En) : Prop := ∀ y ∈ l, i64R y.key ∧ i64R y.val
def AllLt (l : List En) (k : Int) : Prop := ∀ y ∈ l, y.key < k
def AllGt (l : List En) (k : Int) : Prop := ∀ y ∈ l, k < y.key
/-- how often Join and Concat may read -/
def joinBd (n m : Nat) : Int := 60 * ((xh (n + m + 1) : Int) + 2)
def splitBd (n : Nat) : Int := 120 * ((xh n : Int) + 2)
def JoinQ (A : Ar) (rd : Int) (held : Nat → Nat) (L R : Nat) (ll lr : List En) (e : En) (en : Ending) (B : Ar) (rd' : Int) : Prop :=
  rd ≤ rd' ∧ rd' ≤ rd + joinBd ll.length lr.length ∧ (
  (¬ (AllLt ll e.key ∧ AllGt lr e.key) ∧ en = .returned (.tuple #[.int .u32 0, .int .i64 7]) ∧ B = A) ∨
  ((AllLt ll e.key ∧ AllGt lr e.key) ∧ (A.σ.free.length : Int) < joinI (ll.length : Int) (lr.length : Int) ∧ en = .returned (.tuple #[.int .u32 0, .int .i64 2]) ∧ B = A) ∨
  ((AllLt ll e.key ∧ AllGt lr e.key) ∧ joinI (ll.length : Int) (lr.length : Int) ≤ (A.σ.free.length : Int) ∧ ∃ (j : Nat) (t : Tr), en = .returned (.tuple #[.int .u32 (j : Int), .int .i64 0]) ∧ Got A held B j t (ll ++ e :: lr) ∧
    (Proofs.Ytehaffcjoafkcaa.bal (ll.length : Int) (lr.length : Int) = true → (B.nd j).left = L ∧ (B.nd j).right = R ∧ B.σ.free.length + 1 = A.σ.free.length)))
def lowE (l : List En) (k : Int) : List En := l.filter fun y => decide (y.key < k)
def highE (l : List En) (k : Int) : List En := l.filter fun y => decide (k < y.key)
/-- the tree needs no change -/
def wholeE (l : List En) (k : Int) : Prop := getE l k = none ∧ (lowE l k = [] ∨ highE l k = [])
def SplitQ (A : Ar) (rd : Int) (held : Nat → Nat) (i : Nat) (l : List En) (k : Int) (en : Ending) (B : Ar) (rd' : Int) : Prop :=
  rd ≤ rd' ∧ rd' ≤ rd + splitBd l.length ∧ (
  (wholeE l k ∧ ∃ (x y : Nat) (tx ty : Tr), en = .returned (.tuple #[.int .u32 (x : Int), .int .i64 0, .bool false, .int .u32 (y : Int), .int .i64 0]) ∧ Got2 A held B x tx (lowE l k) y ty (highE l k) ∧ (lowE l k ≠ [] → x = i) ∧ (highE l k ≠ [] → y = i) ∧ B.σ.free.length = A.σ.free.length) ∨
  (¬ wholeE l k ∧ (A.σ.free.length : Int) < splitI (l.length : Int) ∧ en = .returned (.tuple #[.int .u32 0, .int .i64 0, .bool false, .int .u32 0, .int .i64 2]) ∧ B = A) ∨
  (¬ wholeE l k ∧ splitI (l.length : Int) ≤ (A.σ.free.length : Int) ∧ ∃ (x y : Nat) (tx ty : Tr), en = .returned (.tuple #[.int .u32 (x : Int), .int .i64 ((getE l k).elim 0 (·.val)), .bool (getE l k).isSome, .int .u32 (y : Int), .int .i64 0]) ∧ Got2 A held B x tx (lowE l k) y ty (highE l k)))
structure JoinImpl (I : AImpl) : Prop where
  join : ∀ {p : Value} {A : Ar} {rd : Int} {F : Nat → Prop} {held : Nat → Nat} {L R : Nat} {tl tr : Tr} {ll lr : List En} (e : En) (w : World), I.Is w p A rd F → A.Inv [] held → (∀ j, held j ≤ 1048000) → TreeAt A L tl ll → TreeAt A R tr lr → WfL ll → WfL lr → 0 ≤ rd → rd ≤ 1099511000000 → i64R e.key → i64R e.val →
    Calls Try.prog 9 #[p, .int .u32 (L : Int), .agg #[.int .i64 e.key, .int .i64 e.val], .int .u32 (R : Int)] w (Mut I p F (JoinQ A rd held L R ll lr e) w)
  split : ∀ {p : Value} {A : Ar} {rd : Int} {F : Nat → Prop} {held : Nat → Nat} {i : Nat} {t : Tr} {l : List En} (k : Int) (w : World), I.Is w p A rd F → A.Inv [] held → (∀ j, held j ≤ 1048000) → TreeAt A i t l → WfL l → 0 ≤ rd → rd ≤ 1099511000000 → i64R k →
    Calls Try.prog 8 #[p, .int .u32 (i : Int), .int .i64 k] w (Mut I p F (SplitQ A rd held i l k) w)
end Go.Proofs.Ytehaffcjoafkcaa
set_option linter.unusedVariables false
namespace Go.Proofs.Ytehaffcjoafkcaa
/-- balanced, by weights -/
def wb (a b : Nat) : Prop := a ≤ 3 * b ∧ b ≤ 3 * a
theorem wb.symm {a b : Nat} (h : wb a b) : wb b a := ⟨h.2, h.1⟩
/-- how heavy the heavy side may be -/
def hv (l r : Nat) : Prop := 3 * r ≤ 13 * l ∨ r ≤ 3 * l + 3
theorem wb_single {l r a b : Nat} (hl : 0 < l) (ha : 0 < a) (hb : 0 < b) (hr : a + b = r) (hab : wb a b) (hn : 3 * l < r) (hh : hv l r) (hs : a < 2 * b) : wb l a ∧ wb (l + a) b := by
  unfold wb hv at *
  omega
theorem wb_double {l r a b c d : Nat} (hl : 0 < l) (hb : 0 < b) (hc : 0 < c) (hd : 0 < d) (hr : a + b = r) (hab : wb a b) (hn : 3 * l < r) (hh : hv l r) (hs : 2 * b ≤ a) (hcd : wb c d) (ha : c + d = a) : wb l c ∧ wb d b ∧ wb (l + c) (d + b) := by
  unfold wb hv at *
  omega
/-- a light tree is joined to the inner side of a balanced node -/
theorem hv_join {l r x : Nat} (h : wb l r) (hx : 3 * x < l + r) : hv l (r + x) := by
  unfold wb hv at *
  omega
end Go.Proofs.Ytehaffcjoafkcaa
set_option linter.unusedVariables false
namespace Go.Proofs.Ytehaffcjoafkcaa
/-- the caller's references and the call's own, X -/
def plL (held : Nat → Nat) (X : List Nat) : Nat → Nat := fun i => held i + hof X i
theorem plL_nil (held : Nat → Nat) : plL held [] = held := by
  funext i
  show held i + hof [] i = held i
  rw [hof_nil]
  rfl
theorem hof_cons (x : Nat) (X : List Nat) (j : Nat) : hof (x :: X) j = hof X j + (if x ≠ 0 ∧ j = x then 1 else 0) := by
  unfold hof
  by_cases h : j = 0
  · rw [if_pos h, if_pos h, if_neg (fun q => q.1 (q.2 ▸ h))]
  · rw [if_neg h, if_neg h, List.count_cons]
    by_cases e : j = x
    · subst e; rw [if_pos (by simp), if_pos ⟨h, rfl⟩]
    · rw [if_neg (by simp; exact fun q => e q.symm), if_neg (fun q => e q.2)]
theorem plL_cons (held : Nat → Nat) (x : Nat) (X : List Nat) : plL held (x :: X) = pls (plL held X) x := by
  funext j
  rw [pls_at]
  show held j + hof (x :: X) j = held j + hof X j + _
  rw [hof_cons, Nat.add_assoc]
theorem plL_le {held : Nat → Nat} {m : Nat} (h : ∀ j, held j ≤ m) (X : List Nat) (j : Nat) : plL held X j ≤ m + X.length := by
  have h1 := h j
  have h2 := hof_le X j
  show held j + hof X j ≤ _
  omega
theorem plL_perm (held : Nat → Nat) {X Y : List Nat} (h : X.Perm Y) : plL held X = plL held Y := by
  funext j
  show held j + hof X j = held j + hof Y j
  unfold hof
  rw [h.count_eq]
theorem plL_pos {held : Nat → Nat} {x : Nat} {X : List Nat} (h : x ∈ X) (h0 : x ≠ 0) : 0 < plL held X x := by
  have := hof_pos h h0
  show 0 < held x + hof X x
  omega
theorem less_plL {held : Nat → Nat} {x : Nat} {X : List Nat} (h0 : x ≠ 0) : less (plL held (x :: X)) x = plL held X := by
  rw [plL_cons]
  funext j
  unfold less pls more
  rw [if_neg h0]
  by_cases e : j = x
  · subst e; show (if j = j then _ - 1 else _) = _; rw [if_pos rfl]; show (if j = j then _ else _) - 1 = _; rw [if_pos rfl]; omega
  · show (if j = x then _ else _) = _; rw [if_neg e]; show (if j = x then _ else _) = _; rw [if_neg e]
/-- B came of A; X: the references that the call holds -/
structure Mid (A : Ar) (held : Nat → Nat) (B : Ar) (X : List Nat) : Prop where
  base : A.Inv [] held
  bagg : A.Agg
  kept : A.Kept B
  gen : ∀ i, A.σ.on i = true → B.σ.gen i = A.σ.gen i
  inv : B.Inv [] (plL held X)
  agg : B.Agg
theorem Mid.start {A : Ar} {held : Nat → Nat} (h : A.Inv [] held) (ha : A.Agg) : Mid A held A [] := ⟨h, ha, .refl A, fun _ _ => rfl, by rw [plL_nil]; exact h, ha⟩
theorem Mid.perm {A B : Ar} {held : Nat → Nat} {X Y : List Nat} (h : Mid A held B X) (hp : X.Perm Y) : Mid A held B Y := ⟨h.base, h.bagg, h.kept, h.gen, plL_perm held hp ▸ h.inv, h.agg⟩
/-- a tree, its balance and its entries -/
structure At (B : Ar) (i : Nat) (t : Tr) (l : List En) : Prop where
  sub : Sub B i t
  bal : t.bal = true
  ents : t.ents B.nd = l
theorem TreeAt.at_ {A : Ar} {i : Nat} {t : Tr} {l : List En} (h : TreeAt A i t l) : At A i t l := ⟨h.sub, h.bal, h.ents⟩
theorem At.nil (B : Ar) : At B 0 .nil [] := ⟨.nil, rfl, rfl⟩
theorem At.kept {B C : Ar} {i : Nat} {t : Tr} {l : List En} (h : At B i t l) (hk : B.Kept C) : At C i t l := ⟨h.sub.kept hk, h.bal, (Tr.ents_kept hk h.sub).trans h.ents⟩
theorem At.size {B : Ar} {i : Nat} {t : Tr} {l : List En} (h : At B i t l) : t.size = l.length := by rw [← h.ents, Tr.ents_len]
theorem At.sz {B : Ar} {i : Nat} {t : Tr} {l : List En} (h : At B i t l) (ha : B.Agg) : B.sz i = (l.length : Int) := by rw [h.sub.size ha, h.size]
theorem At.idx {B : Ar} {i : Nat} {t : Tr} {l : List En} (h : At B i t l) : B.Idx i := h.sub.idx
/-- the empty tree is 0 -/
theorem At.zero_iff {B : Ar} {held : Nat → Nat} {i : Nat} {t : Tr} {l : List En} (h : At B i t l) : i = 0 ↔ l = [] := by
  constructor
  · rintro rfl
    have := h.size
    obtain ⟨h1, _, h3⟩ := h
    cases h1 with
    | nil => exact List.eq_nil_of_length_eq_zero this.symm
    | node _ _ _ h0 => exact absurd rfl h0
  · intro e
    have := h.size
    obtain ⟨h1, _, h3⟩ := h
    cases h1 with
    | nil => rfl
    | node _ l r _ => rw [e] at this; exact absurd this (by show l.size + r.size + 1 ≠ 0; omega)
/-- weights of two trees that a node may have -/
def wbL (l m : List En) : Prop := wb (l.length + 1) (m.length + 1)
theorem bal_wb {a b : Nat} (h : Proofs.Ytehaffcjoafkcaa.bal (a : Int) (b : Int) = true) : wb (a + 1) (b + 1) := by
  have h1 := of_decide_eq_true h
  exact ⟨by omega, by omega⟩
theorem wb_bal {a b : Nat} (ha : a ≤ 2147483647) (hb : b ≤ 2147483647) (h : wb (a + 1) (b + 1)) : Proofs.Ytehaffcjoafkcaa.bal (a : Int) (b : Int) = true :=
  decide_eq_true ⟨by omega, by omega, by omega, by omega, by have := h.1; omega, by have := h.2; omega⟩
/-- the root and its children -/
theorem At.split {B : Ar} {i : Nat} {t : Tr} {l : List En} (h : At B i t l) (h0 : i ≠ 0) :
    ∃ tl tr ll lr, t = .node i tl tr ∧ l = ll ++ ⟨(B.nd i).key, (B.nd i).val⟩ :: lr ∧ At B (B.nd i).left tl ll ∧ At B (B.nd i).right tr lr ∧ wbL ll lr := by
  obtain ⟨hs, hb, he⟩ := h
  cases hs with
  | nil => exact absurd rfl h0
  | node i tl tr _ hon hl hr =>
    unfold Tr.bal at hb
    simp only [Bool.and_eq_true] at hb
    rw [Tr.ents_node] at he
    refine ⟨tl, tr, _, _, rfl, he.symm, ⟨hl, hb.1.2, rfl⟩, ⟨hr, hb.2, rfl⟩, ?_⟩
    have h1 := bal_wb hb.1.1
    unfold wbL
    rw [Tr.ents_len, Tr.ents_len]
    exact h1
/-- a node over two trees -/
theorem At.join {B : Ar} (ha : B.Agg) {i l r : Nat} {e : En} {tl tr : Tr} {ll lr : List En} (h0 : i ≠ 0) (hon : B.σ.on i = true) (hk : (B.nd i).key = e.key ∧ (B.nd i).val = e.val ∧ (B.nd i).left = l ∧ (B.nd i).right = r)
    (hl : At B l tl ll) (hr : At B r tr lr) (hw : wbL ll lr) : At B i (.node i tl tr) (ll ++ e :: lr) := by
  obtain ⟨k1, k2, k3, k4⟩ := hk
  have hs : Sub B i (.node i tl tr) := .node i tl tr h0 hon (by rw [k3]; exact hl.sub) (by rw [k4]; exact hr.sub)
  have hz := hs.size ha
  have hm := (ha.size i hon).2
  have h1 := hl.size
  have h2 := hr.size
  have h3 : (Tr.node i tl tr).size = tl.size + tr.size + 1 := rfl
  unfold Ar.sz at hz
  rw [if_neg h0] at hz
  refine ⟨hs, ?_, ?_⟩
  · unfold Tr.bal
    rw [hl.bal, hr.bal, wb_bal (by omega) (by omega) (by rw [h1, h2]; exact hw)]
    rfl
  · rw [Tr.ents_node, hl.ents, hr.ents, k1, k2]
theorem run_gen : ∀ (f : Nat) (A : Ar) (s : List Nat), (Ar.run f A s).1.σ.gen = A.σ.gen
  | 0, A, s => rfl
  | f + 1, A, [] => rfl
  | f + 1, A, i :: t => by
    unfold Ar.run
    by_cases h0 : i = 0
    · rw [if_pos h0]; exact run_gen f A t
    · rw [if_neg h0]
      by_cases h1 : A.cnt i = 1
      · rw [if_pos h1]; exact (run_gen f (A.drop i) _).trans rfl
      · rw [if_neg h1]; exact (run_gen f (A.dec i) t).trans rfl
theorem sub_gone' {A : Ar} {r : Nat} {held : Nat → Nat} (hv : (A.gone r).Inv [] held) {i : Nat} {t : Tr} (h : Sub A i t) : (i = 0 ∨ (A.gone r).σ.on i = true) → Sub (A.gone r) i t := by
  induction h with
  | nil => exact fun _ => .nil
  | node i l r' h0 h1 hl hr ihl ihr =>
    intro hi
    have hon := hi.resolve_left h0
    have hnd : (A.gone r).nd i = A.nd i := (run_on A.fuel A [r] i hon).2
    have hc := hv.child i hon
    rw [hnd] at hc
    exact .node i l r' h0 hon (by rw [hnd]; exact ihl hc.1) (by rw [hnd]; exact ihr hc.2)
theorem ents_gone' {A : Ar} {r : Nat} {i : Nat} {t : Tr} (h : Sub (A.gone r) i t) : t.ents (A.gone r).nd = t.ents A.nd := by
  unfold Tr.ents
  exact List.map_congr_left fun j hj => by
    have e : (A.gone r).nd j = A.nd j := (run_on A.fuel A [r] j (h.on j hj)).2
    rw [e]
theorem At.gone {B : Ar} {r i : Nat} {t : Tr} {l : List En} {held : Nat → Nat} (h : At B i t l) (hv : (B.gone r).Inv [] held) (hi : (B.gone r).Idx i) : At (B.gone r) i t l := by
  have hs := sub_gone' hv h.sub hi
  exact ⟨hs, h.bal, (ents_gone' hs).trans h.ents⟩
/-- what the caller holds stays where a reference of the call's is given back -/
theorem Mid.give {A B : Ar} {held : Nat → Nat} {x : Nat} {X : List Nat} (h : Mid A held B (x :: X)) :
    B.Inv [x] (plL held X) ∧ B.Idx x ∧ Mid A held (B.gone x) X ∧ B.σ.free.length ≤ (B.gone x).σ.free.length ∧ (∀ i, i ∈ X → B.Idx i → (B.gone x).Idx i) ∧ ∀ i, (B.gone x).σ.on i = true → B.σ.on i = true ∧ (B.gone x).nd i = B.nd i := by
  have hx : B.Idx x := by
    by_cases h0 : x = 0
    · exact .inl h0
    · exact .inr (h.inv.held x (plL_pos (List.mem_cons_self ..) h0))
  have hv : B.Inv [x] (plL held X) := by
    by_cases h0 : x = 0
    · subst h0
      have e : plL held (0 :: X) = plL held X := by rw [plL_cons]; rfl
      exact (e ▸ h.inv).give0
    · rw [← less_plL h0]
      exact h.inv.give (plL_pos (List.mem_cons_self ..) h0)
  obtain ⟨g1, g2, g3, g4⟩ := Ar.gone_ok hv h.agg
  have hon : ∀ i, (B.gone x).σ.on i = true → B.σ.on i = true ∧ (B.gone x).nd i = B.nd i := fun i hi => run_on B.fuel B [x] i hi
  have hr : ∀ i, A.Reach held i → (B.gone x).Idx i := fun i hi => by
    induction hi with
    | root i hi => exact .inr (g1.held i (by show 0 < held i + _; omega))
    | left k hk _ ih =>
      have hne : k ≠ 0 := fun e => by have := h.base.ok.on k hk; omega
      have h2 := ih.resolve_left hne
      have h3 := (g1.child k h2).1
      rw [(hon k h2).2, h.kept.nd k hk] at h3
      exact h3
    | right k hk _ ih =>
      have hne : k ≠ 0 := fun e => by have := h.base.ok.on k hk; omega
      have h2 := ih.resolve_left hne
      have h3 := (g1.child k h2).2
      rw [(hon k h2).2, h.kept.nd k hk] at h3
      exact h3
  have hA : ∀ i, A.σ.on i = true → (B.gone x).σ.on i = true := fun i hi => by
    have h1 := Ar.reach_all h.base h.bagg ((2147483647 - (A.nd i).size).toNat + 1) i hi (by have := (h.bagg.size i hi).2; omega)
    exact (hr i h1).resolve_left fun e => by have := h.base.ok.on i hi; omega
  refine ⟨hv, hx, ⟨h.base, h.bagg, ⟨g3.trans h.kept.cap, hA, fun i hi => (hon i (hA i hi)).2.trans (h.kept.nd i hi)⟩, fun i hi => ?_, g1, g2⟩, by omega, fun i hi hi2 => ?_, hon⟩
  · have e : (B.gone x).σ.gen = B.σ.gen := run_gen B.fuel B [x]
    rw [e]
    exact h.gen i hi
  · by_cases h0 : i = 0
    · exact .inl h0
    · exact .inr (g1.held i (plL_pos hi h0))
theorem Mid.made {A B : Ar} {held : Nat → Nat} {X : List Nat} (h : Mid A held B X) {i : Nat} {t : List Nat} (hf : B.σ.free = i :: t) {key val : Int} {l r : Nat} (hl : B.Idx l) (hr : B.Idx r) (hs : (B.node key val l r).size ≤ 2147483647) :
    Mid A held (B.made i t (B.node key val l r)) (i :: X) ∧ B.Kept (B.made i t (B.node key val l r)) ∧ (B.made i t (B.node key val l r)).σ.free = t ∧ i ≠ 0 ∧ (B.made i t (B.node key val l r)).σ.on i = true ∧ (B.made i t (B.node key val l r)).nd i = B.node key val l r := by
  have hi := (h.inv.ok.free i).1 (by rw [hf]; simp)
  have hne : ∀ j, B.σ.on j = true → j ≠ i := fun j hj e => by subst e; rw [hi.2.2] at hj; cases hj
  have h0 : i ≠ 0 := by omega
  have hk := Ar.Kept.made (B.node key val l r) h.inv hf
  refine ⟨⟨h.base, h.bagg, h.kept.trans hk, fun j hj => ?_, ?_, h.agg.made h.inv hf hl hr hs⟩, hk, rfl, h0, take_same _ _ _, if_pos rfl⟩
  · show (B.σ.take i t).gen j = A.σ.gen j
    unfold St.take
    simp [hne j (h.kept.on j hj), h.gen j hj]
  · rw [plL_cons]
    unfold pls
    rw [if_neg h0]
    exact h.inv.made hf hl hr
theorem Mid.ret {A B : Ar} {held : Nat → Nat} {X : List Nat} (h : Mid A held B X) {i : Nat} (hi : B.Idx i) : Mid A held (B.ret i) (i :: X) ∧ B.Kept (B.ret i) ∧ (B.ret i).σ = B.σ ∧ (B.ret i).nd = B.nd := by
  by_cases h0 : i = 0
  · subst h0
    have e : B.ret 0 = B := if_pos rfl
    have e2 : plL held (0 :: X) = plL held X := by rw [plL_cons]; rfl
    rw [e]
    exact ⟨⟨h.base, h.bagg, h.kept, h.gen, e2.symm ▸ h.inv, h.agg⟩, .refl B, rfl, rfl⟩
  · have hon := hi.resolve_left h0
    have e : B.ret i = B.inc i := if_neg h0
    rw [e]
    refine ⟨⟨h.base, h.bagg, h.kept.trans ⟨rfl, fun _ q => q, fun _ _ => rfl⟩, h.gen, ?_, h.agg.inc i⟩, ⟨rfl, fun _ q => q, fun _ _ => rfl⟩, rfl, rfl⟩
    rw [plL_cons]
    unfold pls
    rw [if_neg h0]
    exact h.inv.inc hon
theorem Mid.rot {A B C : Ar} {held : Nat → Nat} {X : List Nat} {j n : Nat} (h : Mid A held B X) (ht : Turned B (plL held X) C j n) : Mid A held C (j :: X) ∧ B.Kept C ∧ C.σ.free.length + n = B.σ.free.length ∧ j ≠ 0 := by
  have h0 : j ≠ 0 := fun e => by
    have h1 := ht.inv.held j (by unfold more; rw [if_pos rfl]; omega)
    have := ht.inv.ok.on j h1
    omega
  refine ⟨⟨h.base, h.bagg, h.kept.trans ht.kept, fun i hi => (ht.gen i (h.kept.on i hi)).trans (h.gen i hi), ?_, ht.agg⟩, ht.kept, ht.free, h0⟩
  rw [plL_cons]
  unfold pls
  rw [if_neg h0]
  exact ht.inv
/-- the call ends with one tree -/
theorem Mid.got {A B : Ar} {held : Nat → Nat} {j : Nat} {t : Tr} {l : List En} (h : Mid A held B [j]) (ha : At B j t l) : Got A held B j t l :=
  ⟨h.kept, h.gen, by have := h.inv; rw [plL_cons, plL_nil] at this; exact this, h.agg, ha.sub, ha.ents, ha.bal⟩
theorem Mid.got2 {A B : Ar} {held : Nat → Nat} {j k : Nat} {t u : Tr} {l m : List En} (h : Mid A held B [k, j]) (ha : At B j t l) (hb : At B k u m) : Got2 A held B j t l k u m :=
  ⟨h.kept, h.gen, by have := h.inv; rw [plL_cons, plL_cons, plL_nil] at this; exact this, h.agg, ha.sub, ha.ents, ha.bal, hb.sub, hb.ents, hb.bal⟩
/-- a call of such a function in the midst of another -/
theorem Mid.nest {A B C : Ar} {held : Nat → Nat} {X Y : List Nat} (h : Mid A held B X) (h2 : Mid B (plL held X) C Y) : Mid A held C (Y ++ X) := by
  refine ⟨h.base, h.bagg, h.kept.trans h2.kept, fun i hi => (h2.gen i (h.kept.on i hi)).trans (h.gen i hi), ?_, h2.agg⟩
  have e : plL held (Y ++ X) = plL (plL held X) Y := by
    funext j
    show held j + hof (Y ++ X) j = held j + hof X j + hof Y j
    unfold hof
    split
    · rfl
    · rw [List.count_append]; omega
  rw [e]
  exact h2.inv
theorem NewIn.nz {B C : Ar} {hd : Nat → Nat} (hv : C.Inv [] hd) {j : Nat} (h : NewIn B C j) : j ≠ 0 := by
  have := hv.ok.on j h.1
  omega
/-- the single rotation leaves both nodes balanced -/
def sgl (l inner outer : Int) : Bool := Proofs.Ytehaffcjoafkcaa.bal l inner && Proofs.Ytehaffcjoafkcaa.bal (l + 1 + inner) outer
theorem sgl_wb {l a b : Nat} (h : sgl (l : Int) (a : Int) (b : Int) = true) : wb (l + 1) (a + 1) ∧ wb (l + 1 + (a + 1)) (b + 1) := by
  unfold sgl at h
  rw [Bool.and_eq_true] at h
  have h1 := bal_wb h.1
  have h2 := bal_wb (a := l + 1 + a) (b := b) (by have := h.2; rw [Int.natCast_add, Int.natCast_add]; exact this)
  exact ⟨h1, by rw [← Nat.add_assoc]; exact h2⟩
theorem wb_sgl {l a b : Nat} (hs : l + a + b + 2 ≤ 2147483647) (h1 : wb (l + 1) (a + 1)) (h2 : wb (l + 1 + (a + 1)) (b + 1)) : sgl (l : Int) (a : Int) (b : Int) = true := by
  unfold sgl
  rw [Bool.and_eq_true]
  have h3 := wb_bal (a := l + 1 + a) (b := b) (by omega) (by omega) (by rw [Nat.add_assoc]; exact h2)
  rw [Int.natCast_add, Int.natCast_add] at h3
  exact ⟨wb_bal (by omega) (by omega) h1, h3⟩
/-- the right side is too heavy: which rotation, and what it makes -/
theorem heavy_right {B : Ar} {hd : Nat → Nat} (hI : B.Inv [] hd) (ha : B.Agg) {i L R : Nat} {e : En} {tl tr : Tr} {ll lr : List En} (hon : B.σ.on i = true) (hn : (B.nd i).key = e.key ∧ (B.nd i).val = e.val ∧ (B.nd i).left = L ∧ (B.nd i).right = R)
    (hL : At B L tl ll) (hR : At B R tr lr) (hw : 3 * (ll.length + 1) < lr.length + 1) (hh : hv (ll.length + 1) (lr.length + 1)) (hsz : ll.length + lr.length + 1 ≤ 2147483647) :
    B.σ.on R = true ∧ 0 ≤ B.sz (B.nd R).left ∧ 0 ≤ B.sz (B.nd R).right ∧
    (sgl (ll.length : Int) (B.sz (B.nd R).left) (B.sz (B.nd R).right) = true → rform B 0 i = true ∧ ∀ C hd' j, B.Kept C → C.Inv [] hd' → C.Agg → RNodes B C 0 i j → ∃ t, At C j t (ll ++ e :: lr)) ∧
    (sgl (ll.length : Int) (B.sz (B.nd R).left) (B.sz (B.nd R).right) = false → rform B 2 i = true ∧ ∀ C hd' j, B.Kept C → C.Inv [] hd' → C.Agg → RNodes B C 2 i j → ∃ t, At C j t (ll ++ e :: lr)) := by
  obtain ⟨n1, n2, n3, n4⟩ := hn
  have hR0 : R ≠ 0 := fun h0 => by
    have := (hR.zero_iff (held := hd)).1 h0
    subst this
    simp at hw
  have hRon := hR.idx.resolve_left hR0
  obtain ⟨ta, tb, la, lb, rfl, rfl, hA, hB, hab⟩ := hR.split hR0
  have za := hA.sz ha
  have zb := hB.sz ha
  have hln : (la ++ (⟨(B.nd R).key, (B.nd R).val⟩ : En) :: lb).length + 1 = (la.length + 1) + (lb.length + 1) := by simp; omega
  rw [hln] at hw hh
  have hss : sgl (ll.length : Int) (B.sz (B.nd R).left) (B.sz (B.nd R).right) = true → wb (ll.length + 1) (la.length + 1) ∧ wb (ll.length + 1 + (la.length + 1)) (lb.length + 1) := fun q => by
    rw [za, zb] at q
    exact sgl_wb q
  have hdd : sgl (ll.length : Int) (B.sz (B.nd R).left) (B.sz (B.nd R).right) = false → 2 * (B.sz (B.nd R).right + 1) ≤ B.sz (B.nd R).left + 1 := fun q => by
    rcases Nat.lt_or_ge (la.length + 1) (2 * (lb.length + 1)) with hc | hc
    · obtain ⟨w1, w2⟩ := wb_single (l := ll.length + 1) (r := (la.length + 1) + (lb.length + 1)) (a := la.length + 1) (b := lb.length + 1) (by omega) (by omega) (by omega) rfl hab hw hh hc
      rw [za, zb, wb_sgl (by omega) w1 w2] at q
      cases q
    · omega
  refine ⟨hRon, by omega, by omega, fun hs => ?_, fun hs => ?_⟩
  · refine ⟨by unfold rform; rw [hon]; simp [n4, hR0], fun C hd' j hk hv' ha' hr => ?_⟩
    obtain ⟨z, j1, z1, m1, m2⟩ := hr
    rw [n4] at m1 m2
    obtain ⟨w1, w2⟩ := hss hs
    obtain ⟨a1, a2, a3, a4⟩ := m1
    obtain ⟨b1, b2, b3, b4⟩ := m2
    have hz := At.join ha' (z1.nz hv') z1.1 (e := e) (l := L) (r := (B.nd R).left) ⟨b1.trans n1, b2.trans n2, b3.trans n3, b4⟩ (hL.kept hk) (hA.kept hk) w1
    have hj := At.join ha' (j1.nz hv') j1.1 (e := ⟨(B.nd R).key, (B.nd R).val⟩) ⟨a1, a2, a3, a4⟩ hz (hB.kept hk) (by unfold wbL; rw [show (ll ++ e :: la).length + 1 = ll.length + 1 + (la.length + 1) by simp; omega]; exact w2)
    exact ⟨_, by rw [show ll ++ e :: (la ++ (⟨(B.nd R).key, (B.nd R).val⟩ : En) :: lb) = (ll ++ e :: la) ++ ⟨(B.nd R).key, (B.nd R).val⟩ :: lb by simp]; exact hj⟩
  · have hs := hdd hs
    have hA0 : (B.nd R).left ≠ 0 := fun h0 => by
      have := (hA.zero_iff (held := hd)).1 h0
      subst this
      simp at za
      omega
    have hAon := hA.idx.resolve_left hA0
    obtain ⟨tc, td, lc, ld, rfl, rfl, hC, hD, hcd⟩ := hA.split hA0
    have hln2 : (lc ++ (⟨(B.nd (B.nd R).left).key, (B.nd (B.nd R).left).val⟩ : En) :: ld).length + 1 = (lc.length + 1) + (ld.length + 1) := by simp; omega
    refine ⟨by unfold rform; rw [hon]; simp [n4, hR0, hA0], fun C hd' j hk hv' ha' hr => ?_⟩
    obtain ⟨y, z, hyz, j1, y1, z1, m1, m2, m3⟩ := hr
    rw [n4] at m1 m2 m3
    obtain ⟨w1, w2, w3⟩ := wb_double (l := ll.length + 1) (r := (lc.length + 1) + (ld.length + 1) + (lb.length + 1)) (a := (lc.length + 1) + (ld.length + 1)) (b := lb.length + 1) (c := lc.length + 1) (d := ld.length + 1) (by omega) (by omega) (by omega) (by omega) rfl (by rw [← hln2]; exact hab) (by rw [← hln2]; exact hw) (by rw [← hln2]; exact hh) (by rw [← hln2]; omega) hcd rfl
    obtain ⟨a1, a2, a3, a4⟩ := m1
    obtain ⟨b1, b2, b3, b4⟩ := m2
    obtain ⟨c1, c2, c3, c4⟩ := m3
    have hy := At.join ha' (y1.nz hv') y1.1 (e := e) (l := L) (r := (B.nd (B.nd R).left).left) ⟨b1.trans n1, b2.trans n2, b3.trans n3, b4⟩ (hL.kept hk) (hC.kept hk) w1
    have hz := At.join ha' (z1.nz hv') z1.1 (e := ⟨(B.nd R).key, (B.nd R).val⟩) ⟨c1, c2, c3, c4⟩ (hD.kept hk) (hB.kept hk) w2
    have hj := At.join ha' (j1.nz hv') j1.1 (e := ⟨(B.nd (B.nd R).left).key, (B.nd (B.nd R).left).val⟩) ⟨a1, a2, a3, a4⟩ hy hz (by unfold wbL; rw [show (ll ++ e :: lc).length + 1 = ll.length + 1 + (lc.length + 1) by simp; omega, show (ld ++ (⟨(B.nd R).key, (B.nd R).val⟩ : En) :: lb).length + 1 = ld.length + 1 + (lb.length + 1) by simp; omega]; exact w3)
    exact ⟨_, by rw [show ll ++ e :: ((lc ++ (⟨(B.nd (B.nd R).left).key, (B.nd (B.nd R).left).val⟩ : En) :: ld) ++ (⟨(B.nd R).key, (B.nd R).val⟩ : En) :: lb) = (ll ++ e :: lc) ++ ⟨(B.nd (B.nd R).left).key, (B.nd (B.nd R).left).val⟩ :: (ld ++ ⟨(B.nd R).key, (B.nd R).val⟩ :: lb) by simp]; exact hj⟩
/-- the left side is too heavy -/
theorem heavy_left {B : Ar} {hd : Nat → Nat} (hI : B.Inv [] hd) (ha : B.Agg) {i L R : Nat} {e : En} {tl tr : Tr} {ll lr : List En} (hon : B.σ.on i = true) (hn : (B.nd i).key = e.key ∧ (B.nd i).val = e.val ∧ (B.nd i).left = L ∧ (B.nd i).right = R)
    (hL : At B L tl ll) (hR : At B R tr lr) (hw : 3 * (lr.length + 1) < ll.length + 1) (hh : hv (lr.length + 1) (ll.length + 1)) (hsz : ll.length + lr.length + 1 ≤ 2147483647) :
    B.σ.on L = true ∧ 0 ≤ B.sz (B.nd L).left ∧ 0 ≤ B.sz (B.nd L).right ∧
    (sgl (lr.length : Int) (B.sz (B.nd L).right) (B.sz (B.nd L).left) = true → rform B 1 i = true ∧ ∀ C hd' j, B.Kept C → C.Inv [] hd' → C.Agg → RNodes B C 1 i j → ∃ t, At C j t (ll ++ e :: lr)) ∧
    (sgl (lr.length : Int) (B.sz (B.nd L).right) (B.sz (B.nd L).left) = false → rform B 3 i = true ∧ ∀ C hd' j, B.Kept C → C.Inv [] hd' → C.Agg → RNodes B C 3 i j → ∃ t, At C j t (ll ++ e :: lr)) := by
  obtain ⟨n1, n2, n3, n4⟩ := hn
  have hL0 : L ≠ 0 := fun h0 => by
    have := (hL.zero_iff (held := hd)).1 h0
    subst this
    simp at hw
  have hLon := hL.idx.resolve_left hL0
  obtain ⟨tb, ta, lb, la, rfl, rfl, hB, hA, hab⟩ := hL.split hL0
  have za := hA.sz ha
  have zb := hB.sz ha
  have hln : (lb ++ (⟨(B.nd L).key, (B.nd L).val⟩ : En) :: la).length + 1 = (la.length + 1) + (lb.length + 1) := by simp; omega
  rw [hln] at hw hh
  have hab' : wb (la.length + 1) (lb.length + 1) := wb.symm hab
  have hss : sgl (lr.length : Int) (B.sz (B.nd L).right) (B.sz (B.nd L).left) = true → wb (lr.length + 1) (la.length + 1) ∧ wb (lr.length + 1 + (la.length + 1)) (lb.length + 1) := fun q => by
    rw [za, zb] at q
    exact sgl_wb q
  have hdd : sgl (lr.length : Int) (B.sz (B.nd L).right) (B.sz (B.nd L).left) = false → 2 * (B.sz (B.nd L).left + 1) ≤ B.sz (B.nd L).right + 1 := fun q => by
    rcases Nat.lt_or_ge (la.length + 1) (2 * (lb.length + 1)) with hc | hc
    · obtain ⟨w1, w2⟩ := wb_single (l := lr.length + 1) (r := (la.length + 1) + (lb.length + 1)) (a := la.length + 1) (b := lb.length + 1) (by omega) (by omega) (by omega) rfl hab' hw hh hc
      rw [za, zb, wb_sgl (by omega) w1 w2] at q
      cases q
    · omega
  refine ⟨hLon, by omega, by omega, fun hs => ?_, fun hs => ?_⟩
  · refine ⟨by unfold rform; rw [hon]; simp [n3, hL0], fun C hd' j hk hv' ha' hr => ?_⟩
    obtain ⟨z, j1, z1, m1, m2⟩ := hr
    rw [n3] at m1 m2
    obtain ⟨w1, w2⟩ := hss hs
    obtain ⟨a1, a2, a3, a4⟩ := m1
    obtain ⟨b1, b2, b3, b4⟩ := m2
    have hz := At.join ha' (z1.nz hv') z1.1 (e := e) (l := (B.nd L).right) (r := R) ⟨b1.trans n1, b2.trans n2, b3, b4.trans n4⟩ (hA.kept hk) (hR.kept hk) (wb.symm w1)
    have hj := At.join ha' (j1.nz hv') j1.1 (e := ⟨(B.nd L).key, (B.nd L).val⟩) ⟨a1, a2, a3, a4⟩ (hB.kept hk) hz (by unfold wbL; rw [show (la ++ e :: lr).length + 1 = lr.length + 1 + (la.length + 1) by simp; omega]; exact wb.symm w2)
    exact ⟨_, by rw [show (lb ++ (⟨(B.nd L).key, (B.nd L).val⟩ : En) :: la) ++ e :: lr = lb ++ ⟨(B.nd L).key, (B.nd L).val⟩ :: (la ++ e :: lr) by simp]; exact hj⟩
  · have hs := hdd hs
    have hA0 : (B.nd L).right ≠ 0 := fun h0 => by
      have := (hA.zero_iff (held := hd)).1 h0
      subst this
      simp at za
      omega
    have hAon := hA.idx.resolve_left hA0
    obtain ⟨td, tc, ld, lc, rfl, rfl, hD, hC, hcd⟩ := hA.split hA0
    have hln2 : (ld ++ (⟨(B.nd (B.nd L).right).key, (B.nd (B.nd L).right).val⟩ : En) :: lc).length + 1 = (lc.length + 1) + (ld.length + 1) := by simp; omega
    refine ⟨by unfold rform; rw [hon]; simp [n3, hL0, hA0], fun C hd' j hk hv' ha' hr => ?_⟩
    obtain ⟨y, z, hyz, j1, y1, z1, m1, m2, m3⟩ := hr
    rw [n3] at m1 m2 m3
    obtain ⟨w1, w2, w3⟩ := wb_double (l := lr.length + 1) (r := (lc.length + 1) + (ld.length + 1) + (lb.length + 1)) (a := (lc.length + 1) + (ld.length + 1)) (b := lb.length + 1) (c := lc.length + 1) (d := ld.length + 1) (by omega) (by omega) (by omega) (by omega) rfl (by rw [← hln2]; exact hab') (by rw [← hln2]; exact hw) (by rw [← hln2]; exact hh) (by rw [← hln2]; omega) (wb.symm hcd) rfl
    obtain ⟨a1, a2, a3, a4⟩ := m1
    obtain ⟨b1, b2, b3, b4⟩ := m2
    obtain ⟨c1, c2, c3, c4⟩ := m3
    have hy := At.join ha' (y1.nz hv') y1.1 (e := ⟨(B.nd L).key, (B.nd L).val⟩) ⟨b1, b2, b3, b4⟩ (hB.kept hk) (hD.kept hk) (wb.symm w2)
    have hz := At.join ha' (z1.nz hv') z1.1 (e := e) (l := (B.nd (B.nd L).right).right) (r := R) ⟨c1.trans n1, c2.trans n2, c3, c4.trans n4⟩ (hC.kept hk) (hR.kept hk) (wb.symm w1)
    have hj := At.join ha' (j1.nz hv') j1.1 (e := ⟨(B.nd (B.nd L).right).key, (B.nd (B.nd L).right).val⟩) ⟨a1, a2, a3, a4⟩ hy hz (by unfold wbL; rw [show (lc ++ e :: lr).length + 1 = lr.length + 1 + (lc.length + 1) by simp; omega, show (lb ++ (⟨(B.nd L).key, (B.nd L).val⟩ : En) :: ld).length + 1 = ld.length + 1 + (lb.length + 1) by simp; omega]; exact wb.symm w3)
    exact ⟨_, by rw [show (lb ++ (⟨(B.nd L).key, (B.nd L).val⟩ : En) :: (ld ++ (⟨(B.nd (B.nd L).right).key, (B.nd (B.nd L).right).val⟩ : En) :: lc)) ++ e :: lr = (lb ++ ⟨(B.nd L).key, (B.nd L).val⟩ :: ld) ++ ⟨(B.nd (B.nd L).right).key, (B.nd (B.nd L).right).val⟩ :: (lc ++ e :: lr) by simp]; exact hj⟩
end Go.Proofs.Ytehaffcjoafkcaa
set_option linter.unusedVariables false
namespace Go.Proofs.Ytehaffcjoafkcaa
theorem xh_up {m n : Nat} (h : m ≤ n) (hn : n ≤ 2147483647) : xh m ≤ xh n := xh_le hn (by have := (xh_spec (n := m) (by omega)).1; omega)
/-- a third more keys: a level more -/
theorem xh_grow {c b : Nat} (h : 4 * (c + 1) ≤ 3 * (b + 1)) (hb : b ≤ 2147483647) : xh c + 1 ≤ xh b := by
  have h1 := (xh_spec (n := c) (by omega)).1
  have h2 := wt_pos (xh c)
  refine xh_le hb ?_
  rw [wt_succ]
  omega
/-- how many levels a join goes down on the left of a tree, the other one having n keys -/
def jdl (n : Nat) : Tr → Nat
  | .nil => 0
  | .node _ l r => if 3 * (n + 1) < l.size + r.size + 2 then 1 + jdl n l else 0
/-- on the right -/
def jdr (n : Nat) : Tr → Nat
  | .nil => 0
  | .node _ l r => if 3 * (n + 1) < l.size + r.size + 2 then 1 + jdr n r else 0
theorem jdl_le {n : Nat} : ∀ {t : Tr}, t.bal = true → t.size ≤ 2147483647 → jdl n t = 0 ∨ (3 * (n + 1) < t.size + 1 ∧ jdl n t + xh n ≤ xh t.size)
  | .nil, _, _ => .inl rfl
  | .node i l r, hb, hs => by
    unfold Tr.bal at hb
    simp only [Bool.and_eq_true] at hb
    have hw := bal_wb hb.1.1
    have hz : (Tr.node i l r).size = l.size + r.size + 1 := rfl
    rw [hz] at hs ⊢
    unfold jdl
    by_cases hc : 3 * (n + 1) < l.size + r.size + 2
    · rw [if_pos hc]
      right
      have h1 := xh_grow (c := l.size) (b := l.size + r.size + 1) (by have := hw.1; omega) hs
      have h2 := xh_grow (c := n) (b := l.size + r.size + 1) (by omega) hs
      refine ⟨by omega, ?_⟩
      rcases jdl_le (n := n) (t := l) hb.1.2 (by omega) with h | ⟨_, h⟩
      · rw [h]; omega
      · omega
    · rw [if_neg hc]; exact .inl rfl
theorem jdr_le {n : Nat} : ∀ {t : Tr}, t.bal = true → t.size ≤ 2147483647 → jdr n t = 0 ∨ (3 * (n + 1) < t.size + 1 ∧ jdr n t + xh n ≤ xh t.size)
  | .nil, _, _ => .inl rfl
  | .node i l r, hb, hs => by
    unfold Tr.bal at hb
    simp only [Bool.and_eq_true] at hb
    have hw := bal_wb hb.1.1
    have hz : (Tr.node i l r).size = l.size + r.size + 1 := rfl
    rw [hz] at hs ⊢
    unfold jdr
    by_cases hc : 3 * (n + 1) < l.size + r.size + 2
    · rw [if_pos hc]
      right
      have h1 := xh_grow (c := r.size) (b := l.size + r.size + 1) (by have := hw.2; omega) hs
      have h2 := xh_grow (c := n) (b := l.size + r.size + 1) (by omega) hs
      refine ⟨by omega, ?_⟩
      rcases jdr_le (n := n) (t := r) hb.2 (by omega) with h | ⟨_, h⟩
      · rw [h]; omega
      · omega
    · rw [if_neg hc]; exact .inl rfl
/-- the levels of a join of two trees -/
def jd (t u : Tr) : Nat := if 3 * (t.size + 1) < u.size + 1 then jdl t.size u else jdr u.size t
/-- a join goes down at most as far as the heights differ -/
theorem jd_le {t u : Tr} (ht : t.bal = true) (hu : u.bal = true) (hs : t.size + u.size ≤ 2147483647) :
    (wb (t.size + 1) (u.size + 1) ∧ jd t u = 0) ∨ (3 * (t.size + 1) < u.size + 1 ∧ jd t u + xh t.size ≤ xh u.size) ∨ (3 * (u.size + 1) < t.size + 1 ∧ jd t u + xh u.size ≤ xh t.size) := by
  unfold jd
  by_cases h1 : 3 * (t.size + 1) < u.size + 1
  · rw [if_pos h1]
    refine .inr (.inl ⟨h1, ?_⟩)
    rcases jdl_le (n := t.size) hu (by omega) with h | ⟨_, h⟩
    · rw [h]; have := xh_up (m := t.size) (n := u.size) (by omega) (by omega); omega
    · exact h
  · rw [if_neg h1]
    by_cases h2 : 3 * (u.size + 1) < t.size + 1
    · refine .inr (.inr ⟨h2, ?_⟩)
      rcases jdr_le (n := u.size) ht (by omega) with h | ⟨_, h⟩
      · rw [h]; have := xh_up (m := u.size) (n := t.size) (by omega) (by omega); omega
      · exact h
    · refine .inl ⟨⟨by omega, by omega⟩, ?_⟩
      rcases jdr_le (n := u.size) ht (by omega) with h | ⟨h, _⟩
      · exact h
      · omega
theorem jd_xh {t u : Tr} (ht : t.bal = true) (hu : u.bal = true) (hs : t.size + u.size + 1 ≤ 2147483647) : jd t u ≤ xh (t.size + u.size + 1) := by
  have h1 := xh_up (m := t.size) (n := t.size + u.size + 1) (by omega) hs
  have h2 := xh_up (m := u.size) (n := t.size + u.size + 1) (by omega) hs
  rcases jd_le ht hu (by omega) with ⟨_, h⟩ | ⟨_, h⟩ | ⟨_, h⟩ <;> omega
/-- one step of a split, the key on the left: the greater keys of the left child, t, are joined to the right child, u -/
theorem split_step_l {t u : Tr} {s lo h : Nat} (ht : t.bal = true) (hu : u.bal = true) (hs : t.size + u.size + 1 ≤ 2147483647) (hw : t.size + 1 ≤ 3 * (u.size + 1)) (h1 : s ≤ xh lo + xh t.size + h) :
    s + (jd t u + 1) ≤ xh lo + xh (t.size + u.size + 1) + (h + 1) := by
  have g1 := xh_up (m := t.size) (n := t.size + u.size + 1) (by omega) hs
  have g2 := xh_up (m := u.size) (n := t.size + u.size + 1) (by omega) hs
  rcases jd_le ht hu (by omega) with ⟨_, h⟩ | ⟨_, h⟩ | ⟨hc, h⟩ <;> omega
theorem split_step_r {t u : Tr} {s hi h : Nat} (ht : t.bal = true) (hu : u.bal = true) (hs : t.size + u.size + 1 ≤ 2147483647) (hw : u.size + 1 ≤ 3 * (t.size + 1)) (h1 : s ≤ xh u.size + xh hi + h) :
    s + (jd t u + 1) ≤ xh (t.size + u.size + 1) + xh hi + (h + 1) := by
  have g1 := xh_up (m := t.size) (n := t.size + u.size + 1) (by omega) hs
  have g2 := xh_up (m := u.size) (n := t.size + u.size + 1) (by omega) hs
  rcases jd_le ht hu (by omega) with ⟨_, h⟩ | ⟨hc, h⟩ | ⟨_, h⟩ <;> omega
end Go.Proofs.Ytehaffcjoafkcaa
set_option linter.unusedVariables false
namespace Go.Proofs.Ytehaffcjoafkcaa
theorem sum_zero' {l : List Nat} {f : Nat → Nat} (h : ∀ k ∈ l, f k = 0) : (l.map f).sum = 0 := by
  induction l with
  | nil => rfl
  | cons a t ih =>
    rw [List.map_cons, List.sum_cons, h a (by simp), ih fun k hk => h k (by simp [hk])]
theorem nd_len : ∀ {l m : List Nat}, l.Nodup → (∀ x ∈ l, x ∈ m) → l.length ≤ m.length
  | [], m, _, _ => Nat.zero_le _
  | a :: l, m, hn, hs => by
    rw [List.nodup_cons] at hn
    have h1 := nd_len (l := l) (m := m.erase a) hn.2 fun x hx => (List.mem_erase_of_ne fun e => hn.1 (by rw [← e]; exact hx)).2 (hs x (by simp [hx]))
    have ha := hs a (by simp)
    rw [List.length_erase_of_mem ha] at h1
    have h2 : 0 < m.length := List.length_pos_of_mem ha
    simp only [List.length_cons]
    omega
/-- nothing refers to i -/
def Alone (A : Ar) (i : Nat) : Prop := ∀ x, A.σ.on x = true → (A.nd x).left ≠ i ∧ (A.nd x).right ≠ i
theorem Alone.refs {A : Ar} {i : Nat} (h : Alone A i) : A.refs i = 0 := by
  unfold Ar.refs
  refine sum_zero' fun k _ => ?_
  unfold Ar.edge
  by_cases hk : A.σ.on k = true
  · rw [if_pos hk]
    unfold hit
    rw [if_neg (h k hk).1, if_neg (h k hk).2]
  · rw [if_neg hk]
theorem Alone.frees {A : Ar} {r : Nat} {held : Nat → Nat} (h : Alone A r) (hv : A.Inv [r] held) (ha : A.Agg) (h0 : r ≠ 0) (hon : A.σ.on r = true) (hh : held r = 0) : A.σ.free.length + 1 ≤ (A.gone r).σ.free.length := by
  obtain ⟨_, _, _, g4⟩ := Ar.gone_ok hv ha
  have hc : A.cnt r = 1 := by
    rw [hv.cnt r hon, h.refs, hh]
    simp
  have : 1 ≤ A.freed r := by
    show 1 ≤ (Ar.run (3 * A.σ.cap + 1) A [r]).2
    rw [Ar.run, if_neg h0, if_pos hc]
    exact Nat.succ_le_succ (Nat.zero_le _)
  omega
/-- a new node is alone -/
theorem alone_made {B : Ar} {hd : Nat → Nat} (hv : B.Inv [] hd) {i : Nat} {t : List Nat} (hf : B.σ.free = i :: t) {key val : Int} {l r : Nat} (hl : B.Idx l) (hr : B.Idx r) : Alone (B.made i t (B.node key val l r)) i := by
  have hi := (hv.ok.free i).1 (by rw [hf]; simp)
  have h0 : i ≠ 0 := by omega
  have hx : ∀ x, B.Idx x → x ≠ i := fun x q e => by
    subst e
    rcases q with q | q
    · exact h0 q
    · rw [hi.2.2] at q; cases q
  intro x hon
  by_cases e : x = i
  · subst e
    have e2 : (B.made x t (B.node key val l r)).nd x = B.node key val l r := if_pos rfl
    rw [e2]
    exact ⟨hx l hl, hx r hr⟩
  · have e2 : (B.made i t (B.node key val l r)).nd x = B.nd x := if_neg e
    have e3 : B.σ.on x = true := by
      have h1 : (B.σ.take i t).on x = true := hon
      unfold St.take at h1
      simpa [e] using h1
    rw [e2]
    exact ⟨hx _ (hv.child x e3).1, hx _ (hv.child x e3).2⟩
/-- the nodes that a rotation makes, and what they refer to -/
theorem RNodes.news {A B : Ar} {hd : Nat → Nat} {k i j : Nat} (hi : A.σ.on i = true) (hf : rform A k i = true) (hk : k < 4) (ha : B.Agg) (hv : A.Inv [] hd) (hv2 : B.Inv [] (more hd j)) (hr : RNodes A B k i j) :
    ∃ N : List Nat, N.Nodup ∧ N.length = rneed k ∧ ∀ x ∈ N, NewIn A B x ∧ ∀ y, (y = (B.nd x).left ∨ y = (B.nd x).right) → y ∈ N ∨ ∃ z, A.σ.on z = true ∧ (y = (A.nd z).left ∨ y = (A.nd z).right) := by
  have hne : ∀ {x y : Nat}, B.σ.on x = true → B.σ.on y = true → (y = (B.nd x).left ∨ y = (B.nd x).right) → x ≠ y := fun {x y} hx hy h e => by
    subst e
    have h1 := sz_child ha hx
    have hn := ha.size x hx
    have h0 : x ≠ 0 := by have := hv2.ok.on x hx; omega
    have hz : B.sz x = (B.nd x).size := by unfold Ar.sz; rw [if_neg h0]
    have c := hv2.child x hx
    have z1 := sz_nonneg ha c.1
    have z2 := sz_nonneg ha c.2
    rcases h with h | h
    · rw [← h, hz] at h1; omega
    · rw [← h, hz] at h1; omega
  unfold rform at hf
  rw [hi] at hf
  obtain rfl | rfl | rfl | rfl : k = 0 ∨ k = 1 ∨ k = 2 ∨ k = 3 := by omega
  · simp only [Bool.true_and, bne_iff_ne] at hf
    have hR := (hv.child i hi).2.resolve_left hf
    obtain ⟨z, n1, n2, ⟨_, _, l1, r1⟩, ⟨_, _, l2, r2⟩⟩ := hr
    refine ⟨[j, z], by simpa using hne n1.1 n2.1 (.inl l1.symm), rfl, fun x hx => ?_⟩
    simp only [List.mem_cons, List.not_mem_nil, or_false] at hx
    rcases hx with rfl | rfl
    · refine ⟨n1, fun y hy => ?_⟩
      rcases hy with rfl | rfl
      · rw [l1]; exact .inl (by simp)
      · rw [r1]; exact .inr ⟨_, hR, .inr rfl⟩
    · refine ⟨n2, fun y hy => ?_⟩
      rcases hy with rfl | rfl
      · rw [l2]; exact .inr ⟨_, hi, .inl rfl⟩
      · rw [r2]; exact .inr ⟨_, hR, .inl rfl⟩
  · simp only [Bool.true_and, bne_iff_ne] at hf
    have hR := (hv.child i hi).1.resolve_left hf
    obtain ⟨z, n1, n2, ⟨_, _, l1, r1⟩, ⟨_, _, l2, r2⟩⟩ := hr
    refine ⟨[j, z], by simpa using hne n1.1 n2.1 (.inr r1.symm), rfl, fun x hx => ?_⟩
    simp only [List.mem_cons, List.not_mem_nil, or_false] at hx
    rcases hx with rfl | rfl
    · refine ⟨n1, fun y hy => ?_⟩
      rcases hy with rfl | rfl
      · rw [l1]; exact .inr ⟨_, hR, .inl rfl⟩
      · rw [r1]; exact .inl (by simp)
    · refine ⟨n2, fun y hy => ?_⟩
      rcases hy with rfl | rfl
      · rw [l2]; exact .inr ⟨_, hR, .inr rfl⟩
      · rw [r2]; exact .inr ⟨_, hi, .inr rfl⟩
  · simp only [Bool.true_and, Bool.and_eq_true, bne_iff_ne] at hf
    have hR := (hv.child i hi).2.resolve_left hf.1
    have hQ := (hv.child _ hR).1.resolve_left hf.2
    obtain ⟨a, b, hab, n0, n1, n2, ⟨_, _, l0, r0⟩, ⟨_, _, l1, r1⟩, ⟨_, _, l2, r2⟩⟩ := hr
    have h1 := hne n0.1 n1.1 (.inl l0.symm)
    have h2 := hne n0.1 n2.1 (.inr r0.symm)
    refine ⟨[j, a, b], by simp [h1, h2, hab], rfl, fun x hx => ?_⟩
    simp only [List.mem_cons, List.not_mem_nil, or_false] at hx
    rcases hx with rfl | rfl | rfl
    · refine ⟨n0, fun y hy => ?_⟩
      rcases hy with rfl | rfl
      · rw [l0]; exact .inl (by simp)
      · rw [r0]; exact .inl (by simp)
    · refine ⟨n1, fun y hy => ?_⟩
      rcases hy with rfl | rfl
      · rw [l1]; exact .inr ⟨_, hi, .inl rfl⟩
      · rw [r1]; exact .inr ⟨_, hQ, .inl rfl⟩
    · refine ⟨n2, fun y hy => ?_⟩
      rcases hy with rfl | rfl
      · rw [l2]; exact .inr ⟨_, hQ, .inr rfl⟩
      · rw [r2]; exact .inr ⟨_, hR, .inr rfl⟩
  · simp only [Bool.true_and, Bool.and_eq_true, bne_iff_ne] at hf
    have hR := (hv.child i hi).1.resolve_left hf.1
    have hQ := (hv.child _ hR).2.resolve_left hf.2
    obtain ⟨a, b, hab, n0, n1, n2, ⟨_, _, l0, r0⟩, ⟨_, _, l1, r1⟩, ⟨_, _, l2, r2⟩⟩ := hr
    have h1 := hne n0.1 n1.1 (.inl l0.symm)
    have h2 := hne n0.1 n2.1 (.inr r0.symm)
    refine ⟨[j, a, b], by simp [h1, h2, hab], rfl, fun x hx => ?_⟩
    simp only [List.mem_cons, List.not_mem_nil, or_false] at hx
    rcases hx with rfl | rfl | rfl
    · refine ⟨n0, fun y hy => ?_⟩
      rcases hy with rfl | rfl
      · rw [l0]; exact .inl (by simp)
      · rw [r0]; exact .inl (by simp)
    · refine ⟨n1, fun y hy => ?_⟩
      rcases hy with rfl | rfl
      · rw [l1]; exact .inr ⟨_, hR, .inl rfl⟩
      · rw [r1]; exact .inr ⟨_, hQ, .inl rfl⟩
    · refine ⟨n2, fun y hy => ?_⟩
      rcases hy with rfl | rfl
      · rw [l2]; exact .inr ⟨_, hQ, .inr rfl⟩
      · rw [r2]; exact .inr ⟨_, hi, .inr rfl⟩
/-- after a rotation nothing refers to the root that was rotated, if nothing did before -/
theorem rot_alone {A B : Ar} {hd : Nat → Nat} {k i j : Nat} (hp : Alone A i) (hv : A.Inv [] hd) (hi : A.σ.on i = true) (hf : rform A k i = true) (hk : k < 4) (ht : Turned A hd B j (rneed k)) (hr : RNodes A B k i j) : Alone B i := by
  obtain ⟨N, n1, n2, n3⟩ := hr.news hi hf hk ht.agg hv ht.inv
  intro x hx
  by_cases hA : A.σ.on x = true
  · rw [ht.kept.nd x hA]; exact hp x hA
  · have hoff : A.σ.on x = false := by simpa using hA
    have hmem : x ∈ N := by
      by_cases hm : x ∈ N
      · exact hm
      · exfalso
        have hin : ∀ y, B.σ.on y = true → A.σ.on y = false → y ∈ A.σ.free := fun y h1 h2 => by
          have := ht.inv.ok.on y h1
          exact (hv.ok.free y).2 (by rw [← ht.kept.cap]; exact ⟨this.1, this.2, h2⟩)
        have hsub : ∀ y ∈ x :: (N ++ B.σ.free), y ∈ A.σ.free := fun y hy => by
          rcases List.mem_cons.1 hy with rfl | hy
          · exact hin _ hx hoff
          · rcases List.mem_append.1 hy with hy | hy
            · exact hin _ (n3 y hy).1.1 (n3 y hy).1.2
            · have h1 := (ht.inv.ok.free y).1 hy
              refine (hv.ok.free y).2 ⟨h1.1, by rw [← ht.kept.cap]; exact h1.2.1, ?_⟩
              cases ho : A.σ.on y
              · rfl
              · have h3 := ht.kept.on y ho
                rw [h1.2.2] at h3
                cases h3
        have hnb : ∀ y, B.σ.on y = true → y ∉ B.σ.free := fun y h1 h2 => by
          have h3 := ((ht.inv.ok.free y).1 h2).2.2
          rw [h1] at h3
          cases h3
        have hnd : (x :: (N ++ B.σ.free)).Nodup := by
          rw [List.nodup_cons, List.nodup_append]
          refine ⟨fun h => ?_, n1, ht.inv.ok.nodup, fun a h1 b h2 e => ?_⟩
          · rcases List.mem_append.1 h with h | h
            · exact hm h
            · exact hnb x hx h
          · subst e
            exact hnb a (n3 a h1).1.1 h2
        have h1 := nd_len hnd hsub
        have h2 := ht.free
        simp only [List.length_cons, List.length_append] at h1
        omega
    have h1 := (n3 x hmem).2
    refine ⟨fun e => ?_, fun e => ?_⟩
    · rcases h1 _ (.inl rfl) with h2 | ⟨z, hz, h2⟩
      · have h3 := (n3 _ h2).1.2
        rw [e, hi] at h3
        cases h3
      · rw [e] at h2
        rcases h2 with h2 | h2
        · exact (hp z hz).1 h2.symm
        · exact (hp z hz).2 h2.symm
    · rcases h1 _ (.inr rfl) with h2 | ⟨z, hz, h2⟩
      · have h3 := (n3 _ h2).1.2
        rw [e, hi] at h3
        cases h3
      · rw [e] at h2
        rcases h2 with h2 | h2
        · exact (hp z hz).1 h2.symm
        · exact (hp z hz).2 h2.symm
end Go.Proofs.Ytehaffcjoafkcaa
set_option linter.unusedVariables false
set_option linter.unusedSimpArgs false
namespace Go.Proofs.Ytehaffcjoafkcaa
open Go.RowKit
section
variable {w0 w w' : World} {D : List (Nat × Nd)} {a b c : Nat} {X Y Z Y1 Y2 Y3 : Nd}
/-- a world with eight cells written -/
def put8 (w : World) (a : Nat) (Y : Nd) : World := ((((((((w.setCell ⟨a, 0, none⟩ (.int .i64 Y.key)).setCell ⟨a, 1, none⟩ (.int .i64 Y.val)).setCell ⟨a, 2, none⟩ (.int .u32 (Y.left : Int))).setCell ⟨a, 3, none⟩ (.int .u32 (Y.right : Int))).setCell ⟨a, 4, none⟩ (.int .i64 Y.size)).setCell ⟨a, 5, none⟩ (.int .i64 Y.sum)).setCell ⟨a, 6, none⟩ (.int .i64 Y.mn)).setCell ⟨a, 7, none⟩ (.int .i64 Y.mx))
theorem put8_size (w : World) (g : Nat) (Y : Nd) : (put8 w g Y).heap.size = w.heap.size := by simp [put8, World.setCell]
theorem put8_other (w : World) (g : Nat) (Y : Nd) {k : Nat} (hk : k ≠ g) : (put8 w g Y).heap[k]? = w.heap[k]? := by
  unfold put8
  rw [heap_setCell_other _ _ _ _ hk, heap_setCell_other _ _ _ _ hk, heap_setCell_other _ _ _ _ hk, heap_setCell_other _ _ _ _ hk, heap_setCell_other _ _ _ _ hk, heap_setCell_other _ _ _ _ hk, heap_setCell_other _ _ _ _ hk, heap_setCell_other _ _ _ _ hk]
theorem put8_same {t : TypeId} (h : w.heap[a]? = some (.cells (ndRow X) t (0, 0))) : (put8 w a Y).heap[a]? = some (.cells (ndRow Y) t (0, 0)) := by
  have h0 : (w.setCell ⟨a, 0, none⟩ (.int .i64 Y.key)).heap[a]? = some (.cells #[Value.int .i64 Y.key, .int .i64 X.val, .int .u32 (X.left : Int), .int .u32 (X.right : Int), .int .i64 X.size, .int .i64 X.sum, .int .i64 X.mn, .int .i64 X.mx] t (0, 0)) := by rw [heap_setCell_same _ _ _ _ _ _ h]; rfl
  have h1 : ((w.setCell ⟨a, 0, none⟩ (.int .i64 Y.key)).setCell ⟨a, 1, none⟩ (.int .i64 Y.val)).heap[a]? = some (.cells #[Value.int .i64 Y.key, .int .i64 Y.val, .int .u32 (X.left : Int), .int .u32 (X.right : Int), .int .i64 X.size, .int .i64 X.sum, .int .i64 X.mn, .int .i64 X.mx] t (0, 0)) := by rw [heap_setCell_same _ _ _ _ _ _ h0]; rfl
  have h2 : (((w.setCell ⟨a, 0, none⟩ (.int .i64 Y.key)).setCell ⟨a, 1, none⟩ (.int .i64 Y.val)).setCell ⟨a, 2, none⟩ (.int .u32 (Y.left : Int))).heap[a]? = some (.cells #[Value.int .i64 Y.key, .int .i64 Y.val, .int .u32 (Y.left : Int), .int .u32 (X.right : Int), .int .i64 X.size, .int .i64 X.sum, .int .i64 X.mn, .int .i64 X.mx] t (0, 0)) := by rw [heap_setCell_same _ _ _ _ _ _ h1]; rfl
  have h3 : ((((w.setCell ⟨a, 0, none⟩ (.int .i64 Y.key)).setCell ⟨a, 1, none⟩ (.int .i64 Y.val)).setCell ⟨a, 2, none⟩ (.int .u32 (Y.left : Int))).setCell ⟨a, 3, none⟩ (.int .u32 (Y.right : Int))).heap[a]? = some (.cells #[Value.int .i64 Y.key, .int .i64 Y.val, .int .u32 (Y.left : Int), .int .u32 (Y.right : Int), .int .i64 X.size, .int .i64 X.sum, .int .i64 X.mn, .int .i64 X.mx] t (0, 0)) := by rw [heap_setCell_same _ _ _ _ _ _ h2]; rfl
  have h4 : (((((w.setCell ⟨a, 0, none⟩ (.int .i64 Y.key)).setCell ⟨a, 1, none⟩ (.int .i64 Y.val)).setCell ⟨a, 2, none⟩ (.int .u32 (Y.left : Int))).setCell ⟨a, 3, none⟩ (.int .u32 (Y.right : Int))).setCell ⟨a, 4, none⟩ (.int .i64 Y.size)).heap[a]? = some (.cells #[Value.int .i64 Y.key, .int .i64 Y.val, .int .u32 (Y.left : Int), .int .u32 (Y.right : Int), .int .i64 Y.size, .int .i64 X.sum, .int .i64 X.mn, .int .i64 X.mx] t (0, 0)) := by rw [heap_setCell_same _ _ _ _ _ _ h3]; rfl
  have h5 : ((((((w.setCell ⟨a, 0, none⟩ (.int .i64 Y.key)).setCell ⟨a, 1, none⟩ (.int .i64 Y.val)).setCell ⟨a, 2, none⟩ (.int .u32 (Y.left : Int))).setCell ⟨a, 3, none⟩ (.int .u32 (Y.right : Int))).setCell ⟨a, 4, none⟩ (.int .i64 Y.size)).setCell ⟨a, 5, none⟩ (.int .i64 Y.sum)).heap[a]? = some (.cells #[Value.int .i64 Y.key, .int .i64 Y.val, .int .u32 (Y.left : Int), .int .u32 (Y.right : Int), .int .i64 Y.size, .int .i64 Y.sum, .int .i64 X.mn, .int .i64 X.mx] t (0, 0)) := by rw [heap_setCell_same _ _ _ _ _ _ h4]; rfl
  have h6 : (((((((w.setCell ⟨a, 0, none⟩ (.int .i64 Y.key)).setCell ⟨a, 1, none⟩ (.int .i64 Y.val)).setCell ⟨a, 2, none⟩ (.int .u32 (Y.left : Int))).setCell ⟨a, 3, none⟩ (.int .u32 (Y.right : Int))).setCell ⟨a, 4, none⟩ (.int .i64 Y.size)).setCell ⟨a, 5, none⟩ (.int .i64 Y.sum)).setCell ⟨a, 6, none⟩ (.int .i64 Y.mn)).heap[a]? = some (.cells #[Value.int .i64 Y.key, .int .i64 Y.val, .int .u32 (Y.left : Int), .int .u32 (Y.right : Int), .int .i64 Y.size, .int .i64 Y.sum, .int .i64 Y.mn, .int .i64 X.mx] t (0, 0)) := by rw [heap_setCell_same _ _ _ _ _ _ h5]; rfl
  have h7 : ((((((((w.setCell ⟨a, 0, none⟩ (.int .i64 Y.key)).setCell ⟨a, 1, none⟩ (.int .i64 Y.val)).setCell ⟨a, 2, none⟩ (.int .u32 (Y.left : Int))).setCell ⟨a, 3, none⟩ (.int .u32 (Y.right : Int))).setCell ⟨a, 4, none⟩ (.int .i64 Y.size)).setCell ⟨a, 5, none⟩ (.int .i64 Y.sum)).setCell ⟨a, 6, none⟩ (.int .i64 Y.mn)).setCell ⟨a, 7, none⟩ (.int .i64 Y.mx)).heap[a]? = some (.cells #[Value.int .i64 Y.key, .int .i64 Y.val, .int .u32 (Y.left : Int), .int .u32 (Y.right : Int), .int .i64 Y.size, .int .i64 Y.sum, .int .i64 Y.mn, .int .i64 Y.mx] t (0, 0)) := by rw [heap_setCell_same _ _ _ _ _ _ h6]; rfl
  exact h7
theorem put8_below {n0 : Nat} (hw : n0 ≤ a) : Below n0 w (put8 w a Y) := (((((((((Below.refl _ _).setCell hw _).setCell hw _).setCell hw _).setCell hw _).setCell hw _).setCell hw _).setCell hw _).setCell hw _)
/-- eight cells and their marks -/
def Row8 (w : World) (a : Nat) (X : Nd) : Prop :=
  (w.cell? ⟨a, 0, none⟩ = some (.int .i64 X.key) ∧ w.cell? ⟨a, 1, none⟩ = some (.int .i64 X.val) ∧ w.cell? ⟨a, 2, none⟩ = some (.int .u32 (X.left : Int)) ∧ w.cell? ⟨a, 3, none⟩ = some (.int .u32 (X.right : Int)) ∧ w.cell? ⟨a, 4, none⟩ = some (.int .i64 X.size) ∧ w.cell? ⟨a, 5, none⟩ = some (.int .i64 X.sum) ∧ w.cell? ⟨a, 6, none⟩ = some (.int .i64 X.mn) ∧ w.cell? ⟨a, 7, none⟩ = some (.int .i64 X.mx)) ∧
  (w.frozen? ⟨a, 0, none⟩ = false ∧ w.frozen? ⟨a, 1, none⟩ = false ∧ w.frozen? ⟨a, 2, none⟩ = false ∧ w.frozen? ⟨a, 3, none⟩ = false ∧ w.frozen? ⟨a, 4, none⟩ = false ∧ w.frozen? ⟨a, 5, none⟩ = false ∧ w.frozen? ⟨a, 6, none⟩ = false ∧ w.frozen? ⟨a, 7, none⟩ = false)
theorem row8_of {t : TypeId} (h : w.heap[a]? = some (.cells (ndRow X) t (0, 0))) : Row8 w a X :=
  ⟨⟨(by rw [cell_of_row _ _ _ _ _ _ h]; rfl), (by rw [cell_of_row _ _ _ _ _ _ h]; rfl), (by rw [cell_of_row _ _ _ _ _ _ h]; rfl), (by rw [cell_of_row _ _ _ _ _ _ h]; rfl), (by rw [cell_of_row _ _ _ _ _ _ h]; rfl), (by rw [cell_of_row _ _ _ _ _ _ h]; rfl), (by rw [cell_of_row _ _ _ _ _ _ h]; rfl), (by rw [cell_of_row _ _ _ _ _ _ h]; rfl)⟩,
   ⟨frozen_of_row w a 0 _ _ h, frozen_of_row w a 1 _ _ h, frozen_of_row w a 2 _ _ h, frozen_of_row w a 3 _ _ h, frozen_of_row w a 4 _ _ h, frozen_of_row w a 5 _ _ h, frozen_of_row w a 6 _ _ h, frozen_of_row w a 7 _ _ h⟩⟩
theorem sz_al (w : World) (o : Obj) : (w.alloc o).heap.size = w.heap.size + 1 := by simp
end
end Go.Proofs.Ytehaffcjoafkcaa
set_option linter.unusedVariables false
set_option linter.unusedSimpArgs false
namespace Go.Proofs.Ytehaffcjoafkcaa
open Go.RowKit
/-- what lay there and is none of the arena's -/
def OldI (w : World) (F : Nat → Prop) (k : Nat) : Prop := k < w.heap.size ∧ ¬ F k
structure Ins (I : AImpl) (w : World) (F : Nat → Prop) (p : Value) (A : Ar) (rd : Int) (rs : List Row) (bs : List (Nat × Obj)) (wr : World) : Prop where
  mr : MR I 0 w wr p A rd (fun k => OldI w F k ∨ SG rs bs k)
  kp : Keeps (OldI w F) w wr
  rows : ∀ r ∈ rs, wr.ownsRow w.heap.size r.e r.s r.v r.n r.xs
  boxes : ∀ b ∈ bs, w.heap.size ≤ b.1 ∧ wr.heap[b.1]? = some b.2
  rr : rs.Pairwise fun x y => ∀ k, x.v.ownBlock = some k → y.v.ownBlock ≠ some k
  bb : bs.Pairwise fun x y => x.1 ≠ y.1
  rb : ∀ r ∈ rs, ∀ b ∈ bs, r.v.ownBlock ≠ some b.1
section
variable {I : AImpl} {w wr wx : World} {F : Nat → Prop} {p : Value} {A A' : Ar} {rd rd' : Int} {rs : List Row} {bs : List (Nat × Obj)}
theorem Ins.start (h : I.Is w p A rd F) : Ins I w F p A rd [] [] w :=
  ⟨⟨⟨F, h, fun _ _ => Nat.zero_le _, fun k hk => by (rcases hk with hk | ⟨r, hr, _⟩ | ⟨b, hb, _⟩; exact hk; cases hr; cases hb)⟩, Below.refl _ _, Nat.zero_le _⟩, fun _ _ => rfl, fun r hr => (by cases hr), fun b hb => (by cases hb), List.Pairwise.nil, List.Pairwise.nil, fun r hr => (by cases hr)⟩
theorem Ins.size (h : Ins I w F p A rd rs bs wr) : w.heap.size ≤ wr.heap.size := h.mr.below.size
theorem Ins.calm (h : Ins I w F p A rd rs bs wr) (hb : Below wr.heap.size wr wx) : Ins I w F p A rd rs bs wx :=
  ⟨h.mr.calm hb, fun k hk => (h.mr.keeps hb k (.inl hk)).trans (h.kp k hk), fun r hr => row_below (h.rows r hr) hb, fun b hb' => ⟨(h.boxes b hb').1, (h.mr.keeps hb b.1 (.inr (.inr ⟨b, hb', rfl⟩))).trans (h.boxes b hb').2⟩, h.rr, h.bb, h.rb⟩
theorem Ins.lt (h : Ins I w F p A rd rs bs wr) {k : Nat} (hk : SG rs bs k) : k < wr.heap.size := h.mr.lt (.inr hk)
/-- a new box -/
theorem Ins.box (h : Ins I w F p A rd rs bs wr) (cs : Array Value) (t : TypeId) : Ins I w F p A rd rs ((wr.heap.size, .cells cs t (0, 0)) :: bs) (wr.alloc (.cells cs t)) := by
  have hb := below_new7 wr (.cells cs t)
  have h' := h.calm hb
  refine ⟨h.mr.fresh hb fun k hk => ?_, h'.kp, h'.rows, fun b hb' => ?_, h.rr, List.pairwise_cons.2 ⟨fun b hb' e => ?_, h.bb⟩, fun r hr b hb' => ?_⟩
  · rcases hk with hk | hk | ⟨b, hb', rfl⟩
    · exact .inl (.inl hk)
    · exact .inl (.inr (.inl hk))
    · rcases List.mem_cons.1 hb' with rfl | hb'
      · exact .inr ⟨Nat.le_refl _, by simp⟩
      · exact .inl (.inr (.inr ⟨b, hb', rfl⟩))
  · rcases List.mem_cons.1 hb' with rfl | hb'
    · exact ⟨h.size, heap_alloc_new wr _⟩
    · exact h'.boxes b hb'
  · have := h.lt (.inr ⟨b, hb', rfl⟩)
    have e' : wr.heap.size = b.1 := e
    omega
  · rcases List.mem_cons.1 hb' with rfl | hb'
    · intro e
      have := h.lt (.inl ⟨r, hr, e⟩)
      exact Nat.lt_irrefl _ this
    · exact h.rb r hr b hb'
theorem Ins.less {rs' : List Row} {bs' : List (Nat × Obj)} (h : Ins I w F p A rd rs bs wr) (h1 : rs'.Sublist rs) (h2 : bs'.Sublist bs) : Ins I w F p A rd rs' bs' wr :=
  ⟨h.mr.less fun k hk => hk.imp_right fun hk => by (rcases hk with ⟨r, hr, hk⟩ | ⟨b, hb, hk⟩; exact .inl ⟨r, h1.subset hr, hk⟩; exact .inr ⟨b, h2.subset hb, hk⟩), h.kp, fun r hr => h.rows r (h1.subset hr), fun b hb => h.boxes b (h2.subset hb), h.rr.sublist h1, h.bb.sublist h2, fun r hr b hb => h.rb r (h1.subset hr) b (h2.subset hb)⟩
theorem Ins.perm {bs' : List (Nat × Obj)} (h : Ins I w F p A rd rs bs wr) (hp : bs.Perm bs') : Ins I w F p A rd rs bs' wr :=
  ⟨h.mr.less fun k hk => hk.imp_right fun hk => by (rcases hk with ⟨r, hr, hk⟩ | ⟨b, hb, hk⟩; exact .inl ⟨r, hr, hk⟩; exact .inr ⟨b, hp.mem_iff.2 hb, hk⟩), h.kp, h.rows, fun b hb => h.boxes b (hp.mem_iff.2 hb), h.rr, hp.pairwise h.bb (fun e e' => e e'.symm), fun r hr b hb => h.rb r hr b (hp.mem_iff.2 hb)⟩
/-- the first box is written anew -/
theorem Ins.set {g : Nat} {o o' : Obj} (h : Ins I w F p A rd rs ((g, o) :: bs) wr) (hw : wx.heap[g]? = some o') (ho : wx.os = wr.os ∧ wx.tape = wr.tape ∧ wx.output = wr.output ∧ wx.heap.size = wr.heap.size ∧ ∀ k, k ≠ g → wx.heap[k]? = wr.heap[k]?) :
    Ins I w F p A rd rs ((g, o') :: bs) wx := by
  obtain ⟨o1, o2, o3, o4, o5⟩ := ho
  obtain ⟨F1, f1, f2, f3⟩ := h.mr.has
  obtain ⟨h1, h2⟩ := List.pairwise_cons.1 h.bb
  have hg := (h.boxes (g, o) (by simp)).1
  have hgF := (f3 g (.inr (.inr ⟨(g, o), by simp, rfl⟩))).2
  refine ⟨⟨⟨F1, I.keep f1 fun k hk => o5 k fun e => hgF (e ▸ hk), f2, fun k hk => ?_⟩, h.mr.below.trans ⟨o1, o2, o3, Nat.le_of_eq o4.symm, fun k hk => absurd hk (Nat.not_lt_zero k)⟩, Nat.zero_le _⟩, fun k hk => (o5 k fun e => by subst e; have := hk.1; have hg' : w.heap.size ≤ k := hg; omega).trans (h.kp k hk), fun r hr => row_keep (h.rows r hr) fun k hk => o5 k fun e => h.rb r hr (g, o) (by simp) (e ▸ hk), fun b hb => ?_, h.rr, List.pairwise_cons.2 ⟨h1, h2⟩, fun r hr b hb => ?_⟩
  · have : OldI w F k ∨ SG rs ((g, o) :: bs) k := hk.imp_right fun hk => by
      rcases hk with hk | ⟨b, hb, rfl⟩
      · exact .inl hk
      · rcases List.mem_cons.1 hb with rfl | hb
        · exact .inr ⟨(g, o), by simp, rfl⟩
        · exact .inr ⟨b, by simp [hb], rfl⟩
    exact ⟨by rw [o4]; exact (f3 k this).1, (f3 k this).2⟩
  · rcases List.mem_cons.1 hb with rfl | hb
    · exact ⟨hg, hw⟩
    · exact ⟨(h.boxes b (by simp [hb])).1, (o5 b.1 (fun e => h1 b hb e.symm)).trans (h.boxes b (by simp [hb])).2⟩
  · rcases List.mem_cons.1 hb with rfl | hb
    · exact h.rb r hr (g, o) (by simp)
    · exact h.rb r hr b (by simp [hb])
theorem Ins.put {g : Nat} {X Y : Nd} (h : Ins I w F p A rd rs ((g, Obj.cells (ndRow X) 65 (0, 0)) :: bs) wr) : Ins I w F p A rd rs ((g, Obj.cells (ndRow Y) 65 (0, 0)) :: bs) (put8 wr g Y) :=
  h.set (put8_same (h.boxes _ (List.Mem.head _)).2) ⟨(put8_below (n0 := 0) (Nat.zero_le _)).os, (put8_below (n0 := 0) (Nat.zero_le _)).tape, (put8_below (n0 := 0) (Nat.zero_le _)).output, put8_size wr g Y, fun k hk => put8_other wr g Y hk⟩
/-- a call that alters the arena -/
theorem Ins.mut {f : FuncId} {args : Array Value} {Q : Ending → Ar → Int → Prop} (h : Ins I w F p A rd rs bs wr) (hc : ∀ F1, I.Is wr p A rd F1 → Calls Try.prog f args wr (Mut I p F1 Q wr)) :
    Calls Try.prog f args wr fun e w' => ∃ A' rd', Q e A' rd' ∧ Ins I w F p A' rd' rs bs w' := by
  obtain ⟨F1, f1, f2, f3⟩ := h.mr.has
  refine (hc F1 f1).mono ?_
  rintro e w1 ⟨F', A', rd', hal, hI, hq⟩
  have hst := h.mr.stepA f2 f3 hal hI
  exact ⟨A', rd', hq, hst.1, fun k hk => (hst.2 k (.inl hk)).trans (h.kp k hk), fun r hr => row_keep (h.rows r hr) fun k hk' => hst.2 k (.inr (.inl ⟨r, hr, hk'⟩)), fun b hb => ⟨(h.boxes b hb).1, (hst.2 b.1 (.inr (.inr ⟨b, hb, rfl⟩))).trans (h.boxes b hb).2⟩, h.rr, h.bb, h.rb⟩
/-- a call that reads -/
theorem Ins.call {bd : Int} {v : Value} {f : FuncId} {args : Array Value} (h : Ins I w F p A rd rs bs wr) (hc : ∀ F1, I.Is wr p A rd F1 → Calls Try.prog f args wr (ReadsTo I p A rd F1 bd v wr)) :
    Calls Try.prog f args wr fun e w' => e = .returned v ∧ ∃ rd', Ins I w F p A rd' rs bs w' ∧ rd ≤ rd' ∧ rd' ≤ rd + bd := by
  refine (h.mut (Q := fun e A' rd' => e = .returned v ∧ A' = A ∧ rd ≤ rd' ∧ rd' ≤ rd + bd) fun F1 hI => (hc F1 hI).mono fun e w' ⟨F', rd', h1, h2, h3, h4, h5⟩ => ⟨F', A, rd', h2, h3, h1, rfl, h4, h5⟩).mono ?_
  rintro e w1 ⟨A', rd', ⟨h1, rfl, h4, h5⟩, h6⟩
  exact ⟨h1, rd', h6, h4, h5⟩
theorem Ins.ends (h : Ins I w F p A rd rs bs wr) : ∃ F', Alters F F' w wr ∧ I.Is wr p A rd F' := by
  obtain ⟨F', f1, f2, f3⟩ := h.mr.has
  refine ⟨F', ⟨h.mr.below.os, h.mr.below.tape, h.mr.below.output, h.mr.below.size, fun k hlt hF => h.kp k ⟨hlt, hF⟩, fun k hF' => ?_⟩, f1⟩
  by_cases hlt : k < w.heap.size
  · by_cases hF : F k
    · exact .inl hF
    · exact absurd hF' (f3 k (.inl ⟨hlt, hF⟩)).2
  · exact .inr (by omega)
theorem Ins.node (h : Ins I w F p A rd rs bs wr) (h0 : 0 ≤ rd) (h1 : rd ≤ 4398046511104) {i : Nat} (hi : i < 4294967296) (hon : A.σ.on i = true) :
    Calls Try.prog 60 #[p, .int .u32 (i : Int)] wr fun e w' => e = .returned (.tuple #[.agg (ndRow (A.nd i)), .bool true]) ∧ Ins I w F p A (rd + 1) rs bs w' := by
  refine (h.mut (Q := fun e A' rd' => e = .returned (.tuple #[.agg (ndRow (A.nd i)), .bool true]) ∧ A' = A ∧ rd' = rd + 1) fun F1 hI => (I.node p A rd F1 i wr hI h0 (by omega) hi).mono fun e w' ⟨F', hal, _, h6⟩ => ⟨F', A, rd + 1, hal, (h6 hon).2, (h6 hon).1, rfl, rfl⟩).mono ?_
  rintro e w1 ⟨A', rd', ⟨hq1, rfl, rfl⟩, h6⟩
  exact ⟨hq1, h6⟩
theorem Ins.node_no (h : Ins I w F p A rd rs bs wr) (h0 : 0 ≤ rd) (h1 : rd ≤ 4398046511104) {i : Nat} (hi : i < 4294967296) (hon : A.σ.on i = false) :
    Calls Try.prog 60 #[p, .int .u32 (i : Int)] wr fun e w' => e = .returned (.tuple #[.agg (ndRow Nd.zero), .bool false]) ∧ Ins I w F p A rd rs bs w' := by
  refine (h.mut (Q := fun e A' rd' => e = .returned (.tuple #[.agg (ndRow Nd.zero), .bool false]) ∧ A' = A ∧ rd' = rd) fun F1 hI => (I.node p A rd F1 i wr hI h0 (by omega) hi).mono fun e w' ⟨F', hal, h6, _⟩ => ⟨F', A, rd, hal, (h6 hon).2, (h6 hon).1, rfl, rfl⟩).mono ?_
  rintro e w1 ⟨A', rd', ⟨h5, rfl, rfl⟩, h6⟩
  exact ⟨h5, h6⟩
/-- Size of an index: 0 for the empty tree, and then no read -/
theorem Ins.sz (h : Ins I w F p A rd rs bs wr) (h0 : 0 ≤ rd) (h1 : rd ≤ 4398046511104) {i : Nat} (hi : i < 4294967296) (hx : A.Idx i) (hok : A.σ.Ok) :
    Calls Try.prog 17 #[p, .int .u32 (i : Int)] wr fun e w' => e = .returned (.int .i64 (A.sz i)) ∧ Ins I w F p A (rd + if i = 0 then 0 else 1) rs bs w' := by
  refine (h.mut (Q := fun e A' rd' => e = .returned (.int .i64 (A.sz i)) ∧ A' = A ∧ rd' = rd + if i = 0 then 0 else 1) fun F1 hI => (I.size p A rd F1 i wr hI h0 (by omega) hi).mono fun e w' ⟨F', hal, h6, h7⟩ => ?_).mono ?_
  · by_cases e0 : i = 0
    · subst e0
      have hoff : A.σ.on 0 = false := by
        cases ho : A.σ.on 0
        · rfl
        · have := hok.on 0 ho; omega
      exact ⟨F', A, rd, hal, (h6 hoff).2, (h6 hoff).1, rfl, by rw [if_pos rfl]; omega⟩
    · have hon := hx.resolve_left e0
      exact ⟨F', A, rd + 1, hal, (h7 hon).2, by rw [(h7 hon).1]; unfold Ar.sz; rw [if_neg e0], rfl, by rw [if_neg e0]⟩
  · rintro e w1 ⟨A', rd', ⟨hq1, rfl, rfl⟩, h6⟩
    exact ⟨hq1, h6⟩
theorem Ins.free (h : Ins I w F p A rd rs bs wr) : Calls Try.prog 12 #[p] wr fun e w' => e = .returned (.int .i64 (A.σ.free.length : Int)) ∧ Ins I w F p A rd rs bs w' := by
  obtain ⟨F1, f1, _⟩ := h.mr.has
  exact (I.freeN p A rd F1 wr f1).mono fun e w1 ⟨h3, q, h4⟩ => ⟨h3, by subst h4; exact h.calm (below_drewN (Below.refl _ _) _)⟩
theorem Ins.make (h : Ins I w F p A rd rs bs wr) {held : Nat → Nat} (hv : A.Inv [] held) (ha : A.Agg) (hm : ∀ j, held j ≤ 1048576) {key val : Int} {l r i : Nat} {t : List Nat} (hk : i64R key) (hw : i64R val) (hl : A.Idx l) (hr : A.Idx r) (hs : (A.node key val l r).size ≤ 2147483647) (hf : A.σ.free = i :: t) :
    Calls Try.prog 33 #[p, .int .i64 key, .int .i64 val, .int .u32 (l : Int), .int .u32 (r : Int)] wr fun e w' => e = .returned (.tuple #[.int .u32 (i : Int), .int .i64 0]) ∧ Ins I w F p (A.made i t (A.node key val l r)) rd rs bs w' := by
  have hlt : ∀ {x}, A.Idx x → x < 4294967296 := fun {x} hx => by
    rcases hx with rfl | hx
    · omega
    · have := hv.ok.on x hx; have := hv.ok.cap2; omega
  refine (h.mut (Q := fun e A' rd' => e = .returned (.tuple #[.int .u32 (i : Int), .int .i64 0]) ∧ A' = A.made i t (A.node key val l r) ∧ rd' = rd) fun F1 hI => (I.make p A rd F1 key val l r held wr hI hv ha hm hk.1 hk.2 hw.1 hw.2 (hlt hl) (hlt hr)).mono fun e w' ⟨F', hal, _, _, h6⟩ => ?_).mono ?_
  · obtain ⟨h7, h8⟩ := h6 ⟨hl, hr, hs⟩ i t hf
    exact ⟨F', _, rd, hal, h8, h7, rfl, rfl⟩
  · rintro e w1 ⟨A', rd', ⟨hq1, rfl, rfl⟩, h6⟩
    exact ⟨hq1, h6⟩
theorem Ins.release (h : Ins I w F p A rd rs bs wr) {held : Nat → Nat} {i : Nat} (hi : i < 4294967296) (hx : A.Idx i) (hv : A.Inv [i] held) :
    Calls Try.prog 11 #[p, .int .u32 (i : Int)] wr fun e w' => e = .returned (.tuple #[.int .i64 (A.freed i : Int), .int .i64 0]) ∧ Ins I w F p (A.gone i) rd rs bs w' := by
  refine (h.mut (Q := fun e A' rd' => e = .returned (.tuple #[.int .i64 (A.freed i : Int), .int .i64 0]) ∧ A' = A.gone i ∧ rd' = rd) fun F1 hI => (I.release p A rd F1 i held wr hI hi (fun _ => hv)).mono fun e w' ⟨F', hal, _, h6⟩ => ⟨F', _, rd, hal, (h6 hx).2, (h6 hx).1, rfl, rfl⟩).mono ?_
  rintro e w1 ⟨A', rd', ⟨hq1, rfl, rfl⟩, h6⟩
  exact ⟨hq1, h6⟩
theorem Ins.retain (h : Ins I w F p A rd rs bs wr) {i : Nat} (hi : i < 4294967296) (hx : A.Idx i) (hc : A.cnt i < 4611686018427387904) :
    Calls Try.prog 20 #[p, .int .u32 (i : Int)] wr fun e w' => e = .returned (.int .i64 0) ∧ Ins I w F p (A.ret i) rd rs bs w' := by
  refine (h.mut (Q := fun e A' rd' => e = .returned (.int .i64 0) ∧ A' = A.ret i ∧ rd' = rd) fun F1 hI => (I.retain p A rd F1 i wr hI hi (fun _ => hc)).mono fun e w' ⟨F', hal, _, h6⟩ => ⟨F', _, rd, hal, (h6 hx).2, (h6 hx).1, rfl, rfl⟩).mono ?_
  rintro e w1 ⟨A', rd', ⟨hq1, rfl, rfl⟩, h6⟩
  exact ⟨hq1, h6⟩
end
end Go.Proofs.Ytehaffcjoafkcaa
