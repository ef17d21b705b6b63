/- The program's traversal of a tree: its variable, read and pass; over contracts of an arena. -/
import Derived.Test.YticfihklfnjeoaaShMeas
import Derived.Test.YticfihklfnjeoaaShOk1
import Derived.Test.YticfihklfnjeoaaSlotsAid
import Derived.Deep.RegionHeld3
import Derived.Deep.QuietTactic
import Derived.OwnWalk
set_option linter.unusedVariables false
set_option linter.unusedSimpArgs false
namespace Go.Proofs.Yticfihklfnjeoaa
open Go.RowKit
/-- a tree in order has no more nodes than slots are allocated -/
theorem ord_above {A : Ar} (hok : A.σ.Ok) {i : Nat} {t : Tr} (h : Sub A i t) : ∀ {s s' : Option Int}, ordT A.nd t s = some s' → A.above s' + t.size ≤ A.above s := by
  induction h with
  | nil =>
    intro s s' h
    cases h
    simp [Tr.size]
  | node i l r h0 h1 hl hr ihl ihr =>
    intro s s' h
    unfold ordT at h
    show A.above s' + (l.size + r.size + 1) ≤ _
    cases hL : ordT A.nd l s with
    | none => rw [hL] at h; cases h
    | some s1 =>
      rw [hL] at h
      have e1 := ihl hL
      cases s1 with
      | none =>
        have e2 := ihr h
        have e3 := A.above_step (s := none) hok h1 (fun k hk => by cases hk)
        omega
      | some k =>
        by_cases hle : (A.nd i).key ≤ k
        · simp only [if_pos hle] at h; cases h
        · simp only [if_neg hle] at h
          have e2 := ihr h
          have e3 := A.above_step (s := some k) hok h1 (fun k' hk => by cases hk; omega)
          omega
theorem above_free {A : Ar} (hok : A.σ.Ok) : A.above none + A.σ.free.length ≤ A.σ.cap := by
  have h := St.nodup_le A.σ.cap (((List.range' 1 A.σ.cap).filter fun i => A.σ.on i && true) ++ A.σ.free) (by
    rw [List.nodup_append]
    refine ⟨List.Pairwise.filter _ List.nodup_range', hok.nodup, fun x hx y hy hxy => ?_⟩
    subst hxy
    have h1 := (hok.free x).1 hy
    have h2 := (List.mem_filter.1 hx).2
    rw [h1.2.2] at h2
    cases h2) (fun x hx => by
    rcases List.mem_append.1 hx with hx | hx
    · have := List.mem_range'_1.1 (List.mem_filter.1 hx).1
      omega
    · have := (hok.free x).1 hx
      omega)
  rw [List.length_append] at h
  exact h
section
variable {I : AImpl} {B : Nat} {w0 w : World} {p : Value} {A : Ar} {top : Int} {G : Nat → Prop}
theorem MS.cell (h : MS I B w0 w p A top G) {g : Nat} (hg : G g) (hB : B ≤ g) (j : Nat) (v : Value) : MS I B w0 (w.setCell ⟨g, j, none⟩ v) p A top G := by
  obtain ⟨rd, F, h1, h2, h3, h4, h5⟩ := h.has
  have ho : ∀ k, k ≠ g → (w.setCell ⟨g, j, none⟩ v).heap[k]? = w.heap[k]? := fun k hk => heap_setCell_other _ _ _ _ hk
  have hsz : (w.setCell ⟨g, j, none⟩ v).heap.size = w.heap.size := by simp [World.setCell]
  refine ⟨⟨rd, F, I.keep h1 fun k hk => ho k fun e => (h5 g hg).2 (e ▸ hk), h2, h3, h4, fun k hk => ⟨by rw [hsz]; exact (h5 k hk).1, (h5 k hk).2⟩⟩, ?_, by rw [hsz]; exact h.hB⟩
  exact h.below.trans ⟨rfl, rfl, rfl, Nat.le_of_eq hsz.symm, fun k hk => ho k (by omega)⟩
theorem MS.row (h : MS I B w0 w p A top G) {g : Nat} (hg : G g) (hB : B ≤ g) (cs : Array Value) : MS I B w0 (w.setRow g cs) p A top G := by
  obtain ⟨rd, F, h1, h2, h3, h4, h5⟩ := h.has
  have hsz : (w.setRow g cs).heap.size = w.heap.size := size_setRow w g cs
  exact ⟨⟨rd, F, I.keep h1 fun k hk => setRow_other _ _ _ _ fun e => (h5 g hg).2 (e ▸ hk), h2, h3, h4, fun k hk => ⟨by rw [hsz]; exact (h5 k hk).1, (h5 k hk).2⟩⟩, below_setRow h.below hB _, by rw [hsz]; exact h.hB⟩
theorem MS.raise (h : MS I B w0 w p A top G) {top' : Int} (ht : top ≤ top') : MS I B w0 w p A top' G := by
  obtain ⟨rd, F, h1, h2, h3, h4, h5⟩ := h.has
  exact ⟨⟨rd, F, h1, h2, by omega, h4, h5⟩, h.below, h.hB⟩
theorem ms_node_off (h : MS I B w0 w p A top G) (ht : top ≤ 4398046511104) {i : Nat} (hi : i < 4294967296) (hon : A.σ.on i = false) :
    Calls Try.prog 27 #[p, .int .u32 (i : Int)] w fun e w' => e = .returned (.tuple #[.agg (ndRow Nd.zero), .bool false]) ∧ MS I B w0 w' p A top G ∧ Keeps G w w' := by
  obtain ⟨rd, F, h1, h2, h3, h4, h5⟩ := h.has
  refine (I.node p A rd F i w h1 h2 (by omega) hi).mono ?_
  rintro e w1 ⟨F', hal, h6, _⟩
  obtain ⟨rfl, h7⟩ := h6 hon
  have := h.step h4 h5 hal h7 (top' := top) (by omega) (by omega)
  exact ⟨rfl, this.1, this.2⟩
end
/-- the traversal's variable beside the arena -/
structure TW (I : AImpl) (B : Nat) (w0 w : World) (p : Value) (A : Ar) (top : Int) (q u : Nat) (s : Option Int) (b : Bool) (X : Nat → Prop) : Prop where
  ms : MS I B w0 w p A top (fun k => k = q ∨ X k)
  box : w.heap[q]? = some (.cells #[p, .int .i64 (u : Int), .bool s.isSome, .int .i64 (s.getD 0), .bool b] 88 (0, 0))
  nq : ¬ X q
  hq : B ≤ q
section
variable {I : AImpl} {B q u u' : Nat} {w0 w w' : World} {p : Value} {A : Ar} {top top' : Int} {s s' : Option Int} {b b' : Bool} {X : Nat → Prop}
theorem TW.keep (h : TW I B w0 w p A top q u s b X) {Y : Nat → Prop} (hm : MS I B w0 w' p A top' (fun k => k = q ∨ Y k)) (hk : w'.heap[q]? = w.heap[q]?) (hY : ¬ Y q) : TW I B w0 w' p A top' q u s b Y := ⟨hm, hk.trans h.box, hY, h.hq⟩
theorem TW.keeps (h : TW I B w0 w p A top q u s b X) (hb : Below w.heap.size w w') : Keeps X w w' := fun k hk => h.ms.keeps hb k (.inr hk)
theorem TW.calm (h : TW I B w0 w p A top q u s b X) (hb : Below w.heap.size w w') : TW I B w0 w' p A top q u s b X := h.keep (h.ms.calm hb) (h.ms.keeps hb q (.inl rfl)) h.nq
theorem TW.alloc (h : TW I B w0 w p A top q u s b X) (o : Obj) : TW I B w0 (w.alloc o) p A top q u s b (fun k => X k ∨ k = w.heap.size) := by
  have hq := h.ms.lt (.inl rfl)
  refine h.keep ((h.ms.alloc o).less fun k hk => ?_) (h.ms.keeps (below_new7 w o) q (.inl rfl)) ?_
  · rcases hk with hk | hk | hk
    · exact .inl (.inl hk)
    · exact .inl (.inr hk)
    · exact .inr hk
  · rintro (h1 | h1)
    · exact h.nq h1
    · omega
theorem TW.less {Y : Nat → Prop} (h : TW I B w0 w p A top q u s b X) (hY : ∀ k, Y k → X k) : TW I B w0 w p A top q u s b Y := h.keep (h.ms.less fun k hk => hk.imp_right (hY k)) rfl fun h1 => h.nq (hY q h1)
theorem TW.le (h : TW I B w0 w p A top q u s b X) (ht : top ≤ top') : TW I B w0 w p A top' q u s b X := h.keep (h.ms.raise ht) rfl h.nq
theorem TW.cells (h : TW I B w0 w p A top q u s b X) : w.cell? ⟨q, 0, none⟩ = some p ∧ w.cell? ⟨q, 1, none⟩ = some (.int .i64 (u : Int)) ∧ w.cell? ⟨q, 2, none⟩ = some (.bool s.isSome) ∧ w.cell? ⟨q, 3, none⟩ = some (.int .i64 (s.getD 0)) ∧ w.cell? ⟨q, 4, none⟩ = some (.bool b) := by
  refine ⟨?_, ?_, ?_, ?_, ?_⟩ <;> (rw [cell_of_row _ _ _ _ _ _ h.box]; rfl)
theorem TW.frozen (h : TW I B w0 w p A top q u s b X) (j : Nat) : w.frozen? ⟨q, j, none⟩ = false := frozen_of_row _ _ _ _ _ h.box
theorem TW.lt (h : TW I B w0 w p A top q u s b X) {k : Nat} (hk : X k) : k < w.heap.size := h.ms.lt (.inr hk)
theorem TW.qlt (h : TW I B w0 w p A top q u s b X) : q < w.heap.size := h.ms.lt (.inl rfl)
/-- a cell of the variable is stored -/
theorem TW.set (h : TW I B w0 w p A top q u s b X) (j : Nat) (v : Value) (hr : (w.setCell ⟨q, j, none⟩ v).heap[q]? = some (.cells #[p, .int .i64 (u' : Int), .bool s'.isSome, .int .i64 (s'.getD 0), .bool b'] 88 (0, 0))) :
    TW I B w0 (w.setCell ⟨q, j, none⟩ v) p A top q u' s' b' X ∧ Keeps X w (w.setCell ⟨q, j, none⟩ v) :=
  ⟨⟨h.ms.cell (.inl rfl) h.hq j v, hr, h.nq, h.hq⟩, fun k hk => heap_setCell_other _ _ _ _ fun (e : k = q) => h.nq (e ▸ hk)⟩
theorem TW.set1 (h : TW I B w0 w p A top q u s b X) (n : Nat) : TW I B w0 (w.setCell ⟨q, 1, none⟩ (.int .i64 (n : Int))) p A top q n s b X ∧ Keeps X w (w.setCell ⟨q, 1, none⟩ (.int .i64 (n : Int))) :=
  h.set 1 _ (by rw [heap_setCell_same w q 1 _ _ _ h.box]; rfl)
theorem TW.set4 (h : TW I B w0 w p A top q u s b X) : TW I B w0 (w.setCell ⟨q, 4, none⟩ (.bool true)) p A top q u s true X ∧ Keeps X w (w.setCell ⟨q, 4, none⟩ (.bool true)) :=
  h.set 4 _ (by rw [heap_setCell_same w q 4 _ _ _ h.box]; rfl)
theorem TW.next (h : TW I B w0 w p A top q u s b X) (x : Int) : TW I B w0 ((w.setCell ⟨q, 2, none⟩ (.bool true)).setCell ⟨q, 3, none⟩ (.int .i64 x)) p A top q u (some x) b X ∧ Keeps X w ((w.setCell ⟨q, 2, none⟩ (.bool true)).setCell ⟨q, 3, none⟩ (.int .i64 x)) := by
  have h1 := h.set (u' := u) (s' := some (s.getD 0)) (b' := b) 2 (.bool true) (by rw [heap_setCell_same w q 2 _ _ _ h.box]; rfl)
  have h2 := h1.1.set (u' := u) (s' := some x) (b' := b) 3 (.int .i64 x) (by rw [heap_setCell_same _ q 3 _ _ _ h1.1.box]; rfl)
  exact ⟨h2.1, fun k hk => (h2.2 k hk).trans (h1.2 k hk)⟩
theorem TW.row (h : TW I B w0 w p A top q u s b X) {g : Nat} (hg : X g) (hB : B ≤ g) (cs : Array Value) : TW I B w0 (w.setRow g cs) p A top q u s b X :=
  h.keep (h.ms.row (.inr hg) hB cs) (setRow_other _ _ _ _ fun e => h.nq (e ▸ hg)) h.nq
theorem TW.cell (h : TW I B w0 w p A top q u s b X) {g : Nat} (hg : X g) (hB : B ≤ g) (j : Nat) (v : Value) : TW I B w0 (w.setCell ⟨g, j, none⟩ v) p A top q u s b X :=
  h.keep (h.ms.cell (.inr hg) hB j v) (heap_setCell_other _ _ _ _ fun e => h.nq (e ▸ hg)) h.nq
theorem tw_node (h : TW I B w0 w p A top q u s b X) (ht : top ≤ 4398046511104) {i : Nat} (hi : i < 4294967296) (hon : A.σ.on i = true) :
    Calls Try.prog 27 #[p, .int .u32 (i : Int)] w fun e w' => e = .returned (.tuple #[.agg (ndRow (A.nd i)), .bool true]) ∧ TW I B w0 w' p A (top + 1) q u s b X ∧ Keeps X w w' := by
  refine (ms_node h.ms ht hi hon).mono ?_
  rintro e w1 ⟨he, h1, h2⟩
  exact ⟨he, h.keep h1 (h2 q (.inl rfl)) h.nq, fun k hk => h2 k (.inr hk)⟩
theorem tw_node_off (h : TW I B w0 w p A top q u s b X) (ht : top ≤ 4398046511104) {i : Nat} (hi : i < 4294967296) (hon : A.σ.on i = false) :
    Calls Try.prog 27 #[p, .int .u32 (i : Int)] w fun e w' => e = .returned (.tuple #[.agg (ndRow Nd.zero), .bool false]) ∧ TW I B w0 w' p A top q u s b X ∧ Keeps X w w' := by
  refine (ms_node_off h.ms ht hi hon).mono ?_
  rintro e w1 ⟨he, h1, h2⟩
  exact ⟨he, h.keep h1 (h2 q (.inl rfl)) h.nq, fun k hk => h2 k (.inr hk)⟩
end
def RdRes (I : AImpl) (B : Nat) (w0 : World) (p : Value) (A : Ar) (q i u : Nat) (s : Option Int) (b : Bool) (top : Int) (X : Nat → Prop) (w : World) (e : Ending) (w' : World) : Prop :=
  Keeps X w w' ∧ ((∃ k, u = k + 1 ∧ e = .returned (.tuple #[.agg (ndRow (A.nd i)), .int .i64 0]) ∧ TW I B w0 w' p A (top + 1) q k s b X) ∨
    (u = 0 ∧ e = .returned (.tuple #[.agg (ndRow Nd.zero), .int .i64 7]) ∧ TW I B w0 w' p A (top + 1) q u s b X))
set_option maxHeartbeats 4000000 in
set_option maxRecDepth 100000 in
theorem read_on {I : AImpl} {B : Nat} {w0 w : World} {pa : Addr} {A : Ar} {q u i : Nat} {s : Option Int} {b : Bool} {top : Int} {X : Nat → Prop} (h : TW I B w0 w (.pointer (some pa)) A top q u s b X) (ht : top ≤ 4398046511104) (hi : i < 4294967296) (hon : A.σ.on i = true) (hu : u ≤ 65536) :
    Calls Try.prog 58 #[.pointer (some ⟨q, 0, none⟩), .int .u32 (i : Int)] w (RdRes I B w0 (.pointer (some pa)) A q i u s b top X w) := by
  have HU : Hid _ := Lib.hid Try.underlying47
  have hin : (Try.prog.info? 47).map (·.size) = some 8 := by kernel_rfl
  have HIN := Lib.hid hin
  have hw1 := h.alloc (Obj.cells (ndRow Nd.zero) 47)
  have hp1 := heap_alloc_new w (Obj.cells (ndRow Nd.zero) 47)
  have hk1 : Keeps X w (w.alloc (Obj.cells (ndRow Nd.zero) 47)) := h.keeps (below_new7 w _)
  have HB : Hid (B ≤ w.heap.size) := h.ms.hB
  have HG : Hid (¬ X w.heap.size) := fun hx => Nat.lt_irrefl _ (h.lt hx)
  have HT := Lib.hid ht
  have HI := Lib.hid hi
  have HON := Lib.hid hon
  have HUU := Lib.hid hu
  clear h ht hi hon hu hin
  go_enter Try.func58, Try.ntmps58
  go_upto_region 1 with fail
  rw [show #[Value.int .i64 0, .int .i64 0, .int .u32 0, .int .u32 0, .int .i64 0, .int .i64 0, .int .i64 0, .int .i64 0] = ndRow Nd.zero from rfl]
  generalize w.alloc (Obj.cells (ndRow Nd.zero) 47) = w1 at hw1 hp1 hk1 ⊢
  generalize w.heap.size = g at hw1 hp1 HB HG ⊢
  obtain ⟨c0, c1, -, -, -⟩ := hw1.cells
  have HW1 := Lib.hid hw1
  have HP1 := Lib.hid hp1
  have HK1 := Lib.hid hk1
  clear hw1 hp1 hk1
  go_wp2_with fail
  refine (tw_node HW1.out HT.out HI.out HON.out).mono ?_
  rintro e w2 ⟨rfl, hw2, hk2⟩
  have hp2 := (hk2 g (.inr rfl)).trans HP1.out
  have hkk2 : Keeps X w w2 := fun k hk => (hk2 k (.inl hk)).trans (HK1.out k hk)
  unfold ndRow
  go_upto_region 2 with fail
  rw [show #[Value.int .i64 (A.nd i).key, .int .i64 (A.nd i).val, .int .u32 ((A.nd i).left : Int), .int .u32 ((A.nd i).right : Int), .int .i64 (A.nd i).size, .int .i64 (A.nd i).sum, .int .i64 (A.nd i).mn, .int .i64 (A.nd i).mx] = ndRow (A.nd i) from rfl]
  have hw3 := hw2.alloc (Obj.cells (ndRow (A.nd i)) 47)
  have hn3 := heap_alloc_new w2 (Obj.cells (ndRow (A.nd i)) 47)
  have hb3 := below_new7 w2 (Obj.cells (ndRow (A.nd i)) 47)
  have hk3 : Keeps X w (w2.alloc (Obj.cells (ndRow (A.nd i)) 47)) := fun k hk => (hw2.keeps hb3 k (.inl hk)).trans (hkk2 k hk)
  have hp3 := (hw2.keeps hb3 g (.inr rfl)).trans hp2
  have HGN : Hid (w2.heap.size ≠ g) := fun e => Nat.lt_irrefl _ (e ▸ hw2.lt (.inr rfl) : w2.heap.size < w2.heap.size)
  generalize w2.alloc (Obj.cells (ndRow (A.nd i)) 47) = w3 at hw3 hn3 hk3 hp3 ⊢
  generalize w2.heap.size = gn at hw3 hn3 HGN ⊢
  obtain ⟨-, c1, -, -, -⟩ := hw3.cells
  have f1 := hw3.frozen 1
  have HW3 := Lib.hid hw3
  have HP3 := Lib.hid hp3
  have HN3 := Lib.hid hn3
  have HK3 := Lib.hid hk3
  clear hw2 hk2 hp2 hkk2 hb3 hw3 hn3 hk3 hp3 HW1 HP1 HK1
  cases u with
  | zero =>
    have HR : Hid (RdRes I B w0 (.pointer (some pa)) A q i 0 s b top X w (.returned (.tuple #[.agg (ndRow Nd.zero), .int .i64 7])) (w3.setRow g (ndRow Nd.zero))) :=
      ⟨fun k hk => (setRow_other _ g k _ fun e => HG.out (e ▸ hk)).trans (HK3.out k hk), .inr ⟨rfl, rfl, (HW3.out.row (.inl (.inr rfl)) HB.out _).less fun k hk => .inl (.inl hk)⟩⟩
    go_wp2_with (refine wpList_store_row rfl 47 (.tmp 4) (.tmp 25) rfl g (ndRow Nd.zero) rfl rfl 47 _ HP3.out HIN.out rfl (ndRow_one _) ?_)
    refine bodyPost_ret (results_row_tmp rfl _ _ g 47 (ndRow Nd.zero) (0, 0) _ rfl (setRow_heap _ _ _ _ _ _ HP3.out) HU.out rfl HIN.out) rfl ?_
    exact HR.out
  | succ u =>
    have hu0 : (((u + 1 : Nat) : Int) == 0) = false := by simp; omega
    have hw1 : IntKind.i64.wrap (((u + 1 : Nat) : Int) - 1) = (u : Int) := by rw [IntKind.wrap_i64]; have := HUU.out; omega
    have hw4 := HW3.out.set1 u
    have HP4 := Lib.hid ((hw4.2 g (.inl (.inr rfl))).trans HP3.out)
    have HN4 := Lib.hid ((hw4.2 gn (.inr rfl)).trans HN3.out)
    have HK4 : Hid (Keeps X w (w3.setCell ⟨q, 1, none⟩ (.int .i64 (u : Int)))) := fun k hk => (hw4.2 k (.inl (.inl hk))).trans (HK3.out k hk)
    have HW4 := Lib.hid hw4.1
    clear hw4
    generalize hU : ((u + 1 : Nat) : Int) = U at c1 hu0 hw1
    have HUe := Lib.hid hU
    clear hU
    go_upto_region 7 with fail
    generalize w3.setCell ⟨q, 1, none⟩ (.int .i64 (u : Int)) = w4 at HP4 HN4 HK4 HW4 ⊢
    clear c1 f1
    have HR : Hid (RdRes I B w0 (.pointer (some pa)) A q i (u + 1) s b top X w (.returned (.tuple #[.agg (ndRow (A.nd i)), .int .i64 0])) (w4.setRow g (ndRow (A.nd i)))) :=
      ⟨fun k hk => (setRow_other _ g k _ fun e => HG.out (e ▸ hk)).trans (HK4.out k hk), .inl ⟨u, rfl, rfl, (HW4.out.row (.inl (.inr rfl)) HB.out _).less fun k hk => .inl (.inl hk)⟩⟩
    go_wp2_with (first
      | refine wpList_load_row rfl 47 (.tmp 6) rfl gn rfl 47 _ (0, 0) _ HN4.out HU.out rfl HIN.out ?_
      | refine wpList_store_row rfl 47 (.tmp 4) (.tmp 33) rfl g (ndRow (A.nd i)) rfl rfl 47 _ HP4.out HIN.out rfl (ndRow_one _) ?_)
    refine bodyPost_ret (results_row_tmp rfl _ _ g 47 (ndRow (A.nd i)) (0, 0) _ rfl (setRow_heap _ _ _ _ _ _ HP4.out) HU.out rfl HIN.out) rfl ?_
    exact HR.out
set_option maxHeartbeats 4000000 in
set_option maxRecDepth 100000 in
theorem read_off {I : AImpl} {B : Nat} {w0 w : World} {pa : Addr} {A : Ar} {q u i : Nat} {s : Option Int} {b : Bool} {top : Int} {X : Nat → Prop} (h : TW I B w0 w (.pointer (some pa)) A top q u s b X) (ht : top ≤ 4398046511104) (hi : i < 4294967296) (hon : A.σ.on i = false) :
    Calls Try.prog 58 #[.pointer (some ⟨q, 0, none⟩), .int .u32 (i : Int)] w fun e w' => e = .returned (.tuple #[.agg (ndRow Nd.zero), .int .i64 1]) ∧ TW I B w0 w' (.pointer (some pa)) A top q u s b X ∧ Keeps X w w' := by
  have HU : Hid _ := Lib.hid Try.underlying47
  have hin : (Try.prog.info? 47).map (·.size) = some 8 := by kernel_rfl
  have HIN := Lib.hid hin
  have hw1 := h.alloc (Obj.cells (ndRow Nd.zero) 47)
  have hp1 := heap_alloc_new w (Obj.cells (ndRow Nd.zero) 47)
  have hk1 : Keeps X w (w.alloc (Obj.cells (ndRow Nd.zero) 47)) := h.keeps (below_new7 w _)
  have HB : Hid (B ≤ w.heap.size) := h.ms.hB
  have HG : Hid (¬ X w.heap.size) := fun hx => Nat.lt_irrefl _ (h.lt hx)
  have HT := Lib.hid ht
  have HI := Lib.hid hi
  have HON := Lib.hid hon
  clear h ht hi hon hin
  go_enter Try.func58, Try.ntmps58
  go_upto_region 1 with fail
  rw [show #[Value.int .i64 0, .int .i64 0, .int .u32 0, .int .u32 0, .int .i64 0, .int .i64 0, .int .i64 0, .int .i64 0] = ndRow Nd.zero from rfl]
  generalize w.alloc (Obj.cells (ndRow Nd.zero) 47) = w1 at hw1 hp1 hk1 ⊢
  generalize w.heap.size = g at hw1 hp1 HB HG ⊢
  obtain ⟨c0, c1, -, -, -⟩ := hw1.cells
  have HW1 := Lib.hid hw1
  have HP1 := Lib.hid hp1
  have HK1 := Lib.hid hk1
  clear hw1 hp1 hk1
  go_wp2_with fail
  refine (tw_node_off HW1.out HT.out HI.out HON.out).mono ?_
  rintro e w2 ⟨rfl, hw2, hk2⟩
  have hp2 := (hk2 g (.inr rfl)).trans HP1.out
  have hkk2 : Keeps X w w2 := fun k hk => (hk2 k (.inl hk)).trans (HK1.out k hk)
  unfold ndRow
  go_upto_region 2 with fail
  rw [show #[Value.int .i64 Nd.zero.key, .int .i64 Nd.zero.val, .int .u32 (Nd.zero.left : Int), .int .u32 (Nd.zero.right : Int), .int .i64 Nd.zero.size, .int .i64 Nd.zero.sum, .int .i64 Nd.zero.mn, .int .i64 Nd.zero.mx] = ndRow Nd.zero from rfl]
  have hw3 := hw2.alloc (Obj.cells (ndRow Nd.zero) 47)
  have hb3 := below_new7 w2 (Obj.cells (ndRow Nd.zero) 47)
  have hk3 : Keeps X w (w2.alloc (Obj.cells (ndRow Nd.zero) 47)) := fun k hk => (hw2.keeps hb3 k (.inl hk)).trans (hkk2 k hk)
  have hp3 := (hw2.keeps hb3 g (.inr rfl)).trans hp2
  generalize w2.alloc (Obj.cells (ndRow Nd.zero) 47) = w3 at hw3 hk3 hp3 ⊢
  have HW3 := Lib.hid hw3
  have HP3 := Lib.hid hp3
  have HK3 := Lib.hid hk3
  clear hw2 hk2 hp2 hkk2 hb3 hw3 hk3 hp3 HW1 HP1 HK1
  go_wp2_with (refine wpList_store_row rfl 47 (.tmp 4) (.tmp 19) rfl g (ndRow Nd.zero) rfl rfl 47 _ HP3.out HIN.out rfl (ndRow_one _) ?_)
  refine bodyPost_ret (results_row_tmp rfl _ _ g 47 (ndRow Nd.zero) (0, 0) _ rfl (setRow_heap _ _ _ _ _ _ HP3.out) HU.out rfl HIN.out) rfl ?_
  exact ⟨rfl, (HW3.out.row (.inl (.inr rfl)) HB.out _).less fun k hk => .inl (.inl hk), fun k hk => (setRow_other _ g k _ fun e => HG.out (e ▸ hk)).trans (HK3.out k hk)⟩
def PassRes (I : AImpl) (B : Nat) (w0 : World) (p : Value) (A : Ar) (q u : Nat) (s : Option Int) (b : Bool) (top : Int) (X : Nat → Prop) (w : World) (v : Int) (e : Ending) (w' : World) : Prop :=
  e = .returned (.int .i64 v) ∧ TW I B w0 w' p A top q u s b X ∧ Keeps X w w'
set_option maxHeartbeats 4000000 in
set_option maxRecDepth 100000 in
theorem pass_ok {I : AImpl} {B : Nat} {w0 w : World} {p : Value} {A : Ar} {q u : Nat} {s : Option Int} {b : Bool} {top : Int} {X : Nat → Prop} (h : TW I B w0 w p A top q u s b X) (x : Int) (hlt : ∀ k, s = some k → k < x) :
    Calls Try.prog 59 #[.pointer (some ⟨q, 0, none⟩), .int .i64 x] w (PassRes I B w0 p A q u (some x) b top X w 0) := by
  have HW := Lib.hid h
  obtain ⟨-, -, c2, c3, -⟩ := h.cells
  have f2 := h.frozen 2
  have f3 := h.frozen 3
  have hguard : s.isSome = false ∨ (s.isSome = true ∧ decide (x ≤ s.getD 0) = false) := by
    cases s with
    | none => exact .inl rfl
    | some k => exact .inr ⟨rfl, decide_eq_false (by have := hlt k rfl; show ¬ x ≤ k; omega)⟩
  clear h hlt
  generalize s.isSome = bS at c2 hguard
  generalize s.getD 0 = kS at c3 hguard
  have hw4 := HW.out.next x
  have HP : Hid (PassRes I B w0 p A q u (some x) b top X w 0 (.returned (.int .i64 0)) ((w.setCell ⟨q, 2, none⟩ (.bool true)).setCell ⟨q, 3, none⟩ (.int .i64 x))) := ⟨rfl, hw4.1, hw4.2⟩
  clear hw4
  rcases hguard with hg1 | ⟨hg1, hg2⟩
  all_goals
    subst hg1
    go_enter Try.func59, Try.ntmps59
    go_wp2_with fail
    go_ret
    exact HP.out
set_option maxHeartbeats 4000000 in
set_option maxRecDepth 100000 in
theorem pass_bad {I : AImpl} {B : Nat} {w0 w : World} {p : Value} {A : Ar} {q u : Nat} {k : Int} {b : Bool} {top : Int} {X : Nat → Prop} (h : TW I B w0 w p A top q u (some k) b X) (x : Int) (hle : x ≤ k) :
    Calls Try.prog 59 #[.pointer (some ⟨q, 0, none⟩), .int .i64 x] w (PassRes I B w0 p A q u (some k) b top X w 7) := by
  have HW := Lib.hid h
  obtain ⟨-, -, c2, c3, -⟩ := h.cells
  have c2' : w.cell? ⟨q, 2, none⟩ = some (.bool true) := c2
  have c3' : w.cell? ⟨q, 3, none⟩ = some (.int .i64 k) := c3
  have hled : decide (x ≤ k) = true := decide_eq_true hle
  clear h hle c2 c3
  go_enter Try.func59, Try.ntmps59
  have HP : Hid (PassRes I B w0 p A q u (some k) b top X w 7 (.returned (.int .i64 7)) w) := ⟨rfl, HW.out, fun _ _ => rfl⟩
  go_wp2_with fail
  go_ret
  exact HP.out
end Go.Proofs.Yticfihklfnjeoaa
