/- Of the proofs of UpdateInserts, UpdateDeletes, JoinJoins, JoinConcatenates, JoinSplits: Near, Near2, JnWfo, OrdAb, LkOk1, LkOk2. -/
import Derived.Test.YtckkmmdibgoajaaGreatV1
import Derived.Test.YtckkmmdibgoajaaGreatV2
import Derived.Test.YtckkmmdibgoajaaGreatV3
import Derived.Test.YtckkmmdibgoajaaGreatV4
import Derived.Test.YtckkmmdibgoajaaGreatV5
import Derived.Test.YtckkmmdibgoajaaGreatV6
import Derived.Test.YtckkmmdibgoajaaGreatV7
import Derived.Test.YtckkmmdibgoajaaGreatV8
import Derived.Test.YtckkmmdibgoajaaGreatV9
import Derived.OwnWalk
import Derived.Deep.DeepCutAuto
set_option linter.unusedVariables false
namespace Go.Proofs.YtckkmmdibgoajaaGreat
theorem rankE_cons (x : En) (t : List En) (k : Int) : rankE (x :: t) k = rankE t k + (if x.key < k then 1 else 0) := by
  unfold rankE
  rw [List.countP_cons]
  by_cases h : x.key < k <;> simp [h]
theorem rankE_zero : ∀ {t : List En} {k : Int}, (∀ y ∈ t, k ≤ y.key) → rankE t k = 0
  | [], k, h => rfl
  | x :: t, k, h => by
    rw [rankE_cons, rankE_zero (fun y hy => h y (by simp [hy])), if_neg (by have := h x (by simp); omega)]
/-- the entries before the rank have lesser keys, those behind it none -/
theorem rank_iff : ∀ {l : List En} (k : Int), Up l → ∀ {j : Nat} {e : En}, l[j]? = some e → (e.key < k ↔ j < rankE l k)
  | [], k, h, j, e, he => by simp at he
  | x :: t, k, h, j, e, he => by
    unfold Up at h
    rw [List.pairwise_cons] at h
    rw [rankE_cons]
    match j, he with
    | 0, he =>
      simp at he
      subst he
      by_cases hx : x.key < k
      · rw [if_pos hx]; exact ⟨fun _ => by omega, fun _ => hx⟩
      · rw [if_neg hx, rankE_zero (fun y hy => by have := h.1 y hy; omega)]
        exact ⟨fun h => absurd h hx, fun h => absurd h (by omega)⟩
    | j + 1, he =>
      simp at he
      have hm := List.mem_of_getElem? he
      have hlt := h.1 e hm
      have ih := rank_iff k h.2 he
      by_cases hx : x.key < k
      · rw [if_pos hx]
        exact ⟨fun h => by have := ih.1 h; omega, fun h => ih.2 (by omega)⟩
      · rw [if_neg hx, rankE_zero (fun y hy => by have := h.1 y hy; omega)]
        exact ⟨fun h => by omega, fun h => by omega⟩
theorem rank_of {l : List En} (h : Up l) {j : Nat} {e : En} (he : l[j]? = some e) : rankE l e.key = j := by
  have h1 := rank_iff e.key h he
  have hj := (List.getElem?_eq_some_iff.1 he).1
  rcases Nat.lt_trichotomy (rankE l e.key) j with h2 | h2 | h2
  · have h3 : l[rankE l e.key]? = some l[rankE l e.key] := List.getElem?_eq_getElem (by omega)
    have h4 := rank_iff e.key h h3
    have h5 : l[rankE l e.key].key < e.key := by
      have := List.pairwise_iff_getElem.1 h (rankE l e.key) j (by omega) hj h2
      rw [List.getElem?_eq_getElem hj] at he
      have e2 : l[j].key = e.key := by rw [Option.some.inj he]
      omega
    have := h4.1 h5
    omega
  · exact h2
  · have := h1.2 h2; omega
theorem get_some {l : List En} {k : Int} {e : En} (h : getE l k = some e) : e ∈ l ∧ e.key = k := by
  unfold getE at h
  have h2 := List.find?_some h
  exact ⟨List.mem_of_find?_eq_some h, of_decide_eq_true h2⟩
theorem get_none {l : List En} {k : Int} (h : getE l k = none) : ∀ e ∈ l, e.key ≠ k := fun e he => by
  unfold getE at h
  have := List.find?_eq_none.1 h e he
  simpa using this
theorem selE_nat (l : List En) (j : Nat) : selE l (j : Int) = l[j]? := by unfold selE; rw [if_pos (by omega), Int.toNat_natCast]
theorem selE_pred (l : List En) (j : Nat) : selE l ((j : Int) - 1) = if j = 0 then none else l[j - 1]? := by
  unfold selE
  by_cases h : j = 0
  · rw [if_pos h, if_neg (by omega)]
  · rw [if_neg h, if_pos (by omega), show ((j : Int) - 1).toNat = j - 1 by omega]
end Go.Proofs.YtckkmmdibgoajaaGreat
set_option linter.unusedVariables false
namespace Go.Proofs.YtckkmmdibgoajaaGreat
theorem up_app {A B : List En} {e : En} (h : Up (A ++ e :: B)) : Up A ∧ Up B ∧ (∀ x ∈ A, x.key < e.key) ∧ ∀ x ∈ B, e.key < x.key := by
  unfold Up at *
  rw [List.pairwise_append, List.pairwise_cons] at h
  exact ⟨h.1, h.2.1.2, fun x hx => h.2.2 x hx e (by simp), h.2.1.1⟩
theorem rankE_app (A B : List En) (k : Int) : rankE (A ++ B) k = rankE A k + rankE B k := by unfold rankE; exact List.countP_append
theorem rankE_all : ∀ {A : List En} {k : Int}, (∀ x ∈ A, x.key < k) → rankE A k = A.length
  | [], k, h => rfl
  | x :: t, k, h => by rw [rankE_cons, rankE_all (fun y hy => h y (by simp [hy])), if_pos (h x (by simp))]; rfl
/-- the rank of the next number -/
theorem rank_next {l : List En} (h : Up l) (k : Int) : rankE l (k + 1) = rankE l k + (if (getE l k).isSome then 1 else 0) := by
  cases hg : getE l k with
  | none =>
    have h1 := get_none hg
    show rankE l (k + 1) = rankE l k
    unfold rankE
    exact List.countP_congr fun e he => by
      have := h1 e he
      simp only [decide_eq_true_eq]
      omega
  | some e =>
    obtain ⟨hm, rfl⟩ := get_some hg
    obtain ⟨j, hj, hje⟩ := List.mem_iff_getElem.1 hm
    have hje' : l[j]? = some e := by rw [List.getElem?_eq_getElem hj, hje]
    rw [rank_of h hje']
    show rankE l (e.key + 1) = j + 1
    have h1 := (rank_iff (e.key + 1) h hje').1 (by omega)
    rcases Nat.lt_or_ge (j + 1) (rankE l (e.key + 1)) with h2 | h2
    · have h3 := rankE_le l (e.key + 1)
      have hb : l[j + 1]? = some l[j + 1] := List.getElem?_eq_getElem (by omega)
      have h4 := (rank_iff (e.key + 1) h hb).2 h2
      have h5 := List.pairwise_iff_getElem.1 h j (j + 1) hj (by omega) (by omega)
      rw [hje] at h5
      omega
    · omega
theorem floor_below {l : List En} (h : Up l) (k : Int) : floorE l k = belowE l (k + 1) := by
  unfold floorE belowE
  rw [rank_next h k]
  cases hg : (getE l k).isSome with
  | true => rw [if_pos rfl, if_pos rfl]; congr 1; omega
  | false => rfl
theorem below_node {A B : List En} {e : En} (h : Up (A ++ e :: B)) (k : Int) : belowE (A ++ e :: B) k = if e.key < k then (belowE B k).or (some e) else belowE A k := by
  obtain ⟨h1, h2, h3, h4⟩ := up_app h
  unfold belowE
  rw [rankE_app, rankE_cons, selE_pred]
  by_cases hk : e.key < k
  · rw [if_pos hk, rankE_all (A := A) (fun x hx => by have := h3 x hx; omega), if_neg (by omega), if_pos hk, selE_pred]
    by_cases h0 : rankE B k = 0
    · rw [if_pos h0, h0, show A.length + (0 + 1) - 1 = A.length by omega]
      rw [List.getElem?_append_right (Nat.le_refl _), Nat.sub_self]
      rfl
    · rw [if_neg h0, show A.length + (rankE B k + 1) - 1 = A.length + rankE B k by omega, List.getElem?_append_right (by omega), show A.length + rankE B k - A.length = (rankE B k - 1) + 1 by omega, List.getElem?_cons_succ]
      have := rankE_le B k
      rw [List.getElem?_eq_getElem (by omega)]
      rfl
  · rw [if_neg hk, if_neg hk, rankE_zero (t := B) (fun y hy => by have := h4 y hy; omega), selE_pred]
    simp only [Nat.add_zero]
    by_cases h0 : rankE A k = 0
    · rw [if_pos h0, if_pos h0]
    · have := rankE_le A k
      rw [if_neg h0, if_neg h0, List.getElem?_append_left (by omega)]
theorem ceil_node {A B : List En} {e : En} (h : Up (A ++ e :: B)) (k : Int) : ceilE (A ++ e :: B) k = if e.key < k then ceilE B k else (ceilE A k).or (some e) := by
  obtain ⟨h1, h2, h3, h4⟩ := up_app h
  unfold ceilE
  rw [rankE_app, rankE_cons, selE_nat, selE_nat, selE_nat]
  by_cases hk : e.key < k
  · rw [if_pos hk, if_pos hk, rankE_all (A := A) (fun x hx => by have := h3 x hx; omega), List.getElem?_append_right (by omega), show A.length + (rankE B k + 1) - A.length = rankE B k + 1 by omega, List.getElem?_cons_succ]
  · rw [if_neg hk, if_neg hk, rankE_zero (t := B) (fun y hy => by have := h4 y hy; omega)]
    simp only [Nat.add_zero]
    have := rankE_le A k
    rcases Nat.lt_or_ge (rankE A k) A.length with h0 | h0
    · rw [List.getElem?_append_left h0, List.getElem?_eq_getElem h0]; rfl
    · rw [List.getElem?_append_right h0, show rankE A k - A.length = 0 by omega, List.getElem?_eq_none h0]; rfl
theorem getE_app (A B : List En) (k : Int) : getE (A ++ B) k = (getE A k).or (getE B k) := by unfold getE; exact List.find?_append
theorem getE_none {l : List En} {k : Int} (h : ∀ e ∈ l, e.key ≠ k) : getE l k = none := by
  unfold getE
  exact List.find?_eq_none.2 fun e he => by simpa using h e he
theorem get_node {A B : List En} {e : En} (h : Up (A ++ e :: B)) (k : Int) : getE (A ++ e :: B) k = if k = e.key then some e else if k < e.key then getE A k else getE B k := by
  obtain ⟨h1, h2, h3, h4⟩ := up_app h
  rw [getE_app]
  have hc : getE (e :: B) k = if e.key = k then some e else getE B k := getE_step (l := e :: B) (j := 0) rfl k
  rw [hc]
  by_cases hk : k = e.key
  · rw [if_pos hk, if_pos hk.symm, getE_none (fun x hx => by have := h3 x hx; omega)]; rfl
  · rw [if_neg hk, if_neg (fun e => hk e.symm)]
    by_cases hl : k < e.key
    · rw [if_pos hl, getE_none (l := B) (fun x hx => by have := h4 x hx; omega)]
      cases getE A k <;> rfl
    · rw [if_neg hl, getE_none (l := A) (fun x hx => by have := h3 x hx; omega)]; rfl
def ndE (x : Nd) : En := ⟨x.key, x.val⟩
def bef (nd : Nat → Nd) (k : Int) : Tr → Option En → Option En
  | .nil, o => o
  | .node i l r, o => if (nd i).key < k then bef nd k r (some (ndE (nd i))) else bef nd k l o
def aft (nd : Nat → Nd) (k : Int) : Tr → Option En → Option En
  | .nil, o => o
  | .node i l r, o => if (nd i).key < k then aft nd k r o else aft nd k l (some (ndE (nd i)))
def getT (nd : Nat → Nd) (k : Int) : Tr → Option En
  | .nil => none
  | .node i l r => if k = (nd i).key then some (ndE (nd i)) else if k < (nd i).key then getT nd k l else getT nd k r
theorem bef_spec (nd : Nat → Nd) (k : Int) : ∀ (t : Tr) (o : Option En), Up (t.ents nd) → bef nd k t o = (belowE (t.ents nd) k).or o
  | .nil, o, h => by unfold bef; show o = (belowE [] k).or o; rfl
  | .node i l r, o, h => by
    rw [Tr.ents_node] at h ⊢
    obtain ⟨h1, h2, _, _⟩ := up_app h
    rw [below_node h k]
    unfold bef
    by_cases hk : (nd i).key < k
    · rw [if_pos hk, if_pos hk, bef_spec nd k r _ h2, Option.or_assoc]; rfl
    · rw [if_neg hk, if_neg hk, bef_spec nd k l _ h1]
theorem aft_spec (nd : Nat → Nd) (k : Int) : ∀ (t : Tr) (o : Option En), Up (t.ents nd) → aft nd k t o = (ceilE (t.ents nd) k).or o
  | .nil, o, h => by unfold aft; show o = (ceilE [] k).or o; rfl
  | .node i l r, o, h => by
    rw [Tr.ents_node] at h ⊢
    obtain ⟨h1, h2, _, _⟩ := up_app h
    rw [ceil_node h k]
    unfold aft
    by_cases hk : (nd i).key < k
    · rw [if_pos hk, if_pos hk, aft_spec nd k r _ h2]
    · rw [if_neg hk, if_neg hk, aft_spec nd k l _ h1, Option.or_assoc]; rfl
theorem getT_spec (nd : Nat → Nd) (k : Int) : ∀ t : Tr, Up (t.ents nd) → getT nd k t = getE (t.ents nd) k
  | .nil, h => rfl
  | .node i l r, h => by
    rw [Tr.ents_node] at h ⊢
    obtain ⟨h1, h2, _, _⟩ := up_app h
    rw [get_node h k]
    unfold getT
    rw [getT_spec nd k l h1, getT_spec nd k r h2]
    rfl
end Go.Proofs.YtckkmmdibgoajaaGreat
set_option linter.unusedVariables false
set_option linter.unusedSimpArgs false
namespace Go.Proofs.YtckkmmdibgoajaaGreat
open Go.RowKit
theorem cnt_few {A : Ar} {held : Nat → Nat} (h : A.Inv [] held) (hm : ∀ j, held j ≤ 1048576) (i : Nat) : A.cnt i < 4611686018427387904 := by
  cases hi : A.σ.on i
  · rw [(h.off i hi).1]; decide
  · have h1 := h.cnt i hi
    have h2 := refs_le A i
    have h3 := hm i
    have h4 := h.ok.cap2
    simp at h1
    omega
set_option maxHeartbeats 4000000 in
set_option maxRecDepth 100000 in
theorem share_any (I : AImpl) {p : Value} {A : Ar} {rd : Int} {F : Nat → Prop} {held : Nat → Nat} {i : Nat} (w : World) (hI : I.Is w p A rd F) (hv : A.Inv [] held) (hm : ∀ j, held j ≤ 1048576) (hx : A.Idx i) :
    Calls Tryz.prog 70 #[p, .int .u32 (i : Int)] w (Mut I p F (fun en B rd' => en = .returned (.tuple #[.int .u32 (i : Int), .int .i64 0]) ∧ B = A.ret i ∧ rd' = rd) w) := by
  obtain ⟨pa, rfl⟩ := I.ptr hI
  have HS0 := Lib.hid (Ins.start hI)
  have HX : Hid (A.Idx i ∧ i < 4294967296 ∧ A.cnt i < 4611686018427387904) := ⟨hx, idx_lt32 hv hx, cnt_few hv hm i⟩
  clear hI hv hm hx
  go_enter Tryz.func70, Tryz.ntmps70
  go_wp2_with fail
  refine (HS0.out.retain HX.out.2.1 HX.out.1 HX.out.2.2).mono ?_
  rintro en w1 ⟨rfl, hs⟩
  have HE := Lib.hid hs.ends
  clear hs HS0
  go_wp2_with fail
  go_ret2
  obtain ⟨F', hal, hI⟩ := HE.out
  exact ⟨F', _, rd, hal, hI, rfl, rfl, rfl⟩
/-- what withoutFirst answers -/
def WfoQ (A : Ar) (rd : Int) (held : Nat → Nat) (t : Tr) (l : List En) (en : Ending) (B : Ar) (rd' : Int) : Prop :=
  rd ≤ rd' ∧ rd' ≤ rd + 12 * (t.ht : Int) ∧ ∃ (j : Nat) (u : Tr), en = .returned (.tuple #[.int .u32 (j : Int), .int .i64 0]) ∧ Mid A held B [j] ∧ At B j u l.tail ∧ A.σ.free.length ≤ B.σ.free.length + lossN t
structure WfoP (I : AImpl) (w : World) (p : Value) (A : Ar) (rd : Int) (F : Nat → Prop) (held : Nat → Nat) (i : Nat) (t : Tr) (l : List En) : Prop where
  is : I.Is w p A rd F
  inv : A.Inv [] held
  agg : A.Agg
  few : ∀ j, held j ≤ 1048400
  tree : At A i t l
  ne : l ≠ []
  wf : WfL l
  size : l.length ≤ 2147483646
  rd0 : 0 ≤ rd
  rd1 : rd + 12 * (t.ht : Int) ≤ 2199023254000
  room : lossN t + 1 ≤ A.σ.free.length
def WfoOk (I : AImpl) (t : Tr) : Prop := ∀ {p : Value} {A : Ar} {rd : Int} {F : Nat → Prop} {held : Nat → Nat} {i : Nat} {l : List En} (w : World), WfoP I w p A rd F held i t l →
    Calls Tryz.prog 71 #[p, .int .u32 (i : Int)] w (Mut I p F (WfoQ A rd held t l) w)
set_option maxHeartbeats 16000000 in
set_option maxRecDepth 100000 in
theorem wfo_node (I : AImpl) (K : RotImpl I) (KN : ShNum) {i' : Nat} {tl tr : Tr} (ih : WfoOk I tl) : WfoOk I (.node i' tl tr) := by
  intro p A rd F held i l w hP
  obtain ⟨pa, rfl⟩ := I.ptr hP.is
  have hs0 := Ins.start hP.is
  have hi0 : i ≠ 0 := fun q => hP.ne ((hP.tree.zero_iff (held := held)).1 q)
  have hon := hP.tree.idx.resolve_left hi0
  obtain ⟨XN, hX⟩ : ∃ x, A.nd i = x := ⟨_, rfl⟩
  obtain ⟨tl', tr', ll, lr, hnode, rfl, hA, hB, hab⟩ := hP.tree.split hi0
  rw [hX] at hA hB
  injection hnode with _ e1 e2
  subst e1 e2
  have hwf := hP.wf
  have hsz := hP.size
  have hlen : (ll ++ (⟨(A.nd i).key, (A.nd i).val⟩ : En) :: lr).length = ll.length + lr.length + 1 := by simp; omega
  rw [hlen] at hsz
  rw [hX] at hwf ⊢
  have HK := Lib.hid K
  have HKN := Lib.hid KN
  have HIH : Hid (WfoOk I tl) := @ih
  have HON := Lib.hid hon
  have HX := Lib.hid hX
  have HA := Lib.hid hA
  have HB := Lib.hid hB
  have HAB := Lib.hid hab
  have HSZ := Lib.hid hsz
  have HWF : Hid (WfL ll ∧ WfL lr ∧ (i64R XN.key ∧ i64R XN.val)) := ⟨hwf.left, hwf.right.tail, hwf (⟨XN.key, XN.val⟩ : En) (by simp)⟩
  have HHT : Hid (tl.ht + 1 ≤ (Tr.node i' tl tr).ht) := by
    have h1 : (Tr.node i' tl tr).ht = 1 + max tl.ht tr.ht := rfl
    have h2 := Nat.le_max_left tl.ht tr.ht
    show _ ≤ _
    omega
  have HLO : Hid (lossN (Tr.node i' tl tr) = lossN tl + if tl.size = 0 then 0 else if 3 * tl.size < tr.size + 1 then 3 else 1) := rfl
  have HP : Hid (A.Inv [] held ∧ A.Agg ∧ (∀ j, held j ≤ 1048400) ∧ lossN (Tr.node i' tl tr) + 1 ≤ A.σ.free.length) := ⟨hP.inv, hP.agg, hP.few, hP.room⟩
  have HRD : Hid (0 ≤ rd ∧ rd + 12 * ((Tr.node i' tl tr).ht : Int) ≤ 2199023254000) := ⟨hP.rd0, hP.rd1⟩
  have HS0 := Lib.hid hs0
  have HI32 : Hid (i < 4294967296) := idx_lt32 hP.inv (.inr hon)
  clear hP ih hi0 hon hX hA hB hab hwf hsz hlen hs0 K KN
  go_enter Tryz.func71, Tryz.ntmps71
  go_wp2_with fail
  refine (HS0.out.call fun F1 hI1 => readJ_any I w hI1 HP.out.1 HP.out.2.1 HON.out HX.out HRD.out.1 (by have := HRD.out; omega)).mono ?_
  rintro en w2 ⟨rfl, rd1, hs, r1, r2⟩
  have HR1 : Hid (rd ≤ rd1 ∧ rd1 ≤ rd + 3) := ⟨r1, r2⟩
  have hs1 := hs.box #[Value.int .i64 XN.key, .int .i64 XN.val, .int .u32 (XN.left : Int), .int .u32 (XN.right : Int), .int .i64 XN.size, .int .i64 XN.sum, .int .i64 XN.mn, .int .i64 XN.mx] 64
  clear hs HS0 r1 r2
  go_upto_region 4 with fail
  generalize w2.alloc (Obj.cells #[Value.int .i64 XN.key, .int .i64 XN.val, .int .u32 (XN.left : Int), .int .u32 (XN.right : Int), .int .i64 XN.size, .int .i64 XN.sum, .int .i64 XN.mn, .int .i64 XN.mx] 64) = w3 at hs1 ⊢
  generalize w2.heap.size = g at hs1 ⊢
  have HS1 := Lib.hid hs1
  clear hs1
  obtain ⟨⟨x0, x1, x2, x3, x4, x5, x6, x7⟩, -⟩ := HS1.out.row8 (g := g) (X := XN) (by simp [ndRow])
  by_cases hl0 : XN.left = 0
  · have hll : ll = [] := (HA.out.zero_iff (held := held)).1 hl0
    subst hll
    have hd0 : (XN.left : Int) = 0 := by omega
    have hd1 : decide ((XN.left : Int) = 0) = true := decide_eq_true hd0
    obtain ⟨m1, m2, m3, m4⟩ := (Mid.start HP.out.1 HP.out.2.1).ret HB.out.idx
    have HQ : Hid (WfoQ A rd held (.node i' tl tr) ([] ++ (⟨XN.key, XN.val⟩ : En) :: lr) (.returned (.tuple #[.int .u32 (XN.right : Int), .int .i64 0])) (A.ret XN.right) rd1) :=
      ⟨HR1.out.1, by have := HR1.out; have := HHT.out; omega, XN.right, tr, rfl, m1, HB.out.kept m2, by rw [m3]; omega⟩
    clear m1 m2 m3 m4 hl0
    go_wp2_with fail
    refine (HS1.out.mut fun F1 hI1 => share_any I w3 hI1 HP.out.1 (fun j => Nat.le_trans (HP.out.2.2.1 j) (by decide)) HB.out.idx).mono ?_
    rintro en w4 ⟨B, rd4, ⟨rfl, rfl, rfl⟩, hs4⟩
    have HE := Lib.hid hs4.ends
    clear hs4 HS1 x0 x1 x2 x3 x4 x5 x6 x7
    go_wp2_with fail
    go_ret2
    obtain ⟨F', hal, hI⟩ := HE.out
    exact ⟨F', _, _, hal, hI, HQ.out⟩
  have hd0 : ¬ (XN.left : Int) = 0 := by omega
  have hd1 : decide ((XN.left : Int) = 0) = false := decide_eq_false hd0
  have HNE : Hid (ll ≠ []) := fun q => hl0 ((HA.out.zero_iff (held := held)).2 q)
  have HTL : Hid (ll.tail.length + 1 = ll.length ∧ ll.tail ++ (⟨XN.key, XN.val⟩ : En) :: lr = (ll ++ (⟨XN.key, XN.val⟩ : En) :: lr).tail ∧ tl.size = ll.length ∧ tr.size = lr.length ∧ WfL ll.tail) := by
    refine ⟨?_, (List.tail_append_of_ne_nil HNE.out).symm, HA.out.size, HB.out.size, fun y hy => HWF.out.1 y (List.mem_of_mem_tail hy)⟩
    have : ll.length ≠ 0 := fun q => HNE.out (List.eq_nil_of_length_eq_zero q)
    rw [List.length_tail]
    omega
  have HHB : Hid (HbL ll.tail lr ∧ (wbL ll.tail lr ↔ ¬ 3 * tl.size < tr.size + 1)) := by
    have h1 := HTL.out.1
    have h2 := HAB.out.1
    have h3 := HAB.out.2
    have h4 := HTL.out.2.2.1
    have h5 := HTL.out.2.2.2.1
    have hw : wbL ll.tail lr ↔ ¬ 3 * tl.size < tr.size + 1 := by
      unfold wbL wb
      omega
    refine ⟨?_, hw⟩
    by_cases hq : 3 * tl.size < tr.size + 1
    · refine .inr (.inl ⟨by omega, ?_⟩)
      exact hv_less (l := ll.tail.length + 1) (r := lr.length + 1) ⟨by omega, by omega⟩
    · exact .inl (hw.2 hq)
  have HL2 : Hid (tl.size ≠ 0) := by
    have h1 := HTL.out
    have : ll.length ≠ 0 := fun q => HNE.out (List.eq_nil_of_length_eq_zero q)
    show tl.size ≠ 0
    omega
  clear hl0
  go_wp2_with fail
  refine (HS1.out.mut fun F1 hI1 => HIH.out w3 ⟨hI1, HP.out.1, HP.out.2.1, HP.out.2.2.1, HA.out, HNE.out, HWF.out.1, by have := HSZ.out; omega, by have := HRD.out; have := HR1.out; omega, by have := HRD.out; have := HR1.out; have := HHT.out; omega, by have := HP.out.2.2.2; have := HLO.out; omega⟩).mono ?_
  rintro en w4 ⟨B, rd4, ⟨q0, q1, j, u, rfl, q2, q3, q4⟩, hs4⟩
  have HR4 : Hid (rd ≤ rd4 ∧ rd4 ≤ rd + 3 + 12 * (tl.ht : Int)) := ⟨by have := HR1.out; omega, by have := HR1.out; omega⟩
  have HS4 := Lib.hid hs4
  have HM4 := Lib.hid q2
  have HT4 := Lib.hid q3
  have HF4 : Hid (A.σ.free.length ≤ B.σ.free.length + lossN tl) := q4
  clear q0 q1 q2 q3 q4 hs4 HS1 x0 x1 x2 x3 x4 x5 x6 x7
  have HRM : Hid ((wbL ll.tail lr ∧ 1 ≤ B.σ.free.length) ∨ 4 ≤ B.σ.free.length) := by
    have h1 := HP.out.2.2.2
    have h2 := HLO.out
    have h3 := HF4.out
    rw [if_neg HL2.out] at h2
    by_cases hq : 3 * tl.size < tr.size + 1
    · rw [if_pos hq] at h2
      exact .inr (by omega)
    · rw [if_neg hq] at h2
      exact .inl ⟨HHB.out.2.2 hq, by omega⟩
  obtain ⟨⟨x0, x1, x2, x3, x4, x5, x6, x7⟩, -⟩ := HS4.out.row8 (g := g) (X := XN) (by simp [ndRow])
  go_wp2_with fail
  refine (HS4.out.mut fun F1 hI1 => withLeft_any I HK.out HKN.out (X := XN) w4 hI1 HM4.out (fun j => Nat.le_trans (HP.out.2.2.1 j) (by decide)) HT4.out (HB.out.kept HM4.out.kept) HTL.out.2.2.2.2 HWF.out.2.1 HWF.out.2.2 HHB.out.1 (by have := HSZ.out; have := HTL.out.1; omega) (by have := HRD.out; have := HR4.out; omega) (by have := HRD.out; have := HR4.out; have := HHT.out; omega) HRM.out).mono ?_
  rintro en w5 ⟨C, rd5, ⟨q0, q1, j2, t2, rfl, q2, q3, q5, q4⟩, hs5⟩
  rw [HTL.out.2.1] at q3
  have HQ : Hid (WfoQ A rd held (.node i' tl tr) (ll ++ (⟨XN.key, XN.val⟩ : En) :: lr) (.returned (.tuple #[.int .u32 (j2 : Int), .int .i64 0])) C rd5) := by
    refine ⟨by have := HR4.out; omega, by have := HR4.out; have := HHT.out; omega, j2, t2, rfl, q2, q3, ?_⟩
    have h2 := HLO.out
    have h3 := HF4.out
    rw [if_neg HL2.out] at h2
    by_cases hq : 3 * tl.size < tr.size + 1
    · rw [if_pos hq] at h2
      omega
    · rw [if_neg hq] at h2
      have := q5 (HHB.out.2.2 hq)
      omega
  have HE := Lib.hid hs5.ends
  clear q0 q1 q2 q3 q4 q5 hs5 HS4 x0 x1 x2 x3 x4 x5 x6 x7
  go_wp2_with fail
  go_ret2
  obtain ⟨F', hal, hI⟩ := HE.out
  exact ⟨F', C, rd5, hal, hI, HQ.out⟩
theorem wfo_all (I : AImpl) (K : RotImpl I) (KN : ShNum) : ∀ t, WfoOk I t
  | .nil => fun w hP => absurd (List.eq_nil_of_length_eq_zero hP.tree.size.symm) hP.ne
  | .node _ l r => wfo_node I K KN (wfo_all I K KN l)
end Go.Proofs.YtckkmmdibgoajaaGreat
set_option linter.unusedVariables false
namespace Go.Proofs.YtckkmmdibgoajaaGreat
/-- a tree in order has no more nodes than slots are allocated -/
theorem ord_above {A : Ar} (hok : A.σ.Ok) {i : Nat} {t : Tr} (h : Sub A i t) : ∀ {s s' : Option Int}, ordT A.nd t s = some s' → A.above s' + t.size ≤ A.above s := by
  induction h with
  | nil =>
    intro s s' h
    cases h
    simp [Tr.size]
  | node i l r h0 h1 hl hr ihl ihr =>
    intro s s' h
    unfold ordT at h
    show A.above s' + (l.size + r.size + 1) ≤ _
    cases hL : ordT A.nd l s with
    | none => rw [hL] at h; cases h
    | some s1 =>
      rw [hL] at h
      have e1 := ihl hL
      cases s1 with
      | none =>
        have e2 := ihr h
        have e3 := A.above_step (s := none) hok h1 (fun k hk => by cases hk)
        omega
      | some k =>
        by_cases hle : (A.nd i).key ≤ k
        · simp only [if_pos hle] at h; cases h
        · simp only [if_neg hle] at h
          have e2 := ihr h
          have e3 := A.above_step (s := some k) hok h1 (fun k' hk => by cases hk; omega)
          omega
theorem above_free {A : Ar} (hok : A.σ.Ok) : A.above none + A.σ.free.length ≤ A.σ.cap := by
  have h := St.nodup_le A.σ.cap (((List.range' 1 A.σ.cap).filter fun i => A.σ.on i && true) ++ A.σ.free) (by
    rw [List.nodup_append]
    refine ⟨List.Pairwise.filter _ List.nodup_range', hok.nodup, fun x hx y hy hxy => ?_⟩
    subst hxy
    have h1 := (hok.free x).1 hy
    have h2 := (List.mem_filter.1 hx).2
    rw [h1.2.2] at h2
    cases h2) (fun x hx => by
    rcases List.mem_append.1 hx with hx | hx
    · have := List.mem_range'_1.1 (List.mem_filter.1 hx).1
      omega
    · have := (hok.free x).1 hx
      omega)
  rw [List.length_append] at h
  exact h
end Go.Proofs.YtckkmmdibgoajaaGreat
set_option linter.unusedVariables false
set_option linter.unusedSimpArgs false
namespace Go.Proofs.YtckkmmdibgoajaaGreat
open Go.RowKit
/-- what lay there and is none of the arena's -/
def OldG (w : World) (F : Nat → Prop) (k : Nat) : Prop := k < w.heap.size ∧ ¬ F k
/-- inside a call that began in w: the arena, what lay there, and boxes X -/
structure In (I : AImpl) (w : World) (F : Nat → Prop) (p : Value) (A : Ar) (rd : Int) (X : Nat → Prop) (wr : World) : Prop where
  mr : MR I 0 w wr p A rd (fun k => OldG w F k ∨ X k)
  kp : Keeps (OldG w F) w wr
section
variable {I : AImpl} {w wr wx : World} {F : Nat → Prop} {p : Value} {A : Ar} {rd : Int} {X : Nat → Prop}
theorem In.start (h : I.Is w p A rd F) : In I w F p A rd (fun _ => False) w :=
  ⟨⟨⟨F, h, fun _ _ => Nat.zero_le _, fun k hk => by (rcases hk with hk | hk; exact hk; exact hk.elim)⟩, Below.refl _ _, Nat.zero_le _⟩, fun _ _ => rfl⟩
theorem In.calm (h : In I w F p A rd X wr) (hb : Below wr.heap.size wr wx) : In I w F p A rd X wx := ⟨h.mr.calm hb, fun k hk => (h.mr.keeps hb k (.inl hk)).trans (h.kp k hk)⟩
theorem In.keeps (h : In I w F p A rd X wr) (hb : Below wr.heap.size wr wx) : Keeps X wr wx := fun k hk => h.mr.keeps hb k (.inr hk)
theorem In.alloc (h : In I w F p A rd X wr) (o : Obj) : In I w F p A rd (fun k => X k ∨ k = wr.heap.size) (wr.alloc o) :=
  ⟨(h.mr.alloc o).less fun k hk => by (rcases hk with hk | hk | hk; exact .inl (.inl hk); exact .inl (.inr hk); exact .inr hk), (h.calm (below_new7 wr o)).kp⟩
theorem In.less {Y : Nat → Prop} (h : In I w F p A rd X wr) (hY : ∀ k, Y k → X k) : In I w F p A rd Y wr := ⟨h.mr.less fun k hk => hk.imp_right (hY k), h.kp⟩
theorem In.node (h : In I w F p A rd X wr) (h0 : 0 ≤ rd) (h1 : rd ≤ 4398046511104) {i : Nat} (hi : i < 4294967296) (hon : A.σ.on i = true) :
    Calls Tryz.prog 35 #[p, .int .u32 (i : Int)] wr fun e w' => e = .returned (.tuple #[.agg (ndRow (A.nd i)), .bool true]) ∧ In I w F p A (rd + 1) X w' ∧ Keeps X wr w' := by
  obtain ⟨F1, f1, f2, f3⟩ := h.mr.has
  refine (I.node p A rd F1 i wr f1 h0 (by omega) hi).mono ?_
  rintro e w1 ⟨F', hal, _, h6⟩
  obtain ⟨rfl, h7⟩ := h6 hon
  have hst := h.mr.step f2 f3 hal h7
  exact ⟨rfl, ⟨hst.1, fun k hk => (hst.2 k (.inl hk)).trans (h.kp k hk)⟩, fun k hk => hst.2 k (.inr hk)⟩
theorem In.off (h : In I w F p A rd X wr) (h0 : 0 ≤ rd) (h1 : rd ≤ 4398046511104) :
    Calls Tryz.prog 35 #[p, .int .u32 0] wr fun e w' => e = .returned (.tuple #[.agg (ndRow Nd.zero), .bool false]) ∧ In I w F p A rd X w' ∧ Keeps X wr w' := by
  obtain ⟨F1, f1, f2, f3⟩ := h.mr.has
  have hon : A.σ.on 0 = false := by
    cases hc : A.σ.on 0 with
    | false => rfl
    | true => have := (I.ok f1).on 0 hc; omega
  refine (I.node p A rd F1 0 wr f1 h0 (by omega) (by omega)).mono ?_
  rintro e w1 ⟨F', hal, h6, _⟩
  obtain ⟨rfl, h7⟩ := h6 hon
  have hst := h.mr.step f2 f3 hal h7
  exact ⟨rfl, ⟨hst.1, fun k hk => (hst.2 k (.inl hk)).trans (h.kp k hk)⟩, fun k hk => hst.2 k (.inr hk)⟩
theorem In.ends {rd0 bd : Int} {v : Value} (h : In I w F p A rd X wr) (h0 : rd0 ≤ rd) (h1 : rd ≤ rd0 + bd) : ReadsTo I p A rd0 F bd v w (.returned v) wr := by
  obtain ⟨F', f1, f2, f3⟩ := h.mr.has
  refine ⟨F', rd, rfl, ⟨h.mr.below.os, h.mr.below.tape, h.mr.below.output, h.mr.below.size, fun k hlt hF => h.kp k ⟨hlt, hF⟩, fun k hF' => ?_⟩, f1, h0, h1⟩
  by_cases hlt : k < w.heap.size
  · by_cases hF : F k
    · exact .inl hF
    · exact absurd hF' (f3 k (.inl ⟨hlt, hF⟩)).2
  · exact .inr (by omega)
end
theorem TreeAt.bound {A : Ar} {i : Nat} {t : Tr} {l : List En} (h : TreeAt A i t l) : (t.ht : Int) ≤ mostI l.length ∧ t.ht ≤ 65536 := by
  obtain ⟨held, hv⟩ := h.inv
  have h1 := h.sub.ht_cap hv.ok h.agg
  have h2 := hv.ok.cap2
  have h3 : l.length ≤ 2147483647 := by
    rw [← h.size]
    have := h.sub.size h.agg
    cases h.sub with
    | nil => simp [Tr.size]
    | node i l r h0 hon _ _ =>
      have h4 := (h.agg.size i hon).2
      unfold Ar.sz at this
      rw [if_neg h0] at this
      omega
  have h4 := h.ht h3
  unfold mostI
  exact ⟨by omega, by omega⟩
/-- a tree has no more nodes than slots are allocated -/
theorem TreeAt.held {A : Ar} {i : Nat} {t : Tr} {l : List En} (h : TreeAt A i t l) : t.size + A.σ.free.length ≤ A.σ.cap := by
  obtain ⟨held, hv⟩ := h.inv
  have hu : Asc none (t.keys A.nd) := by rw [Tr.ents_keys, h.ents]; exact up_asc l none h.up (fun k hk => by cases hk)
  have h1 := ord_above hv.ok h.sub ((ordT_spec A.nd t none).1 hu)
  have h2 := above_free hv.ok
  omega
theorem longest_any (I : AImpl) {p : Value} {A : Ar} {rd : Int} {F : Nat → Prop} {U : Nat} (w : World) (hI : I.Is w p A rd F) (hU : U + A.σ.free.length = A.σ.cap) :
    Calls Tryz.prog 80 #[p] w (Calm w (.int .i64 (U : Int))) := by
  obtain ⟨pa, rfl⟩ := I.ptr hI
  have hcap := (I.ok hI).cap2
  have hw64 : IntKind.i64.wrap ((A.σ.cap : Int) - (A.σ.free.length : Int)) = (U : Int) := by rw [IntKind.wrap_i64]; omega
  have HCP : Hid (∀ w', Below w.heap.size w w' → Calls Tryz.prog 105 #[.pointer (some pa)] w' (Quiet w' (.int .i64 (A.σ.cap : Int)))) := fun w' hb => I.capacity _ _ _ _ _ (I.below hI hb)
  have HFR : Hid (∀ w', Below w.heap.size w w' → Calls Tryz.prog 20 #[.pointer (some pa)] w' (Quiet w' (.int .i64 (A.σ.free.length : Int)))) := fun w' hb => I.freeN _ _ _ _ _ (I.below hI hb)
  clear hI hU hcap
  go_enter Tryz.func80, Tryz.ntmps80
  go_wp2_with fail
  refine (HCP.out w (Below.refl _ _)).mono ?_
  rintro e w2 ⟨rfl, n2, hn2⟩
  have hb2 : Below w.heap.size w w2 := by rw [hn2]; exact below_drewN (Below.refl _ _) n2
  clear hn2
  go_wp2_with fail
  refine (HFR.out w2 hb2).mono ?_
  rintro e w3 ⟨rfl, n3, hn3⟩
  have hb3 : Below w.heap.size w w3 := hb2.trans ((by rw [hn3]; exact below_drewN (Below.refl _ _) n3 : Below w2.heap.size w2 w3).mono hb2.size)
  have HB3 := Lib.hid hb3
  clear hn3 hb2 hb3 HCP HFR
  go_wp2_with fail
  go_ret
  exact ⟨rfl, HB3.out⟩
/-- the child below which a key can be -/
def twd (x : Nd) (k : Int) : Nat := if k < x.key then x.left else x.right
set_option maxRecDepth 100000 in
theorem towards_any (x : Nd) (k : Int) (w : World) : Calls Tryz.prog 81 #[.agg (ndRow x), .int .i64 k] w (Calm w (.int .u32 (twd x k : Int))) := by
  have hb := below_new7 w (Obj.cells (ndRow x) 64)
  have hbx := heap_alloc_new w (Obj.cells (ndRow x) 64)
  go_enter Tryz.func81, Tryz.ntmps81
  unfold ndRow
  go_upto_region 1 with fail
  rw [show #[Value.int .i64 x.key, .int .i64 x.val, .int .u32 (x.left : Int), .int .u32 (x.right : Int), .int .i64 x.size, .int .i64 x.sum, .int .i64 x.mn, .int .i64 x.mx] = ndRow x from rfl]
  generalize w.alloc (Obj.cells (ndRow x) 64) = w2 at hb hbx ⊢
  generalize hg : w.heap.size = g at hb hbx ⊢
  have x0 : w2.cell? ⟨g, 0, none⟩ = some (.int .i64 x.key) := by rw [cell_of_row _ _ _ _ _ _ hbx]; rfl
  have x2 : w2.cell? ⟨g, 2, none⟩ = some (.int .u32 (x.left : Int)) := by rw [cell_of_row _ _ _ _ _ _ hbx]; rfl
  have x3 : w2.cell? ⟨g, 3, none⟩ = some (.int .u32 (x.right : Int)) := by rw [cell_of_row _ _ _ _ _ _ hbx]; rfl
  have HB := Lib.hid hb
  have HGG := Lib.hid hg
  clear hb hbx hg
  by_cases hkl : k < x.key
  · have hlt : decide (k < x.key) = true := decide_eq_true hkl
    have HE : Hid (Calm w (.int .u32 (twd x k : Int)) (.returned (.int .u32 (x.left : Int))) w2) := ⟨by rw [show twd x k = x.left from if_pos hkl], by rw [HGG.out]; exact HB.out⟩
    clear hkl
    go_wp2_with fail
    go_ret
    exact HE.out
  · have hlt : decide (k < x.key) = false := decide_eq_false hkl
    have HE : Hid (Calm w (.int .u32 (twd x k : Int)) (.returned (.int .u32 (x.right : Int))) w2) := ⟨by rw [show twd x k = x.right from if_neg hkl], by rw [HGG.out]; exact HB.out⟩
    clear hkl
    go_wp2_with fail
    go_ret
    exact HE.out
def WayM (I : AImpl) (w : World) (F : Nat → Prop) (p : Value) (A : Ar) (rd0 k : Int) (R : Option En) (top : Int) (U : Nat) (x c : Value) (wr : World) : Prop :=
  ∃ (i n : Nat) (u : Tr) (rd : Int), x = .int .u32 (i : Int) ∧ c = .int .i64 (n : Int) ∧ Sub A i u ∧ getT A.nd k u = R ∧ rd0 ≤ rd ∧ rd + (u.ht : Int) ≤ top ∧ n + u.size ≤ U ∧ In I w F p A rd (fun _ => False) wr
set_option maxHeartbeats 4000000 in
set_option maxRecDepth 100000 in
theorem getP_any (I : AImpl) {p : Value} {A : Ar} {rd : Int} {F : Nat → Prop} {i : Nat} {t : Tr} {l : List En} (k : Int) (w : World) (hI : I.Is w p A rd F) (hT : TreeAt A i t l) (h0 : 0 ≤ rd) (h1 : rd ≤ 1099511627776) (hk : i64R k) :
    Calls Tryz.prog 50 #[p, .int .u32 (i : Int), .int .i64 k] w (ReadsTo I p A rd F (mostI l.length) (.tuple #[.int .i64 ((getE l k).elim 0 (·.val)), .bool (getE l k).isSome]) w) := by
  obtain ⟨pa, rfl⟩ := I.ptr hI
  have hb := hT.bound
  have hg : getT A.nd k t = getE l k := by rw [getT_spec A.nd k t (by rw [hT.ents]; exact hT.up), hT.ents]
  obtain ⟨R, hR⟩ : ∃ R, getE l k = R := ⟨_, rfl⟩
  rw [hR] at hg ⊢
  obtain ⟨M, hM⟩ : ∃ M, mostI l.length = M := ⟨_, rfl⟩
  rw [hM] at hb ⊢
  obtain ⟨held, hv⟩ := hT.inv
  have hcap := hv.ok.cap2
  have hhd := hT.held
  obtain ⟨U, hU⟩ : ∃ U, U + A.σ.free.length = A.σ.cap := ⟨A.σ.cap - A.σ.free.length, by omega⟩
  have HLP := Lib.hid (longest_any I w hI hU)
  have HU : Hid (U ≤ 65536 ∧ t.size ≤ U) := ⟨by omega, by omega⟩
  have HAG := Lib.hid hT.agg
  have HOK := Lib.hid hv.ok
  have HRD : Hid (0 ≤ rd ∧ rd ≤ 1099511627776 ∧ (t.ht : Int) ≤ M ∧ t.ht ≤ 65536) := ⟨h0, h1, hb.1, hb.2⟩
  have HW0 : Hid (∀ w', Below w.heap.size w w' → WayM I w F (.pointer (some pa)) A rd k R (rd + (t.ht : Int)) U (.int .u32 (i : Int)) (.int .i64 0) w') := fun w' hb' => ⟨i, 0, t, rd, rfl, rfl, hT.sub, hg, Int.le_refl _, Int.le_refl _, by omega, (In.start hI).calm hb'⟩
  clear hI hT h0 h1 hk hb hg hR hM hv hcap hhd hU
  go_enter Tryz.func50, Tryz.ntmps50
  go_wp2_with fail
  refine HLP.out.mono ?_
  rintro e w0 ⟨rfl, hb0⟩
  have HW1 := Lib.hid (HW0.out w0 hb0)
  clear hb0 HW0 HLP
  go_wp2_with fail
  go_loopw [8, 14] (fun x c wr => WayM I w F (.pointer (some pa)) A rd k R (rd + (t.ht : Int)) U x c wr) (fun _ c _ => U - (intOf c).toNat)
  case atStart => exact HW1.out
  case round =>
    clear HW1
    obtain ⟨i, n, u, rd1, rfl, rfl, hu, hg, hr0, hr1, hn, hin⟩ := hrel
    rcases Nat.lt_or_ge n U with hnu | hnu
    rotate_left
    · have hnu2 : decide ((n : Int) < (U : Int)) = false := decide_eq_false (by omega)
      have hu0 : u = .nil := by
        cases u with
        | nil => rfl
        | node i l r =>
          have : (Tr.node i l r).size = l.size + r.size + 1 := rfl
          omega
      subst hu0
      have HE : Hid (ReadsTo I (.pointer (some pa)) A rd F M (.tuple #[.int .i64 (R.elim 0 (·.val)), .bool R.isSome]) w (.returned (.tuple #[.int .i64 0, .bool false])) wr) := by
        rw [show R = none from hg.symm]
        exact hin.ends hr0 (by have := HRD.out; omega)
      have hUn : ¬ n < U := Nat.not_lt.2 hnu
      clear hu hg hr0 hr1 hin hn hnu
      go_wp2_with fail
      go_ret2
      exact HE.out
    have hnu2 : decide ((n : Int) < (U : Int)) = true := decide_eq_true (by omega)
    have hnu3 : (n : Int) < (U : Int) := by omega
    have hU4 : (U : Int) ≤ 65536 := by have := HU.out.1; omega
    have hn0 : (0 : Int) ≤ (n : Int) := by omega
    cases u with
    | nil =>
      obtain rfl : i = 0 := by
        cases hu with
        | nil => rfl
      have hRn : R = none := hg.symm
      subst hRn
      have HR1 : Hid (rd ≤ rd1 ∧ rd1 ≤ rd + (t.ht : Int)) := ⟨hr0, by have : (Tr.nil.ht : Nat) = 0 := rfl; omega⟩
      have HIN := Lib.hid hin
      clear hu hg hr0 hr1 hin hn
      go_wp2_with fail
      refine (HIN.out.off (by have := HR1.out; have := HRD.out; omega) (by have := HR1.out; have := HRD.out; omega)).mono ?_
      rintro e w1 ⟨rfl, hin1, -⟩
      have HIN1 := Lib.hid (hin1.calm (below_new7 w1 (Obj.cells (ndRow Nd.zero) 64)))
      clear hin1 HIN
      unfold ndRow
      go_upto_region 5 with fail
      rw [show #[Value.int .i64 Nd.zero.key, .int .i64 Nd.zero.val, .int .u32 (Nd.zero.left : Int), .int .u32 (Nd.zero.right : Int), .int .i64 Nd.zero.size, .int .i64 Nd.zero.sum, .int .i64 Nd.zero.mn, .int .i64 Nd.zero.mx] = ndRow Nd.zero from rfl]
      generalize w1.alloc (Obj.cells (ndRow Nd.zero) 64) = w2 at HIN1 ⊢
      have HE : Hid (ReadsTo I (.pointer (some pa)) A rd F M (.tuple #[.int .i64 ((none : Option En).elim 0 (·.val)), .bool (none : Option En).isSome]) w (.returned (.tuple #[.int .i64 0, .bool false])) w2) := HIN1.out.ends HR1.out.1 (by have := HR1.out; have := HRD.out; omega)
      clear HIN1
      go_wp2_with fail
      go_ret2
      exact HE.out
    | node i2 l2 r2 =>
      obtain ⟨rfl, h0, hon, hsl, hsr⟩ : i2 = i ∧ i ≠ 0 ∧ A.σ.on i = true ∧ Sub A (A.nd i).left l2 ∧ Sub A (A.nd i).right r2 := by
        cases hu with
        | node _ _ _ h1 h2 h3 h4 => exact ⟨rfl, h1, h2, h3, h4⟩
      have hi4 : i2 < 4294967296 := by have := HOK.out.on i2 hon; have := HOK.out.cap2; omega
      have hht : (Tr.node i2 l2 r2).ht = 1 + max l2.ht r2.ht := rfl
      rw [show (Tr.node i2 l2 r2).size = l2.size + r2.size + 1 from rfl] at hn
      have HSL := Lib.hid hsl
      have HSR := Lib.hid hsr
      have HON := Lib.hid hon
      have HI4 := Lib.hid hi4
      have HNN := Lib.hid hn
      have HR1 : Hid (rd ≤ rd1 ∧ rd1 + 1 + (l2.ht : Int) ≤ rd + (t.ht : Int) ∧ rd1 + 1 + (r2.ht : Int) ≤ rd + (t.ht : Int)) := ⟨hr0, by omega, by omega⟩
      have HIN := Lib.hid hin
      unfold getT at hg
      have HG := Lib.hid hg
      clear hu hg hr0 hr1 hin h0 hon hsl hsr hi4 hht hn
      go_wp2_with fail
      refine (HIN.out.node (by have := HR1.out; have := HRD.out; omega) (by have := HR1.out; have := HRD.out; omega) HI4.out HON.out).mono ?_
      rintro e w1 ⟨rfl, hin1, -⟩
      have HIN1 := Lib.hid hin1
      clear hin1 HIN
      unfold ndRow
      go_upto_region 5 with fail
      rw [show #[Value.int .i64 (A.nd i2).key, .int .i64 (A.nd i2).val, .int .u32 ((A.nd i2).left : Int), .int .u32 ((A.nd i2).right : Int), .int .i64 (A.nd i2).size, .int .i64 (A.nd i2).sum, .int .i64 (A.nd i2).mn, .int .i64 (A.nd i2).mx] = ndRow (A.nd i2) from rfl]
      have hin2 := HIN1.out.calm (below_new7 w1 (Obj.cells (ndRow (A.nd i2)) 64))
      have hbx := heap_alloc_new w1 (Obj.cells (ndRow (A.nd i2)) 64)
      generalize w1.alloc (Obj.cells (ndRow (A.nd i2)) 64) = w2 at hin2 hbx ⊢
      generalize w1.heap.size = g at hbx ⊢
      have x0 : w2.cell? ⟨g, 0, none⟩ = some (.int .i64 (A.nd i2).key) := by rw [cell_of_row _ _ _ _ _ _ hbx]; rfl
      have x1 : w2.cell? ⟨g, 1, none⟩ = some (.int .i64 (A.nd i2).val) := by rw [cell_of_row _ _ _ _ _ _ hbx]; rfl
      have x2 : w2.cell? ⟨g, 2, none⟩ = some (.int .u32 ((A.nd i2).left : Int)) := by rw [cell_of_row _ _ _ _ _ _ hbx]; rfl
      have x3 : w2.cell? ⟨g, 3, none⟩ = some (.int .u32 ((A.nd i2).right : Int)) := by rw [cell_of_row _ _ _ _ _ _ hbx]; rfl
      have x4 : w2.cell? ⟨g, 4, none⟩ = some (.int .i64 (A.nd i2).size) := by rw [cell_of_row _ _ _ _ _ _ hbx]; rfl
      have x5 : w2.cell? ⟨g, 5, none⟩ = some (.int .i64 (A.nd i2).sum) := by rw [cell_of_row _ _ _ _ _ _ hbx]; rfl
      have x6 : w2.cell? ⟨g, 6, none⟩ = some (.int .i64 (A.nd i2).mn) := by rw [cell_of_row _ _ _ _ _ _ hbx]; rfl
      have x7 : w2.cell? ⟨g, 7, none⟩ = some (.int .i64 (A.nd i2).mx) := by rw [cell_of_row _ _ _ _ _ _ hbx]; rfl
      have HIN2 := Lib.hid hin2
      clear hin2 hbx HIN1
      have hg := HG.out
      by_cases hke : k = (A.nd i2).key
      · have hlt : ((A.nd i2).key == k) = true := by rw [hke]; simp
        rw [if_pos hke] at hg
        have HE : Hid (ReadsTo I (.pointer (some pa)) A rd F M (.tuple #[.int .i64 (R.elim 0 (·.val)), .bool R.isSome]) w (.returned (.tuple #[.int .i64 (A.nd i2).val, .bool true])) w2) := by
          rw [← hg]
          exact HIN2.out.ends (by have := HR1.out; omega) (by have := HR1.out; have := HRD.out; omega)
        clear hke hg
        go_wp2_with fail
        go_ret2
        exact HE.out
      · have hlt : ((A.nd i2).key == k) = false := by simp; exact fun e => hke e.symm
        rw [if_neg hke] at hg
        have HT := Lib.hid (towards_any (A.nd i2) k w2)
        have HE : Hid (∀ w3, Below w2.heap.size w2 w3 → WayM I w F (.pointer (some pa)) A rd k R (rd + (t.ht : Int)) U (.int .u32 (twd (A.nd i2) k : Int)) (.int .i64 ((n + 1 : Nat) : Int)) w3) := fun w3 hb3 => by
          have := HNN.out
          by_cases hkl : k < (A.nd i2).key
          · rw [if_pos hkl] at hg
            rw [show twd (A.nd i2) k = (A.nd i2).left from if_pos hkl]
            exact ⟨_, n + 1, l2, rd1 + 1, rfl, rfl, HSL.out, hg, by have := HR1.out; omega, HR1.out.2.1, by omega, HIN2.out.calm hb3⟩
          · rw [if_neg hkl] at hg
            rw [show twd (A.nd i2) k = (A.nd i2).right from if_neg hkl]
            exact ⟨_, n + 1, r2, rd1 + 1, rfl, rfl, HSR.out, hg, by have := HR1.out; omega, HR1.out.2.2, by omega, HIN2.out.calm hb3⟩
        clear hke hg
        go_wp2_with fail
        refine HT.out.mono ?_
        rintro e w3 ⟨rfl, hb3⟩
        have HE3 := Lib.hid (HE.out w3 hb3)
        clear hb3 HE HT
        go_wp2_with fail
        exact ⟨by rw [show ((n : Int) + 1) = ((n + 1 : Nat) : Int) by omega]; exact HE3.out, by simp [intOf]; omega⟩
end Go.Proofs.YtckkmmdibgoajaaGreat
set_option linter.unusedVariables false
set_option linter.unusedSimpArgs false
namespace Go.Proofs.YtckkmmdibgoajaaGreat
open Go.RowKit
section
variable {I : AImpl} {w wr wx : World} {F : Nat → Prop} {p : Value} {A : Ar} {rd : Int} {X : Nat → Prop}
theorem In.set2 (h : In I w F p A rd X wr) {g : Nat} (hg : X g) (hn : w.heap.size ≤ g) (x y : Value) : In I w F p A rd X ((wr.setCell ⟨g, 0, none⟩ x).setCell ⟨g, 1, none⟩ y) := by
  obtain ⟨F1, f1, f2, f3⟩ := h.mr.has
  have ho : ∀ k, k ≠ g → ((wr.setCell ⟨g, 0, none⟩ x).setCell ⟨g, 1, none⟩ y).heap[k]? = wr.heap[k]? := fun k hk => by rw [heap_setCell_other _ _ _ _ hk, heap_setCell_other _ _ _ _ hk]
  have hsz : ((wr.setCell ⟨g, 0, none⟩ x).setCell ⟨g, 1, none⟩ y).heap.size = wr.heap.size := by simp [World.setCell]
  refine ⟨⟨⟨F1, I.keep f1 fun k hk => ho k fun e => (f3 g (.inr hg)).2 (e ▸ hk), f2, fun k hk => ⟨by rw [hsz]; exact (f3 k hk).1, (f3 k hk).2⟩⟩, ?_, Nat.zero_le _⟩, fun k hk => ?_⟩
  · exact h.mr.below.trans ⟨rfl, rfl, rfl, Nat.le_of_eq hsz.symm, fun k hk => by omega⟩
  · have hne : k ≠ g := fun e => by have := hk.1; omega
    exact (ho k hne).trans (h.kp k hk)
theorem In.call {bd : Int} {v : Value} {f : FuncId} {args : Array Value} (h : In I w F p A rd X wr) (hc : ∀ F1, I.Is wr p A rd F1 → Calls Tryz.prog f args wr (ReadsTo I p A rd F1 bd v wr)) :
    Calls Tryz.prog f args wr fun e w' => e = .returned v ∧ ∃ rd', In I w F p A rd' X w' ∧ Keeps X wr w' ∧ rd ≤ rd' ∧ rd' ≤ rd + bd := by
  refine (mr_call h.mr hc).mono ?_
  rintro e w1 ⟨he, rd', h1, h2, h3, h4⟩
  exact ⟨he, rd', ⟨h1, fun k hk => (h2 k (.inl hk)).trans (h.kp k hk)⟩, fun k hk => h2 k (.inr hk), h3, h4⟩
end
/-- the result's box and the best entry's box -/
structure BB (I : AImpl) (w : World) (F : Nat → Prop) (p : Value) (A : Ar) (rd : Int) (r b : Nat) (o : Option En) (wr : World) : Prop where
  ins : In I w F p A rd (fun k => k = r ∨ k = b) wr
  hr : wr.heap[r]? = some (.cells #[.int .i64 0, .int .i64 0] 25 (0, 0))
  hb : wr.heap[b]? = some (.cells #[.int .i64 (o.elim 0 (·.key)), .int .i64 (o.elim 0 (·.val))] 25 (0, 0))
  ne : r ≠ b
  old : w.heap.size ≤ r ∧ w.heap.size ≤ b
section
variable {I : AImpl} {w wr wx : World} {F : Nat → Prop} {p : Value} {A : Ar} {rd rd' : Int} {r b : Nat} {o : Option En}
theorem BB.start (h : I.Is w p A rd F) : BB I w F p A rd w.heap.size (w.heap.size + 1) none ((w.alloc (.cells #[.int .i64 0, .int .i64 0] 25)).alloc (.cells #[.int .i64 0, .int .i64 0] 25)) := by
  have h1 := (In.start h).alloc (.cells #[.int .i64 0, .int .i64 0] 25)
  have h2 := h1.alloc (.cells #[.int .i64 0, .int .i64 0] 25)
  refine ⟨h2.less fun k hk => ?_, ?_, ?_, by omega, by omega⟩
  · rcases hk with rfl | rfl
    · exact .inl (.inr rfl)
    · exact .inr (by simp)
  · exact (h1.keeps (below_new7 _ _) _ (.inr rfl)).trans (heap_alloc_new w _)
  · have := heap_alloc_new (w.alloc (.cells #[.int .i64 0, .int .i64 0] 25)) (.cells #[.int .i64 0, .int .i64 0] 25)
    rw [World.size_alloc] at this
    exact this
theorem BB.calm (h : BB I w F p A rd r b o wr) (hb : Below wr.heap.size wr wx) : BB I w F p A rd r b o wx :=
  ⟨h.ins.calm hb, (h.ins.keeps hb r (.inl rfl)).trans h.hr, (h.ins.keeps hb b (.inr rfl)).trans h.hb, h.ne, h.old⟩
theorem BB.step (h : BB I w F p A rd r b o wr) (hi : In I w F p A rd' (fun k => k = r ∨ k = b) wx) (hk : Keeps (fun k => k = r ∨ k = b) wr wx) : BB I w F p A rd' r b o wx :=
  ⟨hi, (hk r (.inl rfl)).trans h.hr, (hk b (.inr rfl)).trans h.hb, h.ne, h.old⟩
theorem BB.put (h : BB I w F p A rd r b o wr) (e : En) : BB I w F p A rd r b (some e) ((wr.setCell ⟨b, 0, none⟩ (.int .i64 e.key)).setCell ⟨b, 1, none⟩ (.int .i64 e.val)) :=
  ⟨h.ins.set2 (.inr rfl) h.old.2 _ _, by rw [heap_setCell_other _ _ _ _ h.ne, heap_setCell_other _ _ _ _ h.ne]; exact h.hr, by rw [heap_setCell_same _ b 1 _ _ _ (heap_setCell_same wr b 0 _ _ _ h.hb)]; rfl, h.ne, h.old⟩
theorem BB.ends {rd0 bd : Int} (h : BB I w F p A rd r b o wr) (h0 : rd0 ≤ rd) (h1 : rd ≤ rd0 + bd) :
    ReadsTo I p A rd0 F bd (enR o) w (.returned (.tuple #[.agg #[.int .i64 (o.elim 0 (·.key)), .int .i64 (o.elim 0 (·.val))], .bool o.isSome])) ((wr.setCell ⟨r, 0, none⟩ (.int .i64 (o.elim 0 (·.key)))).setCell ⟨r, 1, none⟩ (.int .i64 (o.elim 0 (·.val)))) ∧
    ((wr.setCell ⟨r, 0, none⟩ (.int .i64 (o.elim 0 (·.key)))).setCell ⟨r, 1, none⟩ (.int .i64 (o.elim 0 (·.val)))).heap[r]? = some (.cells #[.int .i64 (o.elim 0 (·.key)), .int .i64 (o.elim 0 (·.val))] 25 (0, 0)) :=
  ⟨(h.ins.set2 (.inl rfl) h.old.1 _ _).ends h0 h1, by rw [heap_setCell_same _ r 1 _ _ _ (heap_setCell_same wr r 0 _ _ _ h.hr)]; rfl⟩
end
set_option maxRecDepth 100000 in
theorem entry_any (x : Nd) (w : World) : Calls Tryz.prog 126 #[.agg (ndRow x)] w (Calm w (.agg #[.int .i64 x.key, .int .i64 x.val])) := by
  have hin : (Tryz.prog.info? 25).map (·.size) = some 2 := by kernel_rfl
  have HINF := Lib.hid hin
  have HU : Hid _ := Lib.hid Tryz.underlying25
  have hb := below_new7 w (Obj.cells (ndRow x) 64)
  have hbx := heap_alloc_new w (Obj.cells (ndRow x) 64)
  clear hin
  go_enter Tryz.func126, Tryz.ntmps126
  unfold ndRow
  go_upto_region 1 with fail
  rw [show #[Value.int .i64 x.key, .int .i64 x.val, .int .u32 (x.left : Int), .int .u32 (x.right : Int), .int .i64 x.size, .int .i64 x.sum, .int .i64 x.mn, .int .i64 x.mx] = ndRow x from rfl]
  have hsz : w.heap.size < (w.alloc (Obj.cells (ndRow x) 64)).heap.size := by simp
  have hs1 : (w.alloc (Obj.cells (ndRow x) 64)).heap.size = w.heap.size + 1 := World.size_alloc _ _
  generalize w.alloc (Obj.cells (ndRow x) 64) = w2 at hb hbx hsz hs1 ⊢
  generalize hg : w.heap.size = g at hb hbx hsz hs1 ⊢
  have hb3 := below_new7 w2 (Obj.cells #[.int .i64 0, .int .i64 0] 25)
  have hr3 := heap_alloc_new w2 (Obj.cells #[.int .i64 0, .int .i64 0] 25)
  have hx3 := (hb3.block g hsz).trans hbx
  have hb4 := hb.trans (hb3.mono (Nat.le_of_lt hsz))
  (try rw [World.size_alloc])
  generalize w2.alloc (Obj.cells #[.int .i64 0, .int .i64 0] 25) = w3 at hr3 hx3 hb4 ⊢
  clear hb3
  (try rw [hg])
  rw [hs1] at hr3
  generalize hq : g + 1 = q at hr3 ⊢
  have x0 : w3.cell? ⟨g, 0, none⟩ = some (.int .i64 x.key) := by rw [cell_of_row _ _ _ _ _ _ hx3]; rfl
  have x1 : w3.cell? ⟨g, 1, none⟩ = some (.int .i64 x.val) := by rw [cell_of_row _ _ _ _ _ _ hx3]; rfl
  obtain ⟨r0, r1⟩ := two_ofE hr3
  have f0 := frozen_of_row _ _ 0 _ _ hr3
  have f1 := frozen_of_row _ _ 1 _ _ hr3
  have hgq : g ≠ q := by omega
  have HFIN : Hid (Below g w ((w3.setCell ⟨q, 0, none⟩ (.int .i64 x.key)).setCell ⟨q, 1, none⟩ (.int .i64 x.val)) ∧ ((w3.setCell ⟨q, 0, none⟩ (.int .i64 x.key)).setCell ⟨q, 1, none⟩ (.int .i64 x.val)).heap[q]? = some (.cells #[.int .i64 x.key, .int .i64 x.val] 25 (0, 0))) :=
    ⟨(hb4.setCell (by show g ≤ q; omega) _).setCell (by show g ≤ q; omega) _, by rw [heap_setCell_same _ q 1 _ _ _ (heap_setCell_same w3 q 0 _ _ _ hr3)]; rfl⟩
  have HGG := Lib.hid hg
  clear hb hbx hsz hs1 hr3 hx3 hb4 hg hq
  go_wp2_with fail
  refine bodyPost_ret (results_cell_row rfl _ _ q 25 #[.int .i64 x.key, .int .i64 x.val] (0, 0) _ rfl HFIN.out.2 HU.out rfl HINF.out) rfl ?_
  exact ⟨rfl, by rw [HGG.out]; exact HFIN.out.1⟩
def Waybefore (I : AImpl) (w : World) (F : Nat → Prop) (p : Value) (A : Ar) (rd0 : Int) (k : Int) (eq : Bool) (R : Option En) (top : Int) (r b U : Nat) (fd x c : Value) (wr : World) : Prop :=
  ∃ (i n : Nat) (u : Tr) (rd : Int) (o : Option En), fd = .bool o.isSome ∧ x = .int .u32 (i : Int) ∧ c = .int .i64 (n : Int) ∧ Sub A i u ∧ bef A.nd (k + if eq then 1 else 0) u o = R ∧ rd0 ≤ rd ∧ rd + (u.ht : Int) ≤ top ∧ n + u.size ≤ U ∧ BB I w F p A rd r b o wr
set_option maxHeartbeats 4000000 in
set_option maxRecDepth 100000 in
theorem beforeP_any (I : AImpl) {p : Value} {A : Ar} {rd : Int} {F : Nat → Prop} {i : Nat} {t : Tr} {l : List En} (k : Int) (eq : Bool) (w : World) (hI : I.Is w p A rd F) (hT : TreeAt A i t l) (h0 : 0 ≤ rd) (h1 : rd ≤ 1099511627776) :
    Calls Tryz.prog 112 #[p, .int .u32 (i : Int), .int .i64 k, .bool eq] w (ReadsTo I p A rd F (mostI l.length) (enR (bef A.nd (k + if eq then 1 else 0) t none)) w) := by
  obtain ⟨pa, rfl⟩ := I.ptr hI
  have hin : (Tryz.prog.info? 25).map (·.size) = some 2 := by kernel_rfl
  have HINF := Lib.hid hin
  have HU : Hid _ := Lib.hid Tryz.underlying25
  have hb := hT.bound
  obtain ⟨R, hR⟩ : ∃ R, bef A.nd (k + if eq then 1 else 0) t none = R := ⟨_, rfl⟩
  rw [hR]
  obtain ⟨M, hM⟩ : ∃ M, mostI l.length = M := ⟨_, rfl⟩
  rw [hM] at hb ⊢
  obtain ⟨held, hv⟩ := hT.inv
  have hcap := hv.ok.cap2
  have hhd := hT.held
  obtain ⟨U, hUU⟩ : ∃ U, U + A.σ.free.length = A.σ.cap := ⟨A.σ.cap - A.σ.free.length, by omega⟩
  have HUU : Hid (U ≤ 65536 ∧ t.size ≤ U) := ⟨by omega, by omega⟩
  have HOK := Lib.hid hv.ok
  have HRD : Hid (0 ≤ rd ∧ rd ≤ 1099511627776 ∧ (t.ht : Int) ≤ M ∧ t.ht ≤ 65536) := ⟨h0, h1, hb.1, hb.2⟩
  have hbb := BB.start hI
  have HLP : Hid (∀ wx F1, I.Is wx (.pointer (some pa)) A rd F1 → Calls Tryz.prog 80 #[.pointer (some pa)] wx (Calm wx (.int .i64 (U : Int)))) := fun wx F1 h => longest_any I wx h hUU
  have HSUB := Lib.hid hT.sub
  have HRR := Lib.hid hR
  clear hI hT h0 h1 hb hR hM hv hin hcap hhd hUU
  go_enter Tryz.func112, Tryz.ntmps112
  go_upto_region 2 with fail
  generalize (w.alloc (Obj.cells #[.int .i64 0, .int .i64 0] 25)).alloc (Obj.cells #[.int .i64 0, .int .i64 0] 25) = w1 at hbb ⊢
  obtain ⟨r, hr⟩ : ∃ r, w.heap.size = r := ⟨_, rfl⟩
  rw [hr] at hbb ⊢
  generalize hb1 : r + 1 = b at hbb ⊢
  have HBB := Lib.hid hbb
  clear hbb hr hb1
  go_wp2_with fail
  obtain ⟨F1, f1, -, -⟩ := HBB.out.ins.mr.has
  refine (HLP.out w1 F1 f1).mono ?_
  rintro e w1' ⟨rfl, hb1'⟩
  have HW0 : Hid (Waybefore I w F (.pointer (some pa)) A rd k eq R (rd + (t.ht : Int)) r b U (.bool false) (.int .u32 (i : Int)) (.int .i64 0) w1') := ⟨i, 0, t, rd, none, rfl, rfl, rfl, HSUB.out, HRR.out, Int.le_refl _, Int.le_refl _, by have := HUU.out; omega, HBB.out.calm hb1'⟩
  clear f1 hb1' HBB HLP
  go_wp2_with fail
  go_loopw [11, 12, 18] (fun fd x c wr => Waybefore I w F (.pointer (some pa)) A rd k eq R (rd + (t.ht : Int)) r b U fd x c wr) (fun _ _ c _ => U - (intOf c).toNat)
  case atStart => exact HW0.out
  case round =>
    clear HW0
    obtain ⟨i, n, u, rd1, o, rfl, rfl, rfl, hu, hg, hr0, hr1, hn, hB⟩ := hrel
    rcases Nat.lt_or_ge n U with hnu | hnu
    rotate_left
    · have hnu2 : decide ((n : Int) < (U : Int)) = false := decide_eq_false (by omega)
      have hu0 : u = .nil := by
        cases u with
        | nil => rfl
        | node i l r =>
          have : (Tr.node i l r).size = l.size + r.size + 1 := rfl
          omega
      subst hu0
      have ho : o = R := hg
      subst ho
      have he := hB.ends hr0 (bd := M) (by have := HRD.out; omega)
      have hUn : ¬ n < U := Nat.not_lt.2 hnu
      clear hu hg hr0 hr1 hn hnu
      have HE := Lib.hid he
      obtain ⟨c0, c1⟩ := two_ofE hB.hb
      obtain ⟨r0, r1⟩ := two_ofE hB.hr
      have f0 := frozen_of_row _ _ 0 _ _ hB.hr
      have f1 := frozen_of_row _ _ 1 _ _ hB.hr
      have hne := hB.ne
      have hne2 : b ≠ r := fun e => hne e.symm
      obtain ⟨X, hX⟩ : ∃ X, o.elim (0 : Int) (·.key) = X := ⟨_, rfl⟩
      obtain ⟨Y, hY⟩ : ∃ Y, o.elim (0 : Int) (·.val) = Y := ⟨_, rfl⟩
      rw [hX] at c0 HE
      rw [hY] at c1 HE
      clear hB he hX hY
      go_wp2_with fail
      refine bodyPost_ret (results_row_tmp rfl _ _ r 25 #[.int .i64 X, .int .i64 Y] (0, 0) _ rfl HE.out.2 HU.out rfl HINF.out) rfl ?_
      exact HE.out.1
    have hnu2 : decide ((n : Int) < (U : Int)) = true := decide_eq_true (by omega)
    have hnu3 : (n : Int) < (U : Int) := by omega
    have hU4 : (U : Int) ≤ 65536 := by have := HUU.out.1; omega
    have hn0 : (0 : Int) ≤ (n : Int) := by omega
    cases u with
    | nil =>
      obtain rfl : i = 0 := by
        cases hu with
        | nil => rfl
      have ho : o = R := hg
      subst ho
      have HR1 : Hid (rd ≤ rd1 ∧ rd1 ≤ rd + (t.ht : Int)) := ⟨hr0, by have : (Tr.nil.ht : Nat) = 0 := rfl; omega⟩
      have HBB := Lib.hid hB
      clear hu hg hr0 hr1 hB hn
      go_wp2_with fail
      refine (HBB.out.ins.off (by have := HR1.out; have := HRD.out; omega) (by have := HR1.out; have := HRD.out; omega)).mono ?_
      rintro e w2 ⟨rfl, hin2, hk2⟩
      have hB2 := (HBB.out.step hin2 hk2).calm (below_new7 w2 (Obj.cells (ndRow Nd.zero) 64))
      clear hin2 hk2 HBB
      unfold ndRow
      go_upto_region 7 with fail
      rw [show #[Value.int .i64 Nd.zero.key, .int .i64 Nd.zero.val, .int .u32 (Nd.zero.left : Int), .int .u32 (Nd.zero.right : Int), .int .i64 Nd.zero.size, .int .i64 Nd.zero.sum, .int .i64 Nd.zero.mn, .int .i64 Nd.zero.mx] = ndRow Nd.zero from rfl]
      generalize w2.alloc (Obj.cells (ndRow Nd.zero) 64) = w3 at hB2 ⊢
      have hB := hB2
      clear hB2
      have he := hB.ends (rd0 := rd) (bd := M) HR1.out.1 (by have := HR1.out; have := HRD.out; omega)
      generalize w2.heap.size = g
      have HE := Lib.hid he
      obtain ⟨c0, c1⟩ := two_ofE hB.hb
      obtain ⟨r0, r1⟩ := two_ofE hB.hr
      have f0 := frozen_of_row _ _ 0 _ _ hB.hr
      have f1 := frozen_of_row _ _ 1 _ _ hB.hr
      have hne := hB.ne
      have hne2 : b ≠ r := fun e => hne e.symm
      obtain ⟨X, hX⟩ : ∃ X, o.elim (0 : Int) (·.key) = X := ⟨_, rfl⟩
      obtain ⟨Y, hY⟩ : ∃ Y, o.elim (0 : Int) (·.val) = Y := ⟨_, rfl⟩
      rw [hX] at c0 HE
      rw [hY] at c1 HE
      clear hB he hX hY
      go_wp2_with fail
      refine bodyPost_ret (results_row_tmp rfl _ _ r 25 #[.int .i64 X, .int .i64 Y] (0, 0) _ rfl HE.out.2 HU.out rfl HINF.out) rfl ?_
      exact HE.out.1
    | node i2 l2 r2 =>
      obtain ⟨rfl, h0, hon, hsl, hsr⟩ : i2 = i ∧ i ≠ 0 ∧ A.σ.on i = true ∧ Sub A (A.nd i).left l2 ∧ Sub A (A.nd i).right r2 := by
        cases hu with
        | node _ _ _ h1 h2 h3 h4 => exact ⟨rfl, h1, h2, h3, h4⟩
      have hi4 : i2 < 4294967296 := by have := HOK.out.on i2 hon; have := HOK.out.cap2; omega
      have hht : (Tr.node i2 l2 r2).ht = 1 + max l2.ht r2.ht := rfl
      rw [show (Tr.node i2 l2 r2).size = l2.size + r2.size + 1 from rfl] at hn
      have HNL : Hid (n + 1 + l2.size ≤ U) := by show _ ≤ _; omega
      have HNR : Hid (n + 1 + r2.size ≤ U) := by show _ ≤ _; omega
      have HSL := Lib.hid hsl
      have HSR := Lib.hid hsr
      have HON := Lib.hid hon
      have HI4 := Lib.hid hi4
      have HR1 : Hid (rd ≤ rd1 ∧ rd1 + 1 + (l2.ht : Int) ≤ rd + (t.ht : Int) ∧ rd1 + 1 + (r2.ht : Int) ≤ rd + (t.ht : Int)) := ⟨hr0, by omega, by omega⟩
      have HBB := Lib.hid hB
      unfold bef at hg
      have HG := Lib.hid hg
      clear hu hg hr0 hr1 hB h0 hon hsl hsr hi4 hht hn
      go_wp2_with fail
      refine (HBB.out.ins.node (by have := HR1.out; have := HRD.out; omega) (by have := HR1.out; have := HRD.out; omega) HI4.out HON.out).mono ?_
      rintro e w2 ⟨rfl, hin2, hk2⟩
      have HB2 := Lib.hid (HBB.out.step hin2 hk2)
      clear hin2 hk2 HBB
      unfold ndRow
      go_upto_region 7 with fail
      rw [show #[Value.int .i64 (A.nd i2).key, .int .i64 (A.nd i2).val, .int .u32 ((A.nd i2).left : Int), .int .u32 ((A.nd i2).right : Int), .int .i64 (A.nd i2).size, .int .i64 (A.nd i2).sum, .int .i64 (A.nd i2).mn, .int .i64 (A.nd i2).mx] = ndRow (A.nd i2) from rfl]
      have hB3 := HB2.out.calm (below_new7 w2 (Obj.cells (ndRow (A.nd i2)) 64))
      have hbx := heap_alloc_new w2 (Obj.cells (ndRow (A.nd i2)) 64)
      have hgb : b < w2.heap.size := HB2.out.ins.mr.lt (.inr (.inr rfl))
      have hgl : w2.heap.size < (w2.alloc (Obj.cells (ndRow (A.nd i2)) 64)).heap.size := by simp
      generalize w2.alloc (Obj.cells (ndRow (A.nd i2)) 64) = w3 at hB3 hbx hgl ⊢
      generalize w2.heap.size = g at hbx hgb hgl ⊢
      have x0 : w3.cell? ⟨g, 0, none⟩ = some (.int .i64 (A.nd i2).key) := by rw [cell_of_row _ _ _ _ _ _ hbx]; rfl
      have x1 : w3.cell? ⟨g, 1, none⟩ = some (.int .i64 (A.nd i2).val) := by rw [cell_of_row _ _ _ _ _ _ hbx]; rfl
      have x2 : w3.cell? ⟨g, 2, none⟩ = some (.int .u32 ((A.nd i2).left : Int)) := by rw [cell_of_row _ _ _ _ _ _ hbx]; rfl
      have x3 : w3.cell? ⟨g, 3, none⟩ = some (.int .u32 ((A.nd i2).right : Int)) := by rw [cell_of_row _ _ _ _ _ _ hbx]; rfl
      have x4 : w3.cell? ⟨g, 4, none⟩ = some (.int .i64 (A.nd i2).size) := by rw [cell_of_row _ _ _ _ _ _ hbx]; rfl
      have x5 : w3.cell? ⟨g, 5, none⟩ = some (.int .i64 (A.nd i2).sum) := by rw [cell_of_row _ _ _ _ _ _ hbx]; rfl
      have x6 : w3.cell? ⟨g, 6, none⟩ = some (.int .i64 (A.nd i2).mn) := by rw [cell_of_row _ _ _ _ _ _ hbx]; rfl
      have x7 : w3.cell? ⟨g, 7, none⟩ = some (.int .i64 (A.nd i2).mx) := by rw [cell_of_row _ _ _ _ _ _ hbx]; rfl
      have HX := Lib.hid hbx
      have HGL : Hid (b < g ∧ g < w3.heap.size) := ⟨hgb, hgl⟩
      have HB3 := Lib.hid hB3
      have HEN := Lib.hid (entry_any (A.nd i2) w3)
      have hg := HG.out
      clear hB3 hbx hgb hgl HB2 HG
      cases eq with
      | true =>
        rw [show k + (if true = true then 1 else 0) = k + 1 from rfl] at hg
        rcases Int.lt_trichotomy (A.nd i2).key k with h | h | h
        · have q1 : decide ((A.nd i2).key < k) = true := decide_eq_true (by omega)
          have q2 : decide ((A.nd i2).key > k) = false := decide_eq_false (by omega)
          have q3 : decide (k < (A.nd i2).key) = false := decide_eq_false (by omega)
          have q4 : ((A.nd i2).key == k) = false := by simp; omega
          rw [if_pos (by omega)] at hg
          clear h
          have HG := Lib.hid hg
          clear hg
          go_wp2_with fail
          refine HEN.out.mono ?_
          rintro e w4 ⟨rfl, hb4⟩
          have hx4 := (hb4.block g HGL.out.2).trans HX.out
          have hB4 := HB3.out.calm hb4
          clear x0 x1 x2 x3 x4 x5 x6 x7 hb4
          have x2 : w4.cell? ⟨g, 2, none⟩ = some (.int .u32 ((A.nd i2).left : Int)) := by rw [cell_of_row _ _ _ _ _ _ hx4]; rfl
          have x3 : w4.cell? ⟨g, 3, none⟩ = some (.int .u32 ((A.nd i2).right : Int)) := by rw [cell_of_row _ _ _ _ _ _ hx4]; rfl
          obtain ⟨c0, c1⟩ := two_ofE hB4.hb
          have f0 := frozen_of_row _ _ 0 _ _ hB4.hb
          have f1 := frozen_of_row _ _ 1 _ _ hB4.hb
          have hgne : g ≠ b := by have := HGL.out; omega
          have hgne2 : b ≠ g := by have := HGL.out; omega
          obtain ⟨X, hX⟩ : ∃ X, o.elim (0 : Int) (·.key) = X := ⟨_, rfl⟩
          obtain ⟨Y, hY⟩ : ∃ Y, o.elim (0 : Int) (·.val) = Y := ⟨_, rfl⟩
          rw [hX] at c0
          rw [hY] at c1
          have HE : Hid (Waybefore I w F (.pointer (some pa)) A rd k true R (rd + (t.ht : Int)) r b U (.bool true) (.int .u32 ((A.nd i2).right : Int)) (.int .i64 ((n + 1 : Nat) : Int)) ((w4.setCell ⟨b, 0, none⟩ (.int .i64 (A.nd i2).key)).setCell ⟨b, 1, none⟩ (.int .i64 (A.nd i2).val))) := ⟨_, n + 1, r2, rd1 + 1, some (ndE (A.nd i2)), rfl, rfl, rfl, HSR.out, HG.out, by have := HR1.out; omega, HR1.out.2.2, HNR.out, hB4.put (ndE (A.nd i2))⟩
          clear hx4 hB4 hX hY HX HB3 HEN HG
          go_wp2_with fail
          exact ⟨by rw [show ((n : Int) + 1) = ((n + 1 : Nat) : Int) by omega]; exact HE.out, by simp [intOf]; omega⟩
        · have q1 : decide ((A.nd i2).key < k) = false := decide_eq_false (by omega)
          have q2 : decide ((A.nd i2).key > k) = false := decide_eq_false (by omega)
          have q3 : decide (k < (A.nd i2).key) = false := decide_eq_false (by omega)
          have q4 : ((A.nd i2).key == k) = true := by simp; omega
          rw [if_pos (by omega)] at hg
          clear h
          have HG := Lib.hid hg
          clear hg
          go_wp2_with fail
          refine HEN.out.mono ?_
          rintro e w4 ⟨rfl, hb4⟩
          have hx4 := (hb4.block g HGL.out.2).trans HX.out
          have hB4 := HB3.out.calm hb4
          clear x0 x1 x2 x3 x4 x5 x6 x7 hb4
          have x2 : w4.cell? ⟨g, 2, none⟩ = some (.int .u32 ((A.nd i2).left : Int)) := by rw [cell_of_row _ _ _ _ _ _ hx4]; rfl
          have x3 : w4.cell? ⟨g, 3, none⟩ = some (.int .u32 ((A.nd i2).right : Int)) := by rw [cell_of_row _ _ _ _ _ _ hx4]; rfl
          obtain ⟨c0, c1⟩ := two_ofE hB4.hb
          have f0 := frozen_of_row _ _ 0 _ _ hB4.hb
          have f1 := frozen_of_row _ _ 1 _ _ hB4.hb
          have hgne : g ≠ b := by have := HGL.out; omega
          have hgne2 : b ≠ g := by have := HGL.out; omega
          obtain ⟨X, hX⟩ : ∃ X, o.elim (0 : Int) (·.key) = X := ⟨_, rfl⟩
          obtain ⟨Y, hY⟩ : ∃ Y, o.elim (0 : Int) (·.val) = Y := ⟨_, rfl⟩
          rw [hX] at c0
          rw [hY] at c1
          have HE : Hid (Waybefore I w F (.pointer (some pa)) A rd k true R (rd + (t.ht : Int)) r b U (.bool true) (.int .u32 ((A.nd i2).right : Int)) (.int .i64 ((n + 1 : Nat) : Int)) ((w4.setCell ⟨b, 0, none⟩ (.int .i64 (A.nd i2).key)).setCell ⟨b, 1, none⟩ (.int .i64 (A.nd i2).val))) := ⟨_, n + 1, r2, rd1 + 1, some (ndE (A.nd i2)), rfl, rfl, rfl, HSR.out, HG.out, by have := HR1.out; omega, HR1.out.2.2, HNR.out, hB4.put (ndE (A.nd i2))⟩
          clear hx4 hB4 hX hY HX HB3 HEN HG
          go_wp2_with fail
          exact ⟨by rw [show ((n : Int) + 1) = ((n + 1 : Nat) : Int) by omega]; exact HE.out, by simp [intOf]; omega⟩
        · have q1 : decide ((A.nd i2).key < k) = false := decide_eq_false (by omega)
          have q2 : decide ((A.nd i2).key > k) = true := decide_eq_true (by omega)
          have q3 : decide (k < (A.nd i2).key) = true := decide_eq_true (by omega)
          have q4 : ((A.nd i2).key == k) = false := by simp; omega
          rw [if_neg (by omega)] at hg
          clear h
          have HE : Hid (Waybefore I w F (.pointer (some pa)) A rd k true R (rd + (t.ht : Int)) r b U (.bool o.isSome) (.int .u32 ((A.nd i2).left : Int)) (.int .i64 ((n + 1 : Nat) : Int)) w3) := ⟨_, n + 1, l2, rd1 + 1, o, rfl, rfl, rfl, HSL.out, hg, by have := HR1.out; omega, HR1.out.2.1, HNL.out, HB3.out⟩
          generalize o.isSome = ob at HE ⊢
          clear hg HX HB3 HEN
          go_wp2_with fail
          exact ⟨by rw [show ((n : Int) + 1) = ((n + 1 : Nat) : Int) by omega]; exact HE.out, by simp [intOf]; omega⟩
      | false =>
        rw [show k + (if false = true then 1 else 0) = k + 0 from rfl] at hg
        rcases Int.lt_trichotomy (A.nd i2).key k with h | h | h
        · have q1 : decide ((A.nd i2).key < k) = true := decide_eq_true (by omega)
          have q2 : decide ((A.nd i2).key > k) = false := decide_eq_false (by omega)
          have q3 : decide (k < (A.nd i2).key) = false := decide_eq_false (by omega)
          have q4 : ((A.nd i2).key == k) = false := by simp; omega
          rw [if_pos (by omega)] at hg
          clear h
          have HG := Lib.hid hg
          clear hg
          go_wp2_with fail
          refine HEN.out.mono ?_
          rintro e w4 ⟨rfl, hb4⟩
          have hx4 := (hb4.block g HGL.out.2).trans HX.out
          have hB4 := HB3.out.calm hb4
          clear x0 x1 x2 x3 x4 x5 x6 x7 hb4
          have x2 : w4.cell? ⟨g, 2, none⟩ = some (.int .u32 ((A.nd i2).left : Int)) := by rw [cell_of_row _ _ _ _ _ _ hx4]; rfl
          have x3 : w4.cell? ⟨g, 3, none⟩ = some (.int .u32 ((A.nd i2).right : Int)) := by rw [cell_of_row _ _ _ _ _ _ hx4]; rfl
          obtain ⟨c0, c1⟩ := two_ofE hB4.hb
          have f0 := frozen_of_row _ _ 0 _ _ hB4.hb
          have f1 := frozen_of_row _ _ 1 _ _ hB4.hb
          have hgne : g ≠ b := by have := HGL.out; omega
          have hgne2 : b ≠ g := by have := HGL.out; omega
          obtain ⟨X, hX⟩ : ∃ X, o.elim (0 : Int) (·.key) = X := ⟨_, rfl⟩
          obtain ⟨Y, hY⟩ : ∃ Y, o.elim (0 : Int) (·.val) = Y := ⟨_, rfl⟩
          rw [hX] at c0
          rw [hY] at c1
          have HE : Hid (Waybefore I w F (.pointer (some pa)) A rd k false R (rd + (t.ht : Int)) r b U (.bool true) (.int .u32 ((A.nd i2).right : Int)) (.int .i64 ((n + 1 : Nat) : Int)) ((w4.setCell ⟨b, 0, none⟩ (.int .i64 (A.nd i2).key)).setCell ⟨b, 1, none⟩ (.int .i64 (A.nd i2).val))) := ⟨_, n + 1, r2, rd1 + 1, some (ndE (A.nd i2)), rfl, rfl, rfl, HSR.out, HG.out, by have := HR1.out; omega, HR1.out.2.2, HNR.out, hB4.put (ndE (A.nd i2))⟩
          clear hx4 hB4 hX hY HX HB3 HEN HG
          go_wp2_with fail
          exact ⟨by rw [show ((n : Int) + 1) = ((n + 1 : Nat) : Int) by omega]; exact HE.out, by simp [intOf]; omega⟩
        · have q1 : decide ((A.nd i2).key < k) = false := decide_eq_false (by omega)
          have q2 : decide ((A.nd i2).key > k) = false := decide_eq_false (by omega)
          have q3 : decide (k < (A.nd i2).key) = false := decide_eq_false (by omega)
          have q4 : ((A.nd i2).key == k) = true := by simp; omega
          rw [if_neg (by omega)] at hg
          clear h
          have HE : Hid (Waybefore I w F (.pointer (some pa)) A rd k false R (rd + (t.ht : Int)) r b U (.bool o.isSome) (.int .u32 ((A.nd i2).left : Int)) (.int .i64 ((n + 1 : Nat) : Int)) w3) := ⟨_, n + 1, l2, rd1 + 1, o, rfl, rfl, rfl, HSL.out, hg, by have := HR1.out; omega, HR1.out.2.1, HNL.out, HB3.out⟩
          generalize o.isSome = ob at HE ⊢
          clear hg HX HB3 HEN
          go_wp2_with fail
          exact ⟨by rw [show ((n : Int) + 1) = ((n + 1 : Nat) : Int) by omega]; exact HE.out, by simp [intOf]; omega⟩
        · have q1 : decide ((A.nd i2).key < k) = false := decide_eq_false (by omega)
          have q2 : decide ((A.nd i2).key > k) = true := decide_eq_true (by omega)
          have q3 : decide (k < (A.nd i2).key) = true := decide_eq_true (by omega)
          have q4 : ((A.nd i2).key == k) = false := by simp; omega
          rw [if_neg (by omega)] at hg
          clear h
          have HE : Hid (Waybefore I w F (.pointer (some pa)) A rd k false R (rd + (t.ht : Int)) r b U (.bool o.isSome) (.int .u32 ((A.nd i2).left : Int)) (.int .i64 ((n + 1 : Nat) : Int)) w3) := ⟨_, n + 1, l2, rd1 + 1, o, rfl, rfl, rfl, HSL.out, hg, by have := HR1.out; omega, HR1.out.2.1, HNL.out, HB3.out⟩
          generalize o.isSome = ob at HE ⊢
          clear hg HX HB3 HEN
          go_wp2_with fail
          exact ⟨by rw [show ((n : Int) + 1) = ((n + 1 : Nat) : Int) by omega]; exact HE.out, by simp [intOf]; omega⟩
def Wayafter (I : AImpl) (w : World) (F : Nat → Prop) (p : Value) (A : Ar) (rd0 : Int) (k : Int) (eq : Bool) (R : Option En) (top : Int) (r b U : Nat) (fd x c : Value) (wr : World) : Prop :=
  ∃ (i n : Nat) (u : Tr) (rd : Int) (o : Option En), fd = .bool o.isSome ∧ x = .int .u32 (i : Int) ∧ c = .int .i64 (n : Int) ∧ Sub A i u ∧ aft A.nd (k + if eq then 0 else 1) u o = R ∧ rd0 ≤ rd ∧ rd + (u.ht : Int) ≤ top ∧ n + u.size ≤ U ∧ BB I w F p A rd r b o wr
set_option maxHeartbeats 4000000 in
set_option maxRecDepth 100000 in
theorem afterP_any (I : AImpl) {p : Value} {A : Ar} {rd : Int} {F : Nat → Prop} {i : Nat} {t : Tr} {l : List En} (k : Int) (eq : Bool) (w : World) (hI : I.Is w p A rd F) (hT : TreeAt A i t l) (h0 : 0 ≤ rd) (h1 : rd ≤ 1099511627776) :
    Calls Tryz.prog 113 #[p, .int .u32 (i : Int), .int .i64 k, .bool eq] w (ReadsTo I p A rd F (mostI l.length) (enR (aft A.nd (k + if eq then 0 else 1) t none)) w) := by
  obtain ⟨pa, rfl⟩ := I.ptr hI
  have hin : (Tryz.prog.info? 25).map (·.size) = some 2 := by kernel_rfl
  have HINF := Lib.hid hin
  have HU : Hid _ := Lib.hid Tryz.underlying25
  have hb := hT.bound
  obtain ⟨R, hR⟩ : ∃ R, aft A.nd (k + if eq then 0 else 1) t none = R := ⟨_, rfl⟩
  rw [hR]
  obtain ⟨M, hM⟩ : ∃ M, mostI l.length = M := ⟨_, rfl⟩
  rw [hM] at hb ⊢
  obtain ⟨held, hv⟩ := hT.inv
  have hcap := hv.ok.cap2
  have hhd := hT.held
  obtain ⟨U, hUU⟩ : ∃ U, U + A.σ.free.length = A.σ.cap := ⟨A.σ.cap - A.σ.free.length, by omega⟩
  have HUU : Hid (U ≤ 65536 ∧ t.size ≤ U) := ⟨by omega, by omega⟩
  have HOK := Lib.hid hv.ok
  have HRD : Hid (0 ≤ rd ∧ rd ≤ 1099511627776 ∧ (t.ht : Int) ≤ M ∧ t.ht ≤ 65536) := ⟨h0, h1, hb.1, hb.2⟩
  have hbb := BB.start hI
  have HLP : Hid (∀ wx F1, I.Is wx (.pointer (some pa)) A rd F1 → Calls Tryz.prog 80 #[.pointer (some pa)] wx (Calm wx (.int .i64 (U : Int)))) := fun wx F1 h => longest_any I wx h hUU
  have HSUB := Lib.hid hT.sub
  have HRR := Lib.hid hR
  clear hI hT h0 h1 hb hR hM hv hin hcap hhd hUU
  go_enter Tryz.func113, Tryz.ntmps113
  go_upto_region 2 with fail
  generalize (w.alloc (Obj.cells #[.int .i64 0, .int .i64 0] 25)).alloc (Obj.cells #[.int .i64 0, .int .i64 0] 25) = w1 at hbb ⊢
  obtain ⟨r, hr⟩ : ∃ r, w.heap.size = r := ⟨_, rfl⟩
  rw [hr] at hbb ⊢
  generalize hb1 : r + 1 = b at hbb ⊢
  have HBB := Lib.hid hbb
  clear hbb hr hb1
  go_wp2_with fail
  obtain ⟨F1, f1, -, -⟩ := HBB.out.ins.mr.has
  refine (HLP.out w1 F1 f1).mono ?_
  rintro e w1' ⟨rfl, hb1'⟩
  have HW0 : Hid (Wayafter I w F (.pointer (some pa)) A rd k eq R (rd + (t.ht : Int)) r b U (.bool false) (.int .u32 (i : Int)) (.int .i64 0) w1') := ⟨i, 0, t, rd, none, rfl, rfl, rfl, HSUB.out, HRR.out, Int.le_refl _, Int.le_refl _, by have := HUU.out; omega, HBB.out.calm hb1'⟩
  clear f1 hb1' HBB HLP
  go_wp2_with fail
  go_loopw [11, 12, 18] (fun fd x c wr => Wayafter I w F (.pointer (some pa)) A rd k eq R (rd + (t.ht : Int)) r b U fd x c wr) (fun _ _ c _ => U - (intOf c).toNat)
  case atStart => exact HW0.out
  case round =>
    clear HW0
    obtain ⟨i, n, u, rd1, o, rfl, rfl, rfl, hu, hg, hr0, hr1, hn, hB⟩ := hrel
    rcases Nat.lt_or_ge n U with hnu | hnu
    rotate_left
    · have hnu2 : decide ((n : Int) < (U : Int)) = false := decide_eq_false (by omega)
      have hu0 : u = .nil := by
        cases u with
        | nil => rfl
        | node i l r =>
          have : (Tr.node i l r).size = l.size + r.size + 1 := rfl
          omega
      subst hu0
      have ho : o = R := hg
      subst ho
      have he := hB.ends hr0 (bd := M) (by have := HRD.out; omega)
      have hUn : ¬ n < U := Nat.not_lt.2 hnu
      clear hu hg hr0 hr1 hn hnu
      have HE := Lib.hid he
      obtain ⟨c0, c1⟩ := two_ofE hB.hb
      obtain ⟨r0, r1⟩ := two_ofE hB.hr
      have f0 := frozen_of_row _ _ 0 _ _ hB.hr
      have f1 := frozen_of_row _ _ 1 _ _ hB.hr
      have hne := hB.ne
      have hne2 : b ≠ r := fun e => hne e.symm
      obtain ⟨X, hX⟩ : ∃ X, o.elim (0 : Int) (·.key) = X := ⟨_, rfl⟩
      obtain ⟨Y, hY⟩ : ∃ Y, o.elim (0 : Int) (·.val) = Y := ⟨_, rfl⟩
      rw [hX] at c0 HE
      rw [hY] at c1 HE
      clear hB he hX hY
      go_wp2_with fail
      refine bodyPost_ret (results_row_tmp rfl _ _ r 25 #[.int .i64 X, .int .i64 Y] (0, 0) _ rfl HE.out.2 HU.out rfl HINF.out) rfl ?_
      exact HE.out.1
    have hnu2 : decide ((n : Int) < (U : Int)) = true := decide_eq_true (by omega)
    have hnu3 : (n : Int) < (U : Int) := by omega
    have hU4 : (U : Int) ≤ 65536 := by have := HUU.out.1; omega
    have hn0 : (0 : Int) ≤ (n : Int) := by omega
    cases u with
    | nil =>
      obtain rfl : i = 0 := by
        cases hu with
        | nil => rfl
      have ho : o = R := hg
      subst ho
      have HR1 : Hid (rd ≤ rd1 ∧ rd1 ≤ rd + (t.ht : Int)) := ⟨hr0, by have : (Tr.nil.ht : Nat) = 0 := rfl; omega⟩
      have HBB := Lib.hid hB
      clear hu hg hr0 hr1 hB hn
      go_wp2_with fail
      refine (HBB.out.ins.off (by have := HR1.out; have := HRD.out; omega) (by have := HR1.out; have := HRD.out; omega)).mono ?_
      rintro e w2 ⟨rfl, hin2, hk2⟩
      have hB2 := (HBB.out.step hin2 hk2).calm (below_new7 w2 (Obj.cells (ndRow Nd.zero) 64))
      clear hin2 hk2 HBB
      unfold ndRow
      go_upto_region 7 with fail
      rw [show #[Value.int .i64 Nd.zero.key, .int .i64 Nd.zero.val, .int .u32 (Nd.zero.left : Int), .int .u32 (Nd.zero.right : Int), .int .i64 Nd.zero.size, .int .i64 Nd.zero.sum, .int .i64 Nd.zero.mn, .int .i64 Nd.zero.mx] = ndRow Nd.zero from rfl]
      generalize w2.alloc (Obj.cells (ndRow Nd.zero) 64) = w3 at hB2 ⊢
      have hB := hB2
      clear hB2
      have he := hB.ends (rd0 := rd) (bd := M) HR1.out.1 (by have := HR1.out; have := HRD.out; omega)
      generalize w2.heap.size = g
      have HE := Lib.hid he
      obtain ⟨c0, c1⟩ := two_ofE hB.hb
      obtain ⟨r0, r1⟩ := two_ofE hB.hr
      have f0 := frozen_of_row _ _ 0 _ _ hB.hr
      have f1 := frozen_of_row _ _ 1 _ _ hB.hr
      have hne := hB.ne
      have hne2 : b ≠ r := fun e => hne e.symm
      obtain ⟨X, hX⟩ : ∃ X, o.elim (0 : Int) (·.key) = X := ⟨_, rfl⟩
      obtain ⟨Y, hY⟩ : ∃ Y, o.elim (0 : Int) (·.val) = Y := ⟨_, rfl⟩
      rw [hX] at c0 HE
      rw [hY] at c1 HE
      clear hB he hX hY
      go_wp2_with fail
      refine bodyPost_ret (results_row_tmp rfl _ _ r 25 #[.int .i64 X, .int .i64 Y] (0, 0) _ rfl HE.out.2 HU.out rfl HINF.out) rfl ?_
      exact HE.out.1
    | node i2 l2 r2 =>
      obtain ⟨rfl, h0, hon, hsl, hsr⟩ : i2 = i ∧ i ≠ 0 ∧ A.σ.on i = true ∧ Sub A (A.nd i).left l2 ∧ Sub A (A.nd i).right r2 := by
        cases hu with
        | node _ _ _ h1 h2 h3 h4 => exact ⟨rfl, h1, h2, h3, h4⟩
      have hi4 : i2 < 4294967296 := by have := HOK.out.on i2 hon; have := HOK.out.cap2; omega
      have hht : (Tr.node i2 l2 r2).ht = 1 + max l2.ht r2.ht := rfl
      rw [show (Tr.node i2 l2 r2).size = l2.size + r2.size + 1 from rfl] at hn
      have HNL : Hid (n + 1 + l2.size ≤ U) := by show _ ≤ _; omega
      have HNR : Hid (n + 1 + r2.size ≤ U) := by show _ ≤ _; omega
      have HSL := Lib.hid hsl
      have HSR := Lib.hid hsr
      have HON := Lib.hid hon
      have HI4 := Lib.hid hi4
      have HR1 : Hid (rd ≤ rd1 ∧ rd1 + 1 + (l2.ht : Int) ≤ rd + (t.ht : Int) ∧ rd1 + 1 + (r2.ht : Int) ≤ rd + (t.ht : Int)) := ⟨hr0, by omega, by omega⟩
      have HBB := Lib.hid hB
      unfold aft at hg
      have HG := Lib.hid hg
      clear hu hg hr0 hr1 hB h0 hon hsl hsr hi4 hht hn
      go_wp2_with fail
      refine (HBB.out.ins.node (by have := HR1.out; have := HRD.out; omega) (by have := HR1.out; have := HRD.out; omega) HI4.out HON.out).mono ?_
      rintro e w2 ⟨rfl, hin2, hk2⟩
      have HB2 := Lib.hid (HBB.out.step hin2 hk2)
      clear hin2 hk2 HBB
      unfold ndRow
      go_upto_region 7 with fail
      rw [show #[Value.int .i64 (A.nd i2).key, .int .i64 (A.nd i2).val, .int .u32 ((A.nd i2).left : Int), .int .u32 ((A.nd i2).right : Int), .int .i64 (A.nd i2).size, .int .i64 (A.nd i2).sum, .int .i64 (A.nd i2).mn, .int .i64 (A.nd i2).mx] = ndRow (A.nd i2) from rfl]
      have hB3 := HB2.out.calm (below_new7 w2 (Obj.cells (ndRow (A.nd i2)) 64))
      have hbx := heap_alloc_new w2 (Obj.cells (ndRow (A.nd i2)) 64)
      have hgb : b < w2.heap.size := HB2.out.ins.mr.lt (.inr (.inr rfl))
      have hgl : w2.heap.size < (w2.alloc (Obj.cells (ndRow (A.nd i2)) 64)).heap.size := by simp
      generalize w2.alloc (Obj.cells (ndRow (A.nd i2)) 64) = w3 at hB3 hbx hgl ⊢
      generalize w2.heap.size = g at hbx hgb hgl ⊢
      have x0 : w3.cell? ⟨g, 0, none⟩ = some (.int .i64 (A.nd i2).key) := by rw [cell_of_row _ _ _ _ _ _ hbx]; rfl
      have x1 : w3.cell? ⟨g, 1, none⟩ = some (.int .i64 (A.nd i2).val) := by rw [cell_of_row _ _ _ _ _ _ hbx]; rfl
      have x2 : w3.cell? ⟨g, 2, none⟩ = some (.int .u32 ((A.nd i2).left : Int)) := by rw [cell_of_row _ _ _ _ _ _ hbx]; rfl
      have x3 : w3.cell? ⟨g, 3, none⟩ = some (.int .u32 ((A.nd i2).right : Int)) := by rw [cell_of_row _ _ _ _ _ _ hbx]; rfl
      have x4 : w3.cell? ⟨g, 4, none⟩ = some (.int .i64 (A.nd i2).size) := by rw [cell_of_row _ _ _ _ _ _ hbx]; rfl
      have x5 : w3.cell? ⟨g, 5, none⟩ = some (.int .i64 (A.nd i2).sum) := by rw [cell_of_row _ _ _ _ _ _ hbx]; rfl
      have x6 : w3.cell? ⟨g, 6, none⟩ = some (.int .i64 (A.nd i2).mn) := by rw [cell_of_row _ _ _ _ _ _ hbx]; rfl
      have x7 : w3.cell? ⟨g, 7, none⟩ = some (.int .i64 (A.nd i2).mx) := by rw [cell_of_row _ _ _ _ _ _ hbx]; rfl
      have HX := Lib.hid hbx
      have HGL : Hid (b < g ∧ g < w3.heap.size) := ⟨hgb, hgl⟩
      have HB3 := Lib.hid hB3
      have HEN := Lib.hid (entry_any (A.nd i2) w3)
      have hg := HG.out
      clear hB3 hbx hgb hgl HB2 HG
      cases eq with
      | true =>
        rw [show k + (if true = true then 0 else 1) = k + 0 from rfl] at hg
        rcases Int.lt_trichotomy (A.nd i2).key k with h | h | h
        · have q1 : decide ((A.nd i2).key < k) = true := decide_eq_true (by omega)
          have q2 : decide ((A.nd i2).key > k) = false := decide_eq_false (by omega)
          have q3 : decide (k < (A.nd i2).key) = false := decide_eq_false (by omega)
          have q4 : ((A.nd i2).key == k) = false := by simp; omega
          rw [if_pos (by omega)] at hg
          clear h
          have HE : Hid (Wayafter I w F (.pointer (some pa)) A rd k true R (rd + (t.ht : Int)) r b U (.bool o.isSome) (.int .u32 ((A.nd i2).right : Int)) (.int .i64 ((n + 1 : Nat) : Int)) w3) := ⟨_, n + 1, r2, rd1 + 1, o, rfl, rfl, rfl, HSR.out, hg, by have := HR1.out; omega, HR1.out.2.2, HNR.out, HB3.out⟩
          generalize o.isSome = ob at HE ⊢
          clear hg HX HB3 HEN
          go_wp2_with fail
          exact ⟨by rw [show ((n : Int) + 1) = ((n + 1 : Nat) : Int) by omega]; exact HE.out, by simp [intOf]; omega⟩
        · have q1 : decide ((A.nd i2).key < k) = false := decide_eq_false (by omega)
          have q2 : decide ((A.nd i2).key > k) = false := decide_eq_false (by omega)
          have q3 : decide (k < (A.nd i2).key) = false := decide_eq_false (by omega)
          have q4 : ((A.nd i2).key == k) = true := by simp; omega
          rw [if_neg (by omega)] at hg
          clear h
          have HG := Lib.hid hg
          clear hg
          go_wp2_with fail
          refine HEN.out.mono ?_
          rintro e w4 ⟨rfl, hb4⟩
          have hx4 := (hb4.block g HGL.out.2).trans HX.out
          have hB4 := HB3.out.calm hb4
          clear x0 x1 x2 x3 x4 x5 x6 x7 hb4
          have x2 : w4.cell? ⟨g, 2, none⟩ = some (.int .u32 ((A.nd i2).left : Int)) := by rw [cell_of_row _ _ _ _ _ _ hx4]; rfl
          have x3 : w4.cell? ⟨g, 3, none⟩ = some (.int .u32 ((A.nd i2).right : Int)) := by rw [cell_of_row _ _ _ _ _ _ hx4]; rfl
          obtain ⟨c0, c1⟩ := two_ofE hB4.hb
          have f0 := frozen_of_row _ _ 0 _ _ hB4.hb
          have f1 := frozen_of_row _ _ 1 _ _ hB4.hb
          have hgne : g ≠ b := by have := HGL.out; omega
          have hgne2 : b ≠ g := by have := HGL.out; omega
          obtain ⟨X, hX⟩ : ∃ X, o.elim (0 : Int) (·.key) = X := ⟨_, rfl⟩
          obtain ⟨Y, hY⟩ : ∃ Y, o.elim (0 : Int) (·.val) = Y := ⟨_, rfl⟩
          rw [hX] at c0
          rw [hY] at c1
          have HE : Hid (Wayafter I w F (.pointer (some pa)) A rd k true R (rd + (t.ht : Int)) r b U (.bool true) (.int .u32 ((A.nd i2).left : Int)) (.int .i64 ((n + 1 : Nat) : Int)) ((w4.setCell ⟨b, 0, none⟩ (.int .i64 (A.nd i2).key)).setCell ⟨b, 1, none⟩ (.int .i64 (A.nd i2).val))) := ⟨_, n + 1, l2, rd1 + 1, some (ndE (A.nd i2)), rfl, rfl, rfl, HSL.out, HG.out, by have := HR1.out; omega, HR1.out.2.1, HNL.out, hB4.put (ndE (A.nd i2))⟩
          clear hx4 hB4 hX hY HX HB3 HEN HG
          go_wp2_with fail
          exact ⟨by rw [show ((n : Int) + 1) = ((n + 1 : Nat) : Int) by omega]; exact HE.out, by simp [intOf]; omega⟩
        · have q1 : decide ((A.nd i2).key < k) = false := decide_eq_false (by omega)
          have q2 : decide ((A.nd i2).key > k) = true := decide_eq_true (by omega)
          have q3 : decide (k < (A.nd i2).key) = true := decide_eq_true (by omega)
          have q4 : ((A.nd i2).key == k) = false := by simp; omega
          rw [if_neg (by omega)] at hg
          clear h
          have HG := Lib.hid hg
          clear hg
          go_wp2_with fail
          refine HEN.out.mono ?_
          rintro e w4 ⟨rfl, hb4⟩
          have hx4 := (hb4.block g HGL.out.2).trans HX.out
          have hB4 := HB3.out.calm hb4
          clear x0 x1 x2 x3 x4 x5 x6 x7 hb4
          have x2 : w4.cell? ⟨g, 2, none⟩ = some (.int .u32 ((A.nd i2).left : Int)) := by rw [cell_of_row _ _ _ _ _ _ hx4]; rfl
          have x3 : w4.cell? ⟨g, 3, none⟩ = some (.int .u32 ((A.nd i2).right : Int)) := by rw [cell_of_row _ _ _ _ _ _ hx4]; rfl
          obtain ⟨c0, c1⟩ := two_ofE hB4.hb
          have f0 := frozen_of_row _ _ 0 _ _ hB4.hb
          have f1 := frozen_of_row _ _ 1 _ _ hB4.hb
          have hgne : g ≠ b := by have := HGL.out; omega
          have hgne2 : b ≠ g := by have := HGL.out; omega
          obtain ⟨X, hX⟩ : ∃ X, o.elim (0 : Int) (·.key) = X := ⟨_, rfl⟩
          obtain ⟨Y, hY⟩ : ∃ Y, o.elim (0 : Int) (·.val) = Y := ⟨_, rfl⟩
          rw [hX] at c0
          rw [hY] at c1
          have HE : Hid (Wayafter I w F (.pointer (some pa)) A rd k true R (rd + (t.ht : Int)) r b U (.bool true) (.int .u32 ((A.nd i2).left : Int)) (.int .i64 ((n + 1 : Nat) : Int)) ((w4.setCell ⟨b, 0, none⟩ (.int .i64 (A.nd i2).key)).setCell ⟨b, 1, none⟩ (.int .i64 (A.nd i2).val))) := ⟨_, n + 1, l2, rd1 + 1, some (ndE (A.nd i2)), rfl, rfl, rfl, HSL.out, HG.out, by have := HR1.out; omega, HR1.out.2.1, HNL.out, hB4.put (ndE (A.nd i2))⟩
          clear hx4 hB4 hX hY HX HB3 HEN HG
          go_wp2_with fail
          exact ⟨by rw [show ((n : Int) + 1) = ((n + 1 : Nat) : Int) by omega]; exact HE.out, by simp [intOf]; omega⟩
      | false =>
        rw [show k + (if false = true then 0 else 1) = k + 1 from rfl] at hg
        rcases Int.lt_trichotomy (A.nd i2).key k with h | h | h
        · have q1 : decide ((A.nd i2).key < k) = true := decide_eq_true (by omega)
          have q2 : decide ((A.nd i2).key > k) = false := decide_eq_false (by omega)
          have q3 : decide (k < (A.nd i2).key) = false := decide_eq_false (by omega)
          have q4 : ((A.nd i2).key == k) = false := by simp; omega
          rw [if_pos (by omega)] at hg
          clear h
          have HE : Hid (Wayafter I w F (.pointer (some pa)) A rd k false R (rd + (t.ht : Int)) r b U (.bool o.isSome) (.int .u32 ((A.nd i2).right : Int)) (.int .i64 ((n + 1 : Nat) : Int)) w3) := ⟨_, n + 1, r2, rd1 + 1, o, rfl, rfl, rfl, HSR.out, hg, by have := HR1.out; omega, HR1.out.2.2, HNR.out, HB3.out⟩
          generalize o.isSome = ob at HE ⊢
          clear hg HX HB3 HEN
          go_wp2_with fail
          exact ⟨by rw [show ((n : Int) + 1) = ((n + 1 : Nat) : Int) by omega]; exact HE.out, by simp [intOf]; omega⟩
        · have q1 : decide ((A.nd i2).key < k) = false := decide_eq_false (by omega)
          have q2 : decide ((A.nd i2).key > k) = false := decide_eq_false (by omega)
          have q3 : decide (k < (A.nd i2).key) = false := decide_eq_false (by omega)
          have q4 : ((A.nd i2).key == k) = true := by simp; omega
          rw [if_pos (by omega)] at hg
          clear h
          have HE : Hid (Wayafter I w F (.pointer (some pa)) A rd k false R (rd + (t.ht : Int)) r b U (.bool o.isSome) (.int .u32 ((A.nd i2).right : Int)) (.int .i64 ((n + 1 : Nat) : Int)) w3) := ⟨_, n + 1, r2, rd1 + 1, o, rfl, rfl, rfl, HSR.out, hg, by have := HR1.out; omega, HR1.out.2.2, HNR.out, HB3.out⟩
          generalize o.isSome = ob at HE ⊢
          clear hg HX HB3 HEN
          go_wp2_with fail
          exact ⟨by rw [show ((n : Int) + 1) = ((n + 1 : Nat) : Int) by omega]; exact HE.out, by simp [intOf]; omega⟩
        · have q1 : decide ((A.nd i2).key < k) = false := decide_eq_false (by omega)
          have q2 : decide ((A.nd i2).key > k) = true := decide_eq_true (by omega)
          have q3 : decide (k < (A.nd i2).key) = true := decide_eq_true (by omega)
          have q4 : ((A.nd i2).key == k) = false := by simp; omega
          rw [if_neg (by omega)] at hg
          clear h
          have HG := Lib.hid hg
          clear hg
          go_wp2_with fail
          refine HEN.out.mono ?_
          rintro e w4 ⟨rfl, hb4⟩
          have hx4 := (hb4.block g HGL.out.2).trans HX.out
          have hB4 := HB3.out.calm hb4
          clear x0 x1 x2 x3 x4 x5 x6 x7 hb4
          have x2 : w4.cell? ⟨g, 2, none⟩ = some (.int .u32 ((A.nd i2).left : Int)) := by rw [cell_of_row _ _ _ _ _ _ hx4]; rfl
          have x3 : w4.cell? ⟨g, 3, none⟩ = some (.int .u32 ((A.nd i2).right : Int)) := by rw [cell_of_row _ _ _ _ _ _ hx4]; rfl
          obtain ⟨c0, c1⟩ := two_ofE hB4.hb
          have f0 := frozen_of_row _ _ 0 _ _ hB4.hb
          have f1 := frozen_of_row _ _ 1 _ _ hB4.hb
          have hgne : g ≠ b := by have := HGL.out; omega
          have hgne2 : b ≠ g := by have := HGL.out; omega
          obtain ⟨X, hX⟩ : ∃ X, o.elim (0 : Int) (·.key) = X := ⟨_, rfl⟩
          obtain ⟨Y, hY⟩ : ∃ Y, o.elim (0 : Int) (·.val) = Y := ⟨_, rfl⟩
          rw [hX] at c0
          rw [hY] at c1
          have HE : Hid (Wayafter I w F (.pointer (some pa)) A rd k false R (rd + (t.ht : Int)) r b U (.bool true) (.int .u32 ((A.nd i2).left : Int)) (.int .i64 ((n + 1 : Nat) : Int)) ((w4.setCell ⟨b, 0, none⟩ (.int .i64 (A.nd i2).key)).setCell ⟨b, 1, none⟩ (.int .i64 (A.nd i2).val))) := ⟨_, n + 1, l2, rd1 + 1, some (ndE (A.nd i2)), rfl, rfl, rfl, HSL.out, HG.out, by have := HR1.out; omega, HR1.out.2.1, HNL.out, hB4.put (ndE (A.nd i2))⟩
          clear hx4 hB4 hX hY HX HB3 HEN HG
          go_wp2_with fail
          exact ⟨by rw [show ((n : Int) + 1) = ((n + 1 : Nat) : Int) by omega]; exact HE.out, by simp [intOf]; omega⟩
end Go.Proofs.YtckkmmdibgoajaaGreat
