/- Of the proofs of BulkCuts, BulkPartsJoin: BkOk3, ArenaLaw, RotCon, Makes, BalW, Mid, JnN, BkN. -/
import Derived.Test.YtnimbgcploohiaaGreatPk1
import Derived.Test.YtnimbgcploohiaaGreatPk2
import Derived.Test.YtnimbgcploohiaaGreatPk3
import Derived.Test.YtnimbgcploohiaaGreatPk4
import Derived.Test.YtnimbgcploohiaaGreatPk5
import Derived.Test.YtnimbgcploohiaaGreatPk6
import Derived.Test.YtnimbgcploohiaaGreatPk7
import Derived.Test.YtnimbgcploohiaaGreatPk8
import Derived.BigGuardPart
set_option linter.unusedVariables false
set_option linter.unusedSimpArgs false
namespace Go.Proofs.YtnimbgcploohiaaGreat
open Go.RowKit
set_option maxHeartbeats 2000000 in
set_option maxRecDepth 100000 in
theorem ascB_any {w : World} {a : Option Addr} {n c : Nat} {l : List En} (h : EnsAt w a l) (hn : l.length = n) (hl : n ≤ 1000000) {v : Bool} (hv : v = true ↔ Up l) :
    Calls Tryz.prog 67 #[.slice a n c] w (Calm w (.bool v)) := by
  have hni : (n : Int) ≤ 1000000 := by omega
  have HH := Lib.hid h
  have HN := Lib.hid hn
  have HV := Lib.hid hv
  clear h hn hv
  go_enter Tryz.func67, Tryz.ntmps67
  go_wp2_with fail
  go_loopw [3] (fun i wr => ∃ k : Nat, 1 ≤ k ∧ k ≤ n + 1 ∧ i = .int .i64 (k : Int) ∧ AscTo l k ∧ ∃ q, wr = w.drewN q) (fun i _ => n + 1 - (intOf i).toNat)
  case atStart => exact ⟨1, Nat.le_refl _, by omega, rfl, fun j x y hj => by omega, 0, rfl⟩
  case round =>
    obtain ⟨k, hk1, hk, rfl, hA, q, rfl⟩ := hrel
    have HA := Lib.hid hA
    have hk1i : (1 : Int) ≤ (k : Int) := by omega
    clear hA
    by_cases hlt : k < n
    · have hki : (k : Int) < (n : Int) := by omega
      have hk0 : (0 : Int) ≤ (k : Int) := by omega
      obtain ⟨j, hj⟩ : ∃ j, k = j + 1 := ⟨k - 1, by omega⟩
      obtain ⟨y, hy⟩ : ∃ e, l[k]? = some e := ⟨_, List.getElem?_eq_getElem (by have := HN.out; omega)⟩
      obtain ⟨x, hx⟩ : ∃ e, l[j]? = some e := ⟨_, List.getElem?_eq_getElem (by have := HN.out; omega)⟩
      obtain ⟨g, off, rfl, hb, c0, c1⟩ := HH.out.at hy
      obtain ⟨g', off', hgg, hb', d0, d1⟩ := HH.out.at hx
      obtain ⟨rfl, rfl⟩ : g = g' ∧ off = off' := by simpa using hgg
      have hji : IntKind.i64.wrap ((k : Int) - 1) = (j : Int) := by rw [IntKind.wrap_i64]; omega
      have hj0 : (0 : Int) ≤ (j : Int) := by omega
      have hjn : (j : Int) < (n : Int) := by omega
      have HXY : Hid (l[k]? = some y ∧ l[j]? = some x ∧ k = j + 1) := ⟨hy, hx, hj⟩
      have HLT := Lib.hid hlt
      clear hb hb' hgg hy hx hlt c1 d1 hj
      by_cases hle : y.key ≤ x.key
      · have q1 : decide (y.key ≤ x.key) = true := decide_eq_true hle
        have HR : Hid (v = false) := by
          show _ = _
          cases hv : v with
          | false => rfl
          | true =>
            have h1 := HXY.out.1
            rw [HXY.out.2.2] at h1
            have := adj_up (HV.out.1 hv) HXY.out.2.1 h1
            omega
        clear hle
        go_upto_region 4 with fail
        go_quiet (fail)
        rename Nat => d
        go_wp2_with fail
        go_ret
        exact ⟨by rw [HR.out]; rfl, below_drewN (below_drewN (Below.refl _ _) _) _⟩
      · have q1 : decide (y.key ≤ x.key) = false := decide_eq_false hle
        have HAA : Hid (AscTo l (k + 1)) := fun j' x' y' hj' hx' hy' => by
          by_cases h1 : j' + 1 < k
          · exact HA.out j' x' y' h1 hx' hy'
          · have e1 : j' = j := by have := HXY.out.2.2; omega
            subst e1
            have h2 := HXY.out.1
            rw [HXY.out.2.2] at h2
            rw [HXY.out.2.1] at hx'
            rw [h2] at hy'
            cases hx'
            cases hy'
            omega
        clear hle
        go_upto_region 4 with fail
        go_quiet (fail)
        rename Nat => d
        go_wp2_with fail
        exact ⟨⟨k + 1, by omega, by have := HLT.out; omega, by go_num, HAA.out, _, rfl⟩, by have := HLT.out; simp [intOf]; omega⟩
    · have hki : ¬ (k : Int) < (n : Int) := by omega
      have HR : Hid (v = true) := HV.out.2 (up_adj fun j x y hx hy => HA.out j x y (by have := (List.getElem?_eq_some_iff.1 hy).1; have := HN.out; omega) hx hy)
      clear hlt
      go_wp2_with fail
      go_ret
      exact ⟨by rw [HR.out]; rfl, below_drewN (Below.refl _ _) _⟩
theorem EnsAt.ins {I : AImpl} {w wr : World} {F : Nat → Prop} {p : Value} {A : Ar} {rd : Int} {rs : List Row} {bs : List (Nat × Obj)} {b off : Nat} {l : List En} (h : EnsAt w (some ⟨b, off, none⟩) l) (hF : ¬ F b) (hb : b < w.heap.size) (hi : Ins I w F p A rd rs bs wr) : EnsAt wr (some ⟨b, off, none⟩) l := by
  have hk := hi.kp b ⟨hb, hF⟩
  have hlt : b < wr.heap.size := Nat.lt_of_lt_of_le hb hi.size
  refine ⟨fun j e he => ?_, h.wf⟩
  obtain ⟨b', off', hab, _, h1, h2⟩ := h.cell j e he
  simp at hab
  obtain ⟨rfl, rfl⟩ := hab
  exact ⟨b, off, rfl, hlt, by rw [← h1]; exact World.cell?_of_block (a := ⟨b, off + j * 2, none⟩) hk, by rw [← h2]; exact World.cell?_of_block (a := ⟨b, off + j * 2 + 1, none⟩) hk⟩
theorem idx_okB {A : Ar} (h : A.σ.Ok) {x : Nat} (hx : A.Idx x) : x < 4294967296 := by
  rcases hx with hx | hx
  · omega
  · have := h.on x hx; have := h.cap2; omega
/-- what build leaves -/
def BldQ (A : Ar) (rd : Int) (held : Nat → Nat) (l : List En) (en : Ending) (B : Ar) (rd' : Int) : Prop :=
  rd' = rd ∧ ∃ (j : Nat) (t : Tr), en = .returned (.int .u32 (j : Int)) ∧ Planted A held l B j t ∧ t.mid ∧ ∀ i, A.σ.on i = true → B.σ.gen i = A.σ.gen i
structure BldP (I : AImpl) (D : Nat) (w : World) (p : Value) (A : Ar) (rd : Int) (F : Nat → Prop) (held : Nat → Nat) (a : Option Addr) (n c : Nat) (l : List En) : Prop where
  is : I.Is w p A rd F
  inv : A.Inv [] held
  agg : A.Agg
  few : ∀ j, held j + D + 1 ≤ 1048576
  ens : EnsAt w a l
  len : l.length = n
  small : n < 2 ^ D
  off : n ≠ 0 → ∀ b o, a = some ⟨b, o, none⟩ → ¬ F b
  cap : n ≤ c ∧ c ≤ maxLen
  room : n ≤ A.σ.free.length
def BldOk (I : AImpl) (D : Nat) : Prop := ∀ {p : Value} {A : Ar} {rd : Int} {F : Nat → Prop} {held : Nat → Nat} {a : Option Addr} {n c : Nat} {l : List En} (w : World), BldP I D w p A rd F held a n c l →
    Calls Tryz.prog 68 #[p, .slice a n c] w (Mut I p F (BldQ A rd held l) w)
theorem bld_node {A A1 A2 : Ar} {held : Nat → Nat} {l1 l2 : List En} {e : En} {il ir i : Nat} {tl tr : Tr} {fr : List Nat} (h1 : Planted A held l1 A1 il tl) (h2 : Planted A1 (pls held il) l2 A2 ir tr) (hf : A2.σ.free = i :: fr) (hw : i64R e.key ∧ i64R e.val)
    (hn : l1.length = (l1.length + l2.length + 1) / 2) (hs : l1.length + l2.length + 1 ≤ 65536) (hm1 : tl.mid) (hm2 : tr.mid) (hg1 : ∀ i, A.σ.on i = true → A1.σ.gen i = A.σ.gen i) (hg2 : ∀ i, A1.σ.on i = true → A2.σ.gen i = A1.σ.gen i) :
    (Planted A held (l1 ++ e :: l2) (A2.over i fr (A2.node e.key e.val il ir)) i (.node i tl tr) ∧ (A2.node e.key e.val il ir).size ≤ 2147483647) ∧ (Tr.node i tl tr).mid ∧ ∀ j, A.σ.on j = true → (A2.over i fr (A2.node e.key e.val il ir)).σ.gen j = A.σ.gen j := by
  have hb : Proofs.YtnimbgcploohiaaGreat.bal (l1.length : Int) (l2.length : Int) = true := by
    exact decide_eq_true ⟨by omega, by omega, by omega, by omega, by omega, by omega⟩
  have hN := Planted.node (e := e) h1 h2 hf rfl hb (by omega)
  refine ⟨hN, ⟨by rw [h1.size, h2.size]; exact hn, hm1, hm2⟩, fun j hj => ?_⟩
  have hj1 := h1.kept.on j hj
  have hj2 := h2.kept.on j hj1
  have hi := (h2.inv.ok.free i).1 (by rw [hf]; simp)
  have hne : j ≠ i := fun q => by subst q; rw [hi.2.2] at hj2; cases hj2
  have ho := over_ok rfl h2.inv h2.agg hf (h1.sub.kept h2.kept).idx h2.sub.idx hN.2
  rw [ho.2.2.2.1, ← hg1 j hj, ← hg2 j hj1]
  unfold St.take
  simp [hne]
set_option maxHeartbeats 16000000 in
set_option maxRecDepth 100000 in
theorem bld_step (I : AImpl) {D : Nat} (ih : BldOk I D) : BldOk I (D + 1) := by
  intro p A rd F held a n c l w hP
  obtain ⟨pa, rfl⟩ := I.ptr hP.is
  have HS0 := Lib.hid (Ins.start hP.is)
  by_cases h0 : n = 0
  · have hl : l = [] := List.eq_nil_of_length_eq_zero (by have := hP.len; omega)
    have HQ : Hid (BldQ A rd held l (.returned (.int .u32 ((0 : Nat) : Int))) A rd) := ⟨rfl, 0, .nil, rfl, by rw [hl]; exact .nil hP.inv hP.agg, trivial, fun _ _ => rfl⟩
    subst h0
    have HE := Lib.hid HS0.out.ends
    clear hP ih hl HS0
    go_enter Tryz.func68, Tryz.ntmps68
    go_wp2_with fail
    go_ret
    obtain ⟨F', hal, hI⟩ := HE.out
    exact ⟨F', A, rd, hal, hI, HQ.out⟩
  obtain ⟨b, off, rfl⟩ : ∃ b off, a = some ⟨b, off, none⟩ := by
    obtain ⟨b, off, h1, _⟩ := hP.ens.cell 0 (l[0]'(by have := hP.len; omega)) (List.getElem?_eq_getElem _)
    exact ⟨b, off, h1⟩
  have hlb : b < w.heap.size := by
    obtain ⟨b', off', h1, h2, _⟩ := hP.ens.cell 0 (l[0]'(by have := hP.len; omega)) (List.getElem?_eq_getElem _)
    simp at h1
    rw [h1.1]; exact h2
  obtain ⟨k, hk⟩ : ∃ k, n / 2 = k := ⟨_, rfl⟩
  obtain ⟨en, hen⟩ : ∃ en, l[k]? = some en := ⟨_, List.getElem?_eq_getElem (by have := hP.len; omega)⟩
  have HEN : Hid (l[k]? = some en ∧ i64R en.key ∧ i64R en.val) := ⟨hen, hP.ens.wf en (List.mem_of_getElem? hen)⟩
  have hl6 : n ≤ 65536 := by have := hP.room; have := hP.inv.ok.len; have := hP.inv.ok.cap2; omega
  have HIH : Hid (BldOk I D) := @ih
  have HP : Hid (A.Inv [] held ∧ A.Agg ∧ (∀ j, held j + (D + 1) + 1 ≤ 1048576) ∧ n ≤ A.σ.free.length) := ⟨hP.inv, hP.agg, hP.few, hP.room⟩
  have HP2 : Hid (n < 2 * 2 ^ D ∧ n ≤ 65536) := ⟨by have := hP.small; rw [Nat.pow_succ] at this; omega, hl6⟩
  have HE := Lib.hid hP.ens
  have HFB : Hid (¬ F b ∧ b < w.heap.size) := ⟨hP.off h0 b off rfl, hlb⟩
  have HK : Hid ((l.take k).length = k ∧ (l.drop (k + 1)).length = n - (k + 1) ∧ k + 1 ≤ n ∧ n ≤ 2 * k + 1 ∧ 2 * k ≤ n) := ⟨by rw [List.length_take]; have := hP.len; omega, by rw [List.length_drop]; have := hP.len; omega, by omega, by omega, by omega⟩
  have HC : Hid (n ≤ c ∧ c ≤ maxLen) := hP.cap
  have hne : ((n : Int) == 0) = false := by simp; exact h0
  have hne1 : ¬ n = 0 := h0
  have hne2 : decide ((n : Int) = 0) = false := decide_eq_false (by omega)
  have hq : (n : Int).tdiv 2 = (k : Int) := by rw [Int.tdiv_eq_ediv_of_nonneg (by omega)]; omega
  have hqw : IntKind.i64.wrap (k : Int) = (k : Int) := by rw [IntKind.wrap_i64]; omega
  have hqw2 : IntKind.i64.wrap ((k : Int) + 1) = ((k + 1 : Nat) : Int) := by rw [IntKind.wrap_i64]; omega
  have hc1 := hP.cap
  have hki : (k : Int) ≤ (c : Int) := by omega
  have hkn : (k : Int) < (n : Int) := by omega
  have hk0 : (0 : Int) ≤ (k : Int) := by omega
  have hk1 : ((k + 1 : Nat) : Int) ≤ (n : Int) := by omega
  have hk2 : (0 : Int) ≤ (k : Int) + 1 := by omega
  have hk3 : (k : Int) + 1 ≤ (n : Int) := by omega
  clear hP ih hlb hen hl6 hk hc1
  go_enter Tryz.func68, Tryz.ntmps68
  go_upto_region 4 with fail
  have hsd := HS0.out.calm (Below.refl _ _).drew
  clear HS0
  refine anyG_begin (S := (fun _ => True)) (z := 9999) (by kernel_rfl) trivial (fun hHeld => ?_)
  refine anyG_take (k := 0) (o := _) (v := ?_) (some 16) rfl (by kernel_rfl) (by kernel_rfl) (by kernel_rfl) (by kernel_rfl) (fun _ _ _ h => h) (Or.inl ⟨by rfl, ?_⟩) (by assumption) (by kernel_rfl) ?_
  rotate_left
  · intro w hSw; (try dsimp only at hSw); go_simp; try with_reducible rfl
  (try simp only [Act.put, List.setIfInBounds_toArray, List.set_cons_zero, List.set_cons_succ])
  refine anyG_take (k := 1) (o := _) (v := ?_) (some 17) rfl (by kernel_rfl) (by kernel_rfl) (by kernel_rfl) (by kernel_rfl) (fun _ _ _ h => h) (Or.inl ⟨by rfl, ?_⟩) (by assumption) (by kernel_rfl) ?_
  rotate_left
  · intro w hSw; (try dsimp only at hSw); go_simp; try with_reducible rfl
  (try simp only [Act.put, List.setIfInBounds_toArray, List.set_cons_zero, List.set_cons_succ])
  refine anyG_take (k := 2) (o := _) (v := ?_) (some 18) rfl (by kernel_rfl) (by kernel_rfl) (by kernel_rfl) (by kernel_rfl) (fun _ _ _ h => h) (Or.inl ⟨by rfl, ?_⟩) (by assumption) (by kernel_rfl) ?_
  rotate_left
  · intro w hSw; (try dsimp only at hSw); go_simp; try with_reducible rfl
  (try simp only [Act.put, List.setIfInBounds_toArray, List.set_cons_zero, List.set_cons_succ])
  refine anyG_take (k := 3) (o := _) (v := ?_) (some 19) rfl (by kernel_rfl) (by kernel_rfl) (by kernel_rfl) (by kernel_rfl) (fun _ _ _ h => h) (Or.inl ⟨by rfl, ?_⟩) (by assumption) (by kernel_rfl) ?_
  rotate_left
  · intro w hSw; (try dsimp only at hSw); go_simp; try with_reducible rfl
  (try simp only [Act.put, List.setIfInBounds_toArray, List.set_cons_zero, List.set_cons_succ])
  refine anyG_take (k := 5) (o := _) (v := ?_) (some 21) rfl (by kernel_rfl) (by kernel_rfl) (by kernel_rfl) (by kernel_rfl) (fun _ _ _ h => h) (Or.inl ⟨by rfl, ?_⟩) (by assumption) (by kernel_rfl) ?_
  rotate_left
  · intro w hSw; (try dsimp only at hSw); go_simp; try with_reducible rfl
  (try simp only [Act.put, List.setIfInBounds_toArray, List.set_cons_zero, List.set_cons_succ])
  refine anyG_take (k := 6) (o := _) (v := ?_) (some 22) rfl (by kernel_rfl) (by kernel_rfl) (by kernel_rfl) (by kernel_rfl) (fun _ _ _ h => h) (Or.inl ⟨by rfl, ?_⟩) (by assumption) (by kernel_rfl) ?_
  rotate_left
  · intro w hSw; (try dsimp only at hSw); go_simp; try with_reducible rfl
  (try simp only [Act.put, List.setIfInBounds_toArray, List.set_cons_zero, List.set_cons_succ])
  refine anyG_take (k := 7) (o := _) (v := ?_) (some 23) rfl (by kernel_rfl) (by kernel_rfl) (by kernel_rfl) (by kernel_rfl) (fun _ _ _ h => h) (Or.inl ⟨by rfl, ?_⟩) (by assumption) (by kernel_rfl) ?_
  rotate_left
  · intro w hSw; (try dsimp only at hSw); go_simp; try with_reducible rfl
  (try simp only [Act.put, List.setIfInBounds_toArray, List.set_cons_zero, List.set_cons_succ])
  refine anyG_take (k := 8) (o := _) (v := ?_) (some 24) rfl (by kernel_rfl) (by kernel_rfl) (by kernel_rfl) (by kernel_rfl) (fun _ _ _ h => h) (Or.inl ⟨by rfl, ?_⟩) (by assumption) (by kernel_rfl) ?_
  rotate_left
  · intro w hSw; (try dsimp only at hSw); go_simp; try with_reducible rfl
  (try simp only [Act.put, List.setIfInBounds_toArray, List.set_cons_zero, List.set_cons_succ])
  refine anyG_take (k := 9) (o := _) (v := ?_) (some 25) rfl (by kernel_rfl) (by kernel_rfl) (by kernel_rfl) (by kernel_rfl) (fun _ _ _ h => h) (Or.inl ⟨by rfl, ?_⟩) (by assumption) (by kernel_rfl) ?_
  rotate_left
  · intro w hSw; (try dsimp only at hSw); go_simp; try with_reducible rfl
  (try simp only [Act.put, List.setIfInBounds_toArray, List.set_cons_zero, List.set_cons_succ])
  refine anyG_one (k := 4) (o := _) (by kernel_rfl) rfl (fun KT hKT => ?_)
  go_simp
  go_at_call 68
  obtain ⟨ap, hap⟩ : ∃ ap, (if c = k + 1 then some (⟨b, off, none⟩ : Addr) else some ⟨b, off + (k + 1) * 2, none⟩) = ap := ⟨_, rfl⟩
  rw [hap]
  have HAP := Lib.hid hap
  clear hap
  refine (hsd.mutO fun F1 hI1 hF1 => HIH.out _ ⟨hI1, HP.out.1, HP.out.2.1, fun j => by have := HP.out.2.2.1 j; omega, (HE.out.ins HFB.out.1 HFB.out.2 hsd).take k, HK.out.1, by have := HK.out; have := HP2.out; omega, fun _ b' o' q => by cases q; exact (hF1 _ (.inl ⟨HFB.out.2, HFB.out.1⟩)).2, ⟨by have := HK.out; have := HC.out; omega, HC.out.2⟩, by have := HK.out; have := HP.out; omega⟩).mono ?_
  rintro eA wA ⟨A1, rd1, ⟨rfl, il, tl, rfl, hP1, hM1, hG1⟩, hsA⟩
  try go_wp2_with fail
  refine hKT.out _ _ trivial (fun hHeld => ?_)
  clear hKT KT
  (try simp only [Act.put, List.setIfInBounds_toArray, List.set_cons_zero, List.set_cons_succ])
  refine anyG_one (k := 10) (o := _) (by kernel_rfl) rfl (fun KT hKT => ?_)
  go_simp
  go_at_call 68
  have hE2 : EnsAt wA (if c = k + 1 then some ⟨b, off, none⟩ else some ⟨b, off + (k + 1) * 2, none⟩) (l.drop (k + 1)) := by
    by_cases q : c = k + 1
    · rw [if_pos q, show l.drop (k + 1) = [] from List.eq_nil_of_length_eq_zero (by rw [HK.out.2.1]; have := HC.out; omega)]
      exact EnsAt.nil _ _
    · rw [if_neg q]
      exact (HE.out.ins HFB.out.1 HFB.out.2 hsA).drop (k + 1)
  have hB2 : ∀ b' o', (if c = k + 1 then some (⟨b, off, none⟩ : Addr) else some ⟨b, off + (k + 1) * 2, none⟩) = some ⟨b', o', none⟩ → b' = b := fun b' o' q => by
    split at q <;> · cases q; rfl
  rw [HAP.out] at hE2 hB2
  refine (hsA.mutO fun F1 hI1 hF1 => HIH.out _ ⟨hI1, hP1.inv, hP1.agg, fun j => by rw [pls_at]; have := HP.out.2.2.1 j; split <;> omega, hE2, HK.out.2.1, by have := HK.out; have := HP2.out; omega, fun _ b' o' q => by rw [hB2 b' o' q]; exact (hF1 _ (.inl ⟨HFB.out.2, HFB.out.1⟩)).2, ⟨by have := HK.out; have := HC.out; omega, by have := HC.out; omega⟩, by have := hP1.free; have := HK.out; have := HP.out; omega⟩).mono ?_
  rintro eB wB ⟨A2, rd2, ⟨rfl, ir, tr, rfl, hP2, hM2, hG2⟩, hsB⟩
  try go_wp2_with fail
  refine hKT.out _ _ trivial (fun hHeld => ?_)
  clear hKT KT
  (try simp only [Act.put, List.setIfInBounds_toArray, List.set_cons_zero, List.set_cons_succ])
  refine anyG_take (k := 11) (o := _) (v := ?_) (some 6) rfl (by kernel_rfl) (by kernel_rfl) (by kernel_rfl) (by kernel_rfl) (fun _ _ _ h => h) (Or.inl ⟨by rfl, ?_⟩) (by assumption) (by kernel_rfl) ?_
  rotate_left
  · intro w hSw; (try dsimp only at hSw); go_simp; try with_reducible rfl
  (try simp only [Act.put, List.setIfInBounds_toArray, List.set_cons_zero, List.set_cons_succ])
  refine anyG_take (k := 12) (o := _) (v := ?_) (some 7) rfl (by kernel_rfl) (by kernel_rfl) (by kernel_rfl) (by kernel_rfl) (fun _ _ _ h => h) (Or.inl ⟨by rfl, ?_⟩) (by assumption) (by kernel_rfl) ?_
  rotate_left
  · intro w hSw; (try dsimp only at hSw); go_simp; try with_reducible rfl
  (try simp only [Act.put, List.setIfInBounds_toArray, List.set_cons_zero, List.set_cons_succ])
  refine anyG_done (by kernel_rfl) ?_ _
  have HM12 : Hid (Planted A held (l.take k) A1 il tl ∧ tl.mid ∧ ∀ i, A.σ.on i = true → A1.σ.gen i = A.σ.gen i) := ⟨hP1, hM1, hG1⟩
  have HPB : Hid (Planted A held (l.take k) A1 il tl ∧ Planted A1 (pls held il) (l.drop (k + 1)) A2 ir tr ∧ tr.mid ∧ ∀ i, A1.σ.on i = true → A2.σ.gen i = A1.σ.gen i) := ⟨hP1, hP2, hM2, hG2⟩
  obtain ⟨i, fr, hfr⟩ : ∃ i fr, A2.σ.free = i :: fr := by
    have h1 := hP1.free
    have h2 := hP2.free
    have h3 := HK.out
    have h4 := HP.out.2.2.2
    cases hq : A2.σ.free with
    | nil => rw [hq] at h2; simp only [List.length_nil] at h2; omega
    | cons i fr => exact ⟨i, fr, rfl⟩
  have HFR := Lib.hid hfr
  have hND := bld_node (e := en) hP1 hP2 hfr HEN.out.2 (by have := HK.out; omega) (by have := HK.out; have := HP2.out; omega) hM1 hM2 hG1 hG2
  rw [show l.take k ++ en :: l.drop (k + 1) = l from (split_at HEN.out.1).symm] at hND
  have HND := Lib.hid hND
  have hsl := hP1.sub.kept hP2.kept
  have HIX : Hid (A2.Idx il ∧ A2.Idx ir) := ⟨hsl.idx, hP2.sub.idx⟩
  have HOV := Lib.hid (over_ok (key := en.key) (val := en.val) rfl hP2.inv hP2.agg hfr hsl.idx hP2.sub.idx hND.1.2)
  have HE3 := Lib.hid (HE.out.ins HFB.out.1 HFB.out.2 hsB)
  have HSB := Lib.hid hsB
  clear hfr hND hsl hP1 hP2 hM1 hM2 hG1 hG2 hsA hsB hsd hHeld hE2 hB2
  have HCE : Hid (∀ {wx : World} {C : Ar} {rdx : Int}, Ins I w F (.pointer (some pa)) C rdx [] [] wx → wx.cell? ⟨b, off + k * 2, none⟩ = some (.int .i64 en.key) ∧ wx.cell? ⟨b, off + k * 2 + 1, none⟩ = some (.int .i64 en.val)) := fun {wx C rdx} hx => (HE.out.ins HFB.out.1 HFB.out.2 hx).two HEN.out.1
  have hkt : ((k : Int)).toNat = k := Int.toNat_natCast _
  go_upto_region 5 with fail
  have hsd := HSB.out.calm (Below.refl _ _).drew
  clear HSB HE3
  refine anyG_begin (S := (fun w' => w'.cell? ⟨b, off + k * 2, none⟩ = some (.int .i64 en.key) ∧ w'.cell? ⟨b, off + k * 2 + 1, none⟩ = some (.int .i64 en.val))) (z := 9999) (by kernel_rfl) (HCE.out hsd) (fun hHeld => ?_)
  refine anyG_take (k := 0) (o := _) (v := ?_) (some 28) rfl (by kernel_rfl) (by kernel_rfl) (by kernel_rfl) (by kernel_rfl) (fun _ _ _ h => h) (Or.inl ⟨by rfl, ?_⟩) (by assumption) (by kernel_rfl) ?_
  rotate_left
  · intro w hSw; (try dsimp only at hSw); go_simp; try with_reducible rfl
  (try simp only [Act.put, List.setIfInBounds_toArray, List.set_cons_zero, List.set_cons_succ])
  refine anyG_take (k := 1) (o := _) (v := ?_) (some 29) rfl (by kernel_rfl) (by kernel_rfl) (by kernel_rfl) (by kernel_rfl) (fun _ _ _ h => h) (Or.inl ⟨by rfl, ?_⟩) (by assumption) (by kernel_rfl) ?_
  rotate_left
  · intro w hSw; (try dsimp only at hSw); go_simp; try with_reducible rfl
  (try simp only [Act.put, List.setIfInBounds_toArray, List.set_cons_zero, List.set_cons_succ])
  refine anyG_take (k := 2) (o := _) (v := ?_) (some 30) rfl (by kernel_rfl) (by kernel_rfl) (by kernel_rfl) (by kernel_rfl) (fun _ _ _ h => h) (Or.inl ⟨by rfl, ?_⟩) (by assumption) (by kernel_rfl) ?_
  rotate_left
  · intro w hSw; (try dsimp only at hSw); go_simp; try with_reducible rfl
  (try simp only [Act.put, List.setIfInBounds_toArray, List.set_cons_zero, List.set_cons_succ])
  refine anyG_take (k := 3) (o := _) (v := ?_) (some 31) rfl (by kernel_rfl) (by kernel_rfl) (by kernel_rfl) (by kernel_rfl) (fun _ _ _ h => h) (Or.inl ⟨by rfl, ?_⟩) (by assumption) (by kernel_rfl) ?_
  rotate_left
  · intro w hSw; (try dsimp only at hSw); go_simp; try with_reducible rfl
  (try simp only [Act.put, List.setIfInBounds_toArray, List.set_cons_zero, List.set_cons_succ])
  refine anyG_take (k := 4) (o := _) (v := ?_) (some 32) rfl (by kernel_rfl) (by kernel_rfl) (by kernel_rfl) (by kernel_rfl) (fun _ _ _ h => h) (Or.inl ⟨by rfl, ?_⟩) (by assumption) (by kernel_rfl) ?_
  rotate_left
  · intro w hSw; (try dsimp only at hSw); go_simp; try with_reducible rfl
  (try simp only [Act.put, List.setIfInBounds_toArray, List.set_cons_zero, List.set_cons_succ])
  refine anyG_take (k := 5) (o := _) (v := ?_) (some 33) rfl (by kernel_rfl) (by kernel_rfl) (by kernel_rfl) (by kernel_rfl) (fun _ _ _ h => h) (Or.inl ⟨by rfl, ?_⟩) (by assumption) (by kernel_rfl) ?_
  rotate_left
  · intro w hSw; (try dsimp only at hSw); go_simp; try with_reducible rfl
  (try simp only [Act.put, List.setIfInBounds_toArray, List.set_cons_zero, List.set_cons_succ])
  refine anyG_take (k := 6) (o := _) (v := ?_) (some 34) rfl (by kernel_rfl) (by kernel_rfl) (by kernel_rfl) (by kernel_rfl) (fun _ _ _ h => h) (Or.inl ⟨by rfl, ?_⟩) (by assumption) (by kernel_rfl) ?_
  rotate_left
  · intro w hSw; (try dsimp only at hSw); go_simp; try with_reducible rfl
  (try simp only [Act.put, List.setIfInBounds_toArray, List.set_cons_zero, List.set_cons_succ])
  refine anyG_take (k := 7) (o := _) (v := ?_) (some 35) rfl (by kernel_rfl) (by kernel_rfl) (by kernel_rfl) (by kernel_rfl) (fun _ _ _ h => h) (Or.inl ⟨by rfl, ?_⟩) (by assumption) (by kernel_rfl) ?_
  rotate_left
  · intro w hSw; (try dsimp only at hSw); go_simp; try with_reducible rfl
  (try simp only [Act.put, List.setIfInBounds_toArray, List.set_cons_zero, List.set_cons_succ])
  refine anyG_take (k := 8) (o := _) (v := ?_) (some 36) rfl (by kernel_rfl) (by kernel_rfl) (by kernel_rfl) (by kernel_rfl) (fun _ _ _ h => h) (Or.inl ⟨by rfl, ?_⟩) (by assumption) (by kernel_rfl) ?_
  rotate_left
  · intro w hSw; (try dsimp only at hSw); go_simp; try with_reducible rfl
  (try simp only [Act.put, List.setIfInBounds_toArray, List.set_cons_zero, List.set_cons_succ])
  refine anyG_take (k := 9) (o := _) (v := ?_) (some 37) rfl (by kernel_rfl) (by kernel_rfl) (by kernel_rfl) (by kernel_rfl) (fun _ _ _ h => h) (Or.inl ⟨by rfl, ?_⟩) (by assumption) (by kernel_rfl) ?_
  rotate_left
  · intro w hSw; (try dsimp only at hSw); go_simp; try with_reducible rfl
  (try simp only [Act.put, List.setIfInBounds_toArray, List.set_cons_zero, List.set_cons_succ])
  refine anyG_take (k := 10) (o := _) (v := ?_) (some 38) rfl (by kernel_rfl) (by kernel_rfl) (by kernel_rfl) (by kernel_rfl) (fun _ _ _ h => h) (Or.inl ⟨by rfl, ?_⟩) (by assumption) (by kernel_rfl) ?_
  rotate_left
  · intro w hSw; (try dsimp only at hSw); go_simp; try with_reducible rfl
  (try simp only [Act.put, List.setIfInBounds_toArray, List.set_cons_zero, List.set_cons_succ])
  refine anyG_take (k := 11) (o := _) (v := ?_) (some 39) rfl (by kernel_rfl) (by kernel_rfl) (by kernel_rfl) (by kernel_rfl) (fun _ _ _ h => h) (Or.inl ⟨by rfl, ?_⟩) (by assumption) (by kernel_rfl) ?_
  rotate_left
  · intro w hSw; (try dsimp only at hSw); go_simp; try with_reducible rfl
  (try simp only [Act.put, List.setIfInBounds_toArray, List.set_cons_zero, List.set_cons_succ])
  refine anyG_take (k := 12) (o := _) (v := ?_) (some 40) rfl (by kernel_rfl) (by kernel_rfl) (by kernel_rfl) (by kernel_rfl) (fun _ _ _ h => h) (Or.inl ⟨by rfl, ?_⟩) (by assumption) (by kernel_rfl) ?_
  rotate_left
  · intro w hSw; (try dsimp only at hSw); go_simp; try with_reducible rfl
  (try simp only [Act.put, List.setIfInBounds_toArray, List.set_cons_zero, List.set_cons_succ])
  refine anyG_one (k := 13) (o := _) (by kernel_rfl) rfl (fun KT hKT => ?_)
  go_simp
  go_at_call 66
  refine (hsd.make HPB.out.2.1.inv HPB.out.2.1.agg (fun j => by rw [pls_at, pls_at]; have := HP.out.2.2.1 j; split <;> split <;> omega) HEN.out.2.1 HEN.out.2.2 HIX.out.1 HIX.out.2 HND.out.1.2 HFR.out).mono ?_
  rintro eC wC ⟨rfl, hsC⟩
  try go_wp2_with fail
  refine hKT.out _ _ (HCE.out hsC) (fun hHeld => ?_)
  clear hKT KT
  (try simp only [Act.put, List.setIfInBounds_toArray, List.set_cons_zero, List.set_cons_succ])
  refine anyG_take (k := 14) (o := _) (v := ?_) (some 27) rfl (by kernel_rfl) (by kernel_rfl) (by kernel_rfl) (by kernel_rfl) (fun _ _ _ h => h) (Or.inl ⟨by rfl, ?_⟩) (by assumption) (by kernel_rfl) ?_
  rotate_left
  · intro w hSw; (try dsimp only at hSw); go_simp; try with_reducible rfl
  (try simp only [Act.put, List.setIfInBounds_toArray, List.set_cons_zero, List.set_cons_succ])
  refine anyG_take (k := 15) (o := _) (v := ?_) (some 42) rfl (by kernel_rfl) (by kernel_rfl) (by kernel_rfl) (by kernel_rfl) (fun _ _ _ h => h) (Or.inl ⟨by rfl, ?_⟩) (by assumption) (by kernel_rfl) ?_
  rotate_left
  · intro w hSw; (try dsimp only at hSw); go_simp; try with_reducible rfl
  (try simp only [Act.put, List.setIfInBounds_toArray, List.set_cons_zero, List.set_cons_succ])
  refine anyG_take (k := 16) (o := _) (v := ?_) (some 43) rfl (by kernel_rfl) (by kernel_rfl) (by kernel_rfl) (by kernel_rfl) (fun _ _ _ h => h) (Or.inl ⟨by rfl, ?_⟩) (by assumption) (by kernel_rfl) ?_
  rotate_left
  · intro w hSw; (try dsimp only at hSw); go_simp; try with_reducible rfl
  (try simp only [Act.put, List.setIfInBounds_toArray, List.set_cons_zero, List.set_cons_succ])
  refine anyG_take (k := 17) (o := _) (v := ?_) (some 8) rfl (by kernel_rfl) (by kernel_rfl) (by kernel_rfl) (by kernel_rfl) (fun _ _ _ h => h) (Or.inl ⟨by rfl, ?_⟩) (by assumption) (by kernel_rfl) ?_
  rotate_left
  · intro w hSw; (try dsimp only at hSw); go_simp; try with_reducible rfl
  (try simp only [Act.put, List.setIfInBounds_toArray, List.set_cons_zero, List.set_cons_succ])
  refine anyG_take (k := 18) (o := _) (v := ?_) (some 9) rfl (by kernel_rfl) (by kernel_rfl) (by kernel_rfl) (by kernel_rfl) (fun _ _ _ h => h) (Or.inl ⟨by rfl, ?_⟩) (by assumption) (by kernel_rfl) ?_
  rotate_left
  · intro w hSw; (try dsimp only at hSw); go_simp; try with_reducible rfl
  (try simp only [Act.put, List.setIfInBounds_toArray, List.set_cons_zero, List.set_cons_succ])
  refine anyG_done (by kernel_rfl) ?_ _
  have HSC := Lib.hid hsC
  obtain ⟨o1, o2, o3, o4, o5, o6, o7, o8, o9, o10⟩ := HOV.out
  have HR1 : Hid (il < 4294967296 ∧ (A2.made i fr (A2.node en.key en.val il ir)).Idx il ∧ (A2.made i fr (A2.node en.key en.val il ir)).Inv [il] (mns (more (pls (pls held il) ir) i) il)) := ⟨idx_okB (o7 o8).ok o8, o8, o7 o8⟩
  have HR2 : Hid (ir < 4294967296 ∧ ((A2.made i fr (A2.node en.key en.val il ir)).gone il).Idx ir ∧ ((A2.made i fr (A2.node en.key en.val il ir)).gone il).Inv [ir] (mns (mns (more (pls (pls held il) ir) i) il) ir)) := ⟨idx_okB (o9 o10).ok o10, o10, o9 o10⟩
  clear o1 o2 o3 o4 o5 o6 o7 o8 o9 o10 hsC hsd hHeld HCE
  go_wp2_with fail
  refine (HSC.out.release HR1.out.1 HR1.out.2.1 HR1.out.2.2).mono ?_
  rintro e w6 ⟨rfl, hs6⟩
  have HS6 := Lib.hid hs6
  clear hs6 HSC
  go_wp2_with fail
  refine (HS6.out.release HR2.out.1 HR2.out.2.1 HR2.out.2.2).mono ?_
  rintro e w7 ⟨rfl, hs7⟩
  have HE7 := Lib.hid hs7.ends
  have HQ : Hid (BldQ A rd2 held l (.returned (.int .u32 (i : Int))) (A2.over i fr (A2.node en.key en.val il ir)) rd2) := ⟨rfl, i, _, rfl, HND.out.1.1, HND.out.2.1, HND.out.2.2⟩
  clear hs7 HS6
  go_wp2_with fail
  go_ret
  obtain ⟨F', hal, hI⟩ := HE7.out
  exact ⟨F', _, rd2, hal, hI, HQ.out⟩
theorem bld_zero (I : AImpl) : BldOk I 0 := by
  intro p A rd F held a n c l w hP
  obtain ⟨pa, rfl⟩ := I.ptr hP.is
  have h0 : n = 0 := by have := hP.small; omega
  have HS0 := Lib.hid (Ins.start hP.is)
  have hl : l = [] := List.eq_nil_of_length_eq_zero (by have := hP.len; omega)
  have HQ : Hid (BldQ A rd held l (.returned (.int .u32 ((0 : Nat) : Int))) A rd) := ⟨rfl, 0, .nil, rfl, by rw [hl]; exact .nil hP.inv hP.agg, trivial, fun _ _ => rfl⟩
  subst h0
  have HE := Lib.hid HS0.out.ends
  clear hP hl HS0
  go_enter Tryz.func68, Tryz.ntmps68
  go_wp2_with fail
  go_ret
  obtain ⟨F', hal, hI⟩ := HE.out
  exact ⟨F', A, rd, hal, hI, HQ.out⟩
theorem bld_all (I : AImpl) : ∀ D, BldOk I D
  | 0 => bld_zero I
  | D + 1 => bld_step I (bld_all I D)
set_option maxHeartbeats 16000000 in
set_option maxRecDepth 100000 in
theorem buildB_any (I : AImpl) {p : Value} {A : Ar} {rd : Int} {F : Nat → Prop} {held : Nat → Nat} {a : Option Addr} {n c : Nat} {l : List En} (w : World) (hI : I.Is w p A rd F) (hv : A.Inv [] held) (ha : A.Agg) (hm : ∀ j, held j ≤ 1048000) (hE : EnsAt w a l) (hn : l.length = n) (hn6 : n ≤ 65536) (hF : n ≠ 0 → ∀ b off, a = some ⟨b, off, none⟩ → ¬ F b) (hc : n ≤ c) (hcm : c ≤ maxLen) :
    Calls Tryz.prog 32 #[p, .slice a n c] w (Mut I p F (BuildQ A rd held l) w) := by
  obtain ⟨pa, rfl⟩ := I.ptr hI
  have HS0 := Lib.hid (Ins.start hI)
  have HP : Hid (A.Inv [] held ∧ A.Agg ∧ (∀ j, held j ≤ 1048000) ∧ EnsAt w a l ∧ l.length = n ∧ n ≤ 65536 ∧ (n ≠ 0 → ∀ b off, a = some ⟨b, off, none⟩ → ¬ F b) ∧ n ≤ c ∧ c ≤ maxLen) := ⟨hv, ha, hm, hE, hn, hn6, hF, hc, hcm⟩
  have hbd : (0 : Int) ≤ 16 * (l.length : Int) + 64 := by omega
  have HBD := Lib.hid hbd
  clear hI hv ha hm hE hn hF hc hcm hbd
  obtain ⟨v, hv⟩ : ∃ v : Bool, v = true ↔ Up l := by
    by_cases h : Up l
    · exact ⟨true, ⟨fun _ => h, fun _ => rfl⟩⟩
    · exact ⟨false, ⟨fun q => (by cases q), fun q => absurd q h⟩⟩
  have HV := Lib.hid hv
  have HA := Lib.hid (ascB_any (c := c) (w := w) HP.out.2.2.2.1 HP.out.2.2.2.2.1 (by omega) hv)
  clear hv
  go_enter Tryz.func32, Tryz.ntmps32
  go_wp2_with fail
  refine HA.out.mono ?_
  rintro e w1 ⟨rfl, hb1⟩
  have HS1 := Lib.hid (HS0.out.calm hb1)
  clear HA
  cases v with
  | false =>
    have HQ : Hid (BuildQ A rd held l (.returned (.tuple #[.int .u32 0, .int .i64 7])) A rd) := ⟨Int.le_refl _, by have := HBD.out; omega, .inl ⟨fun q => (by have := HV.out.2 q; cases this), rfl, rfl⟩⟩
    have HE := Lib.hid HS1.out.ends
    clear hb1 HS0 HS1
    go_wp2_with fail
    go_ret2
    obtain ⟨F', hal, hI⟩ := HE.out
    exact ⟨F', A, rd, hal, hI, HQ.out⟩
  | true =>
    have HUP : Hid (Up l) := HV.out.1 rfl
    clear hb1 HS0
    go_wp2_with fail
    refine HS1.out.free.mono ?_
    rintro e w2 ⟨rfl, hs2⟩
    have HS2 := Lib.hid hs2
    clear hs2 HS1
    by_cases hfr : A.σ.free.length < n
    · have d1 : decide ((A.σ.free.length : Int) < (n : Int)) = true := decide_eq_true (by omega)
      have d2 : A.σ.free.length < n := hfr
      have HQ : Hid (BuildQ A rd held l (.returned (.tuple #[.int .u32 0, .int .i64 2])) A rd) := ⟨Int.le_refl _, by have := HBD.out; omega, .inr (.inl ⟨HUP.out, by rw [HP.out.2.2.2.2.1]; exact hfr, rfl, rfl⟩)⟩
      have HE := Lib.hid HS2.out.ends
      clear HS2 hfr
      go_wp2_with fail
      go_ret2
      obtain ⟨F', hal, hI⟩ := HE.out
      exact ⟨F', A, rd, hal, hI, HQ.out⟩
    · have d1 : decide ((A.σ.free.length : Int) < (n : Int)) = false := decide_eq_false (by omega)
      have d2 : ¬ A.σ.free.length < n := hfr
      have HRM : Hid (n ≤ A.σ.free.length) := Nat.not_lt.1 hfr
      clear hfr
      go_wp2_with fail
      refine (HS2.out.mutO fun F1 hI1 hF1 => bld_all I 17 w2 ⟨hI1, HP.out.1, HP.out.2.1, fun j => by have := HP.out.2.2.1 j; omega, ?_, HP.out.2.2.2.2.1, by have := HP.out.2.2.2.2.2.1; omega, ?_, HP.out.2.2.2.2.2.2.2, HRM.out⟩).mono ?_
      · by_cases h0 : n = 0
        · have : l = [] := List.eq_nil_of_length_eq_zero (by have := HP.out.2.2.2.2.1; omega)
          rw [this]; exact EnsAt.nil _ _
        · obtain ⟨b, off, h1, h2, _⟩ := HP.out.2.2.2.1.cell 0 (l[0]'(by have := HP.out.2.2.2.2.1; omega)) (List.getElem?_eq_getElem _)
          subst h1
          exact HP.out.2.2.2.1.ins (HP.out.2.2.2.2.2.2.1 h0 b off rfl) h2 HS2.out
      · intro h0 b off q
        obtain ⟨b', off', h1, h2, _⟩ := HP.out.2.2.2.1.cell 0 (l[0]'(by have := HP.out.2.2.2.2.1; omega)) (List.getElem?_eq_getElem _)
        have hbb : b' = b := by rw [h1] at q; cases q; rfl
        subst hbb
        exact (hF1 _ (.inl ⟨h2, HP.out.2.2.2.2.2.2.1 h0 b' off' h1⟩)).2
      rintro e w3 ⟨B, rd3, ⟨rfl, j, t, rfl, hPl, hMd, hGn⟩, hs3⟩
      have HQ : Hid (BuildQ A rd3 held l (.returned (.tuple #[.int .u32 (j : Int), .int .i64 0])) B rd3) := ⟨Int.le_refl _, by have := HBD.out; omega, .inr (.inr ⟨HUP.out, by rw [HP.out.2.2.2.2.1]; exact HRM.out, j, t, rfl, ⟨hPl.kept, hGn, hPl.inv, hPl.agg, hPl.sub, hPl.ents, hPl.bal⟩, hMd, hPl.free⟩)⟩
      have HE := Lib.hid hs3.ends
      clear hs3 hPl hMd hGn HS2
      go_wp2_with fail
      go_ret2
      obtain ⟨F', hal, hI⟩ := HE.out
      exact ⟨F', B, rd3, hal, hI, HQ.out⟩
end Go.Proofs.YtnimbgcploohiaaGreat
set_option linter.unusedVariables false
namespace Go.Proofs.YtnimbgcploohiaaGreat
open Go.RowKit
section
variable {I : AImpl} {B : Nat} {w w' w0 : World} {p : Value} {A A' : Ar} {rd rd' : Int} {held held' : Nat → Nat}
theorem more_small {held : Nat → Nat} {m : Nat} (h : ∀ j, held j ≤ m) (i : Nat) : ∀ j, more held i j ≤ m + 1 := fun j => by
  unfold more
  split
  · have := h i; omega
  · have := h j; omega
end
end Go.Proofs.YtnimbgcploohiaaGreat
set_option linter.unusedVariables false
set_option linter.unusedSimpArgs false
namespace Go.Proofs.YtnimbgcploohiaaGreat
open Go.RowKit
/-- B is A with n new nodes and one reference more, to j; what was there stays -/
structure Turned (A : Ar) (held : Nat → Nat) (B : Ar) (j n : Nat) : Prop where
  kept : A.Kept B
  gen : ∀ i, A.σ.on i = true → B.σ.gen i = A.σ.gen i
  inv : B.Inv [] (more held j)
  agg : B.Agg
  wf : A.Wf → B.Wf
  free : B.σ.free.length + n = A.σ.free.length
def NewIn (A B : Ar) (j : Nat) : Prop := B.σ.on j = true ∧ A.σ.on j = false
def isNd (x e : Nd) (l r : Nat) : Prop := x.key = e.key ∧ x.val = e.val ∧ x.left = l ∧ x.right = r
/-- the nodes that a rotation of i moves have numbers of 64 bits -/
def WfNear (A : Ar) (i : Nat) : Prop := ∀ x, (x = i ∨ x = (A.nd i).left ∨ x = (A.nd i).right ∨ x = (A.nd (A.nd i).left).right ∨ x = (A.nd (A.nd i).right).left) → A.σ.on x = true → i64R (A.nd x).key ∧ i64R (A.nd x).val
/-- does the root have the form that the rotation asks -/
def rform (A : Ar) (k i : Nat) : Bool := A.σ.on i && match k with
  | 0 => (A.nd i).right != 0
  | 1 => (A.nd i).left != 0
  | 2 => (A.nd i).right != 0 && (A.nd (A.nd i).right).left != 0
  | _ => (A.nd i).left != 0 && (A.nd (A.nd i).left).right != 0
def rneed (k : Nat) : Nat := if k < 2 then 2 else 3
def dnodes (A B : Ar) (j : Nat) (p q r : Nd) : Prop :=
  ∃ y z, y ≠ z ∧ NewIn A B j ∧ NewIn A B y ∧ NewIn A B z ∧ isNd (B.nd j) q y z ∧ isNd (B.nd y) p p.left q.left ∧ isNd (B.nd z) r q.right r.right
/-- the nodes of the result -/
def RNodes (A B : Ar) (k i j : Nat) : Prop := match k with
  | 0 => ∃ z, NewIn A B j ∧ NewIn A B z ∧ isNd (B.nd j) (A.nd (A.nd i).right) z (A.nd (A.nd i).right).right ∧ isNd (B.nd z) (A.nd i) (A.nd i).left (A.nd (A.nd i).right).left
  | 1 => ∃ z, NewIn A B j ∧ NewIn A B z ∧ isNd (B.nd j) (A.nd (A.nd i).left) (A.nd (A.nd i).left).left z ∧ isNd (B.nd z) (A.nd i) (A.nd (A.nd i).left).right (A.nd i).right
  | 2 => dnodes A B j (A.nd i) (A.nd (A.nd (A.nd i).right).left) (A.nd (A.nd i).right)
  | _ => dnodes A B j (A.nd (A.nd i).left) (A.nd (A.nd (A.nd i).left).right) (A.nd i)
/-- what a rotation answers, where T says what stands at an arena -/
def RotEnd (A : Ar) (held : Nat → Nat) (k i : Nat) (T : Ar → (Nat → Nat) → Prop) (e : Ending) : Prop :=
  (rform A k i = false ∧ e = .returned (.tuple #[.int .u32 0, .int .i64 1]) ∧ T A held) ∨
  (rform A k i = true ∧ A.σ.free.length < rneed k ∧ e = .returned (.tuple #[.int .u32 0, .int .i64 2]) ∧ T A held) ∨
  (rform A k i = true ∧ rneed k ≤ A.σ.free.length ∧ ∃ B j, Turned A held B j (rneed k) ∧ RNodes A B k i j ∧ e = .returned (.tuple #[.int .u32 (j : Int), .int .i64 0]) ∧ T B (more held j))
def RotRes (I : AImpl) (p : Value) (A : Ar) (rd : Int) (F : Nat → Prop) (held : Nat → Nat) (k i : Nat) (w : World) (e : Ending) (w' : World) : Prop :=
  ∃ F' rd', Alters F F' w w' ∧ rd ≤ rd' ∧ rd' ≤ rd + 4 ∧ RotEnd A held k i (fun B _ => I.Is w' p B rd' F') e
def RotSpec (I : AImpl) (f : FuncId) (k : Nat) : Prop := ∀ {p : Value} {A : Ar} {rd : Int} {F : Nat → Prop} {held : Nat → Nat} {i : Nat} (w : World),
  I.Is w p A rd F → A.Inv [] held → A.Agg → WfNear A i → (∀ j, held j ≤ 1048500) → 0 ≤ rd → rd ≤ 2199023255552 → i < 4294967296 →
  Calls Tryz.prog f #[p, .int .u32 (i : Int)] w (RotRes I p A rd F held k i w)
structure RotImpl (I : AImpl) : Prop where
  left : RotSpec I 124 0
  right : RotSpec I 126 1
  dleft : RotSpec I 125 2
  dright : RotSpec I 127 3
end Go.Proofs.YtnimbgcploohiaaGreat
set_option linter.unusedVariables false
namespace Go.Proofs.YtnimbgcploohiaaGreat
/-- B is A with a new node x at i, to which one reference more is held -/
structure Mk (A : Ar) (held : Nat → Nat) (i : Nat) (x : Nd) (B : Ar) : Prop where
  kept : A.Kept B
  gen : ∀ j, A.σ.on j = true → B.σ.gen j = A.σ.gen j
  inv : B.Inv [] (more held i)
  agg : B.Agg
  wf : A.Wf → B.Wf
  free : B.σ.free.length + 1 = A.σ.free.length
  nd : B.nd i = x
  new : NewIn A B i
theorem kept_sz {A B : Ar} (hk : A.Kept B) {i : Nat} (hi : A.Idx i) : B.sz i = A.sz i := by
  unfold Ar.sz
  by_cases h0 : i = 0
  · rw [if_pos h0, if_pos h0]
  · rw [if_neg h0, if_neg h0, hk.nd i (hi.resolve_left h0)]
theorem mk {A : Ar} {held : Nat → Nat} {i : Nat} {t : List Nat} {key val : Int} {l r : Nat} (hv : A.Inv [] held) (ha : A.Agg) (hf : A.σ.free = i :: t) (hk : i64R key) (hx : i64R val) (hl : A.Idx l) (hr : A.Idx r) (hs : (A.node key val l r).size ≤ 2147483647) :
    Mk A held i (A.node key val l r) (A.made i t (A.node key val l r)) := by
  have hi := (hv.ok.free i).1 (by rw [hf]; simp)
  have hne : ∀ j, A.σ.on j = true → j ≠ i := fun j hj e => by subst e; rw [hi.2.2] at hj; cases hj
  refine ⟨Ar.Kept.made _ hv hf, fun j hj => ?_, hv.made hf hl hr, ha.made hv hf hl hr hs, fun hw => hw.made ⟨hk, hx⟩, ?_, if_pos rfl, take_same _ _ _, hi.2.2⟩
  · show (A.σ.take i t).gen j = A.σ.gen j
    unfold St.take
    simp [hne j hj]
  · show (A.σ.take i t).free.length + 1 = _
    rw [hf]
    rfl
/-- a reference that is held to a node which another node has, too, is given back -/
theorem give {A : Ar} {held : Nat → Nat} (hv : A.Inv [] held) (ha : A.Agg) {i : Nat} (h1 : i ≠ 0 → 0 < held i ∧ 2 ≤ A.cnt i) :
    (A.Idx i → A.Inv [i] (mns held i)) ∧ A.Idx i ∧ (A.gone i).Inv [] (mns held i) ∧ (A.gone i).Agg ∧ (A.Wf → (A.gone i).Wf) ∧ A.Kept (A.gone i) ∧ (A.gone i).σ = A.σ ∧ (∀ j, (A.gone i).cnt j = A.cnt j - (if i ≠ 0 ∧ j = i then 1 else 0)) := by
  obtain ⟨g1, g2, g3, g4, g5, g6, g7⟩ := hv.shared h1 ha
  exact ⟨g1, g2, g3, g4, fun hw => hw.gone i, g5, g6, g7⟩
theorem mns_more2 {held : Nat → Nat} {a b : Nat} (ha : a ≠ 0) (h : a ≠ b) : mns (more (more held a) b) a = more held b := by
  funext j
  rw [mns_at]
  unfold more
  by_cases e1 : j = b
  · subst e1
    rw [if_pos rfl, if_pos rfl, if_neg (Ne.symm h), if_neg (fun q => h q.2.symm)]
    omega
  · rw [if_neg e1, if_neg e1]
    by_cases e2 : j = a
    · subst e2; rw [if_pos rfl, if_pos ⟨ha, rfl⟩]; omega
    · rw [if_neg e2, if_neg (fun q => e2 q.2)]; omega
/-- two nodes, the second over the first; then the first one's reference is given back -/
theorem two_nodes {A A1 A2 : Ar} {held : Nat → Nat} {i1 i2 : Nat} {x1 x2 : Nd} (h1 : Mk A held i1 x1 A1) (h2 : Mk A1 (more held i1) i2 x2 A2) (hc : 2 ≤ A2.cnt i1) :
    (A2.Idx i1 → A2.Inv [i1] (mns (more (more held i1) i2) i1)) ∧ A2.Idx i1 ∧ Turned A held (A2.gone i1) i2 2 ∧ NewIn A (A2.gone i1) i1 ∧ NewIn A (A2.gone i1) i2 ∧ (A2.gone i1).nd i1 = x1 ∧ (A2.gone i1).nd i2 = x2 := by
  have hi0 : i1 ≠ 0 := by have := h1.inv.ok.on i1 h1.new.1; omega
  have hne : i1 ≠ i2 := fun e => by have h := h2.new.2; rw [← e, h1.new.1] at h; cases h
  have hh : 0 < more (more held i1) i2 i1 := by unfold more; rw [if_neg hne, if_pos rfl]; omega
  obtain ⟨g1, g2, g3, g4, g5, g6, g7, g8⟩ := give h2.inv h2.agg (i := i1) (fun _ => ⟨hh, hc⟩)
  rw [mns_more2 hi0 hne] at g3
  have hk := (h1.kept.trans h2.kept).trans g6
  have n1 : (A2.gone i1).σ.on i1 = true := by rw [g7]; exact h2.kept.on i1 h1.new.1
  have n2 : (A2.gone i1).σ.on i2 = true := by rw [g7]; exact h2.new.1
  have off2 : A.σ.on i2 = false := by
    cases ho : A.σ.on i2
    · rfl
    · have := h1.kept.on i2 ho; rw [h2.new.2] at this; cases this
  refine ⟨g1, g2, ⟨hk, fun j hj => ?_, g3, g4, fun q => g5 (h2.wf (h1.wf q)), ?_⟩, ⟨n1, h1.new.2⟩, ⟨n2, off2⟩, ?_, ?_⟩
  · rw [g7, h2.gen j (h1.kept.on j hj), h1.gen j hj]
  · rw [g7]
    have f1 := h1.free
    have f2 := h2.free
    omega
  · rw [g6.nd i1 (h2.kept.on i1 h1.new.1), h2.kept.nd i1 h1.new.1, h1.nd]
  · rw [g6.nd i2 h2.new.1, h2.nd]
theorem Mk.off {A B : Ar} {held : Nat → Nat} {i : Nat} {x : Nd} {A0 : Ar} (h : Mk A held i x B) (hk : A0.Kept A) : A0.σ.on i = false := by
  cases ho : A0.σ.on i
  · rfl
  · have := hk.on i ho; rw [h.new.2] at this; cases this
end Go.Proofs.YtnimbgcploohiaaGreat
set_option linter.unusedVariables false
namespace Go.Proofs.YtnimbgcploohiaaGreat
/-- balanced, by weights -/
def wb (a b : Nat) : Prop := a ≤ 3 * b ∧ b ≤ 3 * a
theorem wb.symm {a b : Nat} (h : wb a b) : wb b a := ⟨h.2, h.1⟩
/-- how heavy the heavy side may be -/
def hv (l r : Nat) : Prop := 3 * r ≤ 13 * l ∨ r ≤ 3 * l + 3
theorem wb_single {l r a b : Nat} (hl : 0 < l) (ha : 0 < a) (hb : 0 < b) (hr : a + b = r) (hab : wb a b) (hn : 3 * l < r) (hh : hv l r) (hs : a < 2 * b) : wb l a ∧ wb (l + a) b := by
  unfold wb hv at *
  omega
theorem wb_double {l r a b c d : Nat} (hl : 0 < l) (hb : 0 < b) (hc : 0 < c) (hd : 0 < d) (hr : a + b = r) (hab : wb a b) (hn : 3 * l < r) (hh : hv l r) (hs : 2 * b ≤ a) (hcd : wb c d) (ha : c + d = a) : wb l c ∧ wb d b ∧ wb (l + c) (d + b) := by
  unfold wb hv at *
  omega
/-- a light tree is joined to the inner side of a balanced node -/
theorem hv_join {l r x : Nat} (h : wb l r) (hx : 3 * x < l + r) : hv l (r + x) := by
  unfold wb hv at *
  omega
/-- one key less on the light side -/
theorem hv_less {l r : Nat} (h : wb (l + 1) r) : hv l r := by
  unfold wb hv at *
  omega
end Go.Proofs.YtnimbgcploohiaaGreat
set_option linter.unusedVariables false
namespace Go.Proofs.YtnimbgcploohiaaGreat
/-- the caller's references and the call's own, X -/
def plL (held : Nat → Nat) (X : List Nat) : Nat → Nat := fun i => held i + hof X i
theorem plL_nil (held : Nat → Nat) : plL held [] = held := by
  funext i
  show held i + hof [] i = held i
  rw [hof_nil]
  rfl
theorem hof_cons (x : Nat) (X : List Nat) (j : Nat) : hof (x :: X) j = hof X j + (if x ≠ 0 ∧ j = x then 1 else 0) := by
  unfold hof
  by_cases h : j = 0
  · rw [if_pos h, if_pos h, if_neg (fun q => q.1 (q.2 ▸ h))]
  · rw [if_neg h, if_neg h, List.count_cons]
    by_cases e : j = x
    · subst e; rw [if_pos (by simp), if_pos ⟨h, rfl⟩]
    · rw [if_neg (by simp; exact fun q => e q.symm), if_neg (fun q => e q.2)]
theorem plL_cons (held : Nat → Nat) (x : Nat) (X : List Nat) : plL held (x :: X) = pls (plL held X) x := by
  funext j
  rw [pls_at]
  show held j + hof (x :: X) j = held j + hof X j + _
  rw [hof_cons, Nat.add_assoc]
theorem plL_le {held : Nat → Nat} {m : Nat} (h : ∀ j, held j ≤ m) (X : List Nat) (j : Nat) : plL held X j ≤ m + X.length := by
  have h1 := h j
  have h2 := hof_le X j
  show held j + hof X j ≤ _
  omega
theorem plL_perm (held : Nat → Nat) {X Y : List Nat} (h : X.Perm Y) : plL held X = plL held Y := by
  funext j
  show held j + hof X j = held j + hof Y j
  unfold hof
  rw [h.count_eq]
theorem plL_pos {held : Nat → Nat} {x : Nat} {X : List Nat} (h : x ∈ X) (h0 : x ≠ 0) : 0 < plL held X x := by
  have := hof_pos h h0
  show 0 < held x + hof X x
  omega
theorem less_plL {held : Nat → Nat} {x : Nat} {X : List Nat} (h0 : x ≠ 0) : less (plL held (x :: X)) x = plL held X := by
  rw [plL_cons]
  funext j
  unfold less pls more
  rw [if_neg h0]
  by_cases e : j = x
  · subst e; show (if j = j then _ - 1 else _) = _; rw [if_pos rfl]; show (if j = j then _ else _) - 1 = _; rw [if_pos rfl]; omega
  · show (if j = x then _ else _) = _; rw [if_neg e]; show (if j = x then _ else _) = _; rw [if_neg e]
/-- B came of A; X: the references that the call holds -/
structure Mid (A : Ar) (held : Nat → Nat) (B : Ar) (X : List Nat) : Prop where
  base : A.Inv [] held
  bagg : A.Agg
  kept : A.Kept B
  gen : ∀ i, A.σ.on i = true → B.σ.gen i = A.σ.gen i
  inv : B.Inv [] (plL held X)
  agg : B.Agg
theorem Mid.start {A : Ar} {held : Nat → Nat} (h : A.Inv [] held) (ha : A.Agg) : Mid A held A [] := ⟨h, ha, .refl A, fun _ _ => rfl, by rw [plL_nil]; exact h, ha⟩
theorem Mid.perm {A B : Ar} {held : Nat → Nat} {X Y : List Nat} (h : Mid A held B X) (hp : X.Perm Y) : Mid A held B Y := ⟨h.base, h.bagg, h.kept, h.gen, plL_perm held hp ▸ h.inv, h.agg⟩
/-- a tree, its balance and its entries -/
structure At (B : Ar) (i : Nat) (t : Tr) (l : List En) : Prop where
  sub : Sub B i t
  bal : t.bal = true
  ents : t.ents B.nd = l
theorem TreeAt.at_ {A : Ar} {i : Nat} {t : Tr} {l : List En} (h : TreeAt A i t l) : At A i t l := ⟨h.sub, h.bal, h.ents⟩
theorem At.nil (B : Ar) : At B 0 .nil [] := ⟨.nil, rfl, rfl⟩
theorem At.kept {B C : Ar} {i : Nat} {t : Tr} {l : List En} (h : At B i t l) (hk : B.Kept C) : At C i t l := ⟨h.sub.kept hk, h.bal, (Tr.ents_kept hk h.sub).trans h.ents⟩
theorem At.size {B : Ar} {i : Nat} {t : Tr} {l : List En} (h : At B i t l) : t.size = l.length := by rw [← h.ents, Tr.ents_len]
theorem At.sz {B : Ar} {i : Nat} {t : Tr} {l : List En} (h : At B i t l) (ha : B.Agg) : B.sz i = (l.length : Int) := by rw [h.sub.size ha, h.size]
theorem At.idx {B : Ar} {i : Nat} {t : Tr} {l : List En} (h : At B i t l) : B.Idx i := h.sub.idx
/-- the empty tree is 0 -/
theorem At.zero_iff {B : Ar} {held : Nat → Nat} {i : Nat} {t : Tr} {l : List En} (h : At B i t l) : i = 0 ↔ l = [] := by
  constructor
  · rintro rfl
    have := h.size
    obtain ⟨h1, _, h3⟩ := h
    cases h1 with
    | nil => exact List.eq_nil_of_length_eq_zero this.symm
    | node _ _ _ h0 => exact absurd rfl h0
  · intro e
    have := h.size
    obtain ⟨h1, _, h3⟩ := h
    cases h1 with
    | nil => rfl
    | node _ l r _ => rw [e] at this; exact absurd this (by show l.size + r.size + 1 ≠ 0; omega)
/-- weights of two trees that a node may have -/
def wbL (l m : List En) : Prop := wb (l.length + 1) (m.length + 1)
theorem bal_wb {a b : Nat} (h : Proofs.YtnimbgcploohiaaGreat.bal (a : Int) (b : Int) = true) : wb (a + 1) (b + 1) := by
  have h1 := of_decide_eq_true h
  exact ⟨by omega, by omega⟩
theorem wb_bal {a b : Nat} (ha : a ≤ 2147483647) (hb : b ≤ 2147483647) (h : wb (a + 1) (b + 1)) : Proofs.YtnimbgcploohiaaGreat.bal (a : Int) (b : Int) = true :=
  decide_eq_true ⟨by omega, by omega, by omega, by omega, by have := h.1; omega, by have := h.2; omega⟩
/-- the root and its children -/
theorem At.split {B : Ar} {i : Nat} {t : Tr} {l : List En} (h : At B i t l) (h0 : i ≠ 0) :
    ∃ tl tr ll lr, t = .node i tl tr ∧ l = ll ++ ⟨(B.nd i).key, (B.nd i).val⟩ :: lr ∧ At B (B.nd i).left tl ll ∧ At B (B.nd i).right tr lr ∧ wbL ll lr := by
  obtain ⟨hs, hb, he⟩ := h
  cases hs with
  | nil => exact absurd rfl h0
  | node i tl tr _ hon hl hr =>
    unfold Tr.bal at hb
    simp only [Bool.and_eq_true] at hb
    rw [Tr.ents_node] at he
    refine ⟨tl, tr, _, _, rfl, he.symm, ⟨hl, hb.1.2, rfl⟩, ⟨hr, hb.2, rfl⟩, ?_⟩
    have h1 := bal_wb hb.1.1
    unfold wbL
    rw [Tr.ents_len, Tr.ents_len]
    exact h1
/-- a node over two trees -/
theorem At.join {B : Ar} (ha : B.Agg) {i l r : Nat} {e : En} {tl tr : Tr} {ll lr : List En} (h0 : i ≠ 0) (hon : B.σ.on i = true) (hk : (B.nd i).key = e.key ∧ (B.nd i).val = e.val ∧ (B.nd i).left = l ∧ (B.nd i).right = r)
    (hl : At B l tl ll) (hr : At B r tr lr) (hw : wbL ll lr) : At B i (.node i tl tr) (ll ++ e :: lr) := by
  obtain ⟨k1, k2, k3, k4⟩ := hk
  have hs : Sub B i (.node i tl tr) := .node i tl tr h0 hon (by rw [k3]; exact hl.sub) (by rw [k4]; exact hr.sub)
  have hz := hs.size ha
  have hm := (ha.size i hon).2
  have h1 := hl.size
  have h2 := hr.size
  have h3 : (Tr.node i tl tr).size = tl.size + tr.size + 1 := rfl
  unfold Ar.sz at hz
  rw [if_neg h0] at hz
  refine ⟨hs, ?_, ?_⟩
  · unfold Tr.bal
    rw [hl.bal, hr.bal, wb_bal (by omega) (by omega) (by rw [h1, h2]; exact hw)]
    rfl
  · rw [Tr.ents_node, hl.ents, hr.ents, k1, k2]
theorem run_gen : ∀ (f : Nat) (A : Ar) (s : List Nat), (Ar.run f A s).1.σ.gen = A.σ.gen
  | 0, A, s => rfl
  | f + 1, A, [] => rfl
  | f + 1, A, i :: t => by
    unfold Ar.run
    by_cases h0 : i = 0
    · rw [if_pos h0]; exact run_gen f A t
    · rw [if_neg h0]
      by_cases h1 : A.cnt i = 1
      · rw [if_pos h1]; exact (run_gen f (A.drop i) _).trans rfl
      · rw [if_neg h1]; exact (run_gen f (A.dec i) t).trans rfl
theorem sub_gone' {A : Ar} {r : Nat} {held : Nat → Nat} (hv : (A.gone r).Inv [] held) {i : Nat} {t : Tr} (h : Sub A i t) : (i = 0 ∨ (A.gone r).σ.on i = true) → Sub (A.gone r) i t := by
  induction h with
  | nil => exact fun _ => .nil
  | node i l r' h0 h1 hl hr ihl ihr =>
    intro hi
    have hon := hi.resolve_left h0
    have hnd : (A.gone r).nd i = A.nd i := (run_on A.fuel A [r] i hon).2
    have hc := hv.child i hon
    rw [hnd] at hc
    exact .node i l r' h0 hon (by rw [hnd]; exact ihl hc.1) (by rw [hnd]; exact ihr hc.2)
theorem ents_gone' {A : Ar} {r : Nat} {i : Nat} {t : Tr} (h : Sub (A.gone r) i t) : t.ents (A.gone r).nd = t.ents A.nd := by
  unfold Tr.ents
  exact List.map_congr_left fun j hj => by
    have e : (A.gone r).nd j = A.nd j := (run_on A.fuel A [r] j (h.on j hj)).2
    rw [e]
theorem At.gone {B : Ar} {r i : Nat} {t : Tr} {l : List En} {held : Nat → Nat} (h : At B i t l) (hv : (B.gone r).Inv [] held) (hi : (B.gone r).Idx i) : At (B.gone r) i t l := by
  have hs := sub_gone' hv h.sub hi
  exact ⟨hs, h.bal, (ents_gone' hs).trans h.ents⟩
/-- what the caller holds stays where a reference of the call's is given back -/
theorem Mid.give {A B : Ar} {held : Nat → Nat} {x : Nat} {X : List Nat} (h : Mid A held B (x :: X)) :
    B.Inv [x] (plL held X) ∧ B.Idx x ∧ Mid A held (B.gone x) X ∧ B.σ.free.length ≤ (B.gone x).σ.free.length ∧ (∀ i, i ∈ X → B.Idx i → (B.gone x).Idx i) ∧ ∀ i, (B.gone x).σ.on i = true → B.σ.on i = true ∧ (B.gone x).nd i = B.nd i := by
  have hx : B.Idx x := by
    by_cases h0 : x = 0
    · exact .inl h0
    · exact .inr (h.inv.held x (plL_pos (List.mem_cons_self ..) h0))
  have hv : B.Inv [x] (plL held X) := by
    by_cases h0 : x = 0
    · subst h0
      have e : plL held (0 :: X) = plL held X := by rw [plL_cons]; rfl
      exact (e ▸ h.inv).give0
    · rw [← less_plL h0]
      exact h.inv.give (plL_pos (List.mem_cons_self ..) h0)
  obtain ⟨g1, g2, g3, g4⟩ := Ar.gone_ok hv h.agg
  have hon : ∀ i, (B.gone x).σ.on i = true → B.σ.on i = true ∧ (B.gone x).nd i = B.nd i := fun i hi => run_on B.fuel B [x] i hi
  have hr : ∀ i, A.Reach held i → (B.gone x).Idx i := fun i hi => by
    induction hi with
    | root i hi => exact .inr (g1.held i (by show 0 < held i + _; omega))
    | left k hk _ ih =>
      have hne : k ≠ 0 := fun e => by have := h.base.ok.on k hk; omega
      have h2 := ih.resolve_left hne
      have h3 := (g1.child k h2).1
      rw [(hon k h2).2, h.kept.nd k hk] at h3
      exact h3
    | right k hk _ ih =>
      have hne : k ≠ 0 := fun e => by have := h.base.ok.on k hk; omega
      have h2 := ih.resolve_left hne
      have h3 := (g1.child k h2).2
      rw [(hon k h2).2, h.kept.nd k hk] at h3
      exact h3
  have hA : ∀ i, A.σ.on i = true → (B.gone x).σ.on i = true := fun i hi => by
    have h1 := Ar.reach_all h.base h.bagg ((2147483647 - (A.nd i).size).toNat + 1) i hi (by have := (h.bagg.size i hi).2; omega)
    exact (hr i h1).resolve_left fun e => by have := h.base.ok.on i hi; omega
  refine ⟨hv, hx, ⟨h.base, h.bagg, ⟨g3.trans h.kept.cap, hA, fun i hi => (hon i (hA i hi)).2.trans (h.kept.nd i hi)⟩, fun i hi => ?_, g1, g2⟩, by omega, fun i hi hi2 => ?_, hon⟩
  · have e : (B.gone x).σ.gen = B.σ.gen := run_gen B.fuel B [x]
    rw [e]
    exact h.gen i hi
  · by_cases h0 : i = 0
    · exact .inl h0
    · exact .inr (g1.held i (plL_pos hi h0))
theorem Mid.made {A B : Ar} {held : Nat → Nat} {X : List Nat} (h : Mid A held B X) {i : Nat} {t : List Nat} (hf : B.σ.free = i :: t) {key val : Int} {l r : Nat} (hl : B.Idx l) (hr : B.Idx r) (hs : (B.node key val l r).size ≤ 2147483647) :
    Mid A held (B.made i t (B.node key val l r)) (i :: X) ∧ B.Kept (B.made i t (B.node key val l r)) ∧ (B.made i t (B.node key val l r)).σ.free = t ∧ i ≠ 0 ∧ (B.made i t (B.node key val l r)).σ.on i = true ∧ (B.made i t (B.node key val l r)).nd i = B.node key val l r := by
  have hi := (h.inv.ok.free i).1 (by rw [hf]; simp)
  have hne : ∀ j, B.σ.on j = true → j ≠ i := fun j hj e => by subst e; rw [hi.2.2] at hj; cases hj
  have h0 : i ≠ 0 := by omega
  have hk := Ar.Kept.made (B.node key val l r) h.inv hf
  refine ⟨⟨h.base, h.bagg, h.kept.trans hk, fun j hj => ?_, ?_, h.agg.made h.inv hf hl hr hs⟩, hk, rfl, h0, take_same _ _ _, if_pos rfl⟩
  · show (B.σ.take i t).gen j = A.σ.gen j
    unfold St.take
    simp [hne j (h.kept.on j hj), h.gen j hj]
  · rw [plL_cons]
    unfold pls
    rw [if_neg h0]
    exact h.inv.made hf hl hr
theorem Mid.ret {A B : Ar} {held : Nat → Nat} {X : List Nat} (h : Mid A held B X) {i : Nat} (hi : B.Idx i) : Mid A held (B.ret i) (i :: X) ∧ B.Kept (B.ret i) ∧ (B.ret i).σ = B.σ ∧ (B.ret i).nd = B.nd := by
  by_cases h0 : i = 0
  · subst h0
    have e : B.ret 0 = B := if_pos rfl
    have e2 : plL held (0 :: X) = plL held X := by rw [plL_cons]; rfl
    rw [e]
    exact ⟨⟨h.base, h.bagg, h.kept, h.gen, e2.symm ▸ h.inv, h.agg⟩, .refl B, rfl, rfl⟩
  · have hon := hi.resolve_left h0
    have e : B.ret i = B.inc i := if_neg h0
    rw [e]
    refine ⟨⟨h.base, h.bagg, h.kept.trans ⟨rfl, fun _ q => q, fun _ _ => rfl⟩, h.gen, ?_, h.agg.inc i⟩, ⟨rfl, fun _ q => q, fun _ _ => rfl⟩, rfl, rfl⟩
    rw [plL_cons]
    unfold pls
    rw [if_neg h0]
    exact h.inv.inc hon
theorem Mid.rot {A B C : Ar} {held : Nat → Nat} {X : List Nat} {j n : Nat} (h : Mid A held B X) (ht : Turned B (plL held X) C j n) : Mid A held C (j :: X) ∧ B.Kept C ∧ C.σ.free.length + n = B.σ.free.length ∧ j ≠ 0 := by
  have h0 : j ≠ 0 := fun e => by
    have h1 := ht.inv.held j (by unfold more; rw [if_pos rfl]; omega)
    have := ht.inv.ok.on j h1
    omega
  refine ⟨⟨h.base, h.bagg, h.kept.trans ht.kept, fun i hi => (ht.gen i (h.kept.on i hi)).trans (h.gen i hi), ?_, ht.agg⟩, ht.kept, ht.free, h0⟩
  rw [plL_cons]
  unfold pls
  rw [if_neg h0]
  exact ht.inv
/-- the call ends with one tree -/
theorem Mid.got {A B : Ar} {held : Nat → Nat} {j : Nat} {t : Tr} {l : List En} (h : Mid A held B [j]) (ha : At B j t l) : Got A held B j t l :=
  ⟨h.kept, h.gen, by have := h.inv; rw [plL_cons, plL_nil] at this; exact this, h.agg, ha.sub, ha.ents, ha.bal⟩
/-- a call of such a function in the midst of another -/
theorem Mid.nest {A B C : Ar} {held : Nat → Nat} {X Y : List Nat} (h : Mid A held B X) (h2 : Mid B (plL held X) C Y) : Mid A held C (Y ++ X) := by
  refine ⟨h.base, h.bagg, h.kept.trans h2.kept, fun i hi => (h2.gen i (h.kept.on i hi)).trans (h.gen i hi), ?_, h2.agg⟩
  have e : plL held (Y ++ X) = plL (plL held X) Y := by
    funext j
    show held j + hof (Y ++ X) j = held j + hof X j + hof Y j
    unfold hof
    split
    · rfl
    · rw [List.count_append]; omega
  rw [e]
  exact h2.inv
theorem NewIn.nz {B C : Ar} {hd : Nat → Nat} (hv : C.Inv [] hd) {j : Nat} (h : NewIn B C j) : j ≠ 0 := by
  have := hv.ok.on j h.1
  omega
/-- the single rotation leaves both nodes balanced -/
def sgl (l inner outer : Int) : Bool := Proofs.YtnimbgcploohiaaGreat.bal l inner && Proofs.YtnimbgcploohiaaGreat.bal (l + 1 + inner) outer
theorem sgl_wb {l a b : Nat} (h : sgl (l : Int) (a : Int) (b : Int) = true) : wb (l + 1) (a + 1) ∧ wb (l + 1 + (a + 1)) (b + 1) := by
  unfold sgl at h
  rw [Bool.and_eq_true] at h
  have h1 := bal_wb h.1
  have h2 := bal_wb (a := l + 1 + a) (b := b) (by have := h.2; rw [Int.natCast_add, Int.natCast_add]; exact this)
  exact ⟨h1, by rw [← Nat.add_assoc]; exact h2⟩
theorem wb_sgl {l a b : Nat} (hs : l + a + b + 2 ≤ 2147483647) (h1 : wb (l + 1) (a + 1)) (h2 : wb (l + 1 + (a + 1)) (b + 1)) : sgl (l : Int) (a : Int) (b : Int) = true := by
  unfold sgl
  rw [Bool.and_eq_true]
  have h3 := wb_bal (a := l + 1 + a) (b := b) (by omega) (by omega) (by rw [Nat.add_assoc]; exact h2)
  rw [Int.natCast_add, Int.natCast_add] at h3
  exact ⟨wb_bal (by omega) (by omega) h1, h3⟩
/-- the right side is too heavy: which rotation, and what it makes -/
theorem heavy_right {B : Ar} {hd : Nat → Nat} (hI : B.Inv [] hd) (ha : B.Agg) {i L R : Nat} {e : En} {tl tr : Tr} {ll lr : List En} (hon : B.σ.on i = true) (hn : (B.nd i).key = e.key ∧ (B.nd i).val = e.val ∧ (B.nd i).left = L ∧ (B.nd i).right = R)
    (hL : At B L tl ll) (hR : At B R tr lr) (hw : 3 * (ll.length + 1) < lr.length + 1) (hh : hv (ll.length + 1) (lr.length + 1)) (hsz : ll.length + lr.length + 1 ≤ 2147483647) :
    B.σ.on R = true ∧ 0 ≤ B.sz (B.nd R).left ∧ 0 ≤ B.sz (B.nd R).right ∧
    (sgl (ll.length : Int) (B.sz (B.nd R).left) (B.sz (B.nd R).right) = true → rform B 0 i = true ∧ ∀ C hd' j, B.Kept C → C.Inv [] hd' → C.Agg → RNodes B C 0 i j → ∃ t, At C j t (ll ++ e :: lr)) ∧
    (sgl (ll.length : Int) (B.sz (B.nd R).left) (B.sz (B.nd R).right) = false → rform B 2 i = true ∧ ∀ C hd' j, B.Kept C → C.Inv [] hd' → C.Agg → RNodes B C 2 i j → ∃ t, At C j t (ll ++ e :: lr)) := by
  obtain ⟨n1, n2, n3, n4⟩ := hn
  have hR0 : R ≠ 0 := fun h0 => by
    have := (hR.zero_iff (held := hd)).1 h0
    subst this
    simp at hw
  have hRon := hR.idx.resolve_left hR0
  obtain ⟨ta, tb, la, lb, rfl, rfl, hA, hB, hab⟩ := hR.split hR0
  have za := hA.sz ha
  have zb := hB.sz ha
  have hln : (la ++ (⟨(B.nd R).key, (B.nd R).val⟩ : En) :: lb).length + 1 = (la.length + 1) + (lb.length + 1) := by simp; omega
  rw [hln] at hw hh
  have hss : sgl (ll.length : Int) (B.sz (B.nd R).left) (B.sz (B.nd R).right) = true → wb (ll.length + 1) (la.length + 1) ∧ wb (ll.length + 1 + (la.length + 1)) (lb.length + 1) := fun q => by
    rw [za, zb] at q
    exact sgl_wb q
  have hdd : sgl (ll.length : Int) (B.sz (B.nd R).left) (B.sz (B.nd R).right) = false → 2 * (B.sz (B.nd R).right + 1) ≤ B.sz (B.nd R).left + 1 := fun q => by
    rcases Nat.lt_or_ge (la.length + 1) (2 * (lb.length + 1)) with hc | hc
    · obtain ⟨w1, w2⟩ := wb_single (l := ll.length + 1) (r := (la.length + 1) + (lb.length + 1)) (a := la.length + 1) (b := lb.length + 1) (by omega) (by omega) (by omega) rfl hab hw hh hc
      rw [za, zb, wb_sgl (by omega) w1 w2] at q
      cases q
    · omega
  refine ⟨hRon, by omega, by omega, fun hs => ?_, fun hs => ?_⟩
  · refine ⟨by unfold rform; rw [hon]; simp [n4, hR0], fun C hd' j hk hv' ha' hr => ?_⟩
    obtain ⟨z, j1, z1, m1, m2⟩ := hr
    rw [n4] at m1 m2
    obtain ⟨w1, w2⟩ := hss hs
    obtain ⟨a1, a2, a3, a4⟩ := m1
    obtain ⟨b1, b2, b3, b4⟩ := m2
    have hz := At.join ha' (z1.nz hv') z1.1 (e := e) (l := L) (r := (B.nd R).left) ⟨b1.trans n1, b2.trans n2, b3.trans n3, b4⟩ (hL.kept hk) (hA.kept hk) w1
    have hj := At.join ha' (j1.nz hv') j1.1 (e := ⟨(B.nd R).key, (B.nd R).val⟩) ⟨a1, a2, a3, a4⟩ hz (hB.kept hk) (by unfold wbL; rw [show (ll ++ e :: la).length + 1 = ll.length + 1 + (la.length + 1) by simp; omega]; exact w2)
    exact ⟨_, by rw [show ll ++ e :: (la ++ (⟨(B.nd R).key, (B.nd R).val⟩ : En) :: lb) = (ll ++ e :: la) ++ ⟨(B.nd R).key, (B.nd R).val⟩ :: lb by simp]; exact hj⟩
  · have hs := hdd hs
    have hA0 : (B.nd R).left ≠ 0 := fun h0 => by
      have := (hA.zero_iff (held := hd)).1 h0
      subst this
      simp at za
      omega
    have hAon := hA.idx.resolve_left hA0
    obtain ⟨tc, td, lc, ld, rfl, rfl, hC, hD, hcd⟩ := hA.split hA0
    have hln2 : (lc ++ (⟨(B.nd (B.nd R).left).key, (B.nd (B.nd R).left).val⟩ : En) :: ld).length + 1 = (lc.length + 1) + (ld.length + 1) := by simp; omega
    refine ⟨by unfold rform; rw [hon]; simp [n4, hR0, hA0], fun C hd' j hk hv' ha' hr => ?_⟩
    obtain ⟨y, z, hyz, j1, y1, z1, m1, m2, m3⟩ := hr
    rw [n4] at m1 m2 m3
    obtain ⟨w1, w2, w3⟩ := wb_double (l := ll.length + 1) (r := (lc.length + 1) + (ld.length + 1) + (lb.length + 1)) (a := (lc.length + 1) + (ld.length + 1)) (b := lb.length + 1) (c := lc.length + 1) (d := ld.length + 1) (by omega) (by omega) (by omega) (by omega) rfl (by rw [← hln2]; exact hab) (by rw [← hln2]; exact hw) (by rw [← hln2]; exact hh) (by rw [← hln2]; omega) hcd rfl
    obtain ⟨a1, a2, a3, a4⟩ := m1
    obtain ⟨b1, b2, b3, b4⟩ := m2
    obtain ⟨c1, c2, c3, c4⟩ := m3
    have hy := At.join ha' (y1.nz hv') y1.1 (e := e) (l := L) (r := (B.nd (B.nd R).left).left) ⟨b1.trans n1, b2.trans n2, b3.trans n3, b4⟩ (hL.kept hk) (hC.kept hk) w1
    have hz := At.join ha' (z1.nz hv') z1.1 (e := ⟨(B.nd R).key, (B.nd R).val⟩) ⟨c1, c2, c3, c4⟩ (hD.kept hk) (hB.kept hk) w2
    have hj := At.join ha' (j1.nz hv') j1.1 (e := ⟨(B.nd (B.nd R).left).key, (B.nd (B.nd R).left).val⟩) ⟨a1, a2, a3, a4⟩ hy hz (by unfold wbL; rw [show (ll ++ e :: lc).length + 1 = ll.length + 1 + (lc.length + 1) by simp; omega, show (ld ++ (⟨(B.nd R).key, (B.nd R).val⟩ : En) :: lb).length + 1 = ld.length + 1 + (lb.length + 1) by simp; omega]; exact w3)
    exact ⟨_, by rw [show ll ++ e :: ((lc ++ (⟨(B.nd (B.nd R).left).key, (B.nd (B.nd R).left).val⟩ : En) :: ld) ++ (⟨(B.nd R).key, (B.nd R).val⟩ : En) :: lb) = (ll ++ e :: lc) ++ ⟨(B.nd (B.nd R).left).key, (B.nd (B.nd R).left).val⟩ :: (ld ++ ⟨(B.nd R).key, (B.nd R).val⟩ :: lb) by simp]; exact hj⟩
/-- the left side is too heavy -/
theorem heavy_left {B : Ar} {hd : Nat → Nat} (hI : B.Inv [] hd) (ha : B.Agg) {i L R : Nat} {e : En} {tl tr : Tr} {ll lr : List En} (hon : B.σ.on i = true) (hn : (B.nd i).key = e.key ∧ (B.nd i).val = e.val ∧ (B.nd i).left = L ∧ (B.nd i).right = R)
    (hL : At B L tl ll) (hR : At B R tr lr) (hw : 3 * (lr.length + 1) < ll.length + 1) (hh : hv (lr.length + 1) (ll.length + 1)) (hsz : ll.length + lr.length + 1 ≤ 2147483647) :
    B.σ.on L = true ∧ 0 ≤ B.sz (B.nd L).left ∧ 0 ≤ B.sz (B.nd L).right ∧
    (sgl (lr.length : Int) (B.sz (B.nd L).right) (B.sz (B.nd L).left) = true → rform B 1 i = true ∧ ∀ C hd' j, B.Kept C → C.Inv [] hd' → C.Agg → RNodes B C 1 i j → ∃ t, At C j t (ll ++ e :: lr)) ∧
    (sgl (lr.length : Int) (B.sz (B.nd L).right) (B.sz (B.nd L).left) = false → rform B 3 i = true ∧ ∀ C hd' j, B.Kept C → C.Inv [] hd' → C.Agg → RNodes B C 3 i j → ∃ t, At C j t (ll ++ e :: lr)) := by
  obtain ⟨n1, n2, n3, n4⟩ := hn
  have hL0 : L ≠ 0 := fun h0 => by
    have := (hL.zero_iff (held := hd)).1 h0
    subst this
    simp at hw
  have hLon := hL.idx.resolve_left hL0
  obtain ⟨tb, ta, lb, la, rfl, rfl, hB, hA, hab⟩ := hL.split hL0
  have za := hA.sz ha
  have zb := hB.sz ha
  have hln : (lb ++ (⟨(B.nd L).key, (B.nd L).val⟩ : En) :: la).length + 1 = (la.length + 1) + (lb.length + 1) := by simp; omega
  rw [hln] at hw hh
  have hab' : wb (la.length + 1) (lb.length + 1) := wb.symm hab
  have hss : sgl (lr.length : Int) (B.sz (B.nd L).right) (B.sz (B.nd L).left) = true → wb (lr.length + 1) (la.length + 1) ∧ wb (lr.length + 1 + (la.length + 1)) (lb.length + 1) := fun q => by
    rw [za, zb] at q
    exact sgl_wb q
  have hdd : sgl (lr.length : Int) (B.sz (B.nd L).right) (B.sz (B.nd L).left) = false → 2 * (B.sz (B.nd L).left + 1) ≤ B.sz (B.nd L).right + 1 := fun q => by
    rcases Nat.lt_or_ge (la.length + 1) (2 * (lb.length + 1)) with hc | hc
    · obtain ⟨w1, w2⟩ := wb_single (l := lr.length + 1) (r := (la.length + 1) + (lb.length + 1)) (a := la.length + 1) (b := lb.length + 1) (by omega) (by omega) (by omega) rfl hab' hw hh hc
      rw [za, zb, wb_sgl (by omega) w1 w2] at q
      cases q
    · omega
  refine ⟨hLon, by omega, by omega, fun hs => ?_, fun hs => ?_⟩
  · refine ⟨by unfold rform; rw [hon]; simp [n3, hL0], fun C hd' j hk hv' ha' hr => ?_⟩
    obtain ⟨z, j1, z1, m1, m2⟩ := hr
    rw [n3] at m1 m2
    obtain ⟨w1, w2⟩ := hss hs
    obtain ⟨a1, a2, a3, a4⟩ := m1
    obtain ⟨b1, b2, b3, b4⟩ := m2
    have hz := At.join ha' (z1.nz hv') z1.1 (e := e) (l := (B.nd L).right) (r := R) ⟨b1.trans n1, b2.trans n2, b3, b4.trans n4⟩ (hA.kept hk) (hR.kept hk) (wb.symm w1)
    have hj := At.join ha' (j1.nz hv') j1.1 (e := ⟨(B.nd L).key, (B.nd L).val⟩) ⟨a1, a2, a3, a4⟩ (hB.kept hk) hz (by unfold wbL; rw [show (la ++ e :: lr).length + 1 = lr.length + 1 + (la.length + 1) by simp; omega]; exact wb.symm w2)
    exact ⟨_, by rw [show (lb ++ (⟨(B.nd L).key, (B.nd L).val⟩ : En) :: la) ++ e :: lr = lb ++ ⟨(B.nd L).key, (B.nd L).val⟩ :: (la ++ e :: lr) by simp]; exact hj⟩
  · have hs := hdd hs
    have hA0 : (B.nd L).right ≠ 0 := fun h0 => by
      have := (hA.zero_iff (held := hd)).1 h0
      subst this
      simp at za
      omega
    have hAon := hA.idx.resolve_left hA0
    obtain ⟨td, tc, ld, lc, rfl, rfl, hD, hC, hcd⟩ := hA.split hA0
    have hln2 : (ld ++ (⟨(B.nd (B.nd L).right).key, (B.nd (B.nd L).right).val⟩ : En) :: lc).length + 1 = (lc.length + 1) + (ld.length + 1) := by simp; omega
    refine ⟨by unfold rform; rw [hon]; simp [n3, hL0, hA0], fun C hd' j hk hv' ha' hr => ?_⟩
    obtain ⟨y, z, hyz, j1, y1, z1, m1, m2, m3⟩ := hr
    rw [n3] at m1 m2 m3
    obtain ⟨w1, w2, w3⟩ := wb_double (l := lr.length + 1) (r := (lc.length + 1) + (ld.length + 1) + (lb.length + 1)) (a := (lc.length + 1) + (ld.length + 1)) (b := lb.length + 1) (c := lc.length + 1) (d := ld.length + 1) (by omega) (by omega) (by omega) (by omega) rfl (by rw [← hln2]; exact hab') (by rw [← hln2]; exact hw) (by rw [← hln2]; exact hh) (by rw [← hln2]; omega) (wb.symm hcd) rfl
    obtain ⟨a1, a2, a3, a4⟩ := m1
    obtain ⟨b1, b2, b3, b4⟩ := m2
    obtain ⟨c1, c2, c3, c4⟩ := m3
    have hy := At.join ha' (y1.nz hv') y1.1 (e := ⟨(B.nd L).key, (B.nd L).val⟩) ⟨b1, b2, b3, b4⟩ (hB.kept hk) (hD.kept hk) (wb.symm w2)
    have hz := At.join ha' (z1.nz hv') z1.1 (e := e) (l := (B.nd (B.nd L).right).right) (r := R) ⟨c1.trans n1, c2.trans n2, c3, c4.trans n4⟩ (hC.kept hk) (hR.kept hk) (wb.symm w1)
    have hj := At.join ha' (j1.nz hv') j1.1 (e := ⟨(B.nd (B.nd L).right).key, (B.nd (B.nd L).right).val⟩) ⟨a1, a2, a3, a4⟩ hy hz (by unfold wbL; rw [show (lc ++ e :: lr).length + 1 = lr.length + 1 + (lc.length + 1) by simp; omega, show (lb ++ (⟨(B.nd L).key, (B.nd L).val⟩ : En) :: ld).length + 1 = ld.length + 1 + (lb.length + 1) by simp; omega]; exact wb.symm w3)
    exact ⟨_, by rw [show (lb ++ (⟨(B.nd L).key, (B.nd L).val⟩ : En) :: (ld ++ (⟨(B.nd (B.nd L).right).key, (B.nd (B.nd L).right).val⟩ : En) :: lc)) ++ e :: lr = (lb ++ ⟨(B.nd L).key, (B.nd L).val⟩ :: ld) ++ ⟨(B.nd (B.nd L).right).key, (B.nd (B.nd L).right).val⟩ :: (lc ++ e :: lr) by simp]; exact hj⟩
end Go.Proofs.YtnimbgcploohiaaGreat
set_option linter.unusedVariables false
namespace Go.Proofs.YtnimbgcploohiaaGreat
theorem xh_up {m n : Nat} (h : m ≤ n) (hn : n ≤ 2147483647) : xh m ≤ xh n := xh_le hn (by have := (xh_spec (n := m) (by omega)).1; omega)
/-- a third more keys: a level more -/
theorem xh_grow {c b : Nat} (h : 4 * (c + 1) ≤ 3 * (b + 1)) (hb : b ≤ 2147483647) : xh c + 1 ≤ xh b := by
  have h1 := (xh_spec (n := c) (by omega)).1
  have h2 := wt_pos (xh c)
  refine xh_le hb ?_
  rw [wt_succ]
  omega
/-- how many levels a join goes down on the left of a tree, the other one having n keys -/
def jdl (n : Nat) : Tr → Nat
  | .nil => 0
  | .node _ l r => if 3 * (n + 1) < l.size + r.size + 2 then 1 + jdl n l else 0
/-- on the right -/
def jdr (n : Nat) : Tr → Nat
  | .nil => 0
  | .node _ l r => if 3 * (n + 1) < l.size + r.size + 2 then 1 + jdr n r else 0
theorem jdl_le {n : Nat} : ∀ {t : Tr}, t.bal = true → t.size ≤ 2147483647 → jdl n t = 0 ∨ (3 * (n + 1) < t.size + 1 ∧ jdl n t + xh n ≤ xh t.size)
  | .nil, _, _ => .inl rfl
  | .node i l r, hb, hs => by
    unfold Tr.bal at hb
    simp only [Bool.and_eq_true] at hb
    have hw := bal_wb hb.1.1
    have hz : (Tr.node i l r).size = l.size + r.size + 1 := rfl
    rw [hz] at hs ⊢
    unfold jdl
    by_cases hc : 3 * (n + 1) < l.size + r.size + 2
    · rw [if_pos hc]
      right
      have h1 := xh_grow (c := l.size) (b := l.size + r.size + 1) (by have := hw.1; omega) hs
      have h2 := xh_grow (c := n) (b := l.size + r.size + 1) (by omega) hs
      refine ⟨by omega, ?_⟩
      rcases jdl_le (n := n) (t := l) hb.1.2 (by omega) with h | ⟨_, h⟩
      · rw [h]; omega
      · omega
    · rw [if_neg hc]; exact .inl rfl
theorem jdr_le {n : Nat} : ∀ {t : Tr}, t.bal = true → t.size ≤ 2147483647 → jdr n t = 0 ∨ (3 * (n + 1) < t.size + 1 ∧ jdr n t + xh n ≤ xh t.size)
  | .nil, _, _ => .inl rfl
  | .node i l r, hb, hs => by
    unfold Tr.bal at hb
    simp only [Bool.and_eq_true] at hb
    have hw := bal_wb hb.1.1
    have hz : (Tr.node i l r).size = l.size + r.size + 1 := rfl
    rw [hz] at hs ⊢
    unfold jdr
    by_cases hc : 3 * (n + 1) < l.size + r.size + 2
    · rw [if_pos hc]
      right
      have h1 := xh_grow (c := r.size) (b := l.size + r.size + 1) (by have := hw.2; omega) hs
      have h2 := xh_grow (c := n) (b := l.size + r.size + 1) (by omega) hs
      refine ⟨by omega, ?_⟩
      rcases jdr_le (n := n) (t := r) hb.2 (by omega) with h | ⟨_, h⟩
      · rw [h]; omega
      · omega
    · rw [if_neg hc]; exact .inl rfl
/-- the levels of a join of two trees -/
def jd (t u : Tr) : Nat := if 3 * (t.size + 1) < u.size + 1 then jdl t.size u else jdr u.size t
/-- a join goes down at most as far as the heights differ -/
theorem jd_le {t u : Tr} (ht : t.bal = true) (hu : u.bal = true) (hs : t.size + u.size ≤ 2147483647) :
    (wb (t.size + 1) (u.size + 1) ∧ jd t u = 0) ∨ (3 * (t.size + 1) < u.size + 1 ∧ jd t u + xh t.size ≤ xh u.size) ∨ (3 * (u.size + 1) < t.size + 1 ∧ jd t u + xh u.size ≤ xh t.size) := by
  unfold jd
  by_cases h1 : 3 * (t.size + 1) < u.size + 1
  · rw [if_pos h1]
    refine .inr (.inl ⟨h1, ?_⟩)
    rcases jdl_le (n := t.size) hu (by omega) with h | ⟨_, h⟩
    · rw [h]; have := xh_up (m := t.size) (n := u.size) (by omega) (by omega); omega
    · exact h
  · rw [if_neg h1]
    by_cases h2 : 3 * (u.size + 1) < t.size + 1
    · refine .inr (.inr ⟨h2, ?_⟩)
      rcases jdr_le (n := u.size) ht (by omega) with h | ⟨_, h⟩
      · rw [h]; have := xh_up (m := u.size) (n := t.size) (by omega) (by omega); omega
      · exact h
    · refine .inl ⟨⟨by omega, by omega⟩, ?_⟩
      rcases jdr_le (n := u.size) ht (by omega) with h | ⟨h, _⟩
      · exact h
      · omega
theorem jd_xh {t u : Tr} (ht : t.bal = true) (hu : u.bal = true) (hs : t.size + u.size + 1 ≤ 2147483647) : jd t u ≤ xh (t.size + u.size + 1) := by
  have h1 := xh_up (m := t.size) (n := t.size + u.size + 1) (by omega) hs
  have h2 := xh_up (m := u.size) (n := t.size + u.size + 1) (by omega) hs
  rcases jd_le ht hu (by omega) with ⟨_, h⟩ | ⟨_, h⟩ | ⟨_, h⟩ <;> omega
/-- the height of a balanced tree -/
theorem bal_wt : ∀ {t : Tr}, t.bal = true → wt t.ht ≤ t.size + 1
  | .nil, _ => Nat.le_refl 1
  | .node i l r, hb => by
    unfold Tr.bal at hb
    simp only [Bool.and_eq_true] at hb
    have hw := bal_wb hb.1.1
    have h1 := bal_wt (t := l) hb.1.2
    have h2 := bal_wt (t := r) hb.2
    have hz : (Tr.node i l r).size = l.size + r.size + 1 := rfl
    have hh : (Tr.node i l r).ht = 1 + max l.ht r.ht := rfl
    rw [hz, hh]
    rcases Nat.le_total l.ht r.ht with hm | hm
    · rw [Nat.max_eq_right hm, Nat.add_comm 1, wt_succ]
      have := hw.2
      omega
    · rw [Nat.max_eq_left hm, Nat.add_comm 1, wt_succ]
      have := hw.1
      omega
theorem bal_ht {t : Tr} (hb : t.bal = true) (hs : t.size ≤ 2147483647) : t.ht ≤ xh t.size := xh_le hs (by have := bal_wt hb; omega)
end Go.Proofs.YtnimbgcploohiaaGreat
set_option linter.unusedVariables false
namespace Go.Proofs.YtnimbgcploohiaaGreat
theorem wt41 : 65600 < wt 41 := by decide
theorem xh_40 {n : Nat} (h : n ≤ 65536) : xh n ≤ 40 := by
  have h1 := (xh_spec (n := n) (by omega)).1
  rcases Nat.lt_or_ge 40 (xh n) with h2 | h2
  · have h3 := wt_mono (show 41 ≤ xh n from h2)
    have h4 := wt41
    omega
  · exact h2
/-- a step of a cut: the lighter part u is joined to a child t -/
theorem cut_step_r {t u : Tr} (ht : t.bal = true) (hu : u.bal = true) (hs : t.size + u.size + 1 ≤ 2147483647) (hw : u.size + 1 ≤ 3 * (t.size + 1)) :
    3 * jd t u + 1 + 4 * xh u.size ≤ 4 * xh (t.size + u.size + 1) ∧ jd t u + xh u.size ≤ xh (t.size + u.size + 1) := by
  have g1 := xh_up (m := t.size) (n := t.size + u.size + 1) (by omega) hs
  have g2 := xh_grow (c := u.size) (b := t.size + u.size + 1) (by omega) hs
  rcases jd_le ht hu (by omega) with ⟨_, h⟩ | ⟨hc, h⟩ | ⟨_, h⟩
  · omega
  · omega
  · omega
theorem cut_step_l {t u : Tr} (ht : t.bal = true) (hu : u.bal = true) (hs : u.size + t.size + 1 ≤ 2147483647) (hw : u.size + 1 ≤ 3 * (t.size + 1)) :
    3 * jd u t + 1 + 4 * xh u.size ≤ 4 * xh (u.size + t.size + 1) ∧ jd u t + xh u.size ≤ xh (u.size + t.size + 1) := by
  have g1 := xh_up (m := t.size) (n := u.size + t.size + 1) (by omega) hs
  have g2 := xh_grow (c := u.size) (b := u.size + t.size + 1) (by omega) hs
  rcases jd_le hu ht (by omega) with ⟨_, h⟩ | ⟨_, h⟩ | ⟨hc, h⟩
  · omega
  · omega
  · omega
/-- reads of the lookups of all joins on a path -/
def sqN : Nat → Nat
  | 0 => 0
  | n + 1 => sqN n + 2 * (n + 1) + 6
theorem sq_add : ∀ (d m : Nat), sqN m ≤ sqN (m + d)
  | 0, m => Nat.le_refl _
  | d + 1, m => by
    have := sq_add d m
    show _ ≤ sqN (m + d) + 2 * (m + d + 1) + 6
    omega
theorem sq_step {m n : Nat} (h : m + 1 ≤ n) : sqN m + 2 * n + 6 ≤ sqN n := by
  obtain ⟨d, rfl⟩ : ∃ d, n = m + d + 1 := ⟨n - m - 1, by omega⟩
  have := sq_add d m
  show _ ≤ sqN (m + d) + 2 * (m + d + 1) + 6
  omega
theorem sq_40 {n : Nat} (h : n ≤ 40) : sqN n ≤ 47 * n := by
  have : ∀ k : Fin 41, sqN k.1 ≤ 47 * k.1 := by decide
  exact this ⟨n, by omega⟩
def upE (l : List En) (k : Int) : List En := l.filter fun y => decide (y.key ≤ k)
def fromE (l : List En) (k : Int) : List En := l.filter fun y => decide (k ≤ y.key)
theorem fil0B {l : List En} {q : En → Bool} (h : ∀ e ∈ l, q e = false) : l.filter q = [] := by rw [List.filter_eq_nil_iff]; intro e he; rw [h e he]; simp
theorem fil1B {l : List En} {q : En → Bool} (h : ∀ e ∈ l, q e = true) : l.filter q = l := List.filter_eq_self.2 h
theorem upE_len (l : List En) (k : Int) : (upE l k).length ≤ l.length := List.length_filter_le _ _
theorem fromE_len (l : List En) (k : Int) : (fromE l k).length ≤ l.length := List.length_filter_le _ _
theorem upE_l {ll lr : List En} {e : En} {k : Int} (hu : Up (ll ++ e :: lr)) (hk : k < e.key) : upE (ll ++ e :: lr) k = upE ll k := by
  obtain ⟨-, -, h3, h4⟩ := up_app hu
  unfold upE
  rw [List.filter_append, fil0B (l := e :: lr) (fun x hx => by
    rcases List.mem_cons.1 hx with rfl | hx
    · simp; omega
    · have := h4 x hx; simp; omega), List.append_nil]
theorem upE_m {ll lr : List En} {e : En} (hu : Up (ll ++ e :: lr)) : upE (ll ++ e :: lr) e.key = ll ++ e :: [] := by
  obtain ⟨-, -, h3, h4⟩ := up_app hu
  unfold upE
  rw [List.filter_append, List.filter_cons, if_pos (by simp), fil1B (l := ll) (fun x hx => by have := h3 x hx; simp; omega), fil0B (l := lr) (fun x hx => by have := h4 x hx; simp; omega)]
theorem upE_r {ll lr : List En} {e : En} {k : Int} (hu : Up (ll ++ e :: lr)) (hk : e.key < k) : upE (ll ++ e :: lr) k = ll ++ e :: upE lr k := by
  obtain ⟨-, -, h3, h4⟩ := up_app hu
  unfold upE
  rw [List.filter_append, List.filter_cons, if_pos (by simp; omega), fil1B (l := ll) (fun x hx => by have := h3 x hx; simp; omega)]
theorem fromE_r {ll lr : List En} {e : En} {k : Int} (hu : Up (ll ++ e :: lr)) (hk : e.key < k) : fromE (ll ++ e :: lr) k = fromE lr k := by
  obtain ⟨-, -, h3, h4⟩ := up_app hu
  unfold fromE
  rw [List.filter_append, List.filter_cons, if_neg (by simp; omega), fil0B (l := ll) (fun x hx => by have := h3 x hx; simp; omega), List.nil_append]
theorem fromE_m {ll lr : List En} {e : En} (hu : Up (ll ++ e :: lr)) : fromE (ll ++ e :: lr) e.key = [] ++ e :: lr := by
  obtain ⟨-, -, h3, h4⟩ := up_app hu
  unfold fromE
  rw [List.filter_append, List.filter_cons, if_pos (by simp), fil0B (l := ll) (fun x hx => by have := h3 x hx; simp; omega), fil1B (l := lr) (fun x hx => by have := h4 x hx; simp; omega)]
theorem fromE_l {ll lr : List En} {e : En} {k : Int} (hu : Up (ll ++ e :: lr)) (hk : k < e.key) : fromE (ll ++ e :: lr) k = fromE ll k ++ e :: lr := by
  obtain ⟨-, -, h3, h4⟩ := up_app hu
  unfold fromE
  rw [List.filter_append, List.filter_cons, if_pos (by simp; omega), fil1B (l := lr) (fun x hx => by have := h4 x hx; simp; omega)]
theorem getE_l {ll lr : List En} {e : En} {k : Int} (hu : Up (ll ++ e :: lr)) (hk : k < e.key) : getE (ll ++ e :: lr) k = getE ll k := by
  obtain ⟨-, -, h3, h4⟩ := up_app hu
  rw [getE_app, getE_none (l := e :: lr) (fun x hx => by
    rcases List.mem_cons.1 hx with rfl | hx
    · omega
    · have := h4 x hx; omega), Option.or_none]
theorem getE_r {ll lr : List En} {e : En} {k : Int} (hu : Up (ll ++ e :: lr)) (hk : e.key < k) : getE (ll ++ e :: lr) k = getE lr k := by
  obtain ⟨-, -, h3, h4⟩ := up_app hu
  rw [getE_app, getE_none (l := ll) (fun x hx => by have := h3 x hx; omega), Option.none_or]
  unfold getE
  rw [List.find?_cons_of_neg (by simp; omega)]
end Go.Proofs.YtnimbgcploohiaaGreat
