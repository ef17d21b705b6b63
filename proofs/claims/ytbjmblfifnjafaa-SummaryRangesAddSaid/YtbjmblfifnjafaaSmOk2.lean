/- The highest node of a range keeps its contract. -/
import Derived.Test.YtbjmblfifnjafaaSmOk1
set_option linter.unusedVariables false
set_option linter.unusedSimpArgs false
namespace Go.Proofs.Ytbjmblfifnjafaa
open Go.RowKit
/-- the subtree with all keys from lo to hi whose root is one of them -/
def hiT (nd : Nat → Nd) (lo hi : Int) : Tr → Tr
  | .nil => .nil
  | .node i l r => if (nd i).key < lo then hiT nd lo hi r else if hi < (nd i).key then hiT nd lo hi l else .node i l r
theorem TreeAt.kids {A : Ar} {i : Nat} {l r : Tr} {m : List En} (h : TreeAt A i (.node i l r) m) : TreeAt A (A.nd i).left l (l.ents A.nd) ∧ TreeAt A (A.nd i).right r (r.ents A.nd) := by
  have hb := h.bal
  unfold Tr.bal at hb
  simp only [Bool.and_eq_true] at hb
  have hu := h.up
  rw [← h.ents, Tr.ents_node] at hu
  obtain ⟨hul, hur, -, -⟩ := up_app hu
  cases h.sub with
  | node _ _ _ h1 h2 h3 h4 => exact ⟨⟨h.inv, h.agg, h3, hb.1.2, rfl, hul⟩, ⟨h.inv, h.agg, h4, hb.2, rfl, hur⟩⟩
theorem bet_node {L R : List En} {e : En} (h : Up (L ++ e :: R)) (lo hi : Int) :
    (e.key < lo → betE (L ++ e :: R) lo hi = betE R lo hi) ∧ (hi < e.key → betE (L ++ e :: R) lo hi = betE L lo hi) ∧ (lo ≤ e.key → e.key ≤ hi → betE (L ++ e :: R) lo hi = geE L lo ++ e :: leE R hi) := by
  obtain ⟨-, -, h3, h4⟩ := up_app h
  unfold betE geE leE
  rw [List.filter_append, List.filter_cons]
  refine ⟨fun hk => ?_, fun hk => ?_, fun h1 h2 => ?_⟩
  · rw [if_neg (by simp; omega), fil_none (l := L) (fun x hx => by have := h3 x hx; simp; omega)]; rfl
  · rw [if_neg (by simp; omega), fil_none (l := R) (fun x hx => by have := h4 x hx; simp; omega), List.append_nil]
  · rw [if_pos (by simp; omega)]
    congr 1
    · exact List.filter_congr fun x hx => by have := h3 x hx; simp; omega
    · congr 1
      exact List.filter_congr fun x hx => by have := h4 x hx; simp; omega
theorem hiT_tree {A : Ar} (lo hi : Int) : ∀ (t : Tr) (i : Nat) (m : List En), TreeAt A i t m → ∃ j n, TreeAt A j (hiT A.nd lo hi t) n ∧ betE m lo hi = betE n lo hi ∧ (∀ e ∈ n, e ∈ m) ∧ (hiT A.nd lo hi t).ht ≤ t.ht
  | .nil, i, m, h => ⟨i, m, h, rfl, fun e he => he, Nat.le_refl _⟩
  | .node i l r, i', m, h => by
    obtain rfl : i = i' := by
      cases h.sub with
      | node _ _ _ h1 h2 h3 h4 => rfl
    have hm := h.ents
    rw [Tr.ents_node] at hm
    obtain ⟨hL, hR⟩ := h.kids
    have hu := h.up
    rw [← hm] at hu
    obtain ⟨b1, b2, b3⟩ := bet_node hu lo hi
    have hht : (Tr.node i l r).ht = 1 + max l.ht r.ht := rfl
    unfold hiT
    by_cases h1 : (A.nd i).key < lo
    · rw [if_pos h1]
      obtain ⟨j, n, k1, k2, k3, k4⟩ := hiT_tree lo hi r _ _ hR
      exact ⟨j, n, k1, by rw [← hm, b1 h1, k2], fun e he => by rw [← hm]; have := k3 e he; simp [this], by omega⟩
    · rw [if_neg h1]
      by_cases h2 : hi < (A.nd i).key
      · rw [if_pos h2]
        obtain ⟨j, n, k1, k2, k3, k4⟩ := hiT_tree lo hi l _ _ hL
        exact ⟨j, n, k1, by rw [← hm, b2 h2, k2], fun e he => by rw [← hm]; have := k3 e he; simp [this], by omega⟩
      · rw [if_neg h2]
        exact ⟨i, m, h, rfl, fun e he => he, Nat.le_refl _⟩
theorem hiT_in {nd : Nat → Nd} {lo hi : Int} : ∀ {t : Tr} {i : Nat} {l r : Tr}, hiT nd lo hi t = .node i l r → lo ≤ (nd i).key ∧ (nd i).key ≤ hi
  | .nil, i, l, r, h => by cases h
  | .node j l' r', i, l, r, h => by
    unfold hiT at h
    split at h
    · exact hiT_in h
    · split at h
      · exact hiT_in h
      · cases h; omega
def hiR (A : Ar) : Tr → Value
  | .nil => .tuple #[.agg (ndRow Nd.zero), .bool false]
  | .node i _ _ => .tuple #[.agg (ndRow (A.nd i)), .bool true]
def WayH (I : AImpl) (w : World) (F : Nat → Prop) (p : Value) (A : Ar) (rd0 lo hi : Int) (T : Tr) (top : Int) (U g0 : Nat) (x c : Value) (wr : World) : Prop :=
  ∃ (i n : Nat) (u : Tr) (rd : Int), x = .int .u32 (i : Int) ∧ c = .int .i64 (n : Int) ∧ Sub A i u ∧ hiT A.nd lo hi u = T ∧ rd0 ≤ rd ∧ rd + (u.ht : Int) ≤ top ∧ n + u.size ≤ U ∧
    Ins I w F p A rd [] [(g0, Obj.cells (ndRow Nd.zero) 68 (0, 0))] wr
set_option maxHeartbeats 8000000 in
set_option maxRecDepth 100000 in
theorem highest_any (I : AImpl) {p : Value} {A : Ar} {rd : Int} {F : Nat → Prop} {i : Nat} {t : Tr} {l : List En} (lo hi : Int) (w : World) (hI : I.Is w p A rd F) (hT : TreeAt A i t l) (h0 : 0 ≤ rd) (h1 : rd ≤ 2199023255552) :
    Calls Try.prog 34 #[p, .int .u32 (i : Int), .int .i64 lo, .int .i64 hi] w (ReadsTo I p A rd F (t.ht : Int) (hiR A (hiT A.nd lo hi t)) w) := by
  obtain ⟨pa, rfl⟩ := I.ptr hI
  have hin : (Try.prog.info? 68).map (·.size) = some 8 := by kernel_rfl
  have HINF := Lib.hid hin
  have HUN : Hid _ := Lib.hid Try.underlying68
  have hLL := hT.len
  have hb := hT.bound
  obtain ⟨T, hTT⟩ : ∃ T, hiT A.nd lo hi t = T := ⟨_, rfl⟩
  rw [hTT]
  obtain ⟨held, hiv⟩ := hT.inv
  have hcap := hiv.ok.cap2
  have hhd := hT.held
  obtain ⟨U, hU⟩ : ∃ U, U + A.σ.free.length = A.σ.cap := ⟨A.σ.cap - A.σ.free.length, by omega⟩
  have HLP := fun (wx : World) (F1 : Nat → Prop) (hx : I.Is wx (.pointer (some pa)) A rd F1) => longestS_any I wx hx hU
  have HLP := Lib.hid HLP
  have HU : Hid (U ≤ 65536 ∧ t.size ≤ U) := ⟨by omega, by omega⟩
  have HOK := Lib.hid hiv.ok
  have HRD : Hid (0 ≤ rd ∧ rd ≤ 2199023255552 ∧ t.ht ≤ 65536) := ⟨h0, h1, hb.2⟩
  have HS0 := Lib.hid ((Ins.start hI).box #[Value.int .i64 0, .int .i64 0, .int .u32 0, .int .u32 0, .int .i64 0, .int .i64 0, .int .i64 0, .int .i64 0] 68)
  have HW0 : Hid (∀ g0 w', Ins I w F (.pointer (some pa)) A rd [] [(g0, Obj.cells (ndRow Nd.zero) 68 (0, 0))] w' → WayH I w F (.pointer (some pa)) A rd lo hi T (rd + (t.ht : Int)) U g0 (.int .u32 (i : Int)) (.int .i64 0) w') := fun g0 w' hs => ⟨i, 0, t, rd, rfl, rfl, hT.sub, hTT, Int.le_refl _, Int.le_refl _, by omega, hs⟩
  clear hI hT h0 h1 hb hTT hiv hcap hhd hU hLL hin
  go_enter Try.func34, Try.ntmps34
  go_upto_region 1 with fail
  generalize w.alloc (Obj.cells #[Value.int .i64 0, .int .i64 0, .int .u32 0, .int .u32 0, .int .i64 0, .int .i64 0, .int .i64 0, .int .i64 0] 68) = w2 at HS0 ⊢
  generalize hg0 : w.heap.size = g0 at HS0 ⊢
  clear hg0
  go_wp2_with fail
  obtain ⟨F1, f1, -, -⟩ := HS0.out.mr.has
  refine (HLP.out w2 F1 f1).mono ?_
  rintro e w3 ⟨rfl, hb3⟩
  have HW1 := Lib.hid (HW0.out g0 w3 (HS0.out.calm hb3))
  clear hb3 HW0 HS0 HLP f1 F1
  go_wp2_with fail
  go_loopw [10, 16] (fun x c wr => WayH I w F (.pointer (some pa)) A rd lo hi T (rd + (t.ht : Int)) U g0 x c wr) (fun _ c _ => U - (intOf c).toNat)
  case atStart => exact HW1.out
  case round =>
    clear HW1
    obtain ⟨i, n, u, rd1, rfl, rfl, hu, hg, hr0, hr1, hn, hs⟩ := hrel
    rcases Nat.lt_or_ge n U with hnu | hnu
    rotate_left
    · have hnu2 : decide ((n : Int) < (U : Int)) = false := decide_eq_false (by omega)
      have hu0 : u = .nil := by
        cases u with
        | nil => rfl
        | node i l r =>
          have : (Tr.node i l r).size = l.size + r.size + 1 := rfl
          omega
      subst hu0
      obtain rfl : Tr.nil = T := hg
      have hUn : ¬ n < U := Nat.not_lt.2 hnu
      obtain ⟨⟨z0, z1, z2, z3, z4, z5, z6, z7⟩, f0, f1, f2, f3, f4, f5, f6, f7⟩ := row8_of (hs.boxes _ (List.Mem.head _)).2
      have HE := Lib.hid (put8_same (Y := Nd.zero) (hs.boxes _ (List.Mem.head _)).2)
      have HS4 := Lib.hid (Ins.put (Y := Nd.zero) hs)
      have HR1 : Hid (rd ≤ rd1 ∧ rd1 ≤ rd + (t.ht : Int)) := ⟨hr0, by have : (Tr.nil.ht : Nat) = 0 := rfl; omega⟩
      clear hu hr0 hr1 hs hn hnu
      go_wp2_with fail
      refine bodyPost_ret (results_row_tmp rfl _ _ g0 68 (ndRow Nd.zero) (0, 0) _ rfl HE.out HUN.out rfl HINF.out) rfl ?_
      obtain ⟨F', hal, hI⟩ := HS4.out.ends
      exact ⟨F', rd1, rfl, hal, hI, HR1.out.1, HR1.out.2⟩
    have hnu2 : decide ((n : Int) < (U : Int)) = true := decide_eq_true (by omega)
    have hnu3 : (n : Int) < (U : Int) := by omega
    have hU4 : (U : Int) ≤ 65536 := by have := HU.out.1; omega
    have hn0 : (0 : Int) ≤ (n : Int) := by omega
    cases u with
    | nil =>
      obtain rfl : i = 0 := by
        cases hu with
        | nil => rfl
      obtain rfl : Tr.nil = T := hg
      have HR1 : Hid (rd ≤ rd1 ∧ rd1 ≤ rd + (t.ht : Int)) := ⟨hr0, by have : (Tr.nil.ht : Nat) = 0 := rfl; omega⟩
      have HS := Lib.hid hs
      have hoff : A.σ.on 0 = false := by
        cases hc : A.σ.on 0 with
        | false => rfl
        | true => have := HOK.out.on 0 hc; omega
      have HOFF := Lib.hid hoff
      clear hu hr0 hr1 hs hn hoff
      go_wp2_with fail
      refine (HS.out.node_no (by have := HR1.out; have := HRD.out; omega) (by have := HR1.out; have := HRD.out; omega) (by omega) HOFF.out).mono ?_
      rintro e w1 ⟨rfl, hs1⟩
      have hs2 := hs1.calm (below_new7 w1 (Obj.cells (ndRow Nd.zero) 68))
      clear hs1 HS
      unfold ndRow at hs2 ⊢
      go_upto_region 5 with fail
      generalize w1.alloc (Obj.cells #[Value.int .i64 Nd.zero.key, .int .i64 Nd.zero.val, .int .u32 (Nd.zero.left : Int), .int .u32 (Nd.zero.right : Int), .int .i64 Nd.zero.size, .int .i64 Nd.zero.sum, .int .i64 Nd.zero.mn, .int .i64 Nd.zero.mx] 68) = w2 at hs2 ⊢
      obtain ⟨⟨z0, z1, z2, z3, z4, z5, z6, z7⟩, f0, f1, f2, f3, f4, f5, f6, f7⟩ := row8_of (X := Nd.zero) (hs2.boxes _ (List.Mem.head _)).2
      have HE := Lib.hid (put8_same (X := Nd.zero) (Y := Nd.zero) (hs2.boxes _ (List.Mem.head _)).2)
      have HS4 := Lib.hid (Ins.put (X := Nd.zero) (Y := Nd.zero) hs2)
      clear hs2
      go_wp2_with fail
      refine bodyPost_ret (results_row_tmp rfl _ _ g0 68 (ndRow Nd.zero) (0, 0) _ rfl HE.out HUN.out rfl HINF.out) rfl ?_
      obtain ⟨F', hal, hI⟩ := HS4.out.ends
      exact ⟨F', rd1, rfl, hal, hI, HR1.out.1, HR1.out.2⟩
    | node i2 l2 r2 =>
      obtain ⟨rfl, h0, hon, hsl, hsr⟩ : i2 = i ∧ i ≠ 0 ∧ A.σ.on i = true ∧ Sub A (A.nd i).left l2 ∧ Sub A (A.nd i).right r2 := by
        cases hu with
        | node _ _ _ h1 h2 h3 h4 => exact ⟨rfl, h1, h2, h3, h4⟩
      have hi4 : i2 < 4294967296 := by have := HOK.out.on i2 hon; have := HOK.out.cap2; omega
      have hht : (Tr.node i2 l2 r2).ht = 1 + max l2.ht r2.ht := rfl
      rw [show (Tr.node i2 l2 r2).size = l2.size + r2.size + 1 from rfl] at hn
      unfold hiT at hg
      have HSL := Lib.hid hsl
      have HSR := Lib.hid hsr
      have HON := Lib.hid hon
      have HI4 : Hid (i2 < 4294967296) := hi4
      have HNN : Hid (n + 1 + l2.size ≤ U ∧ n + 1 + r2.size ≤ U) := ⟨by omega, by omega⟩
      have HR1 : Hid (rd ≤ rd1 ∧ rd1 + 1 + (l2.ht : Int) ≤ rd + (t.ht : Int) ∧ rd1 + 1 + (r2.ht : Int) ≤ rd + (t.ht : Int)) := ⟨hr0, by omega, by omega⟩
      have HS := Lib.hid hs
      have HG := Lib.hid hg
      clear hu hg hr0 hr1 hs h0 hon hsl hsr hi4 hht hn
      go_wp2_with fail
      refine (HS.out.node (by have := HR1.out; have := HRD.out; omega) (by have := HR1.out; have := HRD.out; omega) HI4.out HON.out).mono ?_
      rintro e w1 ⟨rfl, hs1⟩
      have hs2 := hs1.box (ndRow (A.nd i2)) 68
      clear hs1 HS
      unfold ndRow
      go_upto_region 5 with fail
      rw [show #[Value.int .i64 (A.nd i2).key, .int .i64 (A.nd i2).val, .int .u32 ((A.nd i2).left : Int), .int .u32 ((A.nd i2).right : Int), .int .i64 (A.nd i2).size, .int .i64 (A.nd i2).sum, .int .i64 (A.nd i2).mn, .int .i64 (A.nd i2).mx] = ndRow (A.nd i2) from rfl]
      generalize w1.alloc (Obj.cells (ndRow (A.nd i2)) 68) = w2 at hs2 ⊢
      generalize w1.heap.size = g at hs2 ⊢
      obtain ⟨X, hX⟩ : ∃ X, A.nd i2 = X := ⟨_, rfl⟩
      have HX := Lib.hid hX
      obtain ⟨⟨x0, x1, x2, x3, x4, x5, x6, x7⟩, -⟩ := row8_of (hs2.boxes _ (List.Mem.head _)).2
      have hg := HG.out
      rw [hX] at hg x0 x1 x2 x3 x4 x5 x6 x7 hs2
      have HS2 := Lib.hid hs2
      have h1 : X.key < lo ∨ ¬ X.key < lo := Decidable.em _
      rcases h1 with h1 | h1
      · rw [if_pos h1] at hg
        have q1 : decide (X.key < lo) = true := decide_eq_true h1
        have HEND : Hid (WayH I w F (.pointer (some pa)) A rd lo hi T (rd + (t.ht : Int)) U g0 (.int .u32 (X.right : Int)) (.int .i64 ((n + 1 : Nat) : Int)) w2) :=
          ⟨_, n + 1, r2, rd1 + 1, rfl, rfl, by rw [← hX]; exact HSR.out, hg, by have := HR1.out; omega, by have := HR1.out; omega, HNN.out.2, HS2.out.less (List.Sublist.refl _) (List.sublist_cons_self _ _)⟩
        clear h1 hg hX hs2
        go_wp2_with fail
        exact ⟨by rw [show ((n : Int) + 1) = ((n + 1 : Nat) : Int) by omega]; exact HEND.out, by simp [intOf]; omega⟩
      rw [if_neg h1] at hg
      have q1 : decide (X.key < lo) = false := decide_eq_false h1
      have h2 : hi < X.key ∨ ¬ hi < X.key := Decidable.em _
      rcases h2 with h2 | h2
      · rw [if_pos h2] at hg
        have q2 : decide (X.key > hi) = true := decide_eq_true h2
        have q3 : decide (hi < X.key) = true := decide_eq_true h2
        have HEND : Hid (WayH I w F (.pointer (some pa)) A rd lo hi T (rd + (t.ht : Int)) U g0 (.int .u32 (X.left : Int)) (.int .i64 ((n + 1 : Nat) : Int)) w2) :=
          ⟨_, n + 1, l2, rd1 + 1, rfl, rfl, by rw [← hX]; exact HSL.out, hg, by have := HR1.out; omega, by have := HR1.out; omega, HNN.out.1, HS2.out.less (List.Sublist.refl _) (List.sublist_cons_self _ _)⟩
        clear h1 h2 hg hX hs2
        go_wp2_with fail
        exact ⟨by rw [show ((n : Int) + 1) = ((n + 1 : Nat) : Int) by omega]; exact HEND.out, by simp [intOf]; omega⟩
      rw [if_neg h2] at hg
      have q2 : decide (X.key > hi) = false := decide_eq_false h2
      have q3 : decide (hi < X.key) = false := decide_eq_false h2
      subst hg
      obtain ⟨⟨z0, z1, z2, z3, z4, z5, z6, z7⟩, f0, f1, f2, f3, f4, f5, f6, f7⟩ := row8_of (hs2.boxes _ (List.Mem.tail _ (List.Mem.head _))).2
      have HE := Lib.hid (put8_same (Y := X) (hs2.boxes _ (List.Mem.tail _ (List.Mem.head _))).2)
      have HS4 := Lib.hid (Ins.put (Y := X) (hs2.perm (List.Perm.swap _ _ _)))
      have HRR : Hid (hiR A (.node i2 l2 r2) = .tuple #[.agg (ndRow X), .bool true]) := by show Value.tuple #[Value.agg (ndRow (A.nd i2)), Value.bool true] = _; rw [hX]
      clear h1 h2 hX hs2
      go_wp2_with fail
      refine bodyPost_ret (results_row_tmp rfl _ _ g0 68 (ndRow X) (0, 0) _ rfl HE.out HUN.out rfl HINF.out) rfl ?_
      rw [HRR.out]
      obtain ⟨F', hal, hI⟩ := HS4.out.ends
      exact ⟨F', rd1 + 1, rfl, hal, hI, by have := HR1.out; omega, by have := HR1.out; omega⟩
theorem sum_mid (L R : List En) (e : En) (h : Few (L ++ e :: R)) : addS (addS (sumE L) (sumE R)) (sumE [e]) = sumE (L ++ e :: R) := by
  have h2 := h.2
  simp only [List.length_append, List.length_cons] at h2
  rw [sum_app L R (by omega), sum_app (L ++ R) [e] (by simp; omega), List.append_assoc, ← sum_app L (R ++ [e]) (by simp; omega), ← sum_app R [e] (by simp; omega), sum_swap [e] R (by simp; omega), sum_app L ([e] ++ R) (by simp; omega)]
  rfl
set_option maxHeartbeats 8000000 in
set_option maxRecDepth 100000 in
theorem rangeP_any (I : AImpl) {p : Value} {A : Ar} {rd : Int} {F : Nat → Prop} {i : Nat} {t : Tr} {l : List En} (lo hi : Int) (w : World) (hI : I.Is w p A rd F) (hT : TreeAt A i t l) (h0 : 0 ≤ rd) (h1 : rd ≤ 1099511627776) (hv : ∀ e ∈ l, i64R e.val) :
    Calls Try.prog 19 #[p, .int .u32 (i : Int), .int .i64 lo, .int .i64 hi] w (ReadsTo I p A rd F (5 * (t.ht : Int)) (.agg (smA (sumE (betE l lo hi)))) w) := by
  obtain ⟨pa, rfl⟩ := I.ptr hI
  have hin : (Try.prog.info? 25).map (·.size) = some 4 := by kernel_rfl
  have HINF := Lib.hid hin
  have HUN : Hid _ := Lib.hid Try.underlying25
  have hb := hT.bound
  obtain ⟨j, m, hM, hbet, hmem, hht⟩ := hiT_tree lo hi t i l hT
  have hvm : ∀ e ∈ m, i64R e.val := fun e he => hv e (hmem e he)
  have HH := Lib.hid (highest_any I lo hi w hI hT h0 (by omega))
  rw [hbet]
  obtain ⟨u, hu⟩ : ∃ u, hiT A.nd lo hi t = u := ⟨_, rfl⟩
  rw [hu] at hM hht HH
  have HRD : Hid (0 ≤ rd ∧ rd ≤ 1099511627776 ∧ t.ht ≤ 65536) := ⟨h0, h1, hb.2⟩
  have HS0 := Lib.hid ((Ins.start hI).box #[.int .i64 0, .int .i64 0, .int .i64 0, .int .i64 0] 25)
  have HHI : Hid (∀ (wx : World) (F1 : Nat → Prop), I.Is wx (.pointer (some pa)) A rd F1 → Calls Try.prog 34 #[.pointer (some pa), .int .u32 (i : Int), .int .i64 lo, .int .i64 hi] wx (ReadsTo I (.pointer (some pa)) A rd F1 (t.ht : Int) (hiR A u) wx)) := fun wx F1 hx => hu ▸ highest_any I lo hi wx hx hT h0 (by omega)
  cases u with
  | nil =>
    have hm : m = [] := by rw [← hM.ents]; rfl
    subst hm
    have HSE : Hid (sumE (betE [] lo hi) = .z) := sumE_nil
    clear hI hT h0 h1 hb hM hbet hmem hvm hu hin HH hht hv
    go_enter Try.func19, Try.ntmps19
    go_upto_region 1 with fail
    generalize w.alloc (Obj.cells #[.int .i64 0, .int .i64 0, .int .i64 0, .int .i64 0] 25) = w1 at HS0 ⊢
    generalize hg0 : w.heap.size = g0 at HS0 ⊢
    clear hg0
    go_wp2_with fail
    refine (HS0.out.call fun F1 hx => HHI.out w1 F1 hx).mono ?_
    unfold hiR
    rintro e w2 ⟨rfl, rd2, hs2, h21, h22⟩
    have hs3 := hs2.calm (below_new7 w2 (Obj.cells (ndRow Nd.zero) 68))
    have HR1 : Hid (rd ≤ rd2 ∧ rd2 ≤ rd + 5 * (t.ht : Int)) := ⟨h21, by omega⟩
    clear hs2 HS0 h21 h22
    unfold ndRow at hs3 ⊢
    go_upto_region 2 with fail
    generalize w2.alloc (Obj.cells #[Value.int .i64 Nd.zero.key, .int .i64 Nd.zero.val, .int .u32 (Nd.zero.left : Int), .int .u32 (Nd.zero.right : Int), .int .i64 Nd.zero.size, .int .i64 Nd.zero.sum, .int .i64 Nd.zero.mn, .int .i64 Nd.zero.mx] 68) = w3 at hs3 ⊢
    obtain ⟨⟨z0, z1, z2, z3⟩, f0, f1, f2, f3⟩ := row4_z (hs3.boxes _ (List.Mem.head _)).2
    have HE := Lib.hid (put4_same (X := .z) (Y := .z) (hs3.boxes _ (List.Mem.head _)).2)
    have HS4 := Lib.hid (Ins.put4 (X := .z) (Y := .z) hs3)
    clear hs3
    go_wp2_with fail
    refine bodyPost_ret (results_cell_row rfl _ _ g0 25 (smA .z) (0, 0) _ rfl HE.out HUN.out rfl HINF.out) rfl ?_
    rw [HSE.out]
    obtain ⟨F', hal, hI⟩ := HS4.out.ends
    exact ⟨F', rd2, rfl, hal, hI, HR1.out.1, HR1.out.2⟩
  | node i2 l2 r2 =>
    obtain rfl : i2 = j := by
      cases hM.sub with
      | node _ _ _ h1 h2 h3 h4 => rfl
    obtain ⟨hkl, hkr⟩ := hM.kids
    obtain ⟨hlo, hhi⟩ := hiT_in hu
    have hm := hM.ents
    rw [Tr.ents_node] at hm
    have hup := hM.up
    rw [← hm] at hup
    have hbn := (bet_node hup lo hi).2.2 hlo hhi
    rw [hm] at hbn
    obtain ⟨X, hX⟩ : ∃ X, A.nd i2 = X := ⟨_, rfl⟩
    rw [hX] at hkl hkr hbn hm
    have hfm := hM.few hvm
    have hfb : Few (betE m lo hi) := hfm.sub (fun e he => bet_mem he) (bet_len m lo hi)
    rw [hbn] at hfb
    have hh2 : (Tr.node i2 l2 r2).ht = 1 + max l2.ht r2.ht := rfl
    have hvl : ∀ e ∈ l2.ents A.nd, i64R e.val := fun e he => hvm e (by rw [← hm]; simp [he])
    have hvr : ∀ e ∈ r2.ents A.nd, i64R e.val := fun e he => hvm e (by rw [← hm]; simp [he])
    have HHT : Hid ((l2.ht : Int) + 1 ≤ t.ht ∧ (r2.ht : Int) + 1 ≤ t.ht) := ⟨by omega, by omega⟩
    obtain ⟨TL, hTL⟩ : ∃ T, sumE (geE (l2.ents A.nd) lo) = T := ⟨_, rfl⟩
    obtain ⟨TR, hTR⟩ : ∃ T, sumE (leE (r2.ents A.nd) hi) = T := ⟨_, rfl⟩
    have HAL : Hid (∀ (wx : World) (rdx : Int) (F1 : Nat → Prop), I.Is wx (.pointer (some pa)) A rdx F1 → (0 ≤ rdx ∧ rdx ≤ 2199023255552) → Calls Try.prog 35 #[.pointer (some pa), .int .u32 (X.left : Int), .int .i64 lo] wx (ReadsTo I (.pointer (some pa)) A rdx F1 (2 * (l2.ht : Int)) (.agg (smA TL)) wx)) := fun wx rdx F1 hx hr => hTL ▸ atLeast_any I lo wx hx hkl hr.1 hr.2 hvl
    have HAM : Hid (∀ (wx : World) (rdx : Int) (F1 : Nat → Prop), I.Is wx (.pointer (some pa)) A rdx F1 → (0 ≤ rdx ∧ rdx ≤ 2199023255552) → Calls Try.prog 36 #[.pointer (some pa), .int .u32 (X.right : Int), .int .i64 hi] wx (ReadsTo I (.pointer (some pa)) A rdx F1 (2 * (r2.ht : Int)) (.agg (smA TR)) wx)) := fun wx rdx F1 hx hr => hTR ▸ atMost_any I hi wx hx hkr hr.1 hr.2 hvr
    obtain ⟨T, hTA⟩ : ∃ T, addS TL TR = T := ⟨_, rfl⟩
    have HSUM : Hid (addS TL TR = T ∧ addS T (oneS X.val) = sumE (betE m lo hi) ∧ TL.wf ∧ TR.wf ∧ T.wf ∧ (oneS X.val).wf) := by
      have h7 := hfb.2
      simp only [List.length_append, List.length_cons] at h7
      have hgr : Few (geE (l2.ents A.nd) lo ++ leE (r2.ents A.nd) hi) := hfb.sub (fun e he => by rcases List.mem_append.1 he with he | he <;> simp [he]) (by simp only [List.length_append, List.length_cons]; omega)
      have hone : Few [(⟨X.key, X.val⟩ : En)] := hfb.sub (fun e he => by simp at he; simp [he]) (by simp only [List.length_append, List.length_cons, List.length_nil]; omega)
      have h8 := oneS_sum (e := (⟨X.key, X.val⟩ : En)) (hone.1 _ (by simp))
      rw [show (⟨X.key, X.val⟩ : En).val = X.val from rfl] at h8
      refine ⟨hTA, ?_, by rw [← hTL]; exact hgr.left.wf, by rw [← hTR]; exact hgr.right.wf, by rw [← hTA, ← hTL, ← hTR, hgr.app]; exact hgr.wf, by rw [← h8]; exact hone.wf⟩
      rw [← hTA, ← hTL, ← hTR, ← h8, hbn]
      exact sum_mid _ _ _ hfb
    have HX := Lib.hid hX
    obtain ⟨TT, hTT⟩ : ∃ S, sumE (betE m lo hi) = S := ⟨_, rfl⟩
    rw [hTT] at HSUM ⊢
    clear hTT
    clear hI hT h0 h1 hb hM hbet hmem hvm hu hin HH hht hv hkl hkr hlo hhi hm hup hbn hX hfm hfb hh2 hvl hvr hTL hTR hTA
    go_enter Try.func19, Try.ntmps19
    go_upto_region 1 with fail
    generalize w.alloc (Obj.cells #[.int .i64 0, .int .i64 0, .int .i64 0, .int .i64 0] 25) = w1 at HS0 ⊢
    generalize hg0 : w.heap.size = g0 at HS0 ⊢
    clear hg0
    go_wp2_with fail
    refine (HS0.out.call fun F1 hx => HHI.out w1 F1 hx).mono ?_
    rintro e w2 ⟨rfl, rd2, hs2, h21, h22⟩
    rw [show hiR A (.node i2 l2 r2) = .tuple #[.agg (ndRow X), .bool true] by show Value.tuple #[Value.agg (ndRow (A.nd i2)), Value.bool true] = _; rw [HX.out]]
    have hs3 := hs2.box (ndRow X) 68
    have HR1 : Hid (rd ≤ rd2 ∧ rd2 ≤ rd + (t.ht : Int) ∧ 0 ≤ rd ∧ rd ≤ 1099511627776 ∧ (l2.ht : Int) + 1 ≤ t.ht ∧ (r2.ht : Int) + 1 ≤ t.ht ∧ (t.ht : Int) ≤ 65536) := ⟨h21, h22, HRD.out.1, HRD.out.2.1, HHT.out.1, HHT.out.2, by have := HRD.out; omega⟩
    clear hs2 HS0 h21 h22 HHI
    unfold ndRow
    go_upto_region 2 with fail
    rw [show #[Value.int .i64 X.key, .int .i64 X.val, .int .u32 (X.left : Int), .int .u32 (X.right : Int), .int .i64 X.size, .int .i64 X.sum, .int .i64 X.mn, .int .i64 X.mx] = ndRow X from rfl]
    generalize w2.alloc (Obj.cells (ndRow X) 68) = w3 at hs3 ⊢
    generalize w2.heap.size = g at hs3 ⊢
    obtain ⟨⟨-, x1, x2, x3, -⟩, -⟩ := row8_of (hs3.boxes _ (List.Mem.head _)).2
    have HCEL : Hid (∀ (wx : World) (rdx : Int) (bs : List (Nat × Obj)), Ins I w F (.pointer (some pa)) A rdx [] ((g, Obj.cells (ndRow X) 68 (0, 0)) :: bs) wx → wx.cell? ⟨g, 2, none⟩ = some (.int .u32 (X.left : Int)) ∧ wx.cell? ⟨g, 3, none⟩ = some (.int .u32 (X.right : Int))) := fun wx rdx bs hx => by
      obtain ⟨⟨-, x1, x2, x3, -⟩, -⟩ := row8_of (hx.boxes _ (List.Mem.head _)).2
      exact ⟨x2, x3⟩
    have HCEL2 : Hid (∀ (wx : World) (rdx : Int) (bs : List (Nat × Obj)) (b : Unit), Ins I w F (.pointer (some pa)) A rdx [] ((g, Obj.cells (ndRow X) 68 (0, 0)) :: bs) wx → wx.cell? ⟨g, 2, none⟩ = some (.int .u32 (X.left : Int)) ∧ wx.cell? ⟨g, 3, none⟩ = some (.int .u32 (X.right : Int))) := fun wx rdx bs _ hx => HCEL.out wx rdx bs hx
    have PM : Hid (∀ {a b c : Nat × Obj}, [a, b, c].Perm [b, a, c]) := fun {a b c} => List.Perm.swap _ _ _
    have HS3 := Lib.hid hs3
    clear hs3
    go_upto_region 4 with fail
    go_cut [11] from 23 to 34 (fun b wx => ∃ (gb : Nat) (rdx : Int), b = .pointer (some ⟨gb, 0, none⟩) ∧ rd ≤ rdx ∧ rdx ≤ rd + 5 * (t.ht : Int) ∧ Ins I w F (.pointer (some pa)) A rdx [] [(g, Obj.cells (ndRow X) 68 (0, 0)), (gb, Obj.cells (smA T) 25 (0, 0)), (g0, Obj.cells (smA .z) 25 (0, 0))] wx)
    case first =>
      have hsd := HS3.out.calm (Below.refl _ _).drew
      refine wp_region_noPanic ?_
      refine anyG_begin (S := (fun w' => w'.cell? ⟨g, 2, none⟩ = some (.int .u32 (X.left : Int)) ∧ w'.cell? ⟨g, 3, none⟩ = some (.int .u32 (X.right : Int)))) (z := 12) (by kernel_rfl) (HCEL.out _ _ _ hsd) (fun hHeld => ?_)
      generalize World.drew _ = wd at hsd hHeld ⊢
      refine anyG_take (k := 0) (o := _) (v := ?_) (some 23) rfl (by kernel_rfl) (by kernel_rfl) (by kernel_rfl) (by kernel_rfl) (fun _ _ _ h => h) (Or.inl ⟨by rfl, ?_⟩) (by assumption) (by kernel_rfl) ?_
      rotate_left
      · intro w hSw; (try dsimp only at hSw); go_simp; try with_reducible rfl
      (try simp only [Act.put, List.setIfInBounds_toArray, List.set_cons_zero, List.set_cons_succ])
      refine anyG_take (k := 1) (o := _) (v := ?_) (some 24) rfl (by kernel_rfl) (by kernel_rfl) (by kernel_rfl) (by kernel_rfl) (fun _ _ _ h => h) (Or.inl ⟨by rfl, ?_⟩) (by assumption) (by kernel_rfl) ?_
      rotate_left
      · intro w hSw; (try dsimp only at hSw); go_simp; try with_reducible rfl
      (try simp only [Act.put, List.setIfInBounds_toArray, List.set_cons_zero, List.set_cons_succ])
      refine anyG_take (k := 2) (o := _) (v := ?_) (some 25) rfl (by kernel_rfl) (by kernel_rfl) (by kernel_rfl) (by kernel_rfl) (fun _ _ _ h => h) (Or.inl ⟨by rfl, ?_⟩) (by assumption) (by kernel_rfl) ?_
      rotate_left
      · intro w hSw; (try dsimp only at hSw); go_simp; try with_reducible rfl
      (try simp only [Act.put, List.setIfInBounds_toArray, List.set_cons_zero, List.set_cons_succ])
      refine anyG_take (k := 3) (o := _) (v := ?_) (some 26) rfl (by kernel_rfl) (by kernel_rfl) (by kernel_rfl) (by kernel_rfl) (fun _ _ _ h => h) (Or.inl ⟨by rfl, ?_⟩) (by assumption) (by kernel_rfl) ?_
      rotate_left
      · intro w hSw; (try dsimp only at hSw); go_simp; try with_reducible rfl
      (try simp only [Act.put, List.setIfInBounds_toArray, List.set_cons_zero, List.set_cons_succ])
      refine anyG_take (k := 5) (o := _) (v := ?_) (some 28) rfl (by kernel_rfl) (by kernel_rfl) (by kernel_rfl) (by kernel_rfl) (fun _ _ _ h => h) (Or.inl ⟨by rfl, ?_⟩) (by assumption) (by kernel_rfl) ?_
      rotate_left
      · intro w hSw; (try dsimp only at hSw); go_simp; try with_reducible rfl
      (try simp only [Act.put, List.setIfInBounds_toArray, List.set_cons_zero, List.set_cons_succ])
      refine anyG_take (k := 6) (o := _) (v := ?_) (some 29) rfl (by kernel_rfl) (by kernel_rfl) (by kernel_rfl) (by kernel_rfl) (fun _ _ _ h => h) (Or.inl ⟨by rfl, ?_⟩) (by assumption) (by kernel_rfl) ?_
      rotate_left
      · intro w hSw; (try dsimp only at hSw); go_simp; try with_reducible rfl
      (try simp only [Act.put, List.setIfInBounds_toArray, List.set_cons_zero, List.set_cons_succ])
      refine anyG_take (k := 7) (o := _) (v := ?_) (some 30) rfl (by kernel_rfl) (by kernel_rfl) (by kernel_rfl) (by kernel_rfl) (fun _ _ _ h => h) (Or.inl ⟨by rfl, ?_⟩) (by assumption) (by kernel_rfl) ?_
      rotate_left
      · intro w hSw; (try dsimp only at hSw); go_simp; try with_reducible rfl
      (try simp only [Act.put, List.setIfInBounds_toArray, List.set_cons_zero, List.set_cons_succ])
      refine anyG_take (k := 8) (o := _) (v := ?_) (some 31) rfl (by kernel_rfl) (by kernel_rfl) (by kernel_rfl) (by kernel_rfl) (fun _ _ _ h => h) (Or.inl ⟨by rfl, ?_⟩) (by assumption) (by kernel_rfl) ?_
      rotate_left
      · intro w hSw; (try dsimp only at hSw); go_simp; try with_reducible rfl
      (try simp only [Act.put, List.setIfInBounds_toArray, List.set_cons_zero, List.set_cons_succ])
      refine anyG_two (j := 4) (k := 11) (by kernel_rfl) ?_ ?_
      · refine stepG_of (k := 4) (o := _) rfl (fun KT hKT => ?_)
        go_simp
        go_at_call 35
        refine (hsd.call fun F1 hx => HAL.out _ _ F1 hx (by have := HR1.out; omega)).mono ?_
        rintro eA wA ⟨rfl, rdA, hsA, hA1, hA2⟩
        try go_wp2_with fail
        refine hKT.out _ _ (HCEL.out _ _ _ hsA) (fun hHeld => ?_)
        clear hKT KT
        (try simp only [Act.put, List.setIfInBounds_toArray, List.set_cons_zero, List.set_cons_succ])
        refine anyG_two (j := 9) (k := 11) (by kernel_rfl) ?_ ?_
        · refine stepG_of (k := 9) (o := _) rfl (fun KT hKT => ?_)
          go_simp
          go_at_call 36
          refine (hsA.call fun F1 hx => HAM.out _ _ F1 hx (by have := HR1.out; omega)).mono ?_
          rintro eB wB ⟨rfl, rdB, hsB, hB1, hB2⟩
          try go_wp2_with fail
          refine hKT.out _ _ (HCEL.out _ _ _ hsB) (fun hHeld => ?_)
          clear hKT KT
          (try simp only [Act.put, List.setIfInBounds_toArray, List.set_cons_zero, List.set_cons_succ])
          refine anyG_two (j := 10) (k := 11) (by kernel_rfl) ?_ ?_
          · refine stepG_of (k := 10) (o := _) rfl (fun KT hKT => ?_)
            go_simp
            go_at_call 12
            refine (addP_any _ _ _ HSUM.out.2.2.1 HSUM.out.2.2.2.1).mono ?_
            rintro eC wC ⟨rfl, hbC⟩
            rw [HSUM.out.1, smA_at]
            have hsC := hsB.calm hbC
            try go_wp2_with fail
            refine hKT.out _ _ (HCEL.out _ _ _ hsC) (fun hHeld => ?_)
            clear hKT KT
            (try simp only [Act.put, List.setIfInBounds_toArray, List.set_cons_zero, List.set_cons_succ])
            refine anyG_one (k := 11) (o := _) (by kernel_rfl) rfl (fun KT hKT => ?_)
            go_simp
            have hsL0 := hsC.box #[.int .i64 0, .int .i64 0, .int .i64 0, .int .i64 0] 25
            have hsL := hsL0.perm PM.out
            try go_wp2_with fail
            refine hKT.out _ _ (HCEL2.out _ _ _ () hsL) (fun hHeld => ?_)
            clear hKT KT
            (try simp only [Act.put, List.setIfInBounds_toArray, List.set_cons_zero, List.set_cons_succ])
            refine anyG_last (o := _) (by kernel_rfl) (by kernel_rfl) rfl (fun KT hKT => ?_)
            obtain ⟨⟨q0, q1, q2, q3⟩, p0, p1, p2, p3⟩ := row4_z (hsL.boxes _ (List.Mem.tail _ (List.Mem.head _))).2
            go_simp
            refine hKT.out _ _ ?_
            clear hKT KT
            (try simp only [Act.put, List.setIfInBounds_toArray, List.set_cons_zero, List.set_cons_succ])
            refine NoPanic.normal ?_
            go_wp2_with fail
            go_meet
            exact ⟨_, rdB, rfl, by have := HR1.out; omega, by have := HR1.out; omega, (hsC.box (smA T) 25).perm (List.Perm.swap _ _ _)⟩
          · refine stepG_of (k := 11) (o := _) rfl (fun KT hKT => ?_)
            go_simp
            have hsL20 := hsB.box #[.int .i64 0, .int .i64 0, .int .i64 0, .int .i64 0] 25
            have hsL2 := hsL20.perm PM.out
            try go_wp2_with fail
            refine hKT.out _ _ (HCEL2.out _ _ _ () hsL2) (fun hHeld => ?_)
            clear hKT KT
            (try simp only [Act.put, List.setIfInBounds_toArray, List.set_cons_zero, List.set_cons_succ])
            refine anyG_one (k := 10) (o := _) (by kernel_rfl) rfl (fun KT hKT => ?_)
            go_simp
            go_at_call 12
            refine (addP_any _ _ _ HSUM.out.2.2.1 HSUM.out.2.2.2.1).mono ?_
            rintro eC wC ⟨rfl, hbC⟩
            rw [HSUM.out.1, smA_at]
            have hsCL := hsL2.calm hbC
            try go_wp2_with fail
            refine hKT.out _ _ (HCEL2.out _ _ _ () hsCL) (fun hHeld => ?_)
            clear hKT KT
            (try simp only [Act.put, List.setIfInBounds_toArray, List.set_cons_zero, List.set_cons_succ])
            refine anyG_last (o := _) (by kernel_rfl) (by kernel_rfl) rfl (fun KT hKT => ?_)
            obtain ⟨⟨q0, q1, q2, q3⟩, p0, p1, p2, p3⟩ := row4_z (hsCL.boxes _ (List.Mem.tail _ (List.Mem.head _))).2
            go_simp
            refine hKT.out _ _ ?_
            clear hKT KT
            (try simp only [Act.put, List.setIfInBounds_toArray, List.set_cons_zero, List.set_cons_succ])
            refine NoPanic.normal ?_
            go_wp2_with fail
            go_meet
            exact ⟨_, rdB, rfl, by have := HR1.out; omega, by have := HR1.out; omega, (Ins.put4 (X := .z) (Y := T) (hsCL.perm (List.Perm.swap _ _ _))).perm (List.Perm.swap _ _ _)⟩
        · refine stepG_of (k := 11) (o := _) rfl (fun KT hKT => ?_)
          go_simp
          have hsL10 := hsA.box #[.int .i64 0, .int .i64 0, .int .i64 0, .int .i64 0] 25
          have hsL1 := hsL10.perm PM.out
          try go_wp2_with fail
          refine hKT.out _ _ (HCEL2.out _ _ _ () hsL1) (fun hHeld => ?_)
          clear hKT KT
          (try simp only [Act.put, List.setIfInBounds_toArray, List.set_cons_zero, List.set_cons_succ])
          refine anyG_one (k := 9) (o := _) (by kernel_rfl) rfl (fun KT hKT => ?_)
          go_simp
          go_at_call 36
          refine (hsL1.call fun F1 hx => HAM.out _ _ F1 hx (by have := HR1.out; omega)).mono ?_
          rintro eB wB ⟨rfl, rdB, hsBL, hB1, hB2⟩
          try go_wp2_with fail
          refine hKT.out _ _ (HCEL2.out _ _ _ () hsBL) (fun hHeld => ?_)
          clear hKT KT
          (try simp only [Act.put, List.setIfInBounds_toArray, List.set_cons_zero, List.set_cons_succ])
          refine anyG_one (k := 10) (o := _) (by kernel_rfl) rfl (fun KT hKT => ?_)
          go_simp
          go_at_call 12
          refine (addP_any _ _ _ HSUM.out.2.2.1 HSUM.out.2.2.2.1).mono ?_
          rintro eC wC ⟨rfl, hbC⟩
          rw [HSUM.out.1, smA_at]
          have hsCL := hsBL.calm hbC
          try go_wp2_with fail
          refine hKT.out _ _ (HCEL2.out _ _ _ () hsCL) (fun hHeld => ?_)
          clear hKT KT
          (try simp only [Act.put, List.setIfInBounds_toArray, List.set_cons_zero, List.set_cons_succ])
          refine anyG_last (o := _) (by kernel_rfl) (by kernel_rfl) rfl (fun KT hKT => ?_)
          obtain ⟨⟨q0, q1, q2, q3⟩, p0, p1, p2, p3⟩ := row4_z (hsCL.boxes _ (List.Mem.tail _ (List.Mem.head _))).2
          go_simp
          refine hKT.out _ _ ?_
          clear hKT KT
          (try simp only [Act.put, List.setIfInBounds_toArray, List.set_cons_zero, List.set_cons_succ])
          refine NoPanic.normal ?_
          go_wp2_with fail
          go_meet
          exact ⟨_, rdB, rfl, by have := HR1.out; omega, by have := HR1.out; omega, (Ins.put4 (X := .z) (Y := T) (hsCL.perm (List.Perm.swap _ _ _))).perm (List.Perm.swap _ _ _)⟩
      · refine stepG_of (k := 11) (o := _) rfl (fun KT hKT => ?_)
        go_simp
        have hsL00 := hsd.box #[.int .i64 0, .int .i64 0, .int .i64 0, .int .i64 0] 25
        have hsL0 := hsL00.perm PM.out
        try go_wp2_with fail
        refine hKT.out _ _ (HCEL2.out _ _ _ () hsL0) (fun hHeld => ?_)
        clear hKT KT
        (try simp only [Act.put, List.setIfInBounds_toArray, List.set_cons_zero, List.set_cons_succ])
        refine anyG_one (k := 4) (o := _) (by kernel_rfl) rfl (fun KT hKT => ?_)
        go_simp
        go_at_call 35
        refine (hsL0.call fun F1 hx => HAL.out _ _ F1 hx (by have := HR1.out; omega)).mono ?_
        rintro eA wA ⟨rfl, rdA, hsAL, hA1, hA2⟩
        try go_wp2_with fail
        refine hKT.out _ _ (HCEL2.out _ _ _ () hsAL) (fun hHeld => ?_)
        clear hKT KT
        (try simp only [Act.put, List.setIfInBounds_toArray, List.set_cons_zero, List.set_cons_succ])
        refine anyG_one (k := 9) (o := _) (by kernel_rfl) rfl (fun KT hKT => ?_)
        go_simp
        go_at_call 36
        refine (hsAL.call fun F1 hx => HAM.out _ _ F1 hx (by have := HR1.out; omega)).mono ?_
        rintro eB wB ⟨rfl, rdB, hsBL, hB1, hB2⟩
        try go_wp2_with fail
        refine hKT.out _ _ (HCEL2.out _ _ _ () hsBL) (fun hHeld => ?_)
        clear hKT KT
        (try simp only [Act.put, List.setIfInBounds_toArray, List.set_cons_zero, List.set_cons_succ])
        refine anyG_one (k := 10) (o := _) (by kernel_rfl) rfl (fun KT hKT => ?_)
        go_simp
        go_at_call 12
        refine (addP_any _ _ _ HSUM.out.2.2.1 HSUM.out.2.2.2.1).mono ?_
        rintro eC wC ⟨rfl, hbC⟩
        rw [HSUM.out.1, smA_at]
        have hsCL := hsBL.calm hbC
        try go_wp2_with fail
        refine hKT.out _ _ (HCEL2.out _ _ _ () hsCL) (fun hHeld => ?_)
        clear hKT KT
        (try simp only [Act.put, List.setIfInBounds_toArray, List.set_cons_zero, List.set_cons_succ])
        refine anyG_last (o := _) (by kernel_rfl) (by kernel_rfl) rfl (fun KT hKT => ?_)
        obtain ⟨⟨q0, q1, q2, q3⟩, p0, p1, p2, p3⟩ := row4_z (hsCL.boxes _ (List.Mem.tail _ (List.Mem.head _))).2
        go_simp
        refine hKT.out _ _ ?_
        clear hKT KT
        (try simp only [Act.put, List.setIfInBounds_toArray, List.set_cons_zero, List.set_cons_succ])
        refine NoPanic.normal ?_
        go_wp2_with fail
        go_meet
        exact ⟨_, rdB, rfl, by have := HR1.out; omega, by have := HR1.out; omega, (Ins.put4 (X := .z) (Y := T) (hsCL.perm (List.Perm.swap _ _ _))).perm (List.Perm.swap _ _ _)⟩
    case' rest =>
      obtain ⟨gb, rdx, rfl, hr1, hr2, hs5⟩ := hcut
      have HR5 : Hid (rd ≤ rdx ∧ rdx ≤ rd + 5 * (t.ht : Int)) := ⟨hr1, hr2⟩
      have HC5 : Hid (∀ (wx : World), Ins I w F (.pointer (some pa)) A rdx [] [(g, Obj.cells (ndRow X) 68 (0, 0)), (gb, Obj.cells (smA T) 25 (0, 0)), (g0, Obj.cells (smA .z) 25 (0, 0))] wx → (wx.cell? ⟨gb, 0, none⟩ = some (.int .i64 T.n) ∧ wx.cell? ⟨gb, 1, none⟩ = some (.int .i64 T.s) ∧ wx.cell? ⟨gb, 2, none⟩ = some (.int .i64 T.mn) ∧ wx.cell? ⟨gb, 3, none⟩ = some (.int .i64 T.mx)) ∧ wx.cell? ⟨g, 1, none⟩ = some (.int .i64 X.val)) := fun wx hx => by
        obtain ⟨⟨-, x1, -⟩, -⟩ := row8_of (hx.boxes _ (List.Mem.head _)).2
        exact ⟨(row4_of (hx.boxes _ (List.Mem.tail _ (List.Mem.head _))).2).1, x1⟩
      clear hr1 hr2 HCEL HCEL2 HS3 x1 x2 x3
      go_upto_region 5 with fail
      have hsd := hs5.calm (Below.refl _ _).drew
      refine anyG_begin (S := (fun w' => (w'.cell? ⟨gb, 0, none⟩ = some (.int .i64 T.n) ∧ w'.cell? ⟨gb, 1, none⟩ = some (.int .i64 T.s) ∧ w'.cell? ⟨gb, 2, none⟩ = some (.int .i64 T.mn) ∧ w'.cell? ⟨gb, 3, none⟩ = some (.int .i64 T.mx)) ∧ w'.cell? ⟨g, 1, none⟩ = some (.int .i64 X.val))) (z := 5) (by kernel_rfl) (HC5.out _ hsd) (fun hHeld => ?_)
      refine anyG_take (k := 0) (o := _) (v := ?_) (some 34) rfl (by kernel_rfl) (by kernel_rfl) (by kernel_rfl) (by kernel_rfl) (fun _ _ _ h => h) (Or.inl ⟨by rfl, ?_⟩) (by assumption) (by kernel_rfl) ?_
      rotate_left
      · intro w hSw; (try dsimp only at hSw); go_simp; try with_reducible rfl
      (try simp only [Act.put, List.setIfInBounds_toArray, List.set_cons_zero, List.set_cons_succ])
      refine anyG_take (k := 1) (o := _) (v := ?_) (some 35) rfl (by kernel_rfl) (by kernel_rfl) (by kernel_rfl) (by kernel_rfl) (fun _ _ _ h => h) (Or.inl ⟨by rfl, ?_⟩) (by assumption) (by kernel_rfl) ?_
      rotate_left
      · intro w hSw; (try dsimp only at hSw); go_simp; try with_reducible rfl
      (try simp only [Act.put, List.setIfInBounds_toArray, List.set_cons_zero, List.set_cons_succ])
      refine anyG_take (k := 2) (o := _) (v := ?_) (some 36) rfl (by kernel_rfl) (by kernel_rfl) (by kernel_rfl) (by kernel_rfl) (fun _ _ _ h => h) (Or.inl ⟨by rfl, ?_⟩) (by assumption) (by kernel_rfl) ?_
      rotate_left
      · intro w hSw; (try dsimp only at hSw); go_simp; try with_reducible rfl
      (try simp only [Act.put, List.setIfInBounds_toArray, List.set_cons_zero, List.set_cons_succ])
      refine anyG_one (k := 3) (o := _) (by kernel_rfl) rfl (fun KT hKT => ?_)
      go_simp
      go_at_call 26
      refine (ofValue_any X.val _).mono ?_
      rintro eB wB ⟨rfl, hbB⟩
      have hsB := hsd.calm hbB
      try go_wp2_with fail
      refine hKT.out _ _ (HC5.out _ hsB) (fun hHeld => ?_)
      clear hKT KT
      (try simp only [Act.put, List.setIfInBounds_toArray, List.set_cons_zero, List.set_cons_succ])
      refine anyG_one (k := 4) (o := _) (by kernel_rfl) rfl (fun KT hKT => ?_)
      go_simp
      go_at_call 12
      refine (addP_any T (oneS X.val) _ HSUM.out.2.2.2.2.1 HSUM.out.2.2.2.2.2).mono ?_
      rintro eC wC ⟨rfl, hbC⟩
      rw [HSUM.out.2.1, smA_at]
      have hsC := hsB.calm hbC
      try go_wp2_with fail
      refine hKT.out _ _ (HC5.out _ hsC) (fun hHeld => ?_)
      clear hKT KT
      (try simp only [Act.put, List.setIfInBounds_toArray, List.set_cons_zero, List.set_cons_succ])
      refine anyG_last (o := _) (by kernel_rfl) (by kernel_rfl) rfl (fun KT hKT => ?_)
      obtain ⟨⟨q0, q1, q2, q3⟩, p0, p1, p2, p3⟩ := row4_of (hsC.boxes _ (List.Mem.tail _ (List.Mem.tail _ (List.Mem.head _)))).2
      go_simp
      refine hKT.out _ _ ?_
      clear hKT KT
      (try simp only [Act.put, List.setIfInBounds_toArray, List.set_cons_zero, List.set_cons_succ])
      have HE := Lib.hid (put4_same (X := .z) (Y := TT) (hsC.boxes _ (List.Mem.tail _ (List.Mem.tail _ (List.Mem.head _)))).2)
      have HS4 := Lib.hid (Ins.put4 (X := .z) (Y := TT) (hsC.perm ((List.Perm.cons _ (List.Perm.swap _ _ _)).trans (List.Perm.swap _ _ _))))
      clear hsC hsB hsd hHeld hbB hbC HC5 hs5
      go_wp2_with fail
      refine bodyPost_ret (results_cell_row rfl _ _ g0 25 (smA TT) (0, 0) _ rfl HE.out HUN.out rfl HINF.out) rfl ?_
      obtain ⟨F', hal, hI⟩ := HS4.out.ends
      exact ⟨F', rdx, rfl, hal, hI, HR5.out.1, HR5.out.2⟩
end Go.Proofs.Ytbjmblfifnjafaa
