/- Of the proofs of SetopsUnion, SetopsIntersect, SetopsSubtract: EnsIn, UpSeqA, ScnPl, UpAid, StAid, StAw, StPair, StChk, RefInt, RefSet. -/
import Derived.Test.YtfihklpofmcfgaaGreatA1615
import Derived.Deep.QuietTactic
import Derived.Deep.DeepCutAuto
import Derived.Deep.RegionHeld3
import Derived.Deep.RegionHeldLaw
set_option linter.unusedVariables false
namespace Go.Proofs.YtfihklpofmcfgaaGreat
open Go.RowKit
theorem ens_in {H : Type} {enc : TypeId × Value → H} {W : World} {a : Option Addr} {n cap fuel : Nat} {z : DataW H × List MemPlace}
    (h : DataW.trod enc Tryz.prog W 0 (fun _ => true) true fuel 22 (Value.slice a n cap).cells.toList = some z) : n ≤ cap ∧ cap ≤ maxLen ∧ ∃ raw : List En, raw.length = n ∧ EnsAt W a raw := by
  have hf := fields_in Tryz.underlying22 Tryz.underlying69 (by kernel_rfl) (by kernel_rfl) h
  have hx : ∀ r, r < n → ∃ e : En, (∃ b off, a = some ⟨b, off, none⟩ ∧ b < W.heap.size ∧ W.cell? ⟨b, off + r * 2, none⟩ = some (.int .i64 e.key) ∧ W.cell? ⟨b, off + r * 2 + 1, none⟩ = some (.int .i64 e.val)) ∧ i64R e.key ∧ i64R e.val := by
    intro r hr
    obtain ⟨b, off, v, y, m, rfl, hlt, h1, h2⟩ := hf.2.2 r hr 0 _ rfl
    obtain ⟨b', off', v', y', m', he, _, h1', h2'⟩ := hf.2.2 r hr 1 _ rfl
    simp only [Option.some.injEq, Addr.mk.injEq, and_true] at he
    obtain ⟨rfl, rfl⟩ := he
    obtain ⟨key, hv, _, hw⟩ := DataW.trod_int Tryz.underlying2 h2
    obtain ⟨val, hv', _, hw'⟩ := DataW.trod_int Tryz.underlying2 h2'
    simp only [List.cons.injEq, and_true] at hv hv'
    subst hv hv'
    exact ⟨⟨key, val⟩, ⟨b, off, rfl, hlt, h1, h1'⟩, bounds_i64 hw, bounds_i64 hw'⟩
  clear hf
  obtain ⟨f, hff⟩ : ∃ f : Nat → En, ∀ r, r < n → (∃ b off, a = some ⟨b, off, none⟩ ∧ b < W.heap.size ∧ W.cell? ⟨b, off + r * 2, none⟩ = some (.int .i64 (f r).key) ∧ W.cell? ⟨b, off + r * 2 + 1, none⟩ = some (.int .i64 (f r).val)) ∧ i64R (f r).key ∧ i64R (f r).val := by
    classical
    refine ⟨fun r => if h : r < n then (hx r h).choose else ⟨0, 0⟩, fun r hr => ?_⟩
    simp only [dif_pos hr]
    exact (hx r hr).choose_spec
  have hg : n ≤ cap ∧ cap ≤ maxLen := ⟨(fields_in Tryz.underlying22 Tryz.underlying69 (by kernel_rfl) (by kernel_rfl) h).1, (fields_in Tryz.underlying22 Tryz.underlying69 (by kernel_rfl) (by kernel_rfl) h).2.1⟩
  refine ⟨hg.1, hg.2, (List.range n).map f, by simp, ⟨fun j e he => ?_, fun e he => ?_⟩⟩
  · rw [List.getElem?_map] at he
    obtain ⟨x, hx1, hx2⟩ := Option.map_eq_some_iff.1 he
    have hj : j < n := by have := (List.getElem?_eq_some_iff.1 hx1).1; simpa using this
    have hxj : x = j := by rw [List.getElem?_range hj] at hx1; exact (Option.some.inj hx1).symm
    subst hxj
    rw [← hx2]
    exact (hff x hj).1
  · obtain ⟨x, hx1, hx2⟩ := List.mem_map.1 he
    rw [← hx2]
    exact (hff x (List.mem_range.1 hx1)).2
end Go.Proofs.YtfihklpofmcfgaaGreat
set_option linter.unusedSimpArgs false
namespace Go.Proofs.YtfihklpofmcfgaaGreat
open Go.RowKit
theorem hof_perm {l m : List Nat} (h : l.Perm m) : hof l = hof m := by
  funext i
  unfold hof
  split
  · rfl
  · exact h.count_eq i
/-- what is still held keeps its tree when something else is released -/
theorem sub_gone {A : Ar} {r : Nat} {held : Nat → Nat} (hv : (A.gone r).Inv [] held) {i : Nat} {t : Tr} (h : Sub A i t) : (i = 0 ∨ (A.gone r).σ.on i = true) → Sub (A.gone r) i t := by
  induction h with
  | nil => exact fun _ => .nil
  | node i l r' h0 h1 hl hr ihl ihr =>
    intro hi
    have hon := hi.resolve_left h0
    have hnd : (A.gone r).nd i = A.nd i := (run_on A.fuel A [r] i hon).2
    have hc := hv.child i hon
    rw [hnd] at hc
    exact .node i l r' h0 hon (by rw [hnd]; exact ihl hc.1) (by rw [hnd]; exact ihr hc.2)
theorem ents_gone {A : Ar} {r : Nat} {held : Nat → Nat} (hv : (A.gone r).Inv [] held) {i : Nat} {t : Tr} (h : Sub (A.gone r) i t) : t.ents (A.gone r).nd = t.ents A.nd := by
  induction h with
  | nil => rfl
  | node i l r' h0 h1 hl hr ihl ihr =>
    have hnd : (A.gone r).nd i = A.nd i := (run_on A.fuel A [r] i h1).2
    rw [Tr.ents_node, Tr.ents_node, ihl, ihr, hnd]
theorem TreeAt.gone {A : Ar} {r i : Nat} {t : Tr} {l : List En} {held : Nat → Nat} (h : TreeAt A i t l) (hv : (A.gone r).Inv [] held) (hg : (A.gone r).Agg) (hi : i = 0 ∨ 0 < held i) : TreeAt (A.gone r) i t l := by
  have hs := sub_gone hv h.sub (hi.imp_right (hv.held i))
  exact ⟨⟨_, hv⟩, hg, hs, h.bal, (ents_gone hv hs).trans h.ents, h.up⟩
structure Kd where
  i : Nat
  t : Tr
  l : List En
  v : Value
def kv (KL : List Kd) : List Value := KL.map (·.v)
theorem Scn.release' {I : AImpl} {B : Nat} {w0 w : World} {p : Value} {A : Ar} {rd : Int} {rs : List Row} {bs : List (Nat × Obj)} (h : Scn I B w0 w p A rd rs bs) {i : Nat} {l : List Nat} (hv : A.Inv [] (hof (i :: l))) (ha : A.Agg) :
    Calls Tryz.prog 14 #[p, .int .u32 (i : Int)] w fun e w' => ∃ m : Nat, e = .returned (.tuple #[.int .i64 (m : Int), .int .i64 0]) ∧ (A.gone i).Inv [] (hof l) ∧ (A.gone i).Agg ∧ (A.gone i).σ.cap = A.σ.cap ∧ Scn I B w0 w' p (A.gone i) rd rs bs := by
  obtain ⟨F, f1, f2, f3⟩ := h.mr.has
  by_cases h0 : i = 0
  · subst h0
    refine (I.release p A rd F 0 (hof (0 :: l)) w f1 (by decide) (fun _ => hv.give0)).mono ?_
    rintro e w1 ⟨F', hal, _, h5⟩
    obtain ⟨rfl, h6⟩ := h5 (.inl rfl)
    have hst := h.mr.stepA f2 f3 hal h6
    have hh := hof_head 0 l
    rw [if_pos rfl] at hh
    refine ⟨A.freed 0, rfl, ?_, ?_, ?_, h.stepA hst.1 hst.2⟩
    · rw [(gone_zero A).1]; exact hh ▸ hv
    · rw [(gone_zero A).1]; exact ha
    · rw [(gone_zero A).1]
  · have hp : 0 < hof (i :: l) i := hof_pos (by simp) h0
    have hon := hv.held i hp
    have hi4 : i < 4294967296 := by have := hv.ok.on i hon; have := hv.ok.cap2; omega
    have hg := hv.give hp
    have hgo := Ar.gone_ok hg ha
    refine (I.release p A rd F i (Proofs.YtfihklpofmcfgaaGreat.less (hof (i :: l)) i) w f1 hi4 (fun _ => hg)).mono ?_
    rintro e w1 ⟨F', hal, _, h5⟩
    obtain ⟨rfl, h6⟩ := h5 (.inr hon)
    have hst := h.mr.stepA f2 f3 hal h6
    have hh := hof_head i l
    rw [if_neg h0] at hh
    exact ⟨A.freed i, rfl, hh ▸ hgo.1, hgo.2.1, hgo.2.2.1, h.stepA hst.1 hst.2⟩
section
variable {I : AImpl} {B : Nat} {w0 w : World} {p : Value} {A : Ar} {rd : Int} {rs : List Row} {bs : List (Nat × Obj)}
/-- a tree is planted in a scene -/
theorem Scn.plant (h : Scn I B w0 w p A rd rs bs) {held : Nat → Nat} {n c : Nat} {l : List En} {a : Option Addr} {tilt : Int} (hn : l.length = n) (hv : A.Inv [] held) (ha : A.Agg) (hh : ∀ j, held j + 2 * n ≤ 1048576) (hf : n ≤ A.σ.free.length) (hE : EnsAt w a l) (hb : n ≠ 0 → ∀ b off, a = some ⟨b, off, none⟩ → b < B ∨ SG rs bs b) (hc : n ≤ c) (hcm : c ≤ maxLen) (ht0 : 0 ≤ tilt) (ht1 : tilt < 18446744073709551616) :
    Calls Tryz.prog 36 #[p, .slice a n c, .int .u64 tilt] w fun e w' => ∃ (A' : Ar) (i : Nat) (t : Tr), e = .returned (.tuple #[.int .u32 (i : Int), .bool true]) ∧ Planted A held l A' i t ∧ Scn I B w0 w' p A' rd rs bs := by
  obtain ⟨F, f1, f2, f3⟩ := h.mr.has
  refine (plant_any I n l a c tilt p A rd F held w hn f1 hv ha hh hf hE (fun h0 b off hab hFb => ?_) hc hcm ht0 ht1).mono ?_
  · rcases hb h0 b off hab with h1 | h1
    · have := f2 b hFb; omega
    · exact (f3 b h1).2 hFb
  · rintro e w1 ⟨A', i, t, F', hp, rfl, hal, hI⟩
    have hst := h.mr.stepA f2 f3 hal hI
    exact ⟨A', i, t, rfl, hp, h.stepA hst.1 hst.2⟩
end
/-- a scene whose rows were made ahead of the arena -/
theorem Scn.initRows {I : AImpl} {w w1 w2 : World} {p : Value} {A : Ar} {rd : Int} {F : Nat → Prop} {rs : List Row} (hI : I.Is w2 p A rd F) (hF : ∀ k, F k → w1.heap.size ≤ k) (hb : Below w1.heap.size w1 w2) (hb1 : Below w.heap.size w w1) (hr : ∀ r ∈ rs, w1.ownsRow w.heap.size r.e r.s r.v r.n r.xs) (hrr : rs.Pairwise fun x y => ∀ k, x.v.ownBlock = some k → y.v.ownBlock ≠ some k) :
    Scn I w.heap.size w w2 p A rd rs [] := by
  refine ⟨⟨⟨F, hI, fun k hk => Nat.le_trans hb1.size (hF k hk), fun k hk => ?_⟩, hb1.trans (hb.mono hb1.size), Nat.le_trans hb1.size hb.size⟩, fun r hr' => row_below (hr r hr') hb, fun b hb' => (by cases hb'), hrr, List.Pairwise.nil, fun r hr' b hb' => (by cases hb')⟩
  rcases hk with ⟨r, hr', hk⟩ | ⟨b, hb', _⟩
  · have h2 := row_lt (hr r hr') k hk
    exact ⟨Nat.lt_of_lt_of_le h2.2 hb.size, fun hF' => by have := hF k hF'; omega⟩
  · cases hb'
theorem own_blk {w : World} {B s n c g off : Nat} {e : TypeId} {a : Option Addr} {xs : List Value} (h : w.ownsRow B e s (.slice a n c) n xs) (h0 : n ≠ 0) (ha : a = some ⟨g, off, none⟩) : Value.ownBlock (.slice a n c) = some g := by
  rcases h.2 with ⟨hv, hn⟩ | ⟨g2, cap, cur, hv, hB, hc, hn, hcm, hs, ht⟩
  · omega
  · simp only [Value.slice.injEq] at hv
    obtain ⟨rfl, _, _⟩ := hv
    cases ha
    rfl
theorem insI_nat {n : Nat} (h : n ≤ 60000) : insI (n : Int) = 4 * ((xh (n + 1) : Int) + 2) := by
  unfold insI needI
  have hv : vld (n : Int) ∧ vld 0 ∧ vld 0 := by unfold vld; omega
  rw [if_pos hv, show (n : Int) + 0 + 0 + 1 = ((n + 1 : Nat) : Int) by omega, xhI_nat (by omega)]
  omega
theorem delI_nat {n : Nat} (h : n ≤ 60000) : delI (n : Int) = 4 * ((xh n : Int) + 2) := by
  unfold delI needI
  have hv : vld (n : Int) ∧ vld 0 ∧ vld 0 := by unfold vld; omega
  rw [if_pos hv, show (n : Int) + 0 + 0 + 0 = (n : Int) by omega, xhI_nat (by omega)]
  omega
theorem ins_mono {n m : Nat} (h : n ≤ m) (hm : m ≤ 60000) : insI (n : Int) ≤ insI (m : Int) := by
  rw [insI_nat (by omega), insI_nat hm]
  have := xh_mono (m := n + 1) (n := m + 1) (by omega) (by omega)
  omega
theorem del_ins {n m : Nat} (h : n ≤ m) (hm : m ≤ 60000) : delI (n : Int) ≤ insI (m : Int) := by
  rw [delI_nat (by omega), insI_nat hm]
  have := xh_mono (m := n) (n := m + 1) (by omega) (by omega)
  omega
theorem ins_pos {n : Nat} (h : n ≤ 60000) : 0 ≤ insI (n : Int) ∧ insI (n : Int) ≤ 400 := by
  rw [insI_nat h]
  have := (xh_spec (n := n + 1) (by omega)).2.1
  omega
section
variable {I : AImpl} {B : Nat} {w0 w : World} {p : Value} {A : Ar} {rd : Int} {rs : List Row} {bs : List (Nat × Obj)}
/-- one more reference -/
theorem Scn.retain (h : Scn I B w0 w p A rd rs bs) {i : Nat} {l : List Nat} (hv : A.Inv [] (hof l)) (ha : A.Agg) (hl : l.length ≤ 1000000) (hi : i = 0 ∨ A.σ.on i = true) (hi4 : i < 4294967296) :
    Calls Tryz.prog 37 #[p, .int .u32 (i : Int)] w fun e w' => e = .returned (.int .i64 0) ∧ (A.ret i).Inv [] (hof (l ++ [i])) ∧ (A.ret i).Agg ∧ A.Kept (A.ret i) ∧ (A.ret i).σ = A.σ ∧ Scn I B w0 w' p (A.ret i) rd rs bs := by
  obtain ⟨F, f1, f2, f3⟩ := h.mr.has
  have hx : A.Idx i := hi
  have hs := hof_le l
  refine (I.retain p A rd F i w f1 hi4 (fun ho => by have := (cnt_le hv (fun j => by have := hs j; omega) ho).2; omega)).mono ?_
  rintro e w1 ⟨F', hal, -, h5⟩
  obtain ⟨rfl, h6⟩ := h5 hx
  have hst := h.mr.stepA f2 f3 hal h6
  refine ⟨rfl, ?_, ?_, ?_, ?_, h.stepA hst.1 hst.2⟩
  · by_cases h0 : i = 0
    · subst h0
      rw [← hof_pls, pls_zero]
      unfold Ar.ret
      rw [if_pos rfl]
      exact hv
    · have hon := hi.resolve_left h0
      rw [hof_more l h0]
      unfold Ar.ret
      rw [if_neg h0]
      exact hv.inc hon
  · unfold Ar.ret
    split
    · exact ha
    · exact ha.inc i
  · unfold Ar.ret
    split
    · exact .refl A
    · exact ⟨rfl, fun _ h => h, fun _ _ => rfl⟩
  · unfold Ar.ret
    split <;> rfl
/-- a reference is given back: the trees that are still held stay, and no slot is lost -/
theorem Scn.giveBack (h : Scn I B w0 w p A rd rs bs) {i : Nat} {l : List Nat} (hv : A.Inv [] (hof (i :: l))) (ha : A.Agg) :
    Calls Tryz.prog 14 #[p, .int .u32 (i : Int)] w fun e w' => ∃ m : Nat, e = .returned (.tuple #[.int .i64 (m : Int), .int .i64 0]) ∧ (A.gone i).Inv [] (hof l) ∧ (A.gone i).Agg ∧ (A.gone i).σ.cap = A.σ.cap ∧ A.σ.free.length ≤ (A.gone i).σ.free.length ∧ Scn I B w0 w' p (A.gone i) rd rs bs := by
  refine (h.release' hv ha).mono ?_
  rintro e w1 ⟨m, h1, h2, h3, h4, h5⟩
  refine ⟨m, h1, h2, h3, h4, ?_, h5⟩
  by_cases h0 : i = 0
  · subst h0
    rw [(gone_zero A).1]
    exact Nat.le_refl _
  · have hp : 0 < hof (i :: l) i := hof_pos (by simp) h0
    have := (Ar.gone_ok (hv.give hp) ha).2.2.2
    omega
end
/-- an insertion with room: what is left free -/
theorem insQ_left {A B : Ar} {rd rd' : Int} {held : Nat → Nat} {i : Nat} {t : Tr} {l : List En} {e : En} {en : Ending} (h : InsQ A rd held i t l e en B rd') (hu : Up l) {N : Int} (hN : insI (l.length : Int) ≤ N) (h0 : 0 ≤ N) (hr : N ≤ (A.σ.free.length : Int)) :
    rd ≤ rd' ∧ rd' ≤ rd + updBd l.length ∧ ∃ (j : Nat) (u : Tr) (x : Int) (b : Bool), en = .returned (.tuple #[.int .u32 (j : Int), .int .i64 x, .bool b, .int .i64 0]) ∧ Got A held B j u (insE l e) ∧ (A.σ.free.length : Int) ≤ (B.σ.free.length : Int) + N := by
  obtain ⟨h1, h2, h3⟩ := h
  refine ⟨h1, h2, ?_⟩
  rcases h3 with ⟨q1, rfl, q3, q4⟩ | ⟨-, q2, -⟩ | ⟨-, -, j, u, rfl, q3, q4, -⟩
  · exact ⟨i, t, _, _, rfl, by rw [ins_in hu q1]; exact q3, by omega⟩
  · omega
  · exact ⟨j, u, _, _, rfl, q3, by omega⟩
theorem delQ_left {A B : Ar} {rd rd' : Int} {held : Nat → Nat} {l : List En} {k : Int} {en : Ending} (h : DelQ A rd held l k en B rd') (hk : getE l k ≠ none) {N : Int} (hN : delI (l.length : Int) ≤ N) (hr : N ≤ (A.σ.free.length : Int)) :
    rd ≤ rd' ∧ rd' ≤ rd + updBd l.length ∧ ∃ (j : Nat) (u : Tr) (x : Int), en = .returned (.tuple #[.int .u32 (j : Int), .int .i64 x, .int .i64 0]) ∧ Got A held B j u (outE l k k) ∧ (A.σ.free.length : Int) ≤ (B.σ.free.length : Int) + N := by
  obtain ⟨h1, h2, h3⟩ := h
  refine ⟨h1, h2, ?_⟩
  rcases h3 with ⟨q1, -⟩ | ⟨-, q2, -⟩ | ⟨-, -, j, u, rfl, q3, q4, -⟩
  · exact absurd q1 hk
  · omega
  · exact ⟨j, u, _, rfl, q3, by omega⟩
theorem upd_bd {n : Nat} (h : n ≤ 1000) : 0 ≤ updBd n ∧ updBd n ≤ 5000 := by
  have h1 := (xh_spec (n := n + 1) (by omega)).2.1
  unfold updBd
  omega
theorem set_nat {n m : Nat} (h : n + m ≤ 60000) : setI (n : Int) (m : Int) = (n : Int) + (m : Int) + 12 * ((xh (n + m) : Int) + 2) := by
  unfold setI needI
  have hv : vld (n : Int) ∧ vld (m : Int) ∧ vld 0 := by unfold vld; omega
  rw [if_pos hv, show (n : Int) + (m : Int) + 0 + 0 = ((n + m : Nat) : Int) by omega, xhI_nat (by omega)]
theorem set_pos {n m : Nat} (h : n + m ≤ 60000) : 0 ≤ setI (n : Int) (m : Int) ∧ setI (n : Int) (m : Int) ≤ (n : Int) + (m : Int) + 1000 := by
  rw [set_nat h]
  have := (xh_spec (n := n + m) (by omega)).2.1
  omega
def l220 : List En := [⟨2, 20⟩]
theorem l220_up : Up l220 := by unfold Up l220; simp
theorem l220_wf : WfL l220 := by
  intro y hy
  simp [l220] at hy
  subst hy
  exact ⟨⟨by decide, by decide⟩, ⟨by decide, by decide⟩⟩
theorem l220_at (w : World) (t : TypeId) : EnsAt (w.alloc (.cells #[.int .i64 2, .int .i64 20] t)) (some ⟨w.heap.size, 0, none⟩) l220 := by
  have hr := heap_alloc_new w (.cells #[.int .i64 2, .int .i64 20] t)
  refine ⟨fun j e he => ⟨w.heap.size, 0, rfl, by simp, ?_⟩, l220_wf⟩
  match j, he with
  | 0, he => cases he; constructor <;> (rw [cell_of_row _ _ _ _ _ _ hr]; rfl)
  | j + 1, he => simp [l220] at he
set_option maxHeartbeats 4000000 in
set_option maxRecDepth 100000 in
theorem awake16_any (I : AImpl) (K : StImpl I) (w : World) : Calls Tryz.prog 9 #[] w (Calm w (.bool true)) := by
  have HK := Lib.hid K
  clear K
  have HU : Hid (setI (l1.length : Int) (l220.length : Int) ≤ 60 ∧ (unionE l1 l220 1).length = 2 ∧ i64R 1 ∧ polOk 1 ∧ setBd l1.length l220.length ≤ 1000000 ∧ Up (unionE l1 l220 1)) := ⟨by decide, by decide, ⟨by decide, by decide⟩, ⟨by decide, by decide⟩, by decide, unionE_up l1_up 1 _ _ l1_up⟩
  go_enter Tryz.func9, Tryz.ntmps9
  go_wp2_with fail
  refine (I.new_ok 200 w (by decide) (by decide)).mono ?_
  rintro e w1 ⟨p, F, rfl, hI, hF, hb1⟩
  obtain ⟨pa, rfl⟩ := I.ptr hI
  have HS1 : Hid (Scn I w.heap.size w w1 (.pointer (some pa)) (Ar.init 200) 0 [] []) := Scn.start ⟨⟨F, hI, hF, fun k hk => hk.elim⟩, hb1, hb1.size⟩
  have HAT := Lib.hid (l1_at w1 69)
  have HS2 := Lib.hid (HS1.out.box #[.int .i64 1, .int .i64 10] 69)
  have HI0 : Hid ((Ar.init 200).Inv [] (fun _ => 0) ∧ (Ar.init 200).Agg ∧ (Ar.init 200).σ.free.length = 200) := ⟨Ar.init_inv (by decide) (by decide), Ar.init_agg _, by show (List.range' 1 200).length = _; simp⟩
  clear hI hF hb1 HS1
  generalize Ar.init 200 = A at HS2 HI0
  go_wp2_with fail
  generalize w1.alloc (.cells #[.int .i64 1, .int .i64 10] 69) = w2 at HAT HS2 ⊢
  generalize w1.heap.size = g at HAT HS2 ⊢
  refine (HS2.out.plant (n := 1) (c := 1) rfl HI0.out.1 HI0.out.2.1 (fun j => by omega) (by have := HI0.out; omega) HAT.out (fun _ b off h => by simp at h; rw [← h.1]; exact .inr (.inr ⟨_, List.mem_cons_self, rfl⟩)) (by decide) (by unfold maxLen; decide) (by decide) (by decide)).mono ?_
  rintro e w3 ⟨A1, x, tx, rfl, hp1, hs3⟩
  have HP1 := Lib.hid hp1
  have HAT2 := Lib.hid (l220_at w3 69)
  have HS4 := Lib.hid (hs3.box #[.int .i64 2, .int .i64 20] 69)
  have HF1 : Hid (A1.σ.free.length = 199) := by have h1 := hp1.free; have h2 := HI0.out.2.2; have h3 : l1.length = 1 := rfl; show _ = _; omega
  clear hp1 hs3 HS2 HAT
  go_wp2_with fail
  generalize w3.alloc (.cells #[.int .i64 2, .int .i64 20] 69) = w4 at HAT2 HS4 ⊢
  generalize w3.heap.size = g2 at HAT2 HS4 ⊢
  refine (HS4.out.plant (n := 1) (c := 1) rfl HP1.out.inv HP1.out.agg (fun j => by rw [pls_at]; split <;> omega) (by have := HF1.out; omega) HAT2.out (fun _ b off h => by simp at h; rw [← h.1]; exact .inr (.inr ⟨_, List.mem_cons_self, rfl⟩)) (by decide) (by unfold maxLen; decide) (by decide) (by decide)).mono ?_
  rintro e w5 ⟨A2, y, ty, rfl, hp2, hs5⟩
  have HTX := Lib.hid ((HP1.out.tree l1_up).kept hp2.kept hp2.inv hp2.agg)
  have HTY := Lib.hid (hp2.tree l220_up)
  have HINV := Lib.hid hp2.inv
  have HS5 := Lib.hid hs5
  have HF2 : Hid (A2.σ.free.length = 198) := by have h1 := hp2.free; have h2 := HF1.out; have h3 : l220.length = 1 := rfl; show _ = _; omega
  clear hp2 hs5 HS4 HAT2
  go_wp2_with fail
  refine (HS5.out.mut fun F hI => HK.out.union 1 w5 hI HINV.out (fun j => by rw [pls_at, pls_at]; split <;> split <;> omega) HTX.out HTY.out l1_wf l220_wf (by decide) (by decide) HU.out.2.2.1).mono ?_
  rintro e w6 ⟨B, rd6, hq, hs6⟩
  rcases hq with ⟨q1, -⟩ | ⟨-, hq⟩
  · exact absurd HU.out.2.2.2.1 q1
  obtain ⟨g0, g1, j, t, rfl, hg⟩ := hq.room (by have := HU.out.1; have := HF2.out; omega)
  have HS6 := Lib.hid hs6
  have HTJ := Lib.hid (hg.tree HU.out.2.2.2.2.2)
  have HRD : Hid (0 ≤ rd6 ∧ rd6 ≤ 1000000) := ⟨g0, by have := HU.out.2.2.2.2.1; omega⟩
  clear hs6 hg g0 g1 HS5
  go_wp2_with fail
  refine (HS6.out.size HRD.out.1 (by have := HRD.out; omega) HTJ.out).mono ?_
  rintro e w7 ⟨rfl, rd7, hs7, -, -⟩
  rw [HU.out.2.1]
  have HB7 := Lib.hid hs7.below
  clear hs7 HS6
  go_wp2_with fail
  go_ret
  exact ⟨rfl, HB7.out⟩
theorem spare16_any (n need : Int) (w : World) (h0 : 0 ≤ n) (h1 : n < 65536) (h2 : 0 ≤ need) (h3 : need ≤ 1000000) : Calls Tryz.prog 34 #[.int .u16 n, .int .i64 need] w (SpareQ need w) := by
  have v0 : IntKind.i64.wrap n = n := by rw [IntKind.wrap_i64]; omega
  have v1 : IntKind.i64.wrap (need + 2) = need + 2 := by rw [IntKind.wrap_i64]; omega
  have hne : ¬ need + 2 = 0 := by omega
  by_cases h4 : n.tmod 4 = 0
  · obtain ⟨r, hr⟩ : ∃ r : Nat, n.tmod (need + 2) = (r : Int) := ⟨(n.tmod (need + 2)).toNat, by rw [Int.tmod_eq_emod_of_nonneg h0]; have := Int.emod_nonneg n (b := need + 2) hne; omega⟩
    have hrl : (r : Int) ≤ need + 8 := by rw [← hr, Int.tmod_eq_emod_of_nonneg h0]; have := Int.emod_lt_of_pos n (b := need + 2) (by omega); omega
    have HR := Lib.hid hrl
    have h4b : (n.tmod 4 == 0) = true := by rw [h4]; rfl
    clear hrl h0 h1 h2 h3 h4
    go_enter Tryz.func34, Tryz.ntmps34
    go_wp2_with fail
    go_ret
    exact ⟨r, rfl, HR.out, rfl⟩
  · obtain ⟨r, hr⟩ : ∃ r : Nat, n.tmod 9 = (r : Int) := ⟨(n.tmod 9).toNat, by rw [Int.tmod_eq_emod_of_nonneg h0]; omega⟩
    have hrl : (r : Int) ≤ 8 := by rw [← hr, Int.tmod_eq_emod_of_nonneg h0]; omega
    have v2 : IntKind.i64.wrap (r : Int) = (r : Int) := by rw [IntKind.wrap_i64]; omega
    have v3 : IntKind.i64.wrap (need + (r : Int)) = need + (r : Int) := by rw [IntKind.wrap_i64]; omega
    obtain ⟨s, hs⟩ : ∃ s : Nat, need + (r : Int) = (s : Int) := ⟨(need + r).toNat, by omega⟩
    have HS : Hid (need + (r : Int) = (s : Int) ∧ (s : Int) ≤ need + 8) := ⟨hs, by omega⟩
    have h4b : (n.tmod 4 == 0) = false := by simpa using h4
    clear hrl h0 h1 h2 h3 h4 hs
    go_enter Tryz.func34, Tryz.ntmps34
    go_wp2_with fail
    go_ret
    first | exact ⟨s, rfl, HS.out.2, rfl⟩ | exact ⟨s, by rw [HS.out.1]; rfl, HS.out.2, rfl⟩
set_option maxHeartbeats 1000000 in
set_option maxRecDepth 100000 in
theorem refDelete16_any {w : World} {a : Option Addr} {n c : Nat} {l : List En} (k : Int) (h : EnsAt w a l) (hn : l.length = n) (hl : n ≤ 1000000) :
    Calls Tryz.prog 39 #[.slice a n c, .int .i64 k] w (MadeEns w (outE l k k)) := by
  have HC := Lib.hid (outside_any (c := c) k k h hn hl)
  clear h hn hl
  go_enter Tryz.func39, Tryz.ntmps39
  go_wp2_with fail
  refine HC.out.mono ?_
  rintro e w1 ⟨xa, xc, rfl, hr, hb⟩
  have HR : Hid (MadeEns w (outE l k k) (.returned (.slice xa (outE l k k).length xc)) w1) := ⟨xa, xc, rfl, hr, hb⟩
  generalize (outE l k k).length = LN at HR ⊢
  clear hr hb
  go_wp2_with fail
  go_ret
  exact HR.out
theorem outE_len (l : List En) (lo hi : Int) : (outE l lo hi).length ≤ l.length := List.length_filter_le _ _
structure Paired16 (I : AImpl) (w : World) (p : Value) (A : Ar) (x y : Nat) (tx ty : Tr) (l m : List En) (rd : Int) (L M : Nat) (la ma : Option Addr) (lc mc : Nat) (rs : List Row) (w' : World) : Prop where
  scn : Scn I w.heap.size w w' p A rd rs []
  rl : (⟨69, 2, .slice la L lc, L, ensV l⟩ : Row) ∈ rs
  rm : (⟨69, 2, .slice ma M mc, M, ensV m⟩ : Row) ∈ rs
  inv : A.Inv [] (hof [x, y])
  agg : A.Agg
  tx : TreeAt A x tx l
  ty : TreeAt A y ty m
  wl : WfL l
  wm : WfL m
  ll : l.length = L ∧ L ≤ 70
  lm : m.length = M ∧ M ≤ 76
  rd0 : 0 ≤ rd ∧ rd ≤ 1000000000
def PairRes16 (I : AImpl) (w : World) (e : Ending) (w' : World) : Prop :=
  ∃ (p : Value) (A : Ar) (x y : Nat) (tx ty : Tr) (l m : List En) (rd : Int) (L M : Nat) (la ma : Option Addr) (lc mc : Nat) (rs : List Row), e = .returned (.tuple #[p, .int .u32 (x : Int), .int .u32 (y : Int), .slice la L lc, .slice ma M mc, .bool true]) ∧ Paired16 I w p A x y tx ty l m rd L M la ma lc mc rs w' ∧ rd ≤ 100000
def PrRel (I : AImpl) (w : World) (p : Value) (x : Nat) (tx : Tr) (l : List En) (L : Nat) (la : Option Addr) (lc ED : Nat) (INS : Int) (kV yV mV : Value) (wr : World) : Prop :=
  ∃ (k y M mc : Nat) (A : Ar) (ty : Tr) (m : List En) (ma : Option Addr) (rd : Int) (rs : List Row), kV = .int .i64 (k : Int) ∧ yV = .int .u32 (y : Int) ∧ mV = .slice ma M mc ∧ k ≤ ED ∧ Scn I w.heap.size w wr p A rd rs [] ∧ (⟨69, 2, .slice la L lc, L, ensV l⟩ : Row) ∈ rs ∧ (⟨69, 2, .slice ma M mc, M, ensV m⟩ : Row) ∈ rs ∧
    A.Inv [] (hof [x, y]) ∧ A.Agg ∧ TreeAt A x tx l ∧ TreeAt A y ty m ∧ WfL m ∧ m.length = M ∧ M ≤ L + k ∧ 0 ≤ rd ∧ rd ≤ 6000 * (k : Int) ∧ ((ED : Int) - (k : Int)) * INS ≤ (A.σ.free.length : Int)
set_option maxHeartbeats 16000000 in
set_option maxRecDepth 100000 in
theorem pair16_any (I : AImpl) (KU : UpdImpl I) {a b : Option Addr} {n c k d : Nat} {raw other : List En} {tilt free : Int} {dv : Bool} {w : World} (hE : EnsAt w a raw) (hn : raw.length = n) (hnm : n ≤ 9223372036854775807) (hE' : EnsAt w b other) (hk : other.length = k) (hkm : k ≤ 9223372036854775807) (ht0 : 0 ≤ tilt) (ht1 : tilt < 18446744073709551616) (hf0 : 0 ≤ free) (hf1 : free < 65536) :
    Calls Tryz.prog 8 #[.slice a n c, .slice b k d, .int .u64 tilt, .bool dv, .int .u16 free] w (PairRes16 I w) := by
  have HKU := Lib.hid KU
  have HF : Hid (0 ≤ free ∧ free < 65536) := ⟨hf0, hf1⟩
  have HT : Hid (0 ≤ tilt ∧ tilt < 18446744073709551616) := ⟨ht0, ht1⟩
  have HEO := Lib.hid hE'
  have HKO : Hid (other.length = k ∧ k ≤ 9223372036854775807) := ⟨hk, hkm⟩
  have HWL : Hid (WfL (listE raw 70)) := fun y hy => hE.wf y (listE_mem hy)
  have HWM : Hid (WfL (listE other 70)) := fun y hy => hE'.wf y (listE_mem hy)
  have HL1 := Lib.hid (list_any (c := c) (k := 70) hE hn hnm (by decide))
  have HUL := Lib.hid (listE_up raw 70)
  have HUM := Lib.hid (listE_up other 70)
  have HLL := Lib.hid (listE_len raw 70)
  have HLM := Lib.hid (listE_len other 70)
  obtain ⟨ED, hED⟩ : ∃ ED : Nat, min k 6 = ED := ⟨_, rfl⟩
  have HED : Hid (ED ≤ 6 ∧ ED ≤ k) := ⟨by omega, by omega⟩
  have hmin : ∀ (w : World) (ts : Array TypeId) (t : TypeId), (Builtin.min_ ts t #[.int .i64 (k : Int), .int .i64 6]).run Tryz.prog w = .ok (.int .i64 (ED : Int)) w := fun w ts t => by
    rw [min_run]
    congr 2
    omega
  have hki : (k : Int) ≤ 9223372036854775807 := by omega
  have hED6 : (ED : Int) ≤ 6 := by omega
  have hEDk : (ED : Int) ≤ (k : Int) := by omega
  clear KU hE hn hnm hE' hk hkm ht0 ht1 hf0 hf1 hED
  go_enter Tryz.func8, Tryz.ntmps8
  go_wp2_with fail
  refine HL1.out.mono ?_
  rintro e w1 ⟨la, lc, rfl, hr1, hb1⟩
  have HR1 := Lib.hid hr1
  have HB1 := Lib.hid hb1
  clear hr1 hb1 HL1
  generalize listE raw 70 = l at HUL HLL HWL HR1 ⊢
  obtain ⟨L, hL⟩ : ∃ L, l.length = L := ⟨_, rfl⟩
  rw [hL] at HLL HR1 ⊢
  have HLN : Hid (l.length = L ∧ L ≤ 70) := ⟨hL, HLL.out⟩
  have hLi : (L : Int) ≤ 70 := by have := HLN.out; omega
  clear hL HLL
  go_wp2_with fail
  refine (list_any (c := d) (k := 70) (HEO.out.below HB1.out) HKO.out.1 HKO.out.2 (by decide)).mono ?_
  rintro e w2 ⟨ma, mc, rfl, hr2, hb2⟩
  have HR2 := Lib.hid hr2
  have HB2 := Lib.hid hb2
  clear hr2 hb2
  generalize listE other 70 = m at HUM HLM HWM HR2 ⊢
  obtain ⟨M, hM⟩ : ∃ M, m.length = M := ⟨_, rfl⟩
  rw [hM] at HLM HR2 ⊢
  have HMN : Hid (m.length = M ∧ M ≤ 70) := ⟨hM, HLM.out⟩
  have hMi : (M : Int) ≤ 70 := by have := HMN.out; omega
  clear hM HLM
  have HST := Lib.hid (set_pos (n := L) (m := M) (by omega))
  have HSO : Hid (∀ wx, Calls Tryz.prog 19 #[.int .i64 (L : Int), .int .i64 (M : Int)] wx (Calm wx (.int .i64 (setI (L : Int) (M : Int))))) := fun wx => refSetOperation_any _ _ _ ⟨by omega, by omega⟩ ⟨by omega, by omega⟩
  generalize setI (L : Int) (M : Int) = S1 at HST HSO
  go_wp2_with fail
  refine (HSO.out w2).mono ?_
  rintro e w3 ⟨rfl, hb3⟩
  have HB3 := Lib.hid hb3
  clear hb3 HSO
  go_wp2_with fail
  refine (spare16_any free S1 w3 HF.out.1 HF.out.2 HST.out.1 (by have := HST.out; omega)).mono ?_
  rintro e w3' ⟨sp, rfl, hsp, rfl⟩
  have HSP : Hid ((sp : Int) ≤ 2000) := by have := HST.out; show _ ≤ _; omega
  clear hsp
  obtain ⟨E1, hE1⟩ : ∃ E1 : Nat, L + ED = E1 := ⟨_, rfl⟩
  have hE1i : (L : Int) + (ED : Int) = (E1 : Int) := by omega
  have hE1b : (E1 : Int) ≤ 76 := by omega
  have HINS := Lib.hid (ins_pos (n := E1) (by omega))
  have HINM : Hid (∀ j : Nat, j ≤ E1 → insI (j : Int) ≤ insI (E1 : Int) ∧ delI (j : Int) ≤ insI (E1 : Int)) := fun j hj => ⟨ins_mono hj (by omega), del_ins hj (by omega)⟩
  have HSO2 : Hid (∀ wx, Calls Tryz.prog 19 #[.int .i64 (L : Int), .int .i64 (E1 : Int)] wx (Calm wx (.int .i64 (setI (L : Int) (E1 : Int))))) := fun wx => refSetOperation_any _ _ _ ⟨by omega, by omega⟩ ⟨by omega, by omega⟩
  have HST2 := Lib.hid (set_pos (n := L) (m := E1) (by omega))
  have HIN : Hid (∀ wx, Calls Tryz.prog 35 #[.int .i64 (E1 : Int)] wx (Calm wx (.int .i64 (insI (E1 : Int))))) := fun wx => refInsert_any _ _ ⟨by omega, by omega⟩
  generalize setI (L : Int) (E1 : Int) = S2 at HST2 HSO2
  obtain ⟨INS, hINS⟩ : ∃ I : Int, insI (E1 : Int) = I := ⟨_, rfl⟩
  rw [hINS] at HINS HINM HIN
  have HEE : Hid (L + ED = E1) := hE1
  have hpr : 0 ≤ (ED : Int) * INS ∧ (ED : Int) * INS ≤ 2400 := by
    have h1 := HINS.out
    have h2 := HED.out.1
    refine ⟨Int.mul_nonneg (by omega) h1.1, ?_⟩
    have h3 : (ED : Int) * INS ≤ 6 * INS := Int.mul_le_mul_of_nonneg_right (by omega) h1.1
    omega
  obtain ⟨PR, hPR⟩ : ∃ P : Int, (ED : Int) * INS = P := ⟨_, rfl⟩
  rw [hPR] at hpr
  have HPR : Hid ((ED : Int) * INS = PR ∧ 0 ≤ PR ∧ PR ≤ 2400) := ⟨hPR, hpr⟩
  clear hINS hE1
  go_upto_if 48 with fail
  go_cut [19] from 49 to 65 (fun s19 wx => ∃ room : Nat, s19 = .int .i64 (room : Int) ∧ room ≤ 5000 ∧ (dv = true → PR ≤ (room : Int)) ∧ Below w3'.heap.size w3' wx)
  case first =>
    cases dv with
    | false =>
      go_wp2_with fail
      go_meet
      exact ⟨sp, rfl, by have := HSP.out; omega, (fun h => by cases h), Below.refl _ _⟩
    | true =>
      have v1 : IntKind.i64.wrap ((L : Int) + (ED : Int)) = (E1 : Int) := by rw [IntKind.wrap_i64]; omega
      have v2 : IntKind.i64.wrap ((ED : Int) * INS) = PR := by rw [hPR, IntKind.wrap_i64]; omega
      clear hPR hpr
      go_wp2_with fail
      refine (HSO2.out w3').mono ?_
      rintro e w4 ⟨rfl, hb4⟩
      have HB4 := Lib.hid hb4
      clear hb4
      go_wp2_with fail
      refine (spare16_any free S2 w4 HF.out.1 HF.out.2 HST2.out.1 (by have := HST2.out; omega)).mono ?_
      rintro e w4' ⟨sp2, rfl, hsp2, rfl⟩
      have HSP2 : Hid ((sp2 : Int) ≤ 2000) := by have := HST2.out; show _ ≤ _; omega
      have hs20 : (0 : Int) ≤ (sp2 : Int) := by omega
      have hs2i : (sp2 : Int) ≤ 2000 := HSP2.out
      have v3 : IntKind.i64.wrap ((sp2 : Int) + PR) = (sp2 : Int) + PR := by have := HPR.out; rw [IntKind.wrap_i64]; omega
      clear hsp2
      go_wp2_with fail
      refine (HIN.out w4').mono ?_
      rintro e w5 ⟨rfl, hb5⟩
      have HB5 : Hid (Below w3'.heap.size w3' w5) := HB4.out.trans (hb5.mono HB4.out.size)
      clear hb5
      go_wp2_with fail
      go_meet
      obtain ⟨room, hroom⟩ : ∃ r : Nat, (sp2 : Int) + PR = (r : Int) := ⟨((sp2 : Int) + PR).toNat, by have := HPR.out; omega⟩
      exact ⟨room, by rw [hroom], by have := HPR.out; omega, fun _ => by have := HPR.out; omega, HB5.out⟩
  case' rest =>
    rename World => w4
    obtain ⟨room, rfl, hroom, hdv, hb4⟩ := hcut
    have HRM : Hid (room ≤ 5000 ∧ (dv = true → PR ≤ (room : Int))) := ⟨hroom, hdv⟩
    have HB4 : Hid (Below w2.heap.size w2 w4) := HB3.out.trans (hb4.mono HB3.out.size)
    have hroomi : (room : Int) ≤ 5000 := by omega
    have hroom0 : (0 : Int) ≤ (room : Int) := by omega
    clear hroom hdv hb4 HB3 hPR hpr
    obtain ⟨N, hN⟩ : ∃ N : Nat, L + M + 1 + room = N := ⟨_, rfl⟩
    have v4 : IntKind.i64.wrap ((L : Int) + (M : Int)) = (L : Int) + (M : Int) := by rw [IntKind.wrap_i64]; omega
    have v5 : IntKind.i64.wrap ((L : Int) + (M : Int) + 1) = (L : Int) + (M : Int) + 1 := by rw [IntKind.wrap_i64]; omega
    have v6 : IntKind.i64.wrap ((L : Int) + (M : Int) + 1 + (room : Int)) = (N : Int) := by rw [IntKind.wrap_i64]; omega
    have HNN : Hid (L + M + 1 + room = N ∧ N ≤ 6000) := ⟨hN, by omega⟩
    clear hN
    go_wp2_with fail
    refine (I.new_ok N w4 (by have := HNN.out; omega) (by have := HNN.out; omega)).mono ?_
    rintro e w5 ⟨p, F, rfl, hI, hF, hb5⟩
    obtain ⟨pa, rfl⟩ := I.ptr hI
    have HB24 : Hid (Below w1.heap.size w1 w4) := HB2.out.trans (HB4.out.mono HB2.out.size)
    have hr1 : w4.ownsRow w.heap.size 69 2 (.slice la L lc) L (ensV l) := row_below HR1.out HB24.out
    have hr2 : w4.ownsRow w1.heap.size 69 2 (.slice ma M mc) M (ensV m) := row_below HR2.out HB4.out
    have hs5 : Scn I w.heap.size w w5 (.pointer (some pa)) (Ar.init N) 0 [⟨69, 2, .slice ma M mc, M, ensV m⟩, ⟨69, 2, .slice la L lc, L, ensV l⟩] [] := by
      refine Scn.initRows hI hF hb5 (HB1.out.trans (HB24.out.mono HB1.out.size)) (fun r hr => ?_) (List.pairwise_cons.2 ⟨fun r hr k h1 h2 => ?_, List.pairwise_singleton _ _⟩)
      · simp at hr
        rcases hr with rfl | rfl
        · exact row_mono hr2 HB1.out.size
        · exact hr1
      · simp at hr
        subst hr
        have h3 := (row_lt hr2 k h1).1
        have h4 := (row_lt HR1.out k h2).2
        omega
    have HS5 := Lib.hid hs5
    have HI0 : Hid ((Ar.init N).Inv [] (fun _ => 0) ∧ (Ar.init N).Agg ∧ (Ar.init N).σ.free.length = N) := ⟨Ar.init_inv (by have := HNN.out; omega) (by have := HNN.out; omega), Ar.init_agg _, by show (List.range' 1 N).length = _; simp⟩
    have HCL : Hid (L ≤ lc ∧ lc ≤ maxLen) := row_caps hr1
    have HCM : Hid (M ≤ mc ∧ mc ≤ maxLen) := row_caps hr2
    generalize Ar.init N = A at HS5 HI0
    clear hI hF hb5 hs5 hr1 hr2 HB24 HR1 HR2 HB2 HB4 v4 v5 v6
    have hbk : ∀ (xs : List Row) (v : Value) (g off nn cc : Nat), v = .slice (some ⟨g, off, none⟩) nn cc → nn ≠ 0 → (∃ r ∈ xs, r.v = v) → True := fun _ _ _ _ _ _ _ _ _ => trivial
    clear hbk
    go_wp2_with fail
    refine (HS5.out.plant (c := lc) HLN.out.1 HI0.out.1 HI0.out.2.1 (fun j => by have := HLN.out; omega) (by have := HI0.out; have := HNN.out; omega) (ens_row (w := w5) (B := w.heap.size) (c := lc) HLN.out.1 (HS5.out.rows ⟨69, 2, .slice la L lc, L, ensV l⟩ (by simp)) HWL.out) (fun h0 b' off' h => .inr (.inl ⟨⟨69, 2, .slice la L lc, L, ensV l⟩, by simp, own_blk (HS5.out.rows ⟨69, 2, .slice la L lc, L, ensV l⟩ (by simp)) h0 h⟩)) HCL.out.1 HCL.out.2 HT.out.1 HT.out.2).mono ?_
    rintro e w6 ⟨A1, x, tx, rfl, hp1, hs6⟩
    have HP1 := Lib.hid hp1
    have HS6 := Lib.hid hs6
    have HF1 : Hid (A1.σ.free.length = M + 1 + room) := by have h1 := hp1.free; have h2 := HI0.out.2.2; have h3 := HLN.out.1; have h4 := HNN.out; show _ = _; omega
    have HH1 : Hid (pls (fun _ => 0) x = hof [x]) := by have h := hof_pls [] x; rw [hof_nil] at h; exact h
    clear hp1 hs6 HS5 HI0
    cases dv with
    | false =>
      obtain ⟨T3, hT3⟩ : ∃ T, IntKind.u64.wrap (tilt * 3) = T := ⟨_, rfl⟩
      obtain ⟨T4, hT4⟩ : ∃ T, IntKind.u64.wrap (T3 + 1) = T := ⟨_, rfl⟩
      have HT4 : Hid (0 ≤ T4 ∧ T4 < 18446744073709551616) := by show _ ∧ _; rw [← hT4]; exact u64_in _
      go_wp2_with fail
      refine (HS6.out.plant (c := mc) HMN.out.1 HP1.out.inv HP1.out.agg (fun j => by have := HMN.out; rw [pls_at]; split <;> omega) (by have := HF1.out; omega) (ens_row (w := w6) (B := w.heap.size) (c := mc) HMN.out.1 (HS6.out.rows ⟨69, 2, .slice ma M mc, M, ensV m⟩ (by simp)) HWM.out) (fun h0 b' off' h => .inr (.inl ⟨⟨69, 2, .slice ma M mc, M, ensV m⟩, by simp, own_blk (HS6.out.rows ⟨69, 2, .slice ma M mc, M, ensV m⟩ (by simp)) h0 h⟩)) HCM.out.1 HCM.out.2 HT4.out.1 HT4.out.2).mono ?_
      rintro e w7 ⟨A2, y, ty, rfl, hp2, hs7⟩
      have HRES : Hid (PairRes16 I w (.returned (.tuple #[.pointer (some pa), .int .u32 (x : Int), .int .u32 (y : Int), .slice la L lc, .slice ma M mc, .bool true])) w7) :=
        ⟨_, A2, x, y, tx, ty, l, m, 0, L, M, la, ma, lc, mc, _, rfl, ⟨hs7, by simp, by simp, by have := hp2.inv; rw [HH1.out, hof_pls] at this; exact this, hp2.agg, (HP1.out.tree HUL.out).kept hp2.kept hp2.inv hp2.agg, hp2.tree HUM.out, HWL.out, HWM.out, HLN.out, ⟨HMN.out.1, by have := HMN.out; omega⟩, by decide, by decide⟩, by decide⟩
      clear hp2 hs7 hT3 hT4
      go_wp2_with fail
      (try simp only [Exit.inBlock, Exit.then])
      refine bodyPost_ret (results_tmp6 rfl _ _ _) rfl ?_
      exact HRES.out
    | true =>
      have HXI : Hid (x < 4294967296) := (HP1.out.tree HUL.out).idx
      go_wp2_with fail
      refine (HS6.out.retain (l := [x]) (by have := HP1.out.inv; rw [HH1.out] at this; exact this) HP1.out.agg (by simp) HP1.out.sub.idx HXI.out).mono ?_
      rintro e w7 ⟨rfl, hv7, ha7, hk7, hσ7, hs7⟩
      have HR0 : Hid (PrRel I w (.pointer (some pa)) x tx l L la lc ED INS (.int .i64 0) (.int .u32 (x : Int)) (.slice la L lc) w7) :=
        ⟨0, x, L, lc, A1.ret x, tx, l, la, 0, _, rfl, rfl, rfl, Nat.zero_le _, hs7, by simp, by simp, hv7, ha7, (HP1.out.tree HUL.out).kept hk7 hv7 ha7, (HP1.out.tree HUL.out).kept hk7 hv7 ha7, HWL.out, HLN.out.1, by omega, by decide, by decide, by
          have h1 := HPR.out.1
          have h2 := HRM.out.2 (by simp)
          have h3 := HF1.out
          rw [hσ7, h3]
          show ((ED : Int) - ((0 : Nat) : Int)) * INS ≤ _
          rw [show (ED : Int) - ((0 : Nat) : Int) = (ED : Int) by omega, h1]
          omega⟩
      have HXT : Hid (TreeAt A1 x tx l) := HP1.out.tree HUL.out
      clear hv7 ha7 hk7 hσ7 hs7 HS6 HP1 HF1
      go_wp2_with fail
      go_loopw [27, 26, 17] (fun kV yV mV wr => PrRel I w (.pointer (some pa)) x tx l L la lc ED INS kV yV mV wr) (fun kV _ _ _ => ED - (intOf kV).toNat)
      case atStart => exact HR0.out
      case round =>
        clear HR0
        obtain ⟨i, y, M1, mc1, A2, ty, m1, ma1, rd, rs, rfl, rfl, rfl, hi, hs, hrl, hrm, hv, ha, htx, hty, hwm, hlm, hml, hrd0, hrd1, hfr⟩ := hrel
        have HS := Lib.hid hs
        have HRW : Hid ((⟨69, 2, .slice la L lc, L, ensV l⟩ : Row) ∈ rs ∧ (⟨69, 2, .slice ma1 M1 mc1, M1, ensV m1⟩ : Row) ∈ rs) := ⟨hrl, hrm⟩
        have HV := Lib.hid hv
        have HA := Lib.hid ha
        have HTX := Lib.hid htx
        have HTY := Lib.hid hty
        have HM1 : Hid (WfL m1 ∧ m1.length = M1 ∧ M1 ≤ L + i ∧ i ≤ ED) := ⟨hwm, hlm, hml, hi⟩
        have HRD : Hid (0 ≤ rd ∧ rd ≤ 6000 * (i : Int)) := ⟨hrd0, hrd1⟩
        have HFR := Lib.hid hfr
        have hi0 : (0 : Int) ≤ (i : Int) := by omega
        have hM1i : (M1 : Int) ≤ 76 := by have := HED.out; omega
        clear hi hs hrl hrm hv ha htx hty hwm hlm hml hrd0 hrd1 hfr
        by_cases hlt : i < ED
        · have hii : (i : Int) < (ED : Int) := by omega
          have hik : (i : Int) < (k : Int) := by omega
          obtain ⟨oe, hoe⟩ : ∃ e, other[i]? = some e := ⟨_, List.getElem?_eq_getElem (by have := HKO.out; have := HED.out; omega)⟩
          have HOW := Lib.hid (HEO.out.wf oe (List.mem_of_getElem? hoe))
          have HOE := Lib.hid hoe
          have HLT := Lib.hid hlt
          have HRO : Hid (INS ≤ (A2.σ.free.length : Int) ∧ ((ED : Int) - ((i + 1 : Nat) : Int)) * INS + INS ≤ (A2.σ.free.length : Int)) := by
            have h1 := HFR.out
            have h2 : ((ED : Int) - (i : Int)) * INS = ((ED : Int) - ((i + 1 : Nat) : Int)) * INS + INS := by
              rw [show (ED : Int) - (i : Int) = ((ED : Int) - ((i + 1 : Nat) : Int)) + 1 by omega, Int.add_mul, Int.one_mul]
            have h3 : 0 ≤ ((ED : Int) - ((i + 1 : Nat) : Int)) * INS := Int.mul_nonneg (by omega) HINS.out.1
            exact ⟨by omega, by omega⟩
          clear hoe hlt HFR
          go_upto_region 22 with fail
          go_cut [128] from 121 to 128 (fun s128 wx => ∃ bb : Bool, s128 = .bool bb ∧ (bb = true → 0 < M1) ∧ wr = wx)
          case first =>
            by_cases hM0 : M1 = 0
            · have hm0 : (M1 : Int) = 0 := by omega
              have hd : decide ((M1 : Int) > 0) = false := decide_eq_false (by omega)
              have hd2 : decide ((0 : Int) < (M1 : Int)) = false := decide_eq_false (by omega)
              have hd3 : ¬ 0 < M1 := by omega
              clear hM0
              by_cases h3 : (i : Int) % 3 = 2
              · have hq1 : ((i : Int) % 3 == 2) = true := by simp [h3]
                go_wp2_with fail
                go_meet
                exact ⟨false, rfl, (fun h => by cases h), rfl⟩
              · have hq1 : ((i : Int) % 3 == 2) = false := by simp [h3]
                go_wp2_with fail
                go_meet
                exact ⟨false, rfl, (fun h => by cases h), rfl⟩
            · have hd : decide ((M1 : Int) > 0) = true := decide_eq_true (by omega)
              have hd2 : decide ((0 : Int) < (M1 : Int)) = true := decide_eq_true (by omega)
              have hd3 : 0 < M1 := by omega
              clear hM0
              by_cases h3 : (i : Int) % 3 = 2
              · have hq1 : ((i : Int) % 3 == 2) = true := by simp [h3]
                go_wp2_with fail
                go_meet
                exact ⟨true, rfl, (fun _ => hd3), rfl⟩
              · have hq1 : ((i : Int) % 3 == 2) = false := by simp [h3]
                go_wp2_with fail
                go_meet
                exact ⟨false, rfl, (fun h => by cases h), rfl⟩
          case' rest =>
            obtain ⟨bb, rfl, hbb, rfl⟩ := hcut
            have HBB := Lib.hid hbb
            clear hbb
            go_upto_if 128 with fail
            go_cut [28, 29, 30, 31] from 129 to 170 (fun s28 s29 s30 s31 wx => ∃ (z M2 mc2 : Nat) (A3 : Ar) (tz : Tr) (m2 : List En) (ma2 : Option Addr) (rd2 : Int) (rs2 : List Row) (kv : Value), s28 = .int .u32 (z : Int) ∧ s29 = .int .i64 0 ∧ s30 = .slice ma2 M2 mc2 ∧ s31 = kv ∧ Scn I w.heap.size w wx (.pointer (some pa)) A3 rd2 rs2 [] ∧ (⟨69, 2, .slice la L lc, L, ensV l⟩ : Row) ∈ rs2 ∧ (⟨69, 2, .slice ma2 M2 mc2, M2, ensV m2⟩ : Row) ∈ rs2 ∧
              A3.Inv [] (hof [x, y, z]) ∧ A3.Agg ∧ TreeAt A3 x tx l ∧ TreeAt A3 z tz m2 ∧ WfL m2 ∧ m2.length = M2 ∧ M2 ≤ M1 + 1 ∧ rd ≤ rd2 ∧ rd2 ≤ rd + 5000 ∧ (A2.σ.free.length : Int) ≤ (A3.σ.free.length : Int) + INS)
            case first =>
              have HHS : Hid (∀ j, hof [x, y] j ≤ 1048000) := fun j => by have := hof_le [x, y] j; simp at this; omega
              have HUB := Lib.hid (upd_bd (n := m1.length) (by have := HM1.out; have := HLN.out; have := HED.out; omega))
              have HINJ : Hid (insI (m1.length : Int) ≤ INS ∧ delI (m1.length : Int) ≤ INS) := by rw [HM1.out.2.1]; exact HINM.out M1 (by have := HM1.out; have := HEE.out; omega)
              cases bb with
              | false =>
                obtain ⟨g, off, rfl, -, c0, c1⟩ := (HEO.out.below HS.out.below).at HOE.out
                go_wp2_with fail
                refine (HS.out.mut fun F hI => HKU.out.insert oe wr hI HV.out HHS.out HTY.out HM1.out.1 HRD.out.1 (by have := HRD.out; have := HED.out; have := HM1.out; omega) HOW.out.1 HOW.out.2).mono ?_
                rintro e w8 ⟨A3, rd2, hq, hs8⟩
                obtain ⟨g0, g1, z, tz, xv, bv, rfl, hg, hfr⟩ := insQ_left hq HTY.out.up HINJ.out.1 HINS.out.1 HRO.out.1
                have HS8 := Lib.hid hs8
                have HG := Lib.hid hg
                have HTZ := Lib.hid (hg.tree (insE_up oe HTY.out.up))
                have HR8 : Hid (rd ≤ rd2 ∧ rd2 ≤ rd + 5000 ∧ (A2.σ.free.length : Int) ≤ (A3.σ.free.length : Int) + INS) := ⟨g0, by have := HUB.out; omega, hfr⟩
                clear c0 c1 hq hs8 hg g0 g1 hfr
                obtain ⟨g', off', hgg, -, c0, c1⟩ := (HEO.out.below HS8.out.below).at HOE.out
                simp at hgg
                obtain ⟨rfl, rfl⟩ := hgg
                have hins := insert_any (c := mc1) oe (ens_row (w := w8) (B := w.heap.size) (c := mc1) HM1.out.2.1 (HS8.out.rows ⟨69, 2, .slice ma1 M1 mc1, M1, ensV m1⟩ HRW.out.2) HM1.out.1) HOW.out (by have := HM1.out; have := HLN.out; have := HED.out; omega)
                rw [HM1.out.2.1] at hins
                have HINS2 := Lib.hid hins
                clear hins
                go_wp2_with fail
                refine HINS2.out.mono ?_
                rintro e w9 ⟨ma2, mc2, rfl, hr9, hb9⟩
                have HS9 := Lib.hid (HS8.out.row hb9 hr9)
                obtain ⟨M2, hM2⟩ : ∃ n, (insE m1 oe).length = n := ⟨_, rfl⟩
                rw [hM2] at HS9 ⊢
                have HM2 : Hid ((insE m1 oe).length = M2 ∧ M2 ≤ M1 + 1 ∧ WfL (insE m1 oe)) := ⟨hM2, by have h1 := insE_len m1 oe; have h2 := HM1.out.2.1; omega, insE_wf HM1.out.1 HOW.out⟩
                clear hr9 hb9 hM2 c0 c1 HINS2 HS8
                go_wp2_with fail
                go_meet
                exact ⟨z, M2, mc2, A3, tz, insE m1 oe, ma2, rd2, _, _, rfl, rfl, rfl, rfl, HS9.out, List.mem_cons_of_mem _ HRW.out.1, List.mem_cons_self, by have := HG.out.inv; rw [hof_pls] at this; exact this, HG.out.agg, HTX.out.kept HG.out.kept HG.out.inv HG.out.agg, HTZ.out, HM2.out.2.2, HM2.out.1, HM2.out.2.1, HR8.out.1, HR8.out.2.1, HR8.out.2.2⟩
              | true =>
                have hM0 := HBB.out rfl
                have hli : (0 : Int) < (M1 : Int) := by omega
                have t1 := Int.tmod_lt_of_pos oe.key (b := 1000) (by decide)
                have t2 := Int.lt_tmod_of_pos oe.key (b := 1000) (by decide)
                obtain ⟨T1, hT1⟩ : ∃ T1, oe.key.tmod 1000 = T1 := ⟨_, rfl⟩
                rw [hT1] at t1 t2
                have p1 := Int.emod_nonneg T1 (b := (M1 : Int)) (by omega)
                have p2 := Int.emod_lt_of_pos T1 (b := (M1 : Int)) (by omega)
                obtain ⟨P, hP⟩ := Int.eq_ofNat_of_zero_le p1
                rw [hP] at p2
                have HMOD : Hid (∀ wx, Calls Tryz.prog 15 #[.int .i64 T1, .int .i64 (M1 : Int)] wx (fun e w' => e = .returned (.int .i64 (P : Int)) ∧ wx = w')) := fun wx => (mod_any T1 (M1 : Int) wx (by omega) (by omega) (by omega) (by omega)).mono fun e w' ⟨h1, h2⟩ => ⟨by rw [h1, hP], h2⟩
                obtain ⟨eP, heP⟩ : ∃ e, m1[P]? = some e := ⟨_, List.getElem?_eq_getElem (by have := HM1.out.2.1; omega)⟩
                have HKP := Lib.hid (HM1.out.1 eP (List.mem_of_getElem? heP)).1
                have HGE : Hid (getE m1 eP.key ≠ none) := by
                  show _ ≠ _
                  rw [get_of HTY.out.up (List.mem_of_getElem? heP)]
                  exact fun h => by cases h
                obtain ⟨g, off, rfl, -, c0, c1⟩ := (HEO.out.below HS.out.below).at HOE.out
                obtain ⟨g2, off2, rfl, -, d0, d1⟩ := (ens_row (w := wr) (B := w.heap.size) (c := mc1) HM1.out.2.1 (HS.out.rows ⟨69, 2, .slice ma1 M1 mc1, M1, ensV m1⟩ HRW.out.2) HM1.out.1).at heP
                have hP0 : (0 : Int) ≤ (P : Int) := by omega
                have hPL : (P : Int) < (M1 : Int) := p2
                have HT12 : Hid (-1000 < T1 ∧ T1 < 1000) := ⟨t2, t1⟩
                clear heP p1 p2 hP t1 t2 c1 d1 hM0
                go_wp2_with fail
                refine (HMOD.out _).mono ?_
                rintro e w8' ⟨rfl, rfl⟩
                go_wp2_with fail
                refine (HS.out.mut fun F hI => HKU.out.delete eP.key wr hI HV.out HHS.out HTY.out HM1.out.1 HRD.out.1 (by have := HRD.out; have := HED.out; have := HM1.out; omega) HKP.out).mono ?_
                rintro e w8 ⟨A3, rd2, hq, hs8⟩
                obtain ⟨g0, g1, z, tz, xv, rfl, hg, hfr⟩ := delQ_left hq HGE.out HINJ.out.2 HRO.out.1
                have HS8 := Lib.hid hs8
                have HG := Lib.hid hg
                have HTZ := Lib.hid (hg.tree (List.Pairwise.filter _ HTY.out.up))
                have HR8 : Hid (rd ≤ rd2 ∧ rd2 ≤ rd + 5000 ∧ (A2.σ.free.length : Int) ≤ (A3.σ.free.length : Int) + INS) := ⟨g0, by have := HUB.out; omega, hfr⟩
                have HINS2 := Lib.hid (refDelete16_any (c := mc1) eP.key (ens_row (w := w8) (B := w.heap.size) (c := mc1) HM1.out.2.1 (HS8.out.rows ⟨69, 2, .slice (some ⟨g2, off2, none⟩) M1 mc1, M1, ensV m1⟩ HRW.out.2) HM1.out.1) HM1.out.2.1 (by have := HM1.out; have := HLN.out; have := HED.out; omega))
                clear c0 d0 hq hs8 hg g0 g1 hfr
                go_wp2_with fail
                refine HINS2.out.mono ?_
                rintro e w9 ⟨ma2, mc2, rfl, hr9, hb9⟩
                have HS9 := Lib.hid (HS8.out.row hb9 hr9)
                obtain ⟨M2, hM2⟩ : ∃ n, (outE m1 eP.key eP.key).length = n := ⟨_, rfl⟩
                rw [hM2] at HS9 ⊢
                have HM2 : Hid ((outE m1 eP.key eP.key).length = M2 ∧ M2 ≤ M1 + 1 ∧ WfL (outE m1 eP.key eP.key)) := ⟨hM2, by have h1 := outE_len m1 eP.key eP.key; have h2 := HM1.out.2.1; omega, fun y hy => HM1.out.1 y (List.mem_filter.1 hy).1⟩
                clear hr9 hb9 hM2 HINS2 HS8
                go_wp2_with fail
                go_meet
                exact ⟨z, M2, mc2, A3, tz, outE m1 eP.key eP.key, ma2, rd2, _, _, rfl, rfl, rfl, rfl, HS9.out, List.mem_cons_of_mem _ HRW.out.1, List.mem_cons_self, by have := HG.out.inv; rw [hof_pls] at this; exact this, HG.out.agg, HTX.out.kept HG.out.kept HG.out.inv HG.out.agg, HTZ.out, HM2.out.2.2, HM2.out.1, HM2.out.2.1, HR8.out.1, HR8.out.2.1, HR8.out.2.2⟩
            case' rest =>
              obtain ⟨z, M2, mc2, A3, tz, m2, ma2, rd2, rs2, kv, rfl, rfl, rfl, rfl, hs9, hrl, hrm, hv3, ha3, htx, htz, hwm, hlm, hml, hrd0, hrd1, hfr⟩ := hcut
              rename World => w9
              have HS9 := Lib.hid hs9
              have HV3 : Hid (A3.Inv [] (hof (y :: [x, z]))) := by
                rw [hof_perm (show [x, y, z].Perm [y, x, z] from List.Perm.swap _ _ _)] at hv3
                exact hv3
              have HXX : Hid (A3.Agg ∧ TreeAt A3 x tx l ∧ TreeAt A3 z tz m2 ∧ WfL m2 ∧ m2.length = M2 ∧ M2 ≤ M1 + 1 ∧ (⟨69, 2, .slice la L lc, L, ensV l⟩ : Row) ∈ rs2 ∧ (⟨69, 2, .slice ma2 M2 mc2, M2, ensV m2⟩ : Row) ∈ rs2) := ⟨ha3, htx, htz, hwm, hlm, hml, hrl, hrm⟩
              have HR9 : Hid (rd ≤ rd2 ∧ rd2 ≤ rd + 5000 ∧ (A2.σ.free.length : Int) ≤ (A3.σ.free.length : Int) + INS) := ⟨hrd0, hrd1, hfr⟩
              clear hs9 hrl hrm hv3 ha3 htx htz hwm hlm hml hrd0 hrd1 hfr
              go_wp2_with fail
              refine (HS9.out.giveBack HV3.out HXX.out.1).mono ?_
              rintro e w10 ⟨mr, rfl, hv4, ha4, -, hfr4, hs10⟩
              have hpos : ∀ u ∈ [x, z], u = 0 ∨ 0 < hof [x, z] u := fun u hu => by
                by_cases h0 : u = 0
                · exact .inl h0
                · exact .inr (hof_pos hu h0)
              have HN : Hid (PrRel I w (.pointer (some pa)) x tx l L la lc ED INS (.int .i64 ((i + 1 : Nat) : Int)) (.int .u32 (z : Int)) (.slice ma2 M2 mc2) w10) :=
                ⟨i + 1, z, M2, mc2, A3.gone y, tz, m2, ma2, rd2, rs2, rfl, rfl, rfl, by have := HLT.out; omega, hs10, HXX.out.2.2.2.2.2.2.1, HXX.out.2.2.2.2.2.2.2, hv4, ha4, HXX.out.2.1.gone hv4 ha4 (hpos x (by simp)), HXX.out.2.2.1.gone hv4 ha4 (hpos z (by simp)), HXX.out.2.2.2.1, HXX.out.2.2.2.2.1, by have h1 := HXX.out.2.2.2.2.2.1; have h2 := HM1.out.2.2.1; omega, by have h1 := HR9.out; have h2 := HRD.out; omega, by have h1 := HR9.out; have h2 := HRD.out; omega, by have h1 := HR9.out.2.2; have h2 := HRO.out.2; omega⟩
              clear hv4 ha4 hfr4 hs10 hpos HS9 HV3
              go_wp2_with fail
              exact ⟨by rw [show ((i : Int) + 1) = ((i + 1 : Nat) : Int) by omega]; exact HN.out, by have := HLT.out; simp [intOf]; omega⟩
        · have hii : ¬ (i : Int) < (ED : Int) := by omega
          have HRES : Hid (PairRes16 I w (.returned (.tuple #[.pointer (some pa), .int .u32 (x : Int), .int .u32 (y : Int), .slice la L lc, .slice ma1 M1 mc1, .bool true])) wr) :=
            ⟨_, A2, x, y, tx, ty, l, m1, rd, L, M1, la, ma1, lc, mc1, _, rfl, ⟨HS.out, HRW.out.1, HRW.out.2, HV.out, HA.out, HTX.out, HTY.out, HWL.out, HM1.out.1, HLN.out, ⟨HM1.out.2.1, by have := HM1.out; have := HLN.out; have := HED.out; omega⟩, HRD.out.1, by have := HRD.out; have := HM1.out; have := HED.out; omega⟩, by have := HRD.out; have := HM1.out; have := HED.out; omega⟩
          clear hlt
          go_wp2_with fail
          (try simp only [Exit.inBlock, Exit.then])
          refine bodyPost_ret (results_tmp6 rfl _ _ _) rfl ?_
          exact HRES.out
theorem Scn.freeB {I : AImpl} {B : Nat} {w0 w : World} {p : Value} {A : Ar} {rd : Int} {rs : List Row} {bs : List (Nat × Obj)} (h : Scn I B w0 w p A rd rs bs) : Calls Tryz.prog 51 #[p] w fun e w' => e = .returned (.int .i64 (A.σ.free.length : Int)) ∧ Scn I B w0 w' p A rd rs bs ∧ Below w.heap.size w w' := by
  obtain ⟨F, f1, f2, f3⟩ := h.mr.has
  refine (I.freeN p A rd F w f1).mono ?_
  rintro e w1 ⟨h3, q, h4⟩
  exact ⟨h3, by subst h4; exact h.calm (below_drewN (Below.refl _ _) _), by subst h4; exact below_drewN (Below.refl _ _) _⟩
theorem us_at16 (w : World) (t : TypeId) (xs : List Nat) (cs : Array Value) (hc : cs = (xs.map fun x : Nat => Value.int .u32 (x : Int)).toArray) (hx : ∀ x ∈ xs, x < 4294967296) : U32At (w.alloc (.cells cs t)) (some ⟨w.heap.size, 0, none⟩) xs := by
  have hr := heap_alloc_new w (.cells cs t)
  refine ⟨fun j hj => ⟨w.heap.size, 0, rfl, by simp, ?_⟩, hx⟩
  rw [cell_of_row _ _ _ _ _ _ hr, hc]
  simp [List.getD_eq_getElem?_getD, hj]
set_option maxHeartbeats 16000000 in
set_option maxRecDepth 100000 in
theorem checked_any {I : AImpl} (hchk : CheckSpec) {Z : Nat} {w0 w : World} {pa : Addr} {A B : Ar} {rd0 rd need : Int} {rs : List Row} {x y i res N M W wc dc dd : Nat} {da db wa : Option Addr} {tx ty : Tr} {l m want : List En} {same : Prop} {sm : Bool} {ev : Int}
    (h : Scn I Z w0 w (.pointer (some pa)) B rd rs []) (hQ : SetQ A rd0 (hof [x, y]) l m want same res (.returned (.tuple #[.int .u32 (i : Int), .int .i64 ev])) B rd) (hsm : sm = true ↔ same) (hneed : setI (l.length : Int) (m.length : Int) = need)
    (hA : A.Inv [] (hof [x, y])) (hN : A.σ.cap = N) (hM : A.σ.free.length = M) (hTX : TreeAt A x tx l) (hTY : TreeAt A y ty m) (hr0 : (⟨26, 1, .slice db M dd, M, u32s A.σ.free⟩ : Row) ∈ rs) (hr1 : (⟨87, 11, .slice da N dc, N, slotsV A⟩ : Row) ∈ rs)
    (hE : EnsAt w wa want) (hW : want.length = W) (hW6 : W ≤ 65536) (hup : Up want) (h00 : 0 ≤ rd0) (h01 : rd0 ≤ 1099511627776) (hn0 : 0 ≤ need) (hn1 : need ≤ 1000000) :
    Calls Tryz.prog 17 #[.pointer (some pa), .agg #[.slice da N dc, .slice db M dd], .int .u64 rd0, .int .u32 (x : Int), .int .u32 (y : Int), .int .u32 (i : Int), .int .i64 ev, .slice wa W wc, .bool sm, .int .u32 (res : Int), .int .i64 need] w (Calm w (.bool true)) := by
  have HCHK := Lib.hid hchk
  have HNM : Hid (A.σ.cap = N ∧ A.σ.free.length = M ∧ N ≤ 65536 ∧ M ≤ 65536) := ⟨hN, hM, by have := hA.ok.cap2; omega, by have := hA.ok.len; have := hA.ok.cap2; omega⟩
  have HAI := Lib.hid hA
  have HTX := Lib.hid hTX
  have HTY := Lib.hid hTY
  have HR0 := Lib.hid hr0
  have HR1 := Lib.hid hr1
  have HW : Hid (EnsAt w wa want ∧ want.length = W ∧ W ≤ 65536 ∧ Up want) := ⟨hE, hW, hW6, hup⟩
  have HXY : Hid (x < 4294967296 ∧ y < 4294967296) := ⟨hTX.idx, hTY.idx⟩
  have HRD : Hid (0 ≤ rd0 ∧ rd0 ≤ 1099511627776) := ⟨h00, h01⟩
  have hs1 := h.box #[.slice da N dc, .slice db M dd] 33
  have hb1 := below_new7 w (.cells #[.slice da N dc, .slice db M dd] 33)
  obtain ⟨h40, h41, hq⟩ := hQ
  have HR4 := Lib.hid h40
  have HCEL : Hid (∀ {q : Nat} {wx : World} {C : Ar} {rdx : Int} {rs' : List Row} {bs' : List (Nat × Obj)}, Scn I Z w0 wx (.pointer (some pa)) C rdx rs' (bs' ++ [(q, .cells #[.slice da N dc, .slice db M dd] 33 (0, 0))]) → wx.cell? ⟨q, 0, none⟩ = some (.slice da N dc) ∧ wx.cell? ⟨q, 1, none⟩ = some (.slice db M dd)) := fun {q wx C rdx rs' bs'} h => two_cells (h.boxes (q, .cells #[.slice da N dc, .slice db M dd] 33 (0, 0)) (by simp)).2
  have hmm : ((M : Int) == (M : Int)) = true := by simp
  have hrr : ((res : Int) == (res : Int)) = true := by simp
  have HI3 : Hid (∀ z, z < 4294967296 → ∀ u ∈ [x, y, z], u < 4294967296) := fun z hz u hu => by
    simp at hu
    rcases hu with rfl | rfl | rfl
    · exact HXY.out.1
    · exact HXY.out.2
    · exact hz
  have HON3 : Hid (∀ z (t : Tr), A.Kept B → Sub B z t → ∀ u ∈ [x, y, z], u = 0 ∨ B.σ.on u = true) := fun z t hk hz u hu => by
    simp at hu
    rcases hu with rfl | rfl | rfl
    · exact HTX.out.sub.idx.imp_right (hk.on _)
    · exact HTY.out.sub.idx.imp_right (hk.on _)
    · exact hz.idx
  clear hchk h hA hN hM hTX hTY hr0 hr1 hE hW hW6 hup h00 h01 h40
  rcases hq with ⟨hsame, hlt, he, ⟨t, hg⟩, hfree⟩ | ⟨hsame, hfull, he, rfl⟩ | ⟨hsame, hroom, j, t, he, hg⟩
  · have hsmt : sm = true := hsm.2 hsame
    subst hsmt
    obtain ⟨hx, rfl⟩ : (i : Int) = (res : Int) ∧ ev = 0 := by simpa using he
    obtain rfl : i = res := by omega
    have HFB : Hid (B.σ.free.length = M) := hfree.trans HNM.out.2.1
    have HG := Lib.hid hg
    have HINV : Hid (B.Inv [] (hof [x, y, i])) := by
      have := hg.inv
      rw [hof_pls] at this
      exact this
    have HWI : Hid (rd ≤ rd0 + 4) := hlt
    clear hsm hsame hlt he hx hg hfree h41
    go_enter Tryz.func17, Tryz.ntmps17
    go_upto_region 1 with fail
    generalize w.alloc (.cells #[.slice da N dc, .slice db M dd] 33) = w1 at hs1 hb1 ⊢
    have HB1 := Lib.hid hb1
    have HSZ : Hid (w.heap.size ≤ w1.heap.size) := hb1.size
    clear hb1
    obtain ⟨q, hq'⟩ : ∃ q, w.heap.size = q := ⟨_, rfl⟩
    rw [hq'] at hs1 ⊢
    have HQQ := Lib.hid hq'
    clear hq'
    have HS1 := Lib.hid hs1
    clear hs1
    go_upto_region 2 with fail
    obtain ⟨q0, q1⟩ := HCEL.out (bs' := []) HS1.out
    have hSd := HS1.out.calm (Below.refl _ _).drew
    have hBd : Below w.heap.size w w1.drew := HB1.out.trans ((Below.refl _ _).drew.mono HSZ.out)
    go_region_held3 (fun w' => w'.cell? ⟨q, 0, none⟩ = some (.slice da N dc) ∧ w'.cell? ⟨q, 1, none⟩ = some (.slice db M dd)) (go_keep) (first
      | (go_at_call 51; refine hSd.freeB.mono ?_; rintro e wC ⟨rfl, hsC, hbC⟩; have hBC := hBd.trans (hbC.mono hBd.size); rw [HFB.out]; obtain ⟨q0, q1⟩ := HCEL.out (bs' := []) hsC)
      | (go_at_call 52; refine (within_any (most := 4) hsC.mr HRD.out.1 HR4.out HWI.out (by have := HRD.out; have := HWI.out; omega) (by decide)).mono ?_; rintro e wD ⟨rfl, hbD⟩; have hsD := hsC.calm hbD; have hBD := hBC.trans (hbD.mono hBC.size); obtain ⟨q0, q1⟩ := HCEL.out (bs' := []) hsD)
      | (go_at_call 33; refine ((hsD.box _ _).sound HCHK.out HINV.out HG.out.agg (us_at16 _ _ [x, y, i] #[.int .u32 (x : Int), .int .u32 (y : Int), .int .u32 (i : Int)] rfl (HI3.out i HG.out.idx)) (L := 3) rfl (by decide) (HON3.out i t HG.out.kept HG.out.sub)).mono ?_; rintro e wE ⟨rfl, hbE⟩; have hsE := (hsD.box _ _).calm hbE; have hBn := hBD.trans ((below_new7 wD (.cells #[.int .u32 (x : Int), .int .u32 (y : Int), .int .u32 (i : Int)] 26)).mono hBD.size); have hBE := hBn.trans (hbE.mono hBn.size); obtain ⟨q0, q1⟩ := HCEL.out (bs' := [_]) hsE))
    all_goals (go_wp2_with fail; go_ret; exact ⟨rfl, by (try rw [← HQQ.out]); exact hBE⟩)
  · obtain ⟨hx, rfl⟩ : (i : Int) = 0 ∧ ev = 2 := by simpa using he
    obtain rfl : i = 0 := by omega
    have hsmf : sm = false := by cases hb : sm with | false => rfl | true => exact absurd (hsm.1 hb) hsame
    subst hsmf
    have hms : decide ((M : Int) < need) = true := decide_eq_true (by rw [← hneed, ← HNM.out.2.1]; exact hfull)
    have hms2 : (M : Int) < need := by rw [← hneed, ← HNM.out.2.1]; exact hfull
    clear hsm hsame he hx hfull h41 hneed
    go_enter Tryz.func17, Tryz.ntmps17
    go_upto_region 1 with fail
    generalize w.alloc (.cells #[.slice da N dc, .slice db M dd] 33) = w1 at hs1 hb1 ⊢
    have HB1 := Lib.hid hb1
    have HSZ : Hid (w.heap.size ≤ w1.heap.size) := hb1.size
    clear hb1
    obtain ⟨q, hq'⟩ : ∃ q, w.heap.size = q := ⟨_, rfl⟩
    rw [hq'] at hs1 ⊢
    have HQQ := Lib.hid hq'
    clear hq'
    have HS1 := Lib.hid hs1
    clear hs1
    go_wp2_with fail
    refine HS1.out.dump.mono ?_
    rintro e w2 ⟨ea, ec, eb, ed, rfl, hs2, hb2⟩
    rw [HNM.out.1, HNM.out.2.1] at hs2 ⊢
    have hs3 := hs2.box #[.slice ea N ec, .slice eb M ed] 33
    have hB3 : Below w.heap.size w (w2.alloc (.cells #[.slice ea N ec, .slice eb M ed] 33)) := (HB1.out.trans (hb2.mono HSZ.out)).trans ((below_new7 w2 _).mono (Nat.le_trans HSZ.out hb2.size))
    clear hs2
    go_upto_region 4 with fail
    generalize w2.alloc (.cells #[.slice ea N ec, .slice eb M ed] 33) = w3 at hs3 hB3 ⊢
    generalize w2.heap.size = q2 at hs3 ⊢
    have HS3 := Lib.hid hs3
    have HB3 := Lib.hid hB3
    obtain ⟨z0, z1⟩ := two_cells (hs3.boxes (q2, .cells #[.slice ea N ec, .slice eb M ed] 33 (0, 0)) (by simp)).2
    obtain ⟨q0, q1⟩ := HCEL.out (bs' := [_]) hs3
    clear hs3 hB3 hb2
    go_wp2_with fail
    refine (same_dump B.σ.free HNM.out.2.1 (HS3.out.slots_of (c := ec) HAI.out HNM.out.1 (by simp)) (HS3.out.slots_of (c := dc) HAI.out HNM.out.1 (by simp [HR1.out])) (HS3.out.rows ⟨26, 1, .slice eb M ed, M, u32s B.σ.free⟩ (by simp)) (HS3.out.rows ⟨26, 1, .slice db M dd, M, u32s B.σ.free⟩ (by simp [HR0.out])) HNM.out.2.2.1 HNM.out.2.2.2).mono ?_
    rintro e w4 ⟨rfl, hb4⟩
    have HB4 : Hid (Below w.heap.size w w4) := HB3.out.trans (hb4.mono HB3.out.size)
    clear hb4 q0 q1 z0 z1
    go_wp2_with fail
    go_ret
    exact ⟨rfl, by (try rw [← HQQ.out]); exact HB4.out⟩
  · obtain ⟨hx, rfl⟩ : (i : Int) = (j : Int) ∧ ev = 0 := by simpa using he
    obtain rfl : i = j := by omega
    have hsmf : sm = false := by cases hb : sm with | false => rfl | true => exact absurd (hsm.1 hb) hsame
    subst hsmf
    have hms : decide ((M : Int) < need) = false := decide_eq_false (by rw [← hneed, ← HNM.out.2.1]; omega)
    have hms2 : ¬ (M : Int) < need := by rw [← hneed, ← HNM.out.2.1]; omega
    have HG := Lib.hid hg
    have HTI := Lib.hid (hg.tree HW.out.2.2.2)
    have HINV : Hid (B.Inv [] (hof [x, y, i])) := by
      have := hg.inv
      rw [hof_pls] at this
      exact this
    have HBC : Hid (B.σ.cap = N) := hg.kept.cap.trans HNM.out.1
    have HKS : Hid (KeptS N A.sl B.sl) := kept_keptS2 hg.kept hg.gen
    clear hsm hsame he hx hroom h41 hneed hg
    go_enter Tryz.func17, Tryz.ntmps17
    go_upto_region 1 with fail
    generalize w.alloc (.cells #[.slice da N dc, .slice db M dd] 33) = w1 at hs1 hb1 ⊢
    have HB1 := Lib.hid hb1
    have HSZ : Hid (w.heap.size ≤ w1.heap.size) := hb1.size
    clear hb1
    obtain ⟨q, hq'⟩ : ∃ q, w.heap.size = q := ⟨_, rfl⟩
    rw [hq'] at hs1 ⊢
    have HQQ := Lib.hid hq'
    clear hq'
    have HS1 := Lib.hid hs1
    clear hs1
    go_wp2_with fail
    refine HS1.out.dump.mono ?_
    rintro e w2 ⟨ea, ec, eb, ed, rfl, hs2, hb2⟩
    obtain ⟨FB, hFB⟩ : ∃ n, B.σ.free.length = n := ⟨_, rfl⟩
    rw [HBC.out, hFB] at hs2 ⊢
    clear hFB
    have hs3 := hs2.box #[.slice ea N ec, .slice eb FB ed] 33
    have hB3 : Below w.heap.size w (w2.alloc (.cells #[.slice ea N ec, .slice eb FB ed] 33)) := (HB1.out.trans (hb2.mono HSZ.out)).trans ((below_new7 w2 _).mono (Nat.le_trans HSZ.out hb2.size))
    clear hs2
    go_upto_region 4 with fail
    generalize w2.alloc (.cells #[.slice ea N ec, .slice eb FB ed] 33) = w3 at hs3 hB3 ⊢
    generalize w2.heap.size = q2 at hs3 ⊢
    have HS3 := Lib.hid hs3
    have HB3 := Lib.hid hB3
    have HCE2 : Hid (∀ {wx : World} {C : Ar} {rdx : Int} {rs' : List Row} {bs' : List (Nat × Obj)}, Scn I Z w0 wx (.pointer (some pa)) C rdx rs' (bs' ++ (q2, .cells #[.slice ea N ec, .slice eb FB ed] 33 (0, 0)) :: [(q, .cells #[.slice da N dc, .slice db M dd] 33 (0, 0))]) → (wx.cell? ⟨q2, 0, none⟩ = some (.slice ea N ec) ∧ wx.cell? ⟨q2, 1, none⟩ = some (.slice eb FB ed)) ∧ wx.cell? ⟨q, 0, none⟩ = some (.slice da N dc) ∧ wx.cell? ⟨q, 1, none⟩ = some (.slice db M dd)) := fun {wx C rdx rs' bs'} h => ⟨two_cells (h.boxes (q2, .cells #[.slice ea N ec, .slice eb FB ed] 33 (0, 0)) (by simp)).2, two_cells (h.boxes (q, .cells #[.slice da N dc, .slice db M dd] 33 (0, 0)) (by simp)).2⟩
    obtain ⟨⟨z0, z1⟩, q0, q1⟩ := HCE2.out (bs' := []) hs3
    clear hs3 hB3 hb2
    go_wp2_with fail
    refine (refTree_any (b := eb) (c := ec) (m := FB) (d := ed) HINV.out HBC.out (HS3.out.slots_of (c := ec) HINV.out HBC.out (by simp)) HTI.out (HW.out.1.below HB3.out) HW.out.2.1 HW.out.2.2.1).mono ?_
    rintro e w4 ⟨rfl, hb4⟩
    have HS4 := Lib.hid (HS3.out.calm hb4)
    have HB4 : Hid (Below w.heap.size w w4) := HB3.out.trans (hb4.mono HB3.out.size)
    clear hb4 q0 q1 z0 z1 HS3 HB3
    obtain ⟨⟨z0, z1⟩, q0, q1⟩ := HCE2.out (bs' := []) HS4.out
    go_wp2_with fail
    refine (kept_any (HS4.out.slots_of (c := dc) HAI.out HNM.out.1 (by simp [HR1.out])) (HS4.out.slots_of (c := ec) HINV.out HBC.out (by simp)) HKS.out HNM.out.2.2.1).mono ?_
    rintro e w5 ⟨rfl, hb5⟩
    have HS5 := Lib.hid (HS4.out.calm hb5)
    have HB5 : Hid (Below w.heap.size w w5) := HB4.out.trans (hb5.mono HB4.out.size)
    clear hb5 q0 q1 z0 z1 HS4 HB4
    have HXB := Lib.hid (HS5.out.box #[.int .u32 (x : Int), .int .u32 (y : Int), .int .u32 (i : Int)] 26)
    have HAT := Lib.hid (us_at16 w5 26 [x, y, i] #[.int .u32 (x : Int), .int .u32 (y : Int), .int .u32 (i : Int)] rfl (HI3.out i HG.out.idx))
    have HB6 : Hid (Below w.heap.size w (w5.alloc (.cells #[.int .u32 (x : Int), .int .u32 (y : Int), .int .u32 (i : Int)] 26))) := HB5.out.trans ((below_new7 w5 _).mono HB5.out.size)
    go_wp2_with fail
    refine (HXB.out.sound HCHK.out HINV.out HG.out.agg HAT.out (L := 3) rfl (by decide) (HON3.out i t HG.out.kept HG.out.sub)).mono ?_
    rintro e w7 ⟨rfl, hb7⟩
    have HB7 : Hid (Below w.heap.size w w7) := HB6.out.trans (hb7.mono HB6.out.size)
    clear hb7 HXB HAT HS5
    go_wp2_with fail
    go_ret
    exact ⟨rfl, by (try rw [← HQQ.out]); exact HB7.out⟩
theorem min_runU (a b : Int) (w : World) (ts : Array TypeId) (t : TypeId) : (Builtin.min_ ts t #[.int .i64 a, .int .i64 b]).run Tryz.prog w = .ok (.int .i64 (min a b)) w := by
  have h : (if b < a then b else a) = min a b := by rw [Int.min_def]; split <;> split <;> omega
  rw [← h]
  simp [Builtin.min_, Builtin.min2]
theorem max_runU (a b : Int) (w : World) (ts : Array TypeId) (t : TypeId) : (Builtin.max_ ts t #[.int .i64 a, .int .i64 b]).run Tryz.prog w = .ok (.int .i64 (max a b)) w := by
  have h : (if a < b then b else a) = max a b := by rw [Int.max_def]; split <;> split <;> omega
  rw [← h]
  simp [Builtin.max_, Builtin.max2]
set_option maxRecDepth 100000 in
theorem choose_any (p v u : Int) (w : World) : Calls Tryz.prog 56 #[.int .i64 p, .int .i64 v, .int .i64 u] w fun e w' => e = .returned (.int .i64 (chooseV p v u)) ∧ w = w' := by
  obtain ⟨S, hS⟩ : ∃ S, IntKind.i64.wrap (v + u) = S := ⟨_, rfl⟩
  have HC : Hid (chooseV p v u = if p = 1 then v else if p = 2 then u else if p = 3 then S else if p = 4 then min v u else max v u) := by show _ = _; unfold chooseV; rw [hS]
  by_cases h1 : p = 1
  · have q1 : (p == 1) = true := by simp [h1]
    have HR : Hid (chooseV p v u = v) := by show _ = _; rw [HC.out, if_pos h1]
    clear h1 HC
    go_enter Tryz.func56, Tryz.ntmps56
    go_wp2_with fail
    go_ret
    exact ⟨by rw [HR.out]; rfl, rfl⟩
  have q1 : (p == 1) = false := by simp [h1]
  by_cases h2 : p = 2
  · have q2 : (p == 2) = true := by simp [h2]
    have HR : Hid (chooseV p v u = u) := by show _ = _; rw [HC.out, if_neg h1, if_pos h2]
    clear h1 h2 HC
    go_enter Tryz.func56, Tryz.ntmps56
    go_wp2_with fail
    go_ret
    exact ⟨by rw [HR.out]; rfl, rfl⟩
  have q2 : (p == 2) = false := by simp [h2]
  by_cases h3 : p = 3
  · have q3 : (p == 3) = true := by simp [h3]
    have HR : Hid (chooseV p v u = S) := by show _ = _; rw [HC.out, if_neg h1, if_neg h2, if_pos h3]
    clear h1 h2 h3 HC
    go_enter Tryz.func56, Tryz.ntmps56
    go_wp2_with fail
    go_ret
    exact ⟨by rw [HR.out]; rfl, rfl⟩
  have q3 : (p == 3) = false := by simp [h3]
  by_cases h4 : p = 4
  · have q4 : (p == 4) = true := by simp [h4]
    obtain ⟨M, hM⟩ : ∃ M, min v u = M := ⟨_, rfl⟩
    have hmin : ∀ (w : World) (ts : Array TypeId) (t : TypeId), (Builtin.min_ ts t #[.int .i64 v, .int .i64 u]).run Tryz.prog w = .ok (.int .i64 M) w := fun w ts t => by rw [← hM]; exact min_runU v u w ts t
    have HR : Hid (chooseV p v u = M) := by show _ = _; rw [HC.out, if_neg h1, if_neg h2, if_neg h3, if_pos h4, hM]
    clear h1 h2 h3 h4 HC hM
    go_enter Tryz.func56, Tryz.ntmps56
    go_wp2_with fail
    go_ret
    exact ⟨by rw [HR.out]; rfl, rfl⟩
  have q4 : (p == 4) = false := by simp [h4]
  obtain ⟨M, hM⟩ : ∃ M, max v u = M := ⟨_, rfl⟩
  have hmax : ∀ (w : World) (ts : Array TypeId) (t : TypeId), (Builtin.max_ ts t #[.int .i64 v, .int .i64 u]).run Tryz.prog w = .ok (.int .i64 M) w := fun w ts t => by rw [← hM]; exact max_runU v u w ts t
  have HR : Hid (chooseV p v u = M) := by show _ = _; rw [HC.out, if_neg h1, if_neg h2, if_neg h3, if_neg h4, hM]
  clear h1 h2 h3 h4 HC hM
  go_enter Tryz.func56, Tryz.ntmps56
  go_wp2_with fail
  go_ret
  exact ⟨by rw [HR.out]; rfl, rfl⟩
set_option maxRecDepth 100000 in
theorem policy_any (p : Int) (w : World) : Calls Tryz.prog 12 #[.int .i64 p] w fun e w' => e = .returned (.bool (decide (1 ≤ p ∧ p ≤ 5))) ∧ w = w' := by
  by_cases h1 : 1 ≤ p
  · have q1 : decide (p ≥ 1) = true := decide_eq_true h1
    have q2 : decide (1 ≤ p) = true := decide_eq_true h1
    obtain ⟨b, hb⟩ : ∃ b, decide (p ≤ 5) = b := ⟨_, rfl⟩
    have HR : Hid (decide (1 ≤ p ∧ p ≤ 5) = b) := by show _ = _; rw [← hb]; simp [h1]
    clear h1
    go_enter Tryz.func12, Tryz.ntmps12
    go_wp2_with fail
    go_ret
    exact ⟨by rw [HR.out]; rfl, rfl⟩
  · have q1 : decide (p ≥ 1) = false := decide_eq_false h1
    have q2 : decide (1 ≤ p) = false := decide_eq_false h1
    have HR : Hid (decide (1 ≤ p ∧ p ≤ 5) = false) := decide_eq_false fun h => h1 h.1
    clear h1
    go_enter Tryz.func12, Tryz.ntmps12
    go_wp2_with fail
    go_ret
    exact ⟨by rw [HR.out]; rfl, rfl⟩
/-- a slice of entries that stays -/
def EnsRet (w : World) (l : List En) (e : Ending) (w' : World) : Prop := ∃ a c, e = .returned (.slice a l.length c) ∧ EnsAt w' a l ∧ Below w.heap.size w w'
def UnRel (w : World) (l m : List En) (p : Int) (N : Nat) (out i : Value) (wr : World) : Prop :=
  ∃ (j : Nat) (a : Option Addr) (n c : Nat), i = .int .i64 (j : Int) ∧ j ≤ N ∧ out = .slice a n c ∧ (unionE l (m.take j) p).length = n ∧ EnsAt wr a (unionE l (m.take j) p) ∧ Below w.heap.size w wr
set_option maxHeartbeats 4000000 in
set_option maxRecDepth 100000 in
theorem union_any {w : World} {a b : Option Addr} {n c k d : Nat} {l m : List En} (p : Int) (h : EnsAt w a l) (hn : l.length = n) (hl : n ≤ 100000) (h' : EnsAt w b m) (hk : m.length = k) (hm : k ≤ 100000) :
    Calls Tryz.prog 18 #[.slice a n c, .slice b k d, .int .i64 p] w (EnsRet w (unionE l m p)) := by
  have HE := Lib.hid h
  have HE' := Lib.hid h'
  have HN : Hid (l.length = n ∧ n ≤ 100000 ∧ m.length = k ∧ k ≤ 100000) := ⟨hn, hl, hk, hm⟩
  have hki : (k : Int) ≤ 100000 := by omega
  have HW : Hid ((∀ y ∈ l, i64R y.key ∧ i64R y.val) ∧ ∀ y ∈ m, i64R y.key ∧ i64R y.val) := ⟨h.wf, h'.wf⟩
  have HR0 : Hid (UnRel w l m p k (.slice a n c) (.int .i64 0) w) := ⟨0, a, n, c, rfl, Nat.zero_le _, rfl, hn, h, Below.refl _ _⟩
  clear h hn hl h' hk hm
  go_enter Tryz.func18, Tryz.ntmps18
  go_wp2_with fail
  go_loopw [7, 8] (fun out i wr => UnRel w l m p k out i wr) (fun _ i _ => k - (intOf i).toNat)
  case atStart => exact HR0.out
  case round =>
    clear HR0
    obtain ⟨j, oa, on, oc, rfl, hj, rfl, hol, hoe, hb⟩ := hrel
    have HO : Hid ((unionE l (m.take j) p).length = on ∧ EnsAt wr oa (unionE l (m.take j) p) ∧ Below w.heap.size w wr ∧ j ≤ k) := ⟨hol, hoe, hb, hj⟩
    have hj0 : (0 : Int) ≤ (j : Int) := by omega
    clear hol hoe hb hj
    by_cases hlt : j < k
    · have hji : (j : Int) < (k : Int) := by omega
      obtain ⟨e, he⟩ : ∃ e, m[j]? = some e := ⟨_, List.getElem?_eq_getElem (by have := HN.out; omega)⟩
      obtain ⟨g, off, rfl, hgb, c0, c1⟩ := (HE'.out.below HO.out.2.2.1).at he
      have HEW := Lib.hid (HW.out.2 e (List.mem_of_getElem? he))
      have HUT : Hid (unionE l (m.take (j + 1)) p = insE (unionE l (m.take j) p) (mixE l p e)) := unionE_take he
      have HLT := Lib.hid hlt
      have HOL : Hid ((unionE l (m.take j) p).length ≤ 1000000) := by have h1 := unionE_len l (m.take j) p; have h2 := HN.out; have h3 := List.length_take_le' j m; show _ ≤ _; omega
      clear he hgb hlt
      go_wp2_with fail
      have hb2 := below_newL wr (Obj.cells #[Value.int .i64 e.key, .int .i64 e.val] 69)
      have hx2 := heap_alloc_new wr (Obj.cells #[Value.int .i64 e.key, .int .i64 e.val] 69)
      have hg2 : wr.heap.size < (wr.alloc (Obj.cells #[Value.int .i64 e.key, .int .i64 e.val] 69)).heap.size := by simp
      generalize wr.alloc (Obj.cells #[Value.int .i64 e.key, .int .i64 e.val] 69) = w2 at hb2 hx2 hg2 ⊢
      have HG2 : Hid (w.heap.size ≤ wr.heap.size) := HO.out.2.2.1.size
      generalize hq : wr.heap.size = q at hb2 hx2 hg2 HG2 ⊢
      have HB2 : Hid (Below w.heap.size w w2) := HO.out.2.2.1.trans (by rw [hq] at *; exact hb2.mono HG2.out)
      have HBQ : Hid (Below q wr w2) := hb2
      have HX2 := Lib.hid hx2
      have HQ := Lib.hid hq
      obtain ⟨x0, x1⟩ := two_ofE hx2
      have f1 := frozen_of_row _ _ 1 _ _ hx2
      clear hb2 hx2 hg2 hq
      refine (get_any e.key (HE.out.below HB2.out) HN.out.1 (by have := HN.out; omega)).mono ?_
      rintro e3 w3 ⟨rfl, rfl⟩
      cases hgt : getE l e.key with
      | none =>
        have HMX : Hid (mixE l p e = ⟨e.key, e.val⟩) := by show _ = _; unfold mixE; rw [hgt]; rfl
        have HB3 := HB2
        have hbw : Below wr.heap.size wr w3 := by rw [HQ.out]; exact HBQ.out
        clear hgt
        have hins := insert_any (c := oc) (mixE l p e) (HO.out.2.1.below (hbw)) (mixE_wf HW.out.1 HEW.out) HOL.out
        rw [HO.out.1, HMX.out] at hins
        have HINS := Lib.hid hins
        clear hins
        go_wp2_with fail
        refine HINS.out.mono ?_
        rintro e9 w9 hm9
        obtain ⟨LN, hLN⟩ : ∃ n, (insE (unionE l (m.take j) p) ⟨e.key, e.val⟩).length = n := ⟨_, rfl⟩
        have hwf9 : ∀ y ∈ insE (unionE l (m.take j) p) ⟨e.key, e.val⟩, i64R y.key ∧ i64R y.val := fun y hy => (insE_mem hy).elim (unionE_wf HW.out.1 (fun z hz => HW.out.2 z (List.mem_of_mem_take hz)) y) fun e2 => by rw [e2, ← HMX.out]; exact mixE_wf HW.out.1 HEW.out
        obtain ⟨na, nc, rfl, hen, hb9⟩ := made_ens hm9 hwf9 hLN
        rw [← HMX.out, ← HUT.out] at hen hLN
        have HX : Hid (UnRel w l m p k (.slice na LN nc) (.int .i64 ((j + 1 : Nat) : Int)) w9) := ⟨j + 1, na, LN, nc, rfl, by have := HLT.out; omega, rfl, hLN, hen, HB3.out.trans (hb9.mono (HB3.out.size))⟩
        clear hm9 hLN hwf9 hen hb9 HINS
        go_wp2_with fail
        exact ⟨by rw [show ((j : Int) + 1) = ((j + 1 : Nat) : Int) by omega]; exact HX.out, by have := HLT.out; simp [intOf]; omega⟩
      | some x =>
        have HMX : Hid (mixE l p e = ⟨e.key, chooseV p x.val e.val⟩) := by show _ = _; unfold mixE; rw [hgt]; rfl
        have HCH := Lib.hid (choose_any p x.val e.val w3)
        generalize chooseV p x.val e.val = CV at HMX HCH
        have HB3 : Hid (Below w.heap.size w (w3.setCell ⟨q, 1, none⟩ (.int .i64 CV))) := HB2.out.setCell (by show _ ≤ q; exact HG2.out) _
        have hbw : Below wr.heap.size wr (w3.setCell ⟨q, 1, none⟩ (.int .i64 CV)) := by rw [HQ.out]; exact HBQ.out.setCell (by show q ≤ q; omega) _
        have HX3 : Hid ((w3.setCell ⟨q, 1, none⟩ (.int .i64 CV)).heap[q]? = some (.cells #[Value.int .i64 e.key, .int .i64 CV] 69 (0, 0))) := by show _ = _; rw [heap_setCell_same _ q 1 _ _ _ HX2.out]; rfl
        clear hgt
        go_wp2_with fail
        refine HCH.out.mono ?_
        rintro e4 w4 ⟨rfl, rfl⟩
        go_upto_region 9 with fail
        obtain ⟨y0, y1⟩ := two_ofE HX3.out
        clear x0 x1 f1 HCH
        generalize hww : w3.setCell ⟨q, 1, none⟩ (.int .i64 CV) = w5 at HB3 HX3 hbw y0 y1 ⊢
        have hins := insert_any (c := oc) (mixE l p e) (HO.out.2.1.below (hbw)) (mixE_wf HW.out.1 HEW.out) HOL.out
        rw [HO.out.1, HMX.out] at hins
        have HINS := Lib.hid hins
        clear hins
        go_wp2_with fail
        refine HINS.out.mono ?_
        rintro e9 w9 hm9
        obtain ⟨LN, hLN⟩ : ∃ n, (insE (unionE l (m.take j) p) ⟨e.key, CV⟩).length = n := ⟨_, rfl⟩
        have hwf9 : ∀ y ∈ insE (unionE l (m.take j) p) ⟨e.key, CV⟩, i64R y.key ∧ i64R y.val := fun y hy => (insE_mem hy).elim (unionE_wf HW.out.1 (fun z hz => HW.out.2 z (List.mem_of_mem_take hz)) y) fun e2 => by rw [e2, ← HMX.out]; exact mixE_wf HW.out.1 HEW.out
        obtain ⟨na, nc, rfl, hen, hb9⟩ := made_ens hm9 hwf9 hLN
        rw [← HMX.out, ← HUT.out] at hen hLN
        have HX : Hid (UnRel w l m p k (.slice na LN nc) (.int .i64 ((j + 1 : Nat) : Int)) w9) := ⟨j + 1, na, LN, nc, rfl, by have := HLT.out; omega, rfl, hLN, hen, HB3.out.trans (hb9.mono (HB3.out.size))⟩
        clear hm9 hLN hwf9 hen hb9 HINS
        go_wp2_with fail
        exact ⟨by rw [show ((j : Int) + 1) = ((j + 1 : Nat) : Int) by omega]; exact HX.out, by have := HLT.out; simp [intOf]; omega⟩
    · have hji : ¬ (j : Int) < (k : Int) := by omega
      have hjk : m.take j = m := List.take_of_length_le (by have := HN.out; have := HO.out; omega)
      have HF := Lib.hid HO.out
      rw [hjk] at HF
      clear hlt hjk
      go_wp2_with fail
      go_ret
      exact ⟨oa, oc, by rw [HF.out.1]; rfl, HF.out.2.1, HF.out.2.2.1⟩
end Go.Proofs.YtfihklpofmcfgaaGreat
