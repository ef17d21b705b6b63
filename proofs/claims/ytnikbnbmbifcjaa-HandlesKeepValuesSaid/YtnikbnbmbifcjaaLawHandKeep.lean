/- The walk of HandlesKeepValues. -/
import Derived.Test.YtnikbnbmbifcjaaLawHandForged
import Derived.Test.YtnikbnbmbifcjaaRefSlots5
set_option linter.unusedVariables false
namespace Go.Proofs.Ytnikbnbmbifcjaa
open Go.RowKit

/-- the entry i0 is open, its handle is H, its value V -/
structure Kept (I : HImpl) (B : Nat) (w0 w : World) (p : Value) (σ : St) (v : Nat → Int) (x : Value) (l : List Int) (i0 : Nat) (H V : Int) : Prop where
  ti : TI I B w0 w p σ v x l
  on : σ.on i0 = true
  hd : σ.hd i0 = H
  val : v i0 = V
  ne : ∀ y ∈ l, y ≠ H
  words : Words l
section
variable {I : HImpl} {B : Nat} {w w' w0 : World} {p x : Value} {σ : St} {v : Nat → Int} {l : List Int} {i0 : Nat} {H V : Int}
theorem Kept.calm (h : Kept I B w0 w p σ v x l i0 H V) (hb : Below w.heap.size w w') : Kept I B w0 w' p σ v x l i0 H V := ⟨h.ti.calm hb, h.on, h.hd, h.val, h.ne, h.words⟩
theorem Kept.i0le (h : Kept I B w0 w p σ v x l i0 H V) : 1 ≤ i0 ∧ i0 ≤ 65536 := by have := h.ti.ok.on i0 h.on; have := h.ti.ok.cap2; omega
theorem Kept.hw (h : Kept I B w0 w p σ v x l i0 H V) : 0 ≤ H ∧ H < 18446744073709551616 := by
  have h1 := h.i0le
  have h2 := h.ti.ok.gen i0
  rw [← h.hd]
  unfold St.hd
  omega
theorem Kept.ent (h : Kept I B w0 w p σ v x l i0 H V) : σ.ent H = i0 := by rw [← h.hd]; exact ent_hd h.ti.ok h.on
def KClose (I : HImpl) (B : Nat) (w0 : World) (p : Value) (v : Nat → Int) (x : Value) (l : List Int) (i0 : Nat) (H V : Int) (e : Ending) (w' : World) : Prop :=
  ∃ (a b : Int) (σ' : St), e = .returned (.tuple #[.int .u32 a, .int .i64 b]) ∧ Kept I B w0 w' p σ' v x l i0 H V
theorem kept_close (h : Kept I B w0 w p σ v x l i0 H V) {y : Int} (h0 : 0 ≤ y) (h1 : y < 18446744073709551616) (hne : y ≠ H) :
    Calls Try.prog 19 #[p, .int .u64 y] w (KClose I B w0 p v x l i0 H V) := by
  by_cases he : σ.ent y = 0
  · exact (ti_close_bad h.ti h0 h1 he).mono fun e w1 ⟨h2, h3⟩ => ⟨0, 5, σ, h2, h3, h.on, h.hd, h.val, h.ne, h.words⟩
  · refine (ti_close h.ti h0 h1 he).mono fun e w1 ⟨h2, h3⟩ => ⟨_, 0, _, h2, h3, ?_, h.hd, h.val, h.ne, h.words⟩
    have h4 := (ent_pos h.ti.ok h0 he).2
    have h5 : i0 ≠ σ.ent y := fun e => hne (by rw [h4, ← e]; exact h.hd)
    simp [St.put, h5, h.on]
def KOpen (I : HImpl) (B : Nat) (w0 : World) (p : Value) (x : Value) (l : List Int) (i0 : Nat) (H V : Int) (e : Ending) (w' : World) : Prop :=
  ∃ (a b : Int) (σ' : St) (v' : Nat → Int), e = .returned (.tuple #[.int .u64 a, .int .i64 b]) ∧ Kept I B w0 w' p σ' v' x l i0 H V ∧ ((b = 0 ∧ a ≠ H ∧ 0 ≤ a ∧ a < 18446744073709551616) ∨ b = 2)
theorem kept_open (h : Kept I B w0 w p σ v x l i0 H V) {y : Int} (h0 : 0 ≤ y) (h1 : y < 4294967296) :
    Calls Try.prog 12 #[p, .int .u32 y] w (KOpen I B w0 p x l i0 H V) := by
  rcases free_or σ with hf | ⟨i, t, hf⟩
  · exact (ti_full h.ti hf h0 h1).mono fun e w1 ⟨h2, h3⟩ => ⟨0, 2, σ, v, h2, ⟨h3, h.on, h.hd, h.val, h.ne, h.words⟩, .inr rfl⟩
  · have hok := h.ti.ok
    have him := (hok.free i).1 (by rw [hf]; simp)
    have hcap := hok.cap2
    have hne : i0 ≠ i := fun e => by have h5 := h.on; rw [e, him.2.2] at h5; cases h5
    have hok2 := St.take_ok hok hf
    have hh : (σ.take i t).hd i0 = H := by rw [← h.hd]; simp [St.hd, St.take, hne]
    have hg := hok2.gen i
    have hile := h.i0le
    refine (ti_open h.ti hf h0 h1).mono fun e w1 ⟨h2, h3⟩ => ⟨_, 0, _, _, h2, ⟨h3, by simp [St.take, hne, h.on], hh, by rw [upd_other _ _ hne]; exact h.val, h.ne, h.words⟩, .inl ⟨rfl, fun e => hne ?_, ?_, ?_⟩⟩
    · rw [← hh] at e
      exact (hd_inj (by omega) (by omega) e.symm).1
    · unfold St.hd; omega
    · unfold St.hd; omega
theorem kept_lookup (h : Kept I B w0 w p σ v x l i0 H V) : Calls Try.prog 15 #[p, .int .u64 H] w (Calm w (.tuple #[.int .u32 V, .int .i64 0])) := by
  refine (ti_lookup h.ti h.hw.1 h.hw.2).mono ?_
  rintro e w1 ⟨rfl, hb⟩
  have := h.i0le
  rw [h.ent, if_neg (by omega), h.val]
  exact ⟨rfl, hb⟩
theorem ent_gone {σ : St} {i0 : Nat} {H : Int} (hon : σ.on i0 = true) (hok : σ.Ok) (hhd : σ.hd i0 = H) : (σ.put i0).ent H = 0 ∧ ∀ t, ((σ.put i0).take i0 t).ent H = 0 := by
  have h1 := hok.on i0 hon
  have h2 := hok.cap2
  obtain ⟨h3, h4⟩ := hd_parts hok (i := i0) (by omega)
  rw [hhd] at h3 h4
  have hg := hok.gen i0
  refine ⟨ent_none (.inl (by rw [h3]; simp [St.put])), fun t => ent_none (.inr ?_)⟩
  rw [h3, h4]
  simp [St.take, St.put]
  omega
end
def KeepRel (I : HImpl) (w0 : World) (p : Value) (m i0 : Nat) (H V : Int) (x i : Value) (wr : World) : Prop :=
  ∃ (k : Nat) (σ : St) (v : Nat → Int) (l : List Int), k ≤ m ∧ k ≤ 100 ∧ i = .int .i64 (k : Int) ∧ Kept I w0.heap.size w0 wr p σ v x l i0 H V ∧ l.length ≤ k
set_option maxHeartbeats 4000000 in
set_option maxRecDepth 100000 in
theorem keep_walk (I : HImpl) (c V0 : Int) (rep : Bool) (a a' : Option Addr) (m cap m' cap' : Nat) (w : World) (h1 : -9223372036854775808 ≤ c) (h2 : c ≤ 9223372036854775807) (hV0 : 0 ≤ V0) (hV1 : V0 < 4294967296) (hl : CallsIn w a m) (hmc : m ≤ cap) (hm : cap ≤ maxLen) (hl' : CallsIn w a' m') (hmc' : m' ≤ cap') (hm' : cap' ≤ maxLen) :
    Calls Try.prog 7 #[.int .i64 c, .slice a m cap, .slice a' m' cap', .int .u32 V0, .bool rep] w fun e w' => e = .returned (.bool true) ∧ Below w.heap.size w w' := by
  obtain ⟨i9, ji, jz0, jz1, jz2⟩ := info_parts u64sInfo
  have hr := Int.emod_nonneg c (b := 10) (by omega)
  have hr2 := Int.emod_lt_of_pos c (b := 10) (by omega)
  obtain ⟨r, hr3⟩ := Int.eq_ofNat_of_zero_le hr
  rw [hr3] at hr2
  have hr4 : r < 10 := by omega
  have HR := Lib.hid hr3
  obtain ⟨n, hn⟩ : ∃ n : Nat, n = r + 2 := ⟨_, rfl⟩
  have HN : Hid ((2 : Int) + (r : Int) = (n : Int)) := by have := hn; show (2 : Int) + (r : Int) = (n : Int); omega
  have hn1 : 1 ≤ n := by omega
  have hn2 : n ≤ 12 := by omega
  have HL' := Lib.hid hl'
  unfold maxLen at hm'
  clear hr hr2 hr3 hn hl'
  go_enter Try.func7, Try.ntmps7
  go_wp2_with fail
  refine (mod_any c 10 _ h1 h2 (by decide) (by decide)).mono ?_
  rintro e w2 ⟨rfl, rfl⟩
  rw [HR.out]
  go_wp2_with fail
  rw [HN.out]
  refine (play_any I a n m cap _ hl hmc hm hn1 (by omega)).mono ?_
  rintro e w1 ⟨pa, xa, xc, N, σ, v, l, rfl, h, hcap, hiss, hN, hlen⟩
  clear hl hiss hlen
  go_wp2_with fail
  refine (awake_any I _).mono ?_
  rintro e w2 ⟨rfl, hb2⟩
  have h2 := h.calm hb2
  have h3 : TI I w.heap.size w w2 (.pointer (some pa)) σ v (.slice none 0 0) [] := h2.other (World.ownsRow_nil _ _ _ _) fun k hk => by simp [Value.ownBlock] at hk
  clear h hb2 h2 hcap
  rcases free_or σ with hf | ⟨i0, t, hf⟩
  · go_wp2_with fail
    refine (ti_full h3 hf hV0 hV1).mono ?_
    rintro e w3 ⟨rfl, h4⟩
    have hb := h4.below
    clear h3 h4 hf
    go_wp2
    go_ret
    exact ⟨rfl, hb⟩
  · have hok := h3.ok
    have hok2 := St.take_ok hok hf
    have hon : (σ.take i0 t).on i0 = true := by simp [St.take]
    go_wp2_with fail
    refine (ti_open h3 hf hV0 hV1).mono ?_
    rintro e w3 ⟨rfl, h4⟩
    have hK : Kept I w.heap.size w w3 (.pointer (some pa)) (σ.take i0 t) (upd v i0 V0) (.slice none 0 0) [] i0 ((σ.take i0 t).hd i0) V0 := ⟨h4, hon, rfl, upd_same _ _ _, fun y hy => by simp at hy, fun y hy => by simp at hy⟩
    generalize (σ.take i0 t).hd i0 = H at hK ⊢
    clear h3 h4 hok hok2 hon hf
    cases rep
    case' true =>
      obtain ⟨V1, hV⟩ : ∃ x, x = (V0 + 1) % 4294967296 := ⟨_, rfl⟩
      have hw1 : IntKind.u32.wrap (V0 + 1) = V1 := by rw [IntKind.wrap_u32', hV]
      have hVa : 0 ≤ V1 := by omega
      have hVb : V1 < 4294967296 := by omega
      have he := hK.ent
      have hil := hK.i0le
      have HE := Lib.hid he
      obtain ⟨hw2, hw3⟩ := hK.hw
      have hti := hK.ti
      have HK := Lib.hid hK
      have HV := Lib.hid hV
      have HW1 := Lib.hid hw1
      clear hK he hV hw1
      go_wp2_with fail
      try rw [HW1.out]
      try rw [← HV.out]
      refine (ti_replace hti hw2 hw3 hVa hVb (by rw [HE.out]; omega)).mono ?_
      rintro e w4 ⟨rfl, h5⟩
      rw [HE.out] at h5
      have hK2 : Kept I w.heap.size w w4 (.pointer (some pa)) _ _ (.slice none 0 0) [] i0 H V1 := ⟨h5, HK.out.on, HK.out.hd, upd_same _ _ _, HK.out.ne, HK.out.words⟩
      clear hti HK HV HW1 HE h5 hil hw2 hw3
      generalize (σ.take i0 t) = σ1 at hK2
      generalize upd (upd v i0 V0) i0 V1 = v1 at hK2
      generalize w4 = W at hK2 ⊢
      generalize V1 = V at hK2 hVa hVb ⊢
    case' false =>
      have hK2 := hK
      have hVa := hV0
      have hVb := hV1
      clear hK
      generalize (σ.take i0 t) = σ1 at hK2
      generalize upd v i0 V0 = v1 at hK2
      generalize w3 = W at hK2 ⊢
      generalize V0 = V at hK2 hVa hVb ⊢
    all_goals
      have hVV : (V != V) = false := by simp
      have hVE : (V == V) = true := by simp
      go_wp2
      go_loopw [15, 16] (fun x i wr => KeepRel I w (.pointer (some pa)) m' i0 H V x i wr) (fun _ i _ => m' - (intOf i).toNat)
      case atStart => exact ⟨0, _, _, [], Nat.zero_le _, Nat.zero_le _, rfl, hK2, Nat.le_refl _⟩
      case round =>
        clear hK2
        obtain ⟨k, σ2, v2, l2, hk, hk100, rfl, hK, hlen⟩ := hrel
        obtain ⟨xa2, xc2, rfl⟩ := row_val hK.ti.row
        by_cases hin : k < m' ∧ k < 100
        · obtain ⟨hlt, hlt2⟩ := hin
          obtain ⟨b, off, kd, hd, y, o, hcall0, hk1, hk2, hh1, hh2, hy1, hy2⟩ := HL'.out k hlt
          have hcall := hcall0.below hK.ti.below
          have HCALL := Lib.hid hcall0
          clear hcall0
          obtain ⟨rfl, hbb, hc1, hc2, hc3, hc4⟩ := hcall
          have hki : (k : Int) < (m' : Int) := by omega
          have hki2 : (k : Int) < 100 := by omega
          have hli : (l2.length : Int) ≤ 100 := by omega
          by_cases hz : kd.tmod 3 = 0 ∧ l2 ≠ []
          case' pos =>
            obtain ⟨hz, hl2⟩ := hz
            have hz1 : (kd.tmod 3 == 0) = true := by simpa using hz
            rcases List.eq_nil_or_concat l2 with rfl | ⟨l3, Y, rfl⟩
            · exact absurd rfl hl2
            rw [List.concat_eq_append] at *
            have hl3 : (l3 ++ [Y]).length = l3.length + 1 := by simp
            have hYm : Y ∈ l3 ++ [Y] := by simp
            have hYw := hK.words Y hYm
            have hYn := hK.ne Y hYm
            obtain ⟨g, rfl, hg, hck⟩ := row_cell (j := l3.length) hK.ti.row (by omega)
            have hcY : wr.cell? ⟨g, l3.length, none⟩ = some (.int .u64 Y) := by rw [hck, u64s_get (by omega)]; simp
            have hrc := row_cap hK.ti.row
            rw [hl3] at hrc hli
            have hrci : (l3.length : Int) ≤ (xc2 : Int) := by omega
            have hli3 : (l3.length : Int) ≤ 99 := by omega
            have hlen3 : l3.length ≤ k := by omega
            have HK := Lib.hid hK
            have hnl : ((0 : Int) < (l3.length : Int) + 1) := by omega
            clear hK hck hrc hz hl2 hYm hc2 hc3 hc4 hli hlen
            rw [hl3]
            go_wp2_with fail
            refine (kept_close HK.out hYw.1 hYw.2 hYn).mono ?_
            rintro e w5 ⟨r1, r2, σ3, rfl, hK3⟩
            have hpre := row_pre hK3.ti.row (m := l3.length) (by omega) (by omega)
            rw [show (u64s (l3 ++ [Y])).take l3.length = u64s l3 by rw [u64s_snoc, List.take_left' (by simp [u64s])]] at hpre
            have hK4 : Kept I w.heap.size w w5 (.pointer (some pa)) σ3 v2 (.slice (some ⟨g, 0, none⟩) l3.length xc2) l3 i0 H V := ⟨hK3.ti.other hpre fun k hk => hk, hK3.on, hK3.hd, hK3.val, fun y hy => hK3.ne y (by simp [hy]), fun y hy => hK3.words y (by simp [hy])⟩
            clear hK3 hpre hc1 hcY HK
            go_wp2_with fail
            refine (kept_lookup hK4).mono ?_
            rintro e w6 ⟨rfl, hb6⟩
            have hK5 := hK4.calm hb6
            clear hK4 hb6
            go_wp2
            exact ⟨⟨k + 1, σ3, v2, l3, by omega, by omega, by go_num, hK5, by omega⟩, by simp [intOf]; omega⟩
          case' neg =>
            rcases (show kd.tmod 3 ≠ 0 ∨ (kd.tmod 3 = 0 ∧ l2 = []) by
              rcases Classical.em (kd.tmod 3 = 0) with h9 | h9
              · exact .inr ⟨h9, Classical.byContradiction fun h8 => hz ⟨h9, h8⟩⟩
              · exact .inl h9) with hz1 | ⟨hz1, rfl⟩
            case' inl =>
              have hz2 : (kd.tmod 3 == 0) = false := by simpa using hz1
            case' inr =>
              have hz2 : (kd.tmod 3 == 0) = true := by simpa using hz1
              try simp only [List.length_nil] at *
            all_goals
              clear hz hz1 hc2 hc4
              have HK := Lib.hid hK
              clear hK
              go_wp2_with fail
              refine (kept_open HK.out hy1 hy2).mono ?_
              rintro e w5 ⟨r1, r2, σ3, v3, rfl, hK3, hcase⟩
              clear hc1 hc3 HK
              rcases hcase with ⟨rfl, hn, hw0, hw1⟩ | rfl
              · have hal := (Below.refl w5.heap.size w5).alloc (Nat.le_refl _) (Obj.cells #[Value.int .u64 r1] 29)
                have hK4 := hK3.calm hal
                have hsz := hK4.ti.hB
                have hrow := hK4.ti.row
                have HK4 := Lib.hid hK4
                try simp only [List.length_nil] at hrow
                clear hK3 hK4 hal
                go_wp2_with (at_builtin; refine wpList_append_own_at _ rfl (.tmp 110) (.tmp 112) 42 rfl w.heap.size 29 i9 (.int .u64 0) 1 8 Try.underlying42 ji jz0 jz1 jz2 rfl (by decide) _ _ _ rfl hrow ⟨w5.heap.size, 0, none⟩ 1 1 [.int .u64 r1] rfl rfl (cell_new1 _ _ _) (one_cell1 _ _) (by unfold maxLen; first | omega | (simp; done)) (by first | omega | (simp; done)) hsz ?_; intro x7 w7 ho7 hg7 _ hb7; obtain ⟨a7, c7, rfl⟩ := row_val ho7)
                have hT := TI.push (x' := .slice a7 _ c7) (l' := _ ++ [r1]) (a := none) (n := 0) (c := 0) HK4.out.ti hg7 (by rw [u64s_snoc, List.length_append]; exact ho7) hb7
                have hK5 : Kept I w.heap.size w w7 (.pointer (some pa)) σ3 v3 _ _ i0 H V := ⟨hT, HK4.out.on, HK4.out.hd, HK4.out.val, fun y hy => by
                  rcases List.mem_append.1 hy with h9 | h9
                  · exact HK4.out.ne y h9
                  · simp at h9; rw [h9]; exact hn, fun y hy => by
                  rcases List.mem_append.1 hy with h9 | h9
                  · exact HK4.out.words y h9
                  · simp at h9; rw [h9]; exact ⟨hw0, hw1⟩⟩
                clear hrow hT ho7 hg7 hb7 HK4
                refine (kept_lookup hK5).mono ?_
                rintro e w8 ⟨rfl, hb8⟩
                have hK6 := hK5.calm hb8
                clear hK5 hb8
                go_wp2
                exact ⟨⟨k + 1, σ3, v3, _, by omega, by omega, by go_num, hK6, by first | (simp; done) | (simp; omega)⟩, by simp [intOf]; omega⟩
              · go_wp2_with fail
                refine (kept_lookup hK3).mono ?_
                rintro e w6 ⟨rfl, hb6⟩
                have hK5 := hK3.calm hb6
                clear hK3 hb6
                go_wp2
                exact ⟨⟨k + 1, σ3, v3, _, by omega, by omega, by go_num, hK5, by first | omega | (simp; done) | (simp; omega)⟩, by simp [intOf]; omega⟩
        · by_cases hlt : k < m'
          case' pos =>
            have hki : (k : Int) < (m' : Int) := by omega
            have hki2 : (100 : Int) ≤ (k : Int) := by omega
          case' neg =>
            have hki : (m' : Int) ≤ (k : Int) := by omega
          all_goals
            have hw := hK.hw
            have hle := hK.i0le
            obtain ⟨hw0, hw1⟩ := hw
            clear hin hlt
            go_wp2_with fail
            refine (ti_close hK.ti hw0 hw1 (by rw [hK.ent]; omega)).mono ?_
            rintro e w5 ⟨rfl, h5⟩
            rw [hK.ent] at h5 ⊢
            rw [hK.val]
            obtain ⟨hg1, hg2⟩ := ent_gone hK.on hK.ti.ok hK.hd
            have HG1 := Lib.hid hg1
            have HG2 := Lib.hid hg2
            clear hK hg1 hg2
            go_wp2_with fail
            refine (ti_open h5 (i := i0) (t := σ2.free) rfl (by decide) (by decide)).mono ?_
            rintro e w6 ⟨rfl, h6⟩
            clear h5
            go_wp2_with fail
            refine (ti_lookup h6 hw0 hw1).mono ?_
            rintro e w7 ⟨rfl, hb7⟩
            rw [if_pos (HG2.out _)]
            have h7 := h6.calm hb7
            clear h6 hb7
            go_wp2_with fail
            refine (ti_close_bad h7 hw0 hw1 (HG2.out _)).mono ?_
            rintro e w8 ⟨rfl, h8⟩
            clear h7
            go_wp2_with fail
            refine (ti_replace_bad h8 hw0 hw1 (by decide) (by decide) (HG2.out _)).mono ?_
            rintro e w9 ⟨rfl, h9⟩
            have hb := h9.below
            clear h8 h9
            go_wp2
            go_ret
            exact ⟨rfl, hb⟩
end Go.Proofs.Ytnikbnbmbifcjaa
