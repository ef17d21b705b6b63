/- The walk of SlotsNeverTwice. -/
import Derived.Test.YtfemdclfplgbfaaSlotsG
import Derived.Deep.QuietTactic
set_option linter.unusedVariables false
namespace Go.Proofs.Ytfemdclfplgbfaa
open Go.RowKit

theorem u32Info : (Try.prog.info? 31).map (fun i => (i.zero, i.size, i.bytes)) = some (some (.int .u32 0), 1, 4) := by kernel_rfl
theorem boolInfo : (Try.prog.info? 4).map (fun i => (i.zero, i.size, i.bytes)) = some (some (.bool false), 1, 1) := by kernel_rfl
def onV (σ : St) (k : Nat) : List Value := (List.range k).map fun j => .bool (σ.on j)
def genV (σ : St) (k : Nat) : List Value := (List.range k).map fun j => .int .u32 (σ.gen j)
theorem onV_succ (σ : St) (k : Nat) : onV σ (k + 1) = onV σ k ++ [.bool (σ.on k)] := by simp [onV, List.range_succ]
theorem genV_succ (σ : St) (k : Nat) : genV σ (k + 1) = genV σ k ++ [.int .u32 (σ.gen k)] := by simp [genV, List.range_succ]
theorem onV_at (σ : St) (k j : Nat) (h : j < k) : (onV σ k)[j]? = some (.bool (σ.on j)) := by simp [onV, h]
theorem genV_at (σ : St) (k j : Nat) (h : j < k) : (genV σ k)[j]? = some (.int .u32 (σ.gen j)) := by simp [genV, h]
/-- an allocator below block hi -/
def HasLo (I : Impl) (B hi : Nat) (w : World) (p : Value) (σ : St) : Prop := hi ≤ w.heap.size ∧ ∃ F, I.Is w p σ F ∧ ∀ k, F k → B ≤ k ∧ k < hi
section
variable {I : Impl} {B hi : Nat} {w w' w0 : World} {p : Value} {σ : St} {G : Nat → Prop}
theorem Has.lo (h : Has I B w p σ) : HasLo I B w.heap.size w p σ := by
  obtain ⟨F, h, hF⟩ := h
  exact ⟨Nat.le_refl _, F, h, fun k hk => ⟨hF k hk, I.dom h k hk⟩⟩
theorem HasLo.has (h : HasLo I B hi w p σ) : Has I B w p σ := by
  obtain ⟨_, F, h, hF⟩ := h
  exact ⟨F, h, fun k hk => (hF k hk).1⟩
theorem HasLo.below (h : HasLo I B hi w p σ) (hb : Below w.heap.size w w') : HasLo I B hi w' p σ := by
  obtain ⟨h0, F, h, hF⟩ := h
  exact ⟨Nat.le_trans h0 hb.size, F, I.below h hb, hF⟩
theorem HasLo.grown {row : Option Nat} (h : HasLo I B hi w p σ) (hg : w.grownBy w' row) (hr : ∀ k, row = some k → hi ≤ k) : HasLo I B hi w' p σ := by
  obtain ⟨h0, F, h, hF⟩ := h
  refine ⟨Nat.le_trans h0 hg.size, F, I.keep h fun k hk => hg.block k (I.dom h k hk) fun e => ?_, hF⟩
  have := hr k e.symm
  have := (hF k hk).2
  omega
theorem HasLo.hasG (h : HasLo I B hi w p σ) (hG : ∀ k, G k → hi ≤ k ∧ k < w.heap.size) : HasG I B w p σ G := by
  obtain ⟨_, F, h, hF⟩ := h
  exact ⟨F, h, fun k hk => ⟨(hF k hk).1, fun hg => by have := (hF k hk).2; have := (hG k hg).1; omega⟩, fun k hk => (hG k hk).2⟩
end
def NoteRel (I : Impl) (B hi : Nat) (w0 : World) (p : Value) (σ : St) (n : Nat) (x y i : Value) (wr : World) : Prop :=
  ∃ k : Nat, k ≤ n + 1 ∧ i = .int .i64 (k : Int) ∧ HasLo I B hi wr p σ ∧ wr.ownsRow hi 4 1 x k (onV σ k) ∧ wr.ownsRow hi 31 1 y k (genV σ k) ∧ Below B w0 wr

set_option maxHeartbeats 2000000 in
set_option maxRecDepth 100000 in
theorem never_walk (I : Impl) (c : Int) (a : Option Addr) (m cap : Nat) (w : World) (h1 : -9223372036854775808 ≤ c) (h2 : c ≤ 9223372036854775807) (hl : CallsIn w a m) (hmc : m ≤ cap) (hm : cap ≤ maxLen) :
    Calls Try.prog 6 #[.int .i64 c, .slice a m cap] w fun e w' => e = .returned (.bool true) ∧ Below w.heap.size w w' := by
  obtain ⟨i0, hi, hz0, hz1, hz2⟩ := info_parts boolInfo
  obtain ⟨i1, ji, jz0, jz1, jz2⟩ := info_parts u32Info
  have hr := Int.emod_nonneg c (b := 30) (by omega)
  have hr2 := Int.emod_lt_of_pos c (b := 30) (by omega)
  obtain ⟨r, hr3⟩ := Int.eq_ofNat_of_zero_le hr
  rw [hr3] at hr2
  have hr4 : r < 30 := by omega
  have HR := Lib.hid hr3
  obtain ⟨n, hn⟩ : ∃ n : Nat, n = r + 1 := ⟨_, rfl⟩
  have HN : Hid ((1 : Int) + (r : Int) = (n : Int)) := by have := hn; show (1 : Int) + (r : Int) = (n : Int); omega
  have hn1 : 1 ≤ n := by omega
  have hn2 : n ≤ 30 := by omega
  have hni : (n : Int) ≤ 30 := by omega
  have hni2 : (1 : Int) ≤ (n : Int) := by omega
  clear hr hr2 hr3 hn
  go_enter Try.func6, Try.ntmps6
  go_wp2_with fail
  refine (mod_any c 30 _ h1 h2 (by decide) (by decide)).mono ?_
  rintro e w2 ⟨rfl, rfl⟩
  rw [HR.out]
  go_wp2_with fail
  rw [HN.out]
  refine (play_any I a n m cap _ hl hmc hm hn1 (by omega)).mono ?_
  rintro e w1 ⟨pa, σ, rfl, h, hcap, hb⟩
  have HOK := Lib.hid h.ok
  have HCAP := Lib.hid hcap
  clear hcap hl
  go_wp2_with fail
  refine (awake_any I _).mono ?_
  rintro e w2 ⟨rfl, hb2⟩
  have h3 := (h.below hb2).lo
  have hbb := hb.trans (hb2.mono hb.size)
  have hH : w.heap.size ≤ w2.heap.size := hbb.size
  generalize w2.heap.size = H at h3 hH
  clear h hb hb2
  go_wp2
  go_loopw [7, 8, 9] (fun x y i wr => NoteRel I w.heap.size H w (.pointer (some pa)) σ n x y i wr) (fun _ _ i _ => n + 1 - (intOf i).toNat)
  case atStart => exact ⟨0, Nat.zero_le _, rfl, h3, World.ownsRow_nil _ _ _ _, World.ownsRow_nil _ _ _ _, hbb⟩
  case round =>
    clear h3 hbb
    obtain ⟨k, hk, rfl, h3, hx, hy, hb⟩ := hrel
    by_cases hlt : k ≤ n
    · have hki : (k : Int) ≤ (n : Int) := by omega
      have HX1 := Lib.hid (onV_succ σ k)
      have HY1 := Lib.hid (genV_succ σ k)
      go_wp2_with fail
      refine (on_has I h3.has (i := k) (by omega) (by omega)).mono ?_
      rintro e w3 ⟨rfl, hb3⟩
      have hal := (Below.refl w3.heap.size w3).alloc (Nat.le_refl _) (Obj.cells #[Value.bool (σ.on k)] 4)
      have hbl := hb3.trans (hal.mono hb3.size)
      have h4 := h3.below hbl
      have hx4 := row_below hx hbl
      have hy4 := row_below hy hbl
      have hb4 := hb.trans (hbl.mono hb.size)
      generalize σ.on k = b at *
      clear h3 hx hy hb hb3 hbl hal
      go_wp2_with (at_builtin; refine wpList_append_own _ rfl (.tmp 30) (.tmp 35) 36 rfl H 4 i0 (.bool false) 1 1 Try.underlying36 hi hz0 hz1 hz2 rfl (by decide) _ k (onV σ k) rfl hx4 ⟨w3.heap.size, 0, none⟩ 1 1 [.bool b] rfl rfl (cell_new1 _ _ _) (by intro u hu; simp at hu; subst hu; rfl) (by unfold maxLen; omega) (by omega) h4.1 ?_; intro v1 w4 hx5 hg1 _)
      have hy5 := row_apart (by decide) hy4 hx4 hg1
      have h5 := h4.grown hg1 (row_from hx4)
      have hb5 := hb4.grown hg1 hb4.size fun k hk => Nat.le_trans hH (row_from hx4 k hk)
      clear h4 hx4 hy4 hb4 hg1
      refine (gen_has I h5.has (i := k) (by omega) (by omega)).mono ?_
      rintro e w5 ⟨rfl, hb6⟩
      have hal := (Below.refl w5.heap.size w5).alloc (Nat.le_refl _) (Obj.cells #[Value.int .u32 (σ.gen k)] 31)
      have hbl := hb6.trans (hal.mono hb6.size)
      have h6 := h5.below hbl
      have hx6 := row_below hx5 hbl
      have hy6 := row_below hy5 hbl
      have hb7 := hb5.trans (hbl.mono hb5.size)
      generalize σ.gen k = q at *
      clear h5 hx5 hy5 hb5 hb6 hbl hal
      go_wp2_with (at_builtin; refine wpList_append_own _ rfl (.tmp 37) (.tmp 42) 29 rfl H 31 i1 (.int .u32 0) 1 4 Try.underlying29 ji jz0 jz1 jz2 rfl (by decide) _ k (genV σ k) rfl hy6 ⟨w5.heap.size, 0, none⟩ 1 1 [.int .u32 q] rfl rfl (cell_new1 _ _ _) (one_cell1 _ _) (by unfold maxLen; omega) (by omega) h6.1 ?_; intro v2 w6 hy8 hg2 _)
      have hx8 := row_apart (by decide) hx6 hy6 hg2
      have h8 := h6.grown hg2 (row_from hy6)
      have hb8 := hb7.grown hg2 hb7.size fun k hk => Nat.le_trans hH (row_from hy6 k hk)
      exact ⟨⟨k + 1, by omega, by go_num, h8, by rw [HX1.out]; exact hx8, by rw [HY1.out]; exact hy8, hb8⟩, by simp [intOf]; omega⟩
    · obtain rfl : k = n + 1 := by omega
      have hki : (n : Int) < ((n + 1 : Nat) : Int) := by omega
      obtain ⟨xa, xc, rfl⟩ := row_val hx
      obtain ⟨ya, yc, rfl⟩ := row_val hy
      have hG := h3.hasG (G := fun b => (Value.slice xa (n + 1) xc).ownBlock = some b ∨ (Value.slice ya (n + 1) yc).ownBlock = some b) fun k hk => by
        rcases hk with hk | hk
        · exact ⟨row_from hx k hk, (row_lt hx k hk).2⟩
        · exact ⟨row_from hy k hk, (row_lt hy k hk).2⟩
      have HX := Lib.hid hx
      have HY := Lib.hid hy
      clear h3 hx hy
      rcases not_full hG.has with hf | ⟨X, t, hf⟩
      · go_wp2_with fail
        refine (full_g hG hf hb hb.size).mono ?_
        rintro e w3 ⟨rfl, hG2, hb2, _⟩
        go_wp2_with fail
        refine (count_has I hG2.has).mono ?_
        rintro e w4 ⟨rfl, hb3⟩
        rw [hf]
        have hb4 := hb2.trans (hb3.mono hb2.size)
        clear hG hf hb hb2 hG2 hb3
        go_wp2
        go_ret
        exact ⟨rfl, hb4⟩
      · have hXf := (HOK.out.free X).1 (by rw [hf]; simp)
        rw [HCAP.out] at hXf
        obtain ⟨hX1, hX2, hX3⟩ := hXf
        have HX3 := Lib.hid hX3
        clear hX3
        go_wp2_with fail
        refine (take_g hG hf hb hb.size).mono ?_
        rintro e w3 ⟨rfl, hG2, hb2, hkeep⟩
        have hx2 := row_keep HX.out fun k hk => hkeep k (.inl hk)
        have hy2 := row_keep HY.out fun k hk => hkeep k (.inr hk)
        obtain ⟨xg, rfl, _, hxc⟩ := row_cell hx2 (j := X) (by omega)
        obtain ⟨yg, rfl, _, _⟩ := row_cell hy2 (j := X) (by omega)
        have hc1 := hxc.trans (onV_at σ (n + 1) X (by omega))
        rw [HX3.out] at hc1
        have hx1 : (1 : Int) ≤ (X : Int) := by omega
        have hxn : (X : Int) ≤ (n : Int) := by omega
        have hxn2 : (X : Int) < ((n + 1 : Nat) : Int) := by omega
        have hxn3 : X < n + 1 := by omega
        have HX2 := Lib.hid hx2
        have HY2 := Lib.hid hy2
        have hh := hG2.has
        have HF := Lib.hid hf
        clear hG hf hb hkeep hx2 hy2 hxc hG2
        go_wp2_with fail
        refine (on_has I hh (i := X) (by omega) rfl).mono ?_
        rintro e w4 ⟨rfl, hb3⟩
        rw [show (σ.take X t).on X = true by simp [St.take]]
        have hh2 := hh.below hb3
        have hb4 := hb2.trans (hb3.mono hb2.size)
        have hx3 := row_below HX2.out hb3
        have hy3 := row_below HY2.out hb3
        have HX3' := Lib.hid hx3
        have HY3' := Lib.hid hy3
        clear hh hb2 hb3 hc1 hx3 hy3
        go_wp2
        go_loopw [12] (fun i wr' => ∃ (j d : Nat), 1 ≤ j ∧ j ≤ n + 1 ∧ i = .int .i64 (j : Int) ∧ wr' = w4.drewN d) (fun i _ => n + 1 - (intOf i).toNat)
        case atStart => exact ⟨1, 0, Nat.le_refl _, by omega, rfl, rfl⟩
        case round =>
          obtain ⟨j, d, hj1, hj2, rfl, rfl⟩ := hrel
          by_cases hlt2 : j ≤ n
          · have hsx := (HX3'.out.cellAt j (by omega)).trans (onV_at σ (n + 1) j (by omega))
            have hsy := (HY3'.out.cellAt j (by omega)).trans (genV_at σ (n + 1) j (by omega))
            have hwx : (w4.drewN d).cell? ⟨xg, j, none⟩ = _ := hsx
            have hwy : (w4.drewN d).cell? ⟨yg, j, none⟩ = _ := hsy
            have hd := hh2.below (below_drewN (Below.refl _ _) d)
            have hgb := HOK.out.gen j
            generalize hwd : w4.drewN d = wd at hwx hwy hd
            have HWD := Lib.hid hwd
            have hji : (j : Int) ≤ (n : Int) := by omega
            have hji2 : (1 : Int) ≤ (j : Int) := by omega
            have hji3 : (j : Int) < (n : Int) + 1 := by omega
            have hji4 : j < n + 1 := by omega
            have hjw : IntKind.u32.wrap (j : Int) = (j : Int) := by rw [IntKind.wrap_u32]; omega
            clear hsx hsy hwd
            by_cases hjX : j = X
            · subst hjX
              have hgen : (σ.take j t).gen j = (σ.gen j + 1) % 4294967296 := by simp [St.take]
              have hwr : IntKind.u32.wrap (σ.gen j + 1) = (σ.gen j + 1) % 4294967296 := IntKind.wrap_u32 _
              have HG := Lib.hid hgen
              obtain ⟨hg0, hg1⟩ := hgb
              generalize σ.gen j = q at hwy hwr HG hg0 hg1
              have hne : (((q + 1) % 4294967296) != ((q + 1) % 4294967296)) = false := by simp
              clear hgen hwx
              go_wp2
              go_quiet ((go_at_call 15; exact gen_v I hd (i := j) (by omega) HG.out (by first | rfl | omega | (rw [IntKind.wrap_u32]; omega))))
              go_wp2
              exact ⟨⟨j + 1, d + nq, by omega, by omega, by go_num, by rw [← HWD.out, World.drewN_drewN]⟩, by simp [intOf]; omega⟩
            · have hgen : (σ.take X t).gen j = σ.gen j := by simp [St.take, hjX]
              have hon : (σ.take X t).on j = σ.on j := by simp [St.take, hjX]
              have HG := Lib.hid hgen
              have HO := Lib.hid hon
              have e1 : ((j : Int) == (X : Int)) = false := by simp; omega
              have e2 : ((j : Int) != (X : Int)) = true := by simp; omega
              generalize σ.gen j = q at hwy HG
              have hne : (q != q) = false := by simp
              generalize σ.on j = b at hwx HO
              have hnb : (b != b) = false := by simp
              clear hgen hon hgb hjX
              go_wp2
              go_quiet (first
                | (go_at_call 15; exact gen_v I hd (i := j) (by omega) HG.out (by first | rfl | omega | (rw [IntKind.wrap_u32]; omega)))
                | (go_at_call 14; exact on_v I hd (i := j) (by omega) HO.out (by first | rfl | omega | (rw [IntKind.wrap_u32]; omega))))
              go_wp2
              exact ⟨⟨j + 1, d + nq, by omega, by omega, by go_num, by rw [← HWD.out, World.drewN_drewN]⟩, by simp [intOf]; omega⟩
          · obtain rfl : j = n + 1 := by omega
            have hbd := below_drewN hb4 d
            have hji : (n : Int) < ((n + 1 : Nat) : Int) := by omega
            generalize w4.drewN d = wd at hbd
            go_wp2
            go_ret
            exact ⟨rfl, hbd⟩
end Go.Proofs.Ytfemdclfplgbfaa
