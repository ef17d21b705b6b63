/- Calls on a table of handles that came in, the handle of a call, and play: it leaves a table of the capacity asked and the row of the handles that it issued, whatever the calls. -/
import Derived.Test.YtnikbnbmbifcjaaHandLaw
import Derived.Deep.RegionHeld3
set_option linter.unusedVariables false
namespace Go.Proofs.Ytnikbnbmbifcjaa
open Go.RowKit

/-- element r of the slice of calls reads -/
def CallAt (w : World) (a : Option Addr) (r b off : Nat) (kd h y : Int) (o : Bool) : Prop :=
  a = some ⟨b, off, none⟩ ∧ b < w.heap.size ∧ w.cell? ⟨b, off + r * 4, none⟩ = some (.int .i64 kd) ∧ w.cell? ⟨b, off + r * 4 + 1, none⟩ = some (.int .u64 h) ∧ w.cell? ⟨b, off + r * 4 + 2, none⟩ = some (.int .u32 y) ∧ w.cell? ⟨b, off + r * 4 + 3, none⟩ = some (.bool o)
def CallsIn (w : World) (a : Option Addr) (n : Nat) : Prop :=
  ∀ r, r < n → ∃ (b off : Nat) (kd h y : Int) (o : Bool), CallAt w a r b off kd h y o ∧ -9223372036854775808 ≤ kd ∧ kd ≤ 9223372036854775807 ∧ 0 ≤ h ∧ h < 18446744073709551616 ∧ 0 ≤ y ∧ y < 4294967296
theorem CallAt.below {w w' : World} {a : Option Addr} {r b off : Nat} {kd h y : Int} {o : Bool} (hc : CallAt w a r b off kd h y o) (hb : Below w.heap.size w w') : CallAt w' a r b off kd h y o := by
  obtain ⟨ha, hlt, h1, h2, h3, h4⟩ := hc
  exact ⟨ha, Nat.lt_of_lt_of_le hlt hb.size, (hb.cell (p := ⟨b, off + r * 4, none⟩) hlt).trans h1, (hb.cell (p := ⟨b, off + r * 4 + 1, none⟩) hlt).trans h2, (hb.cell (p := ⟨b, off + r * 4 + 2, none⟩) hlt).trans h3, (hb.cell (p := ⟨b, off + r * 4 + 3, none⟩) hlt).trans h4⟩
theorem CallsIn.below {w w' : World} {a : Option Addr} {n : Nat} (h : CallsIn w a n) (hb : Below w.heap.size w w') : CallsIn w' a n := by
  intro r hr
  obtain ⟨b, off, kd, hh, y, o, hc, h1⟩ := h r hr
  exact ⟨b, off, kd, hh, y, o, hc.below hb, h1⟩
theorem calls_in {H : Type} {enc : TypeId × Value → H} {W : World} {a : Option Addr} {n cap fuel : Nat} {x : DataW H × List MemPlace}
    (h : DataW.trod enc Try.prog W 0 (fun _ => true) true fuel 34 (Value.slice a n cap).cells.toList = some x) : n ≤ cap ∧ cap ≤ maxLen ∧ CallsIn W a n := by
  have hf := fields_in Try.underlying34 Try.underlying44 (by kernel_rfl) (by kernel_rfl) h
  refine ⟨hf.1, hf.2.1, fun r hr => ?_⟩
  obtain ⟨b, off, v, y, m, rfl, hlt, h1, h2⟩ := hf.2.2 r hr 0 _ rfl
  obtain ⟨b', off', v', y', m', he, _, h1', h2'⟩ := hf.2.2 r hr 1 _ rfl
  simp only [Option.some.injEq, Addr.mk.injEq, and_true] at he
  obtain ⟨rfl, rfl⟩ := he
  obtain ⟨b', off', v2, y2, m2, he, _, h12, h22⟩ := hf.2.2 r hr 2 _ rfl
  simp only [Option.some.injEq, Addr.mk.injEq, and_true] at he
  obtain ⟨rfl, rfl⟩ := he
  obtain ⟨b', off', v3, y3, m3, he, _, h13, h23⟩ := hf.2.2 r hr 3 _ rfl
  simp only [Option.some.injEq, Addr.mk.injEq, and_true] at he
  obtain ⟨rfl, rfl⟩ := he
  obtain ⟨kd, hv, _, hw⟩ := DataW.trod_int Try.underlying3 h2
  obtain ⟨hh, hv', _, hw'⟩ := DataW.trod_int Try.underlying29 h2'
  obtain ⟨u, hv2, _, hw2⟩ := DataW.trod_int Try.underlying32 h22
  obtain ⟨o, hv3, _⟩ := DataW.trod_bool Try.underlying4 h23
  simp only [List.cons.injEq, and_true] at hv hv' hv2 hv3
  subst hv hv' hv2 hv3
  have hb := bounds_i64 hw
  have hb' := bounds_u64 hw'
  have hb2 := bounds_u32 hw2
  exact ⟨b, off, kd, hh, u, o, ⟨rfl, hlt, h1, h1', h12, h13⟩, hb.1, hb.2, hb'.1, by omega, hb2.1, by omega⟩

/-- the numbers of a row are handles' words -/
def Words (l : List Int) : Prop := ∀ y ∈ l, 0 ≤ y ∧ y < 18446744073709551616
def PickPost (w : World) (e : Ending) (w' : World) : Prop := ∃ h : Int, 0 ≤ h ∧ h < 18446744073709551616 ∧ e = .returned (.int .u64 h) ∧ Below w.heap.size w w'
set_option maxHeartbeats 1000000 in
set_option maxRecDepth 100000 in
theorem pick_any (kd h y : Int) (o : Bool) (xa : Option Addr) (xc B : Nat) (l : List Int) (w : World) (h0 : 0 ≤ h) (h1 : h < 18446744073709551616) (hr : w.ownsRow B 29 1 (.slice xa l.length xc) l.length (u64s l)) (hl : Words l) (hn : l.length ≤ 65536) :
    Calls Try.prog 14 #[.agg #[.int .i64 kd, .int .u64 h, .int .u32 y, .bool o], .slice xa l.length xc] w (PickPost w) := by
  have hbl : ∀ ob, Below w.heap.size w (w.alloc ob) := fun ob => (Below.refl _ _).alloc (Nat.le_refl _) _
  by_cases hb : o = true ∨ l.length = 0
  · rcases hb with rfl | hb
    · clear hr hl
      go_enter Try.func14, Try.ntmps14
      go_wp2
      go_ret
      exact ⟨h, h0, h1, rfl, hbl _⟩
    · rw [hb]
      clear hr hl
      cases o
      · go_enter Try.func14, Try.ntmps14
        go_wp2
        go_ret
        exact ⟨h, h0, h1, rfl, hbl _⟩
      · go_enter Try.func14, Try.ntmps14
        go_wp2
        go_ret
        exact ⟨h, h0, h1, rfl, hbl _⟩
  · obtain rfl : o = false := by cases o with | true => exact absurd (.inl rfl) hb | false => rfl
    have hl0 : 0 < l.length := by omega
    have hli : (0 : Int) < (l.length : Int) := by omega
    have hli2 : (l.length : Int) ≤ 65536 := by omega
    have h3 := Int.emod_nonneg h (b := (l.length : Int)) (by omega)
    have h4 := Int.emod_lt_of_pos h (b := (l.length : Int)) (by omega)
    obtain ⟨j, hj⟩ := Int.eq_ofNat_of_zero_le h3
    have hjl : j < l.length := by omega
    have hr2 := row_below hr (hbl (Obj.cells #[.int .i64 kd, .int .u64 h, .int .u32 y, .bool false] 44))
    obtain ⟨g, rfl, hg, hc⟩ := row_cell hr2 hjl
    have hc2 := hc.trans (u64s_get hjl)
    have hm : l.getD j 0 ∈ l := by rw [List.getD_eq_getElem?_getD, List.getElem?_eq_getElem hjl]; exact List.getElem_mem _
    have hw := hl _ hm
    generalize l.getD j 0 = Y at hc2 hw
    generalize l.length = L at *
    have HW := Lib.hid hw
    have HJ := Lib.hid hj
    have hlz : ((L : Int) == 0) = false := by simp; omega
    have hlw : IntKind.u64.wrap (L : Int) = (L : Int) := by simp [IntKind.wrap, IntKind.signed, IntKind.bits]; omega
    have HBL := Lib.hid hbl
    clear hr hl hr2 hc hm hw hb hbl hg h3 h4
    go_enter Try.func14, Try.ntmps14
    go_wp2
    go_ret
    exact ⟨Y, HW.out.1, HW.out.2, rfl, HBL.out _⟩
theorem issued_words {σ : St} {N : Nat} {l : List Int} (h : Issued σ N l) (hok : σ.Ok) : Words l := by
  intro y hy
  obtain ⟨i, g, h1, h2, h3, h4, rfl⟩ := h.each y hy
  have := (hok.gen i).2
  have := hok.cap2
  omega
def PlayRel (I : HImpl) (w : World) (n m : Nat) (p x i : Value) (wr : World) : Prop :=
  ∃ (k : Nat) (σ : St) (v : Nat → Int) (l : List Int), k ≤ m ∧ k ≤ 150 ∧ i = .int .i64 (k : Int) ∧ TI I w.heap.size w wr p σ v x l ∧ σ.cap = n ∧ Issued σ k l ∧ l.length ≤ k
def PlayPost (I : HImpl) (w : World) (n : Nat) (e : Ending) (w' : World) : Prop :=
  ∃ (a : Addr) (xa : Option Addr) (xc k : Nat) (σ : St) (v : Nat → Int) (l : List Int), e = .returned (.tuple #[.pointer (some a), .slice xa l.length xc]) ∧ TI I w.heap.size w w' (.pointer (some a)) σ v (.slice xa l.length xc) l ∧ σ.cap = n ∧ Issued σ k l ∧ k ≤ 150 ∧ l.length ≤ k
theorem free_or (σ : St) : σ.free = [] ∨ ∃ i t, σ.free = i :: t := by
  cases σ.free with
  | nil => exact .inl rfl
  | cons i t => exact .inr ⟨i, t, rfl⟩
def TISome (I : HImpl) (B : Nat) (w0 w : World) (p : Value) (σ : St) (x : Value) (l : List Int) : Prop := ∃ v, TI I B w0 w p σ v x l
theorem pick_S {I : HImpl} {B : Nat} {w0 w : World} {p : Value} {σ : St} {xa : Option Addr} {xc : Nat} {l : List Int} (kd h y : Int) (o : Bool) (hT : TISome I B w0 w p σ (.slice xa l.length xc) l) (h0 : 0 ≤ h) (h1 : h < 18446744073709551616) (hl : Words l) (hn : l.length ≤ 65536) :
    Calls Try.prog 14 #[.agg #[.int .i64 kd, .int .u64 h, .int .u32 y, .bool o], .slice xa l.length xc] w
      fun e w' => ∃ H : Int, 0 ≤ H ∧ H < 18446744073709551616 ∧ e = .returned (.int .u64 H) ∧ TISome I B w0 w' p σ (.slice xa l.length xc) l := by
  obtain ⟨v, hT⟩ := hT
  refine (pick_any kd h y o xa xc _ l _ h0 h1 hT.row hl hn).mono ?_
  rintro e w2 ⟨H, hH0, hH1, rfl, hb2⟩
  exact ⟨H, hH0, hH1, rfl, v, hT.calm hb2⟩
theorem replace_S {I : HImpl} {B : Nat} {w0 w : World} {p x : Value} {σ : St} {l : List Int} {n y : Int} (hT : TISome I B w0 w p σ x l) (h0 : 0 ≤ n) (h1 : n < 18446744073709551616) (h2 : 0 ≤ y) (h3 : y < 4294967296) :
    Calls Try.prog 17 #[p, .int .u64 n, .int .u32 y] w fun e w' => ∃ r, e = .returned (.int .i64 r) ∧ TISome I B w0 w' p σ x l := by
  obtain ⟨v, hT⟩ := hT
  by_cases he : σ.ent n = 0
  · exact (ti_replace_bad hT h0 h1 h2 h3 he).mono fun e w1 ⟨h4, h5⟩ => ⟨5, h4, v, h5⟩
  · exact (ti_replace hT h0 h1 h2 h3 he).mono fun e w1 ⟨h4, h5⟩ => ⟨0, h4, _, h5⟩
theorem call_cells {w0 w : World} {B r b off : Nat} {kd h y : Int} {o : Bool} {I : HImpl} {p x : Value} {σ : St} {l : List Int} (hT : TISome I w0.heap.size w0 w p σ x l) (hc : CallAt w0 (some ⟨b, off, none⟩) r b off kd h y o) :
    w.cell? ⟨b, off + r * 4, none⟩ = some (.int .i64 kd) ∧ w.cell? ⟨b, off + r * 4 + 1, none⟩ = some (.int .u64 h) ∧ w.cell? ⟨b, off + r * 4 + 2, none⟩ = some (.int .u32 y) ∧ w.cell? ⟨b, off + r * 4 + 3, none⟩ = some (.bool o) := by
  obtain ⟨v, hT⟩ := hT
  exact (hc.below hT.below).2.2
set_option maxHeartbeats 2000000 in
set_option maxRecDepth 100000 in
theorem play_any (I : HImpl) (a : Option Addr) (n m cap : Nat) (w : World) (hl : CallsIn w a m) (hc : m ≤ cap) (hm : cap ≤ maxLen) (h1 : 1 ≤ n) (h2 : n ≤ 4096) :
    Calls Try.prog 25 #[.int .i64 (n : Int), .slice a m cap] w (PlayPost I w n) := by
  obtain ⟨i0, ji, jz0, jz1, jz2⟩ := info_parts u64sInfo
  have HL := Lib.hid hl
  unfold maxLen at hm
  clear hl
  go_enter Try.func25, Try.ntmps25
  go_wp2_with fail
  refine (ti_new I n n _ h1 h2 rfl).mono ?_
  rintro e w1 ⟨pa, rfl, h⟩
  go_wp2
  go_loopw [8, 9] (fun x i wr => PlayRel I w n m (.pointer (some pa)) x i wr) (fun _ i _ => m - (intOf i).toNat)
  case atStart => exact ⟨0, _, _, _, Nat.zero_le _, Nat.zero_le _, rfl, h, rfl, Issued.start n, Nat.le_refl _⟩
  case round =>
    clear h
    obtain ⟨k, σ, v, l, hk, hk150, rfl, h, hcap, hiss, hlen⟩ := hrel
    obtain ⟨xa, xc, rfl⟩ := row_val h.row
    have HCAP := Lib.hid hcap
    have HISS := Lib.hid hiss
    clear hcap hiss
    by_cases hin : k < m ∧ k < 150
    · obtain ⟨hlt, hlt2⟩ := hin
      obtain ⟨b, off, kd, hd, y, o, hcall0, hk1, hk2, hh1, hh2, hy1, hy2⟩ := HL.out k hlt
      have hcall := hcall0.below h.below
      have HCALL := Lib.hid hcall0
      clear hcall0
      obtain ⟨rfl, hbb, hc1, hc2, hc3, hc4⟩ := hcall
      have hki : (k : Int) < (m : Int) := by omega
      have hki2 : (k : Int) < 150 := by omega
      go_wp2_with fail
      refine (mod_any kd 5 _ hk1 hk2 (by decide) (by decide)).mono ?_
      rintro e w2 ⟨rfl, rfl⟩
      rcases (show kd % 5 = 2 ∨ kd % 5 = 3 ∨ kd % 5 = 4 ∨ (kd % 5 ≠ 2 ∧ kd % 5 ≠ 3 ∧ kd % 5 ≠ 4) by omega) with hr | hr | hr | hr
      · rw [hr]
        clear hc1 hc2 hc3 hc4
        go_wp2
        exact ⟨⟨k + 1, σ, v, l, by omega, by omega, by go_num, h, HCAP.out, HISS.out.more (by omega), by omega⟩, by simp [intOf]; omega⟩
      · rw [hr]
        have hW := issued_words HISS.out h.ok
        have HW := Lib.hid hW
        have hS : TISome I w.heap.size w wr (.pointer (some pa)) σ (.slice xa l.length xc) l := ⟨v, h⟩
        have hSd : TISome I w.heap.size w wr.drew (.pointer (some pa)) σ (.slice xa l.length xc) l := ⟨v, h.calm (Below.refl _ _).drew⟩
        clear h hW
        go_wp2
        go_region_held3 (fun w' => TISome I w.heap.size w w' (.pointer (some pa)) σ (.slice xa l.length xc) l ∧ w'.cell? ⟨b, off + k * 4, none⟩ = some (.int .i64 kd) ∧ w'.cell? ⟨b, off + k * 4 + 1, none⟩ = some (.int .u64 hd) ∧ w'.cell? ⟨b, off + k * 4 + 2, none⟩ = some (.int .u32 y) ∧ w'.cell? ⟨b, off + k * 4 + 3, none⟩ = some (.bool o)) (go_keep) (first
          | (go_at_call 14; refine (pick_S kd hd y o (by assumption) hh1 hh2 HW.out (by omega)).mono ?_; rintro e wx ⟨H, hH0, hH1, rfl, hTx⟩; obtain ⟨hx1, hx2, hx3, hx4⟩ := call_cells (B := 0) hTx HCALL.out)
          | (go_at_call 17; refine (replace_S (by assumption) (by assumption) (by assumption) hy1 hy2).mono ?_; rintro e wy ⟨r, rfl, hTy⟩; obtain ⟨hx1, hx2, hx3, hx4⟩ := call_cells (B := 0) hTy HCALL.out))
        go_wp2
        obtain ⟨v', hT⟩ := hTy
        exact ⟨⟨k + 1, σ, v', l, by omega, by omega, by go_num, hT, HCAP.out, HISS.out.more (by omega), by omega⟩, by simp [intOf]; omega⟩
      · rw [hr]
        go_wp2_with fail
        refine (pick_any kd hd y o xa xc _ l _ hh1 hh2 h.row (issued_words HISS.out h.ok) (by omega)).mono ?_
        rintro e w2 ⟨H, hH0, hH1, rfl, hb2⟩
        have h3 := h.calm hb2
        clear h hc1 hc2 hc3 hc4 hb2
        by_cases he : σ.ent H = 0
        · go_wp2_with fail
          refine (ti_close_bad h3 hH0 hH1 he).mono ?_
          rintro e w3 ⟨rfl, h4⟩
          clear h3
          go_wp2
          exact ⟨⟨k + 1, σ, v, l, by omega, by omega, by go_num, h4, HCAP.out, HISS.out.more (by omega), by omega⟩, by simp [intOf]; omega⟩
        · have HE := Lib.hid he
          clear he
          go_wp2_with fail
          refine (ti_close h3 hH0 hH1 HE.out).mono ?_
          rintro e w3 ⟨rfl, h4⟩
          clear h3
          go_wp2
          exact ⟨⟨k + 1, _, v, l, by omega, by omega, by go_num, h4, HCAP.out, HISS.out.put.more (by omega), by omega⟩, by simp [intOf]; omega⟩
      · obtain ⟨hr2, hr3, hr4⟩ := hr
        generalize kd % 5 = r at *
        have e2 : (r == 2) = false := by simpa using hr2
        have e3 : (r == 3) = false := by simpa using hr3
        have e4 : (r == 4) = false := by simpa using hr4
        rcases free_or σ with hf | ⟨i, t, hf⟩
        · go_wp2_with fail
          refine (ti_full h hf hy1 hy2).mono ?_
          rintro e w3 ⟨rfl, h4⟩
          clear h hc1 hc2 hc3 hc4 hf
          go_wp2
          exact ⟨⟨k + 1, σ, v, l, by omega, by omega, by go_num, h4, HCAP.out, HISS.out.more (by omega), by omega⟩, by simp [intOf]; omega⟩
        · have HF := Lib.hid hf
          have hok := h.ok
          go_wp2_with fail
          refine (ti_open h hf hy1 hy2).mono ?_
          rintro e w3 ⟨rfl, h4⟩
          have hiss := HISS.out.take hok hf (by omega)
          generalize hhd : (σ.take i t).hd i = Y at hiss ⊢
          have HISS2 := Lib.hid hiss
          have hal := (Below.refl w3.heap.size w3).alloc (Nat.le_refl _) (Obj.cells #[Value.int .u64 Y] 29)
          have h5 := h4.calm hal
          have hsz := h5.hB
          have hrow := h5.row
          clear h h4 hc1 hc2 hc3 hc4 hf hal hhd hiss hok
          go_wp2_with (at_builtin; refine wpList_append_own_at _ rfl (.tmp 51) (.tmp 53) 42 rfl w.heap.size 29 i0 (.int .u64 0) 1 8 Try.underlying42 ji jz0 jz1 jz2 rfl (by decide) _ l.length (u64s l) rfl hrow ⟨w3.heap.size, 0, none⟩ 1 1 [.int .u64 Y] rfl rfl (cell_new1 _ _ _) (one_cell1 _ _) (by unfold maxLen; omega) (by omega) hsz ?_; intro v2 w5 ho5 hg5 _ hb5)
          have h6 := TI.push (l' := l ++ [Y]) (a := none) (n := 0) (c := 0) h5 hg5 (by rw [u64s_snoc, List.length_append]; exact ho5) hb5
          exact ⟨⟨k + 1, _, _, l ++ [Y], by omega, by omega, by go_num, h6, HCAP.out, HISS2.out, by simp; omega⟩, by simp [intOf]; omega⟩
    · by_cases hlt : k < m
      · have hki : (k : Int) < (m : Int) := by omega
        have hki2 : (150 : Int) ≤ (k : Int) := by omega
        clear hin
        go_wp2
        go_ret2
        exact ⟨pa, xa, xc, k, σ, v, l, rfl, h, HCAP.out, HISS.out, hk150, hlen⟩
      · have hki : (m : Int) ≤ (k : Int) := by omega
        clear hin
        go_wp2
        go_ret2
        exact ⟨pa, xa, xc, k, σ, v, l, rfl, h, HCAP.out, HISS.out, hk150, hlen⟩
end Go.Proofs.Ytnikbnbmbifcjaa
