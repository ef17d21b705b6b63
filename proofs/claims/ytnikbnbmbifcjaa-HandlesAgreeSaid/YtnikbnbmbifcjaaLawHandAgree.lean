/- The walk of HandlesAgree. -/
import Derived.Test.YtnikbnbmbifcjaaHandDuo2
import Derived.Deep.CutRange
import Derived.Deep.RegionHeld3
set_option linter.unusedVariables false
namespace Go.Proofs.Ytnikbnbmbifcjaa
open Go.RowKit
theorem look_ex (σ : St) (v : Nat → Int) (n : Int) : ∃ a b : Int, lookV σ v n = (.int .u32 a, .int .i64 b) := by
  unfold lookV
  split
  · exact ⟨_, _, rfl⟩
  · exact ⟨_, _, rfl⟩
theorem look_eq {σ : St} {v u : Nat → Int} (hok : σ.Ok) (h : ∀ i, σ.on i = true → v i = u i) {n : Int} (h0 : 0 ≤ n) : lookV σ u n = lookV σ v n := by
  unfold lookV
  by_cases he : σ.ent n = 0
  · rw [if_pos he, if_pos he]
  · rw [if_neg he, if_neg he, h _ (ent_pos hok h0 he).1]
theorem duo_start {I : HImpl} {w0 w1 w2 : World} {p : Value} {σ : St} {v : Nat → Int} {r : RL} (h : TI I w0.heap.size w0 w1 p σ v (.slice none 0 0) []) (hr : RefTab w1.heap.size (fun k => w1.heap.size ≤ k) w2 σ v r) (hb : Below w1.heap.size w1 w2) :
    Duo I w0.heap.size w2.heap.size w0 (w2.alloc (Obj.cells (refT σ r) 40)) p σ v σ v r (refT σ r) (.slice none 0 0) [] (fun k => w1.heap.size ≤ k ∧ k ≤ w2.heap.size) := by
  obtain ⟨F, h1, hF⟩ := h.has
  have h2 := hb.size
  have h3 : Below w2.heap.size w2 (w2.alloc (Obj.cells (refT σ r) 40)) := (Below.refl _ _).alloc (Nat.le_refl _) _
  have hr3 := hr.below h3
  have hb4 := hb.trans (h3.mono h2)
  have hB := h.hB
  have hin : ∀ k, w1.heap.size ≤ k ∧ k < w2.heap.size → (w1.heap.size ≤ k ∧ k ≤ w2.heap.size) ∧ k ≠ w2.heap.size ∧ (Value.slice none 0 0).ownBlock ≠ some k := fun k hk => ⟨⟨hk.1, by omega⟩, by omega, by simp [Value.ownBlock]⟩
  refine ⟨⟨F, I.below h1 hb4, fun k hk => ⟨(hF k hk).1, fun hg => by have := I.dom h1 k hk; omega⟩⟩, fun k hk => by simp; omega, ?_, World.ownsRow_nil _ _ _ _, fun k hk => by simp [Value.ownBlock] at hk, heap_alloc_new _ _, ⟨h2, Nat.le_refl _⟩, h.below.trans (hb4.mono hB), by omega⟩
  have hs := (hr.slots.lt.keep (w' := w2.alloc (Obj.cells (refT σ r) 40)) (fun k hk => h3.block k hk.2) hin).mono hB
  exact ⟨hs, hr.ok, row_mono hr3.vals hB, fun k hk => hin k ⟨hr.inV k hk, (row_lt hr.vals k hk).2⟩⟩
theorem hds_le {σ : St} (h : σ.Ok) : (σ.hds.length : Int) ≤ 65536 ∧ σ.opened.length = σ.hds.length := by
  have h1 := opened_len h
  have h2 := h.cap2
  have h3 : σ.hds.length = σ.opened.length := by simp [St.hds]
  omega
theorem upd_agree {σ : St} {v u : Nat → Int} {E : Nat} {y : Int} (h : ∀ i, σ.on i = true → v i = u i) : ∀ i, σ.on i = true → (if E = 0 then v else upd v E y) i = (if E = 0 then u else upd u E y) i := by
  intro i hi
  split
  · exact h i hi
  · unfold upd
    split
    · rfl
    · exact h i hi
theorem close_facts {σ : St} {v u : Nat → Int} {E N : Nat} {l : List Int} (h : ∀ i, σ.on i = true → v i = u i) (hi : Issued σ N l) :
    (∀ i, (if E = 0 then σ else σ.put E).on i = true → v i = u i) ∧ Issued (if E = 0 then σ else σ.put E) (N + 1) l ∧ (if E = 0 then σ else σ.put E).cap = σ.cap := by
  split
  · exact ⟨h, hi.more (by omega), rfl⟩
  · refine ⟨fun i hi => h i ?_, hi.put.more (by omega), rfl⟩
    by_cases e : i = E
    · simp [St.put, e] at hi
    · simp [St.put, e] at hi; exact hi
theorem open_agree {σ : St} {v u : Nat → Int} {i : Nat} {t : List Nat} {y : Int} (h : ∀ i, σ.on i = true → v i = u i) : ∀ j, (σ.take i t).on j = true → upd v i y j = upd u i y j := by
  intro j hj
  unfold upd
  split
  · rfl
  · rename_i e
    exact h j (by simpa [St.take, e] using hj)
/-- the reference's next state lies in a box of its own -/
def OpenCut (I : HImpl) (B q : Nat) (w0 : World) (p : Value) (σ : St) (v : Nat → Int) (τ : St) (u : Nat → Int) (bx : Array Value) (x : Value) (l : List Int) (Y E : Int) (s18 s19 s20 : Value) (wx : World) : Prop :=
  ∃ (cb : Nat) (r2 : RL) (G2 : Nat → Prop), s18 = .pointer (some ⟨cb, 0, none⟩) ∧ s19 = .int .u64 Y ∧ s20 = .int .i64 E ∧ wx.heap[cb]? = some (.cells (refT τ r2) 40 (0, 0)) ∧ cb ≠ q ∧ Duo I B q w0 wx p σ v τ u r2 bx x l G2
section
variable {I : HImpl} {B q : Nat} {w6 w7 w0 : World} {p x : Value} {σ τ τ' : St} {v u u' : Nat → Int} {r r2 : RL} {bx : Array Value} {l : List Int} {G : Nat → Prop} {Z : Obj} {Y E : Int}
theorem full_at (h : Duo I B q w0 w6 p σ v τ u r bx x l G) (hf : τ.free = []) (y : Int) (wc : World) (hb : Below w6.heap.size w6 wc) :
    Calls Try.prog 21 #[.agg (refT τ r), .int .u32 y] wc
      (fun e w7 => ∃ r2, e = .returned (.tuple #[.agg (refT τ r2), .int .u64 0, .int .i64 2]) ∧ RefTab B (fun k => (G k ∧ k ≠ q ∧ x.ownBlock ≠ some k) ∨ wc.heap.size ≤ k) w7 τ u r2 ∧ Below wc.heap.size wc w7) := by
  refine (rt_open_full (h.ref.below hb) y hf).mono ?_
  rintro e w7 ⟨rfl, hb7⟩
  exact ⟨r, rfl, ((h.ref.below hb).below hb7).keep (fun _ _ => rfl) (fun k hk => .inl hk), hb7⟩
theorem open_at (h : Duo I B q w0 w6 p σ v τ u r bx x l G) {j : Nat} {t : List Nat} (hf : τ.free = (j + 1) :: t) (y : Int) (wc : World) (hb : Below w6.heap.size w6 wc) :
    Calls Try.prog 21 #[.agg (refT τ r), .int .u32 y] wc
      (fun e w7 => ∃ r2, e = .returned (.tuple #[.agg (refT (τ.take (j + 1) t) r2), .int .u64 ((τ.take (j + 1) t).hd (j + 1)), .int .i64 0]) ∧ RefTab B (fun k => (G k ∧ k ≠ q ∧ x.ownBlock ≠ some k) ∨ wc.heap.size ≤ k) w7 (τ.take (j + 1) t) (upd u (j + 1) y) r2 ∧ Below wc.heap.size wc w7) := by
  refine (rt_open (h.ref.below hb) y j t hf (Nat.le_trans h.size hb.size) (fun k hk => Nat.lt_of_lt_of_le (h.gl k hk.1) hb.size)).mono ?_
  rintro e w7 ⟨r2, rfl, hr, hb7⟩
  exact ⟨r2, rfl, hr, hb7⟩
theorem cut_a (h : Duo I B q w0 w6 p σ v τ u r bx x l G) (hr : RefTab B (fun k => (G k ∧ k ≠ q ∧ x.ownBlock ≠ some k) ∨ (w6.alloc Z).drew.heap.size ≤ k) w7 τ' u' r2) (hb : Below (w6.alloc Z).drew.heap.size (w6.alloc Z).drew w7) {old : Array Value}
    (hz : w7.heap[w6.heap.size]? = some (.cells old 40 (0, 0))) :
    OpenCut I B q w0 p σ v τ' u' bx x l Y E (.pointer (some ⟨w6.heap.size, 0, none⟩)) (.int .u64 Y) (.int .i64 E) (w7.setRow w6.heap.size (refT τ' r2)) := by
  have hsz : (w6.alloc Z).drew.heap.size = w6.heap.size + 1 := by simp
  rw [hsz] at hb hr
  have hq := h.gl q h.qG
  have hbw : Below w6.heap.size w6 w7 := ((Below.refl _ _).alloc (Nat.le_refl _) _).drew.trans (hb.mono (by omega))
  exact ⟨_, r2, _, rfl, rfl, rfl, setRow_heap _ _ _ _ _ _ hz, by omega, h.refd (hr.keep (fun k hk => setRow_other _ _ _ _ (by rcases hk with hk | hk; have := h.gl k hk.1; omega; omega)) (fun k hk => by rcases hk with hk | hk; exact .inl hk; exact .inr (by omega))) (below_setRow hbw (Nat.le_refl _) _)⟩
theorem cut_b (h : Duo I B q w0 w6 p σ v τ u r bx x l G) (hr : RefTab B (fun k => (G k ∧ k ≠ q ∧ x.ownBlock ≠ some k) ∨ w6.drew.heap.size ≤ k) w7 τ' u' r2) (hb : Below w6.drew.heap.size w6.drew w7) :
    OpenCut I B q w0 p σ v τ' u' bx x l Y E (.pointer (some ⟨w7.heap.size, 0, none⟩)) (.int .u64 Y) (.int .i64 E) (w7.alloc (Obj.cells (refT τ' r2) 40)) := by
  have hq := h.gl q h.qG
  have hs := hb.size
  have hs' : w6.heap.size ≤ w7.heap.size := hs
  have hbw : Below w6.heap.size w6 w7 := (Below.refl _ _).drew.trans hb
  have hal := (Below.refl w7.heap.size w7).alloc (Nat.le_refl _) (Obj.cells (refT τ' r2) 40)
  exact ⟨_, r2, _, rfl, rfl, rfl, heap_alloc_new _ _, by omega, h.refd ((hr.below hal).keep (fun _ _ => rfl) (fun k hk => hk)) (hbw.trans (hal.mono hs'))⟩
end
def AgreeRel (I : HImpl) (w : World) (q : Nat) (p : Value) (n m : Nat) (x i : Value) (wr : World) : Prop :=
  ∃ (k : Nat) (σ : St) (v u : Nat → Int) (r : RL) (l : List Int) (G : Nat → Prop), k ≤ m ∧ i = .int .i64 (k : Int) ∧ σ.cap = n ∧ Issued σ k l ∧ l.length ≤ k ∧
    Duo I w.heap.size q w wr p σ v σ u r (refT σ r) x l G ∧ ∀ i, σ.on i = true → v i = u i
set_option maxHeartbeats 16000000 in
set_option maxRecDepth 100000 in
theorem agree_walk (I : HImpl) (c : Int) (a : Option Addr) (m cap : Nat) (w : World) (h1 : -9223372036854775808 ≤ c) (h2 : c ≤ 9223372036854775807) (hl : CallsIn w a m) (hmc : m ≤ cap) (hm : cap ≤ maxLen) :
    Calls Try.prog 4 #[.int .i64 c, .slice a m cap] w fun e w' => e = .returned (.bool true) ∧ Below w.heap.size w w' := by
  by_cases hlong : 100 < m
  · have hli : (100 : Int) < (m : Int) := by omega
    clear hl hlong
    go_enter Try.func4, Try.ntmps4
    go_wp2_with fail
    refine (awake_any I _).mono ?_
    rintro e w2 ⟨rfl, hb2⟩
    go_wp2
    go_ret
    exact ⟨rfl, hb2⟩
  obtain ⟨i0, ji, jz0, jz1, jz2⟩ := info_parts u64sInfo
  have hli : (m : Int) ≤ 100 := by omega
  have hm100 : m ≤ 100 := by omega
  have hr := Int.emod_nonneg c (b := 10) (by omega)
  have hr2 := Int.emod_lt_of_pos c (b := 10) (by omega)
  obtain ⟨r, hr3⟩ := Int.eq_ofNat_of_zero_le hr
  rw [hr3] at hr2
  have hr4 : r < 10 := by omega
  have HR := Lib.hid hr3
  obtain ⟨n, hn⟩ : ∃ n : Nat, n = r + 1 := ⟨_, rfl⟩
  have HN : Hid ((1 : Int) + (r : Int) = (n : Int)) := by have := hn; show (1 : Int) + (r : Int) = (n : Int); omega
  have hn1 : 1 ≤ n := by omega
  have hn2 : n ≤ 10 := by omega
  have HL := Lib.hid hl
  unfold maxLen at hm
  clear hr hr2 hr3 hn hlong hl
  go_enter Try.func4, Try.ntmps4
  go_wp2_with fail
  refine (mod_any c 10 _ h1 h2 (by decide) (by decide)).mono ?_
  rintro e w2 ⟨rfl, rfl⟩
  rw [HR.out]
  go_wp2_with fail
  rw [HN.out]
  refine (ti_new I n n _ hn1 (by omega) rfl).mono ?_
  rintro e w1 ⟨pa, rfl, h⟩
  go_wp2_with fail
  refine (rt_new n _ hn1 (by omega)).mono ?_
  rintro e w2 ⟨r0, rfl, hR, hb2⟩
  have hD := duo_start h hR hb2
  unfold refT
  clear h hR hb2
  go_wp2_with fail
  refine (awake_any I _).mono ?_
  rintro e w3 ⟨rfl, hb3⟩
  have hD3 := hD.calm hb3
  generalize w2.heap.size = q at hD3 ⊢
  clear hD hb3
  go_wp2
  go_loopw [9, 10] (fun x i wr => AgreeRel I w q (.pointer (some pa)) n m x i wr) (fun _ i _ => m - (intOf i).toNat)
  case atStart => exact ⟨0, _, _, _, _, _, _, Nat.zero_le _, rfl, rfl, Issued.start n, Nat.le_refl _, hD3, fun _ _ => rfl⟩
  case round =>
    clear hD3
    obtain ⟨k, σ, v, u, r1, l, G, hk, rfl, hcap, hiss, hlen, hD, hag⟩ := hrel
    obtain ⟨xa, xc, rfl⟩ := row_val hD.row
    have HCAP := Lib.hid hcap
    have HISS := Lib.hid hiss
    have HAG := Lib.hid hag
    have HOK := Lib.hid hD.ok
    clear hcap hiss hag
    by_cases hlt : k < m
    · have hki : (k : Int) < (m : Int) := by omega
      obtain ⟨b, off, kd, hd, y, o, hcall0, hk1, hk2, hh1, hh2, hy1, hy2⟩ := HL.out k hlt
      have hcall := hcall0.below hD.below
      have HC0 := Lib.hid hcall0
      clear hcall0
      obtain ⟨rfl, hbb, hc1, hc2, hc3, hc4⟩ := hcall
      go_wp2_with fail
      refine (pick_any kd hd y o xa xc _ l _ hh1 hh2 hD.row (issued_words HISS.out HOK.out) (by omega)).mono ?_
      rintro e w4 ⟨H, hH0, hH1, rfl, hb4⟩
      have hD4 := hD.calm hb4
      clear hD hc1 hc2 hc3 hc4 hb4 hbb
      obtain ⟨hc1, hc2, hc3, hc4⟩ := (HC0.out.below hD4.below).2.2
      go_wp2_with fail
      refine (mod_any kd 5 _ hk1 hk2 (by decide) (by decide)).mono ?_
      rintro e w5 ⟨rfl, rfl⟩
      rcases (show kd % 5 = 2 ∨ kd % 5 = 3 ∨ kd % 5 = 4 ∨ (kd % 5 ≠ 2 ∧ kd % 5 ≠ 3 ∧ kd % 5 ≠ 4) by omega) with hr | hr | hr | hr
      case' inl =>
        rw [hr]
        obtain ⟨A, B2, hL⟩ := look_ex σ v H
        have hL2 := (look_eq HOK.out HAG.out hH0).trans hL
        have HL1 := Lib.hid hL
        have HL2 := Lib.hid hL2
        clear hL hL2 hr hc1 hc2 hc3 hc4
        go_wp2_with fail
        refine (duo_lookup hD4 hH0 hH1).mono ?_
        rintro e w6 ⟨rfl, hD6⟩
        rw [HL1.out]
        have hx := hD6.box
        unfold refT at hx
        obtain ⟨hc0, hc1, hc2, hc3, hc4, hc5⟩ := row6 hx
        clear hx hD4
        go_wp2_with fail
        refine (duo_rlookup hD6 hH0 hH1).mono ?_
        rintro e w7 ⟨rfl, hD7⟩
        rw [HL2.out]
        clear hc0 hc1 hc2 hc3 hc4 hc5 hD6
        have hx := hD7.box
        unfold refT at hx
        obtain ⟨hc0, hc1, hc2, hc3, hc4, hc5⟩ := row6 hx
        have hAA : (A != A) = false := by simp
        have hBB : (B2 != B2) = false := by simp
        clear hx
        go_wp2_with fail
        have HISS2 := Lib.hid (HISS.out.more (M := k + 1) (by omega))
        have HCAP2 := HCAP
        have HAG2 := HAG
        have hlen2 : l.length ≤ k + 1 := by omega
        clear hc0 hc1 hc2 hc3 hc4 hc5
      case' inr.inl =>
        rw [hr]
        obtain ⟨B2, hB2⟩ : ∃ B2 : Int, B2 = if σ.ent H = 0 then 5 else 0 := ⟨_, rfl⟩
        have HB2 := Lib.hid hB2
        clear hr hB2
        go_wp2_with fail
        refine (duo_replace hD4 hH0 hH1 hy1 hy2).mono ?_
        rintro e w6 ⟨rfl, hD6⟩
        rw [← HB2.out]
        clear hc1 hc2 hc3 hc4 hD4
        have hx := hD6.box
        unfold refT at hx
        obtain ⟨hc0, hc1, hc2, hc3, hc4, hc5⟩ := row6 hx
        obtain ⟨hg1, hg2, hg3, hg4⟩ := (HC0.out.below hD6.below).2.2
        have hD6d := hD6.calm (Below.refl _ _).drew
        have HD6 := Lib.hid hD6d
        clear hx hD6 hD6d
        go_wp2_with fail
        go_region_with ((go_at_call 18; refine (duo_rreplace HD6.out hH0 hH1).mono ?_; rintro e w7 ⟨r2, rfl, hD7⟩; have HD7 := Lib.hid hD7; have hx := hD7.box; unfold refT at hx; obtain ⟨hm0, hm1, hm2, hm3, hm4, hm5⟩ := row6 hx; obtain ⟨hf0, hf1, hf2, hf3, hf4, hf5⟩ := frozen6 hx; have HX := Lib.hid hx; clear hx hD7; rw [← HB2.out]; unfold refT))
        all_goals
          have hAA : ((0 : Int) != 0) = false := by simp
          have hBB : (B2 != B2) = false := by simp
          have HISS2 := Lib.hid (HISS.out.more (M := k + 1) (by omega))
          have HCAP2 := HCAP
          have HAG2 := Lib.hid (upd_agree (E := σ.ent H) (y := y) HAG.out)
          have hlen2 : l.length ≤ k + 1 := by omega
          clear hc0 hc1 hc2 hc3 hc4 hc5 hg1 hg2 hg3 hg4
          go_wp2_with fail
          rw [set6 HX.out]
          have hD7 := HD7.out.stored (refT σ r2)
          clear hm0 hm1 hm2 hm3 hm4 hm5 hf0 hf1 hf2 hf3 hf4 hf5 HD7 HX
          unfold refT at hD7
          generalize World.setRow _ _ _ = w7 at hD7 ⊢
      case' inr.inr.inl =>
        rw [hr]
        obtain ⟨A, B2, hL⟩ := look_ex σ v H
        have hL2 := (look_eq HOK.out HAG.out hH0).trans hL
        have HL1 := Lib.hid hL
        have HL2 := Lib.hid hL2
        obtain ⟨hf1, hf2, hf3⟩ := close_facts (E := σ.ent H) HAG.out HISS.out
        have HAG2 := Lib.hid hf1
        have HISS2 := Lib.hid hf2
        have HCAP2 := Lib.hid (hf3.trans HCAP.out)
        clear hL hL2 hr hc1 hc2 hc3 hc4 hf1 hf2 hf3
        go_wp2_with fail
        refine (duo_close hD4 hH0 hH1).mono ?_
        rintro e w6 ⟨rfl, hD6⟩
        rw [HL1.out]
        have hx := hD6.box
        unfold refT at hx
        obtain ⟨hc0, hc1, hc2, hc3, hc4, hc5⟩ := row6 hx
        clear hx hD4
        go_wp2_with fail
        refine (duo_rclose hD6 hH0 hH1).mono ?_
        rintro e w7 ⟨r2, rfl, hD7⟩
        rw [HL2.out]
        clear hc0 hc1 hc2 hc3 hc4 hc5 hD6
        have hx := hD7.box
        unfold refT at hx
        obtain ⟨hc0, hc1, hc2, hc3, hc4, hc5⟩ := row6 hx
        obtain ⟨hf0, hf1, hf2, hf3, hf4, hf5⟩ := frozen6 hx
        have HX := Lib.hid hx
        have HD7 := Lib.hid hD7
        have hAA : (A != A) = false := by simp
        have hBB : (B2 != B2) = false := by simp
        generalize hσ : (if σ.ent H = 0 then σ else σ.put (σ.ent H)) = σ2 at HAG2 HISS2 HCAP2 HD7 ⊢
        clear hx hD7 hσ
        have hlen2 : l.length ≤ k + 1 := by omega
        unfold refT
        go_wp2_with fail
        rw [set6 HX.out]
        have hD7 := HD7.out.stored (refT σ2 r2)
        clear hc0 hc1 hc2 hc3 hc4 hc5 hf0 hf1 hf2 hf3 hf4 hf5 HD7 HX
        unfold refT at hD7
        generalize World.setRow _ _ _ = w7 at hD7 ⊢
      case' inr.inr.inr =>
        obtain ⟨hr2, hr3, hr4⟩ := hr
        generalize kd % 5 = rr at *
        have e2 : (rr == 2) = false := by simpa using hr2
        have e3 : (rr == 3) = false := by simpa using hr3
        have e4 : (rr == 4) = false := by simpa using hr4
        have hAA : ((0 : Int) != 0) = false := by simp
        rcases free_or σ with hf | ⟨i, t, hf⟩
        case' inl =>
          have HF := Lib.hid hf
          clear hf
          go_wp2_with fail
          refine (duo_full hD4 HF.out hy1 hy2).mono ?_
          rintro e w6 ⟨rfl, hD6⟩
          clear hc1 hc2 hc3 hc4 hD4
          have hx := hD6.box
          unfold refT at hx
          obtain ⟨hc0, hc1, hc2, hc3, hc4, hc5⟩ := row6 hx
          obtain ⟨hg1, hg2, hg3, hg4⟩ := (HC0.out.below hD6.below).2.2
          have hbl := (HC0.out.below hD6.below).2.1
          have hql := hD6.gl q hD6.qG
          have hbn1 : ¬ b = w6.heap.size := by omega
          have hbn2 : ¬ w6.heap.size = b := by omega
          have hqn1 : ¬ q = w6.heap.size := by omega
          have hqn2 : ¬ w6.heap.size = q := by omega
          have HX6 := Lib.hid hx
          have HD6 := Lib.hid hD6
          clear hx hD6
          have hbA : Below w6.heap.size w6 (w6.alloc (Obj.cells #[Value.int .i64 0, .slice none 0 0, .int .i64 0, .slice none 0 0, .slice none 0 0, .slice none 0 0] 40)).drew := ((Below.refl _ _).alloc (Nat.le_refl _) _).drew
          have hbB : Below w6.heap.size w6 w6.drew := (Below.refl _ _).drew
          go_upto_region 17 with fail
          go_cut [18, 19, 20] from 46 to 170 (fun s18 s19 s20 wx => OpenCut I w.heap.size q w (.pointer (some pa)) σ v σ u (refT σ r1) (.slice xa l.length xc) l 0 2 s18 s19 s20 wx)
          case first =>
            go_region_held3 (fun w' => w'.cell? ⟨q, 0, none⟩ = some (.int .i64 (σ.cap : Int)) ∧ w'.cell? ⟨q, 1, none⟩ = some (.slice r1.sa r1.st.length r1.sc) ∧ w'.cell? ⟨q, 2, none⟩ = some (.int .i64 (r1.fr : Int)) ∧ w'.cell? ⟨q, 3, none⟩ = some (.slice r1.ga σ.cap r1.gc) ∧ w'.cell? ⟨q, 4, none⟩ = some (.slice r1.oa σ.cap r1.oc) ∧ w'.cell? ⟨q, 5, none⟩ = some (.slice r1.va σ.cap r1.vc) ∧ w'.cell? ⟨b, off + k * 4 + 2, none⟩ = some (.int .u32 y)) (go_keep) ((go_at_call 21; refine (full_at HD6.out HF.out y _ (by assumption)).mono ?_; rintro e w7 ⟨r2, rfl, hr7, hb7⟩; have HB7 := Lib.hid hb7; have HR7 := Lib.hid hr7; have hbw : Below w6.heap.size w6 w7 := (by first | exact hbA.trans (hb7.mono hbA.size) | exact hbB.trans (hb7.mono hbB.size)); have hq7 := (hbw.block q hql).trans HX6.out; obtain ⟨hn0, hn1, hn2, hn3, hn4, hn5⟩ := row6 hq7; have hv7 := (hbw.cell (p := ⟨b, off + k * 4 + 2, none⟩) hbl).trans hg3; (first | (have hz := (hb7.block w6.heap.size (by simp)).trans (heap_alloc_new w6 (Obj.cells #[Value.int .i64 0, .slice none 0 0, .int .i64 0, .slice none 0 0, .slice none 0 0, .slice none 0 0] 40)); obtain ⟨hm0, hm1, hm2, hm3, hm4, hm5⟩ := row6 hz; obtain ⟨hf0, hf1, hf2, hf3, hf4, hf5⟩ := frozen6 hz; have HZ := Lib.hid hz; clear hz) | skip); clear hq7 hb7 hr7 hbw; unfold refT))
            · go_wp2_with fail
              go_meet
              exact cut_b HD6.out HR7.out HB7.out
            · go_wp2_with fail
              go_meet
              rw [set6 HZ.out]
              exact cut_a HD6.out HR7.out HB7.out HZ.out
          case' rest =>
            obtain ⟨cb, r2, G2, rfl, rfl, rfl, hcb, hcbq, hD8⟩ := hcut
            have hcx := hcb
            have hx := hD8.box
            unfold refT at hcx hx
            obtain ⟨hm0, hm1, hm2, hm3, hm4, hm5⟩ := row6 hcx
            clear hc0 hc1 hc2 hc3 hc4 hc5 hg1 hg2 hg3 hg4
            obtain ⟨hc0, hc1, hc2, hc3, hc4, hc5⟩ := row6 hx
            obtain ⟨hf0, hf1, hf2, hf3, hf4, hf5⟩ := frozen6 hx
            have HX := Lib.hid hx
            have HD8 := Lib.hid hD8
            clear hcx hx hcb hD8
            have HISS2 := Lib.hid (HISS.out.more (M := k + 1) (by omega))
            have HCAP2 := HCAP
            have HAG2 := HAG
            have hlen2 : l.length ≤ k + 1 := by omega
            go_wp2_with fail
            rw [set6 HX.out]
            have hD7 := HD8.out.stored (refT σ r2)
            clear hm0 hm1 hm2 hm3 hm4 hm5 hc0 hc1 hc2 hc3 hc4 hc5 hf0 hf1 hf2 hf3 hf4 hf5 HD8 HX
            unfold refT at hD7
            generalize World.setRow _ _ _ = w7 at hD7 ⊢
        case' inr =>
          have HF := Lib.hid hf
          clear hf
          go_wp2_with fail
          obtain ⟨j, rfl⟩ : ∃ j, i = j + 1 := ⟨i - 1, by have := (HOK.out.free i).1 (by rw [HF.out]; simp); omega⟩
          refine (duo_open hD4 HF.out hy1 hy2).mono ?_
          rintro e w6 ⟨rfl, hD6⟩
          clear hc1 hc2 hc3 hc4 hD4
          obtain ⟨Y, hY⟩ : ∃ Y, Y = (σ.take (j + 1) t).hd (j + 1) := ⟨_, rfl⟩
          have hiss := HISS.out.take HOK.out HF.out (by omega)
          rw [← hY] at hiss ⊢
          have HY := Lib.hid hY
          have HISS2 := Lib.hid hiss
          have hYY : (Y != Y) = false := by simp
          clear hY hiss
          have hx := hD6.box
          unfold refT at hx
          obtain ⟨hc0, hc1, hc2, hc3, hc4, hc5⟩ := row6 hx
          obtain ⟨hg1, hg2, hg3, hg4⟩ := (HC0.out.below hD6.below).2.2
          have hbl := (HC0.out.below hD6.below).2.1
          have hql := hD6.gl q hD6.qG
          have hbn1 : ¬ b = w6.heap.size := by omega
          have hbn2 : ¬ w6.heap.size = b := by omega
          have hqn1 : ¬ q = w6.heap.size := by omega
          have hqn2 : ¬ w6.heap.size = q := by omega
          have HX6 := Lib.hid hx
          have HD6 := Lib.hid hD6
          clear hx hD6
          have hbA : Below w6.heap.size w6 (w6.alloc (Obj.cells #[Value.int .i64 0, .slice none 0 0, .int .i64 0, .slice none 0 0, .slice none 0 0, .slice none 0 0] 40)).drew := ((Below.refl _ _).alloc (Nat.le_refl _) _).drew
          have hbB : Below w6.heap.size w6 w6.drew := (Below.refl _ _).drew
          go_upto_region 17 with fail
          go_cut [18, 19, 20] from 46 to 170 (fun s18 s19 s20 wx => OpenCut I w.heap.size q w (.pointer (some pa)) (σ.take (j + 1) t) (upd v (j + 1) y) (σ.take (j + 1) t) (upd u (j + 1) y) (refT σ r1) (.slice xa l.length xc) l Y 0 s18 s19 s20 wx)
          case first =>
            go_region_held3 (fun w' => w'.cell? ⟨q, 0, none⟩ = some (.int .i64 (σ.cap : Int)) ∧ w'.cell? ⟨q, 1, none⟩ = some (.slice r1.sa r1.st.length r1.sc) ∧ w'.cell? ⟨q, 2, none⟩ = some (.int .i64 (r1.fr : Int)) ∧ w'.cell? ⟨q, 3, none⟩ = some (.slice r1.ga σ.cap r1.gc) ∧ w'.cell? ⟨q, 4, none⟩ = some (.slice r1.oa σ.cap r1.oc) ∧ w'.cell? ⟨q, 5, none⟩ = some (.slice r1.va σ.cap r1.vc) ∧ w'.cell? ⟨b, off + k * 4 + 2, none⟩ = some (.int .u32 y)) (go_keep) ((go_at_call 21; refine (open_at HD6.out HF.out y _ (by assumption)).mono ?_; rintro e w7 ⟨r2, rfl, hr7, hb7⟩; rw [← HY.out]; have HB7 := Lib.hid hb7; have HR7 := Lib.hid hr7; have hbw : Below w6.heap.size w6 w7 := (by first | exact hbA.trans (hb7.mono hbA.size) | exact hbB.trans (hb7.mono hbB.size)); have hq7 := (hbw.block q hql).trans HX6.out; obtain ⟨hn0, hn1, hn2, hn3, hn4, hn5⟩ := row6 hq7; have hv7 := (hbw.cell (p := ⟨b, off + k * 4 + 2, none⟩) hbl).trans hg3; (first | (have hz := (hb7.block w6.heap.size (by simp)).trans (heap_alloc_new w6 (Obj.cells #[Value.int .i64 0, .slice none 0 0, .int .i64 0, .slice none 0 0, .slice none 0 0, .slice none 0 0] 40)); obtain ⟨hm0, hm1, hm2, hm3, hm4, hm5⟩ := row6 hz; obtain ⟨hf0, hf1, hf2, hf3, hf4, hf5⟩ := frozen6 hz; have HZ := Lib.hid hz; clear hz) | skip); clear hq7 hb7 hr7 hbw; unfold refT))
            · go_wp2_with fail
              go_meet
              exact cut_b HD6.out HR7.out HB7.out
            · go_wp2_with fail
              go_meet
              rw [set6 HZ.out]
              exact cut_a HD6.out HR7.out HB7.out HZ.out
          case' rest =>
            obtain ⟨cb, r2, G2, rfl, rfl, rfl, hcb, hcbq, hD8⟩ := hcut
            have hcx := hcb
            have hx := hD8.box
            unfold refT at hcx hx
            obtain ⟨hm0, hm1, hm2, hm3, hm4, hm5⟩ := row6 hcx
            clear hc0 hc1 hc2 hc3 hc4 hc5 hg1 hg2 hg3 hg4
            obtain ⟨hc0, hc1, hc2, hc3, hc4, hc5⟩ := row6 hx
            obtain ⟨hf0, hf1, hf2, hf3, hf4, hf5⟩ := frozen6 hx
            have HX := Lib.hid hx
            have HD8 := Lib.hid hD8
            clear hcx hx hcb hD8
            have HCAP2 : Hid ((σ.take (j + 1) t).cap = n) := HCAP
            have HAG2 := Lib.hid (open_agree (i := j + 1) (t := t) (y := y) HAG.out)
            have hlen2 : (l ++ [Y]).length ≤ k + 1 := by simp; omega
            go_upto_region 22 with fail
            rw [set6 HX.out]
            have hD9 := HD8.out.stored (refT (σ.take (j + 1) t) r2)
            clear hm0 hm1 hm2 hm3 hm4 hm5 hc0 hc1 hc2 hc3 hc4 hc5 hf0 hf1 hf2 hf3 hf4 hf5 HD8 HX
            unfold refT at hD9
            generalize World.setRow _ _ _ = w8 at hD9 ⊢
            have hal := (Below.refl w8.heap.size w8).alloc (Nat.le_refl _) (Obj.cells #[Value.int .u64 Y] 29)
            have hD10 := hD9.calm hal
            have hsz := hD10.size
            have hrow := hD10.row
            have HD10 := Lib.hid hD10
            clear hD9 hD10 hal
            go_wp2_with (at_builtin; refine wpList_append_own_at _ rfl (.tmp 93) (.tmp 95) 42 rfl w.heap.size 29 i0 (.int .u64 0) 1 8 Try.underlying42 ji jz0 jz1 jz2 rfl (by decide) _ l.length (u64s l) rfl hrow ⟨w8.heap.size, 0, none⟩ 1 1 [.int .u64 Y] rfl rfl (cell_new1 _ _ _) (one_cell1 _ _) (by unfold maxLen; omega) (by omega) hsz ?_; intro v9 w9 ho9 hg9 _ hb9; obtain ⟨xa9, xc9, rfl⟩ := row_val ho9; have hD7 := Duo.push (l' := l ++ [Y]) HD10.out hg9 (by rw [u64s_snoc, List.length_append]; exact ho9) hb9; have hx := hD7.box; unfold refT at hx; obtain ⟨hc0, hc1, hc2, hc3, hc4, hc5⟩ := row6 hx; clear hx hrow ho9 hg9 hb9 HD10)
            clear hc0 hc1 hc2 hc3 hc4 hc5
      all_goals
        refine (duo_rhandles hD7).mono ?_
        rintro e w8 ⟨oa, oc, rfl, ho8, hb8⟩
        have hD8 := hD7.calm hb8
        obtain ⟨hl1, hl2⟩ := hds_le hD7.ok
        have HL2 := Lib.hid hl2
        clear hD7 hb8 hl2
        go_wp2_with fail
        refine (duo_len hD8).mono ?_
        rintro e w9 ⟨rfl, hb9⟩
        rw [HL2.out]
        have hD9 := hD8.calm hb9
        have ho9 := row_below ho8 hb9
        clear hD8 hb9 ho8
        go_wp2_with fail
        refine (duo_handles hD9).mono ?_
        rintro e w10 ⟨ob, oc', rfl, ho10, hb10⟩
        have hD10 := hD9.calm hb10
        have ho11 := row_below ho9 hb10
        clear hD9 hb10 ho9
        go_wp2_with fail
        refine (same_rows64 _ _ hl1 ho10 ho11).mono ?_
        rintro e w11 ⟨rfl, hb11⟩
        have hD11 := hD10.calm hb11
        clear hD10 hb11 ho10 ho11
        go_wp2
        exact ⟨⟨k + 1, _, _, _, _, _, _, by omega, by go_num, HCAP2.out, HISS2.out, hlen2, hD11, HAG2.out⟩, by simp [intOf]; omega⟩
    · obtain rfl : k = m := by omega
      have hb := hD.below
      go_wp2
      go_ret
      exact ⟨rfl, hb⟩
end Go.Proofs.Ytnikbnbmbifcjaa
