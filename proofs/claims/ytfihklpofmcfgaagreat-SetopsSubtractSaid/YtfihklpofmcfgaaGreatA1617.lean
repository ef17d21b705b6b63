/- Of the proofs of SetopsUnion, SetopsIntersect, SetopsSubtract: ChkFin. -/
import Derived.Test.YtfihklpofmcfgaaGreatA167
import Derived.Deep.DeepCutAuto
import Derived.Deep.RegionHeld3
set_option linter.unusedVariables false
namespace Go.Proofs.YtfihklpofmcfgaaGreat
open Go.RowKit
/-- what Check reads at first: edges, marks, then how often each slot is listed and held -/
structure Pre (S : Nat → Sl) (n : Nat) (rs : List Nat) (q : Nat) (w1 : World) (x y : Value) (B : Nat → Bool) (wr : World) : Prop where
  ed : ∃ g, x = .slice (some ⟨g, 0, none⟩) n n
  edR : wr.ownsRow (q + 1) 3 1 x n (natR n fun i => eg S n (i + 1))
  mrk : ∃ g, y = .slice (some ⟨g, 0, none⟩) n n
  mkR : wr.ownsRow (q + 1) 4 1 y n (boolR n B)
  mkB : ∀ j, j < n → (B j = true ↔ Rch S n rs (j + 1))
  below : Below (q + 1) w1 wr
structure Pre2 (S : Nat → Sl) (n : Nat) (fr rs : List Nat) (q : Nat) (w1 : World) (x y : Value) (B : Nat → Bool) (u v : Value) (wr : World) : Prop where
  pre : Pre S n rs q w1 x y B wr
  li : ∃ g, u = .slice (some ⟨g, 0, none⟩) n n
  liR : wr.ownsRow (q + 1) 3 1 u n (natR n fun i => fr.count (i + 1))
  he : ∃ g, v = .slice (some ⟨g, 0, none⟩) n n
  heR : wr.ownsRow (q + 1) 3 1 v n (natR n fun i => rs.count (i + 1))
section
variable {S : Nat → Sl} {n q : Nat} {fr rs : List Nat} {w1 wr w' : World} {x y u v : Value} {B : Nat → Bool}
theorem Pre.from (h : Pre S n rs q w1 x y B wr) (hb : Below wr.heap.size wr w') (hs : q + 1 ≤ w1.heap.size) : Pre S n rs q w1 x y B w' :=
  ⟨h.ed, row_below h.edR hb, h.mrk, row_below h.mkR hb, h.mkB, h.below.trans (hb.mono (Nat.le_trans hs h.below.size))⟩
theorem Pre2.from (h : Pre2 S n fr rs q w1 x y B u v wr) (hb : Below wr.heap.size wr w') (hs : q + 1 ≤ w1.heap.size) : Pre2 S n fr rs q w1 x y B u v w' :=
  ⟨h.pre.from hb hs, h.li, row_below h.liR hb, h.he, row_below h.heR hb⟩
end
theorem marks_at {w : World} {a b ra : Option Addr} {n c m d rc L : Nat} {S : Nat → Sl} (rs : List Nat) (hL : rs.length = L) (h : SlotsAt w a n S) (hr : U32At w ra rs) (hn : n ≤ 65536) (hl : L ≤ 1000000) :
    Calls Tryz.prog 111 #[.agg #[.slice a n c, .slice b m d], .slice ra L rc] w (MadeMarks w S n rs) := by
  subst hL
  exact marks_any rs h hr hn hl
theorem counts_at {w : World} {a : Option Addr} {c n L : Nat} (l : List Nat) (hL : l.length = L) (h : U32At w a l) (hn : n ≤ 65536) (hl : L ≤ 1000000) :
    Calls Tryz.prog 112 #[.slice a L c, .int .i64 (n : Int)] w (MadeRow w n fun i => l.count (i + 1)) := by
  subst hL
  exact counts_any l h hn hl
def MadeFds (w : World) (l : List Fd) (e : Ending) (w' : World) : Prop :=
  ∃ a c, e = .returned (.slice a l.length c) ∧ w'.ownsRow w.heap.size 164 4 (.slice a l.length c) l.length (fdsV l) ∧ Below w.heap.size w w'
set_option maxHeartbeats 40000000 in
set_option maxRecDepth 100000 in
theorem check_any {w : World} {a b ra : Option Addr} {n c d rc : Nat} {S : Nat → Sl} (fr rs : List Nat) (h : SlotsAt w a n S) (hf : U32At w b fr) (hr : U32At w ra rs) (hn : n ≤ 65536) (hfl : fr.length ≤ 1000000) (hl : rs.length ≤ 1000000) (R : Nat → Bool) (hR : ∀ j, j < n → (R j = true ↔ Rch S n rs (j + 1))) :
    Calls Tryz.prog 89 #[.agg #[.slice a n c, .slice b fr.length d], .slice ra rs.length rc] w (MadeFds w (chk S n fr rs R)) := by
  have hni : (n : Int) ≤ 65536 := by omega
  have hni0 : (0 : Int) ≤ (n : Int) := by omega
  obtain ⟨M, hM⟩ : ∃ M, fr.length = M := ⟨_, rfl⟩
  obtain ⟨L, hL⟩ : ∃ L, rs.length = L := ⟨_, rfl⟩
  have hb1 : Below w.heap.size w (w.alloc (Obj.cells #[Value.slice a n c, Value.slice b fr.length d] 33)) := (Below.refl _ _).alloc (Nat.le_refl _) _
  have HB := Lib.hid hb1
  have HS := Lib.hid (h.below hb1)
  have HRS := Lib.hid (hr.below hb1)
  have HFR := Lib.hid (hf.below hb1)
  have HX := Lib.hid (DBox.new w a b n c fr.length d)
  have hsz : (w.alloc (Obj.cells #[Value.slice a n c, Value.slice b fr.length d] 33)).heap.size = w.heap.size + 1 := by simp
  have HZ := Lib.hid hsz
  have HMM := Lib.hid hM
  have HL := Lib.hid hL
  rw [hM] at hfl HB HS HRS HFR HX HZ
  rw [hL] at hl
  rw [hM, hL]
  obtain ⟨hc0, hc1⟩ := HX.out.cells
  have HRR := Lib.hid hR
  have hLi : (L : Int) ≤ 1000000 := by omega
  have hMi : (M : Int) ≤ 1000000 := by omega
  clear hb1 h hr hf hsz hL hM hR
  go_enter Tryz.func89, Tryz.ntmps89
  go_upto_region 1 with fail
  generalize hW1 : w.alloc (Obj.cells #[Value.slice a n c, Value.slice b M d] 33) = w1 at *
  clear hW1
  generalize hQ : w.heap.size = q at *
  have HQ := Lib.hid hQ
  clear hQ
  have HSS : Hid (∀ wx, Below (q + 1) w1 wx → SlotsAt wx a n S) := fun wx hb => HS.out.below (hb.mono (Nat.le_of_eq HZ.out))
  have HRX : Hid (∀ wx, Below (q + 1) w1 wx → U32At wx ra rs) := fun wx hb => HRS.out.below (hb.mono (Nat.le_of_eq HZ.out))
  have HFX : Hid (∀ wx, Below (q + 1) w1 wx → U32At wx b fr) := fun wx hb => HFR.out.below (hb.mono (Nat.le_of_eq HZ.out))
  have HXX : Hid (∀ wx, Below (q + 1) w1 wx → wx.cell? ⟨q, 0, none⟩ = some (.slice a n c) ∧ wx.cell? ⟨q, 1, none⟩ = some (.slice b M d)) := fun wx hb => (HX.out.below hb (Nat.lt_succ_self q)).cells
  have HNX : Hid (∀ wx wy, Below (q + 1) w1 wx → Below wx.heap.size wx wy → Below (q + 1) w1 wy) := fun wx wy h1 h2 => h1.trans (h2.mono (Nat.le_trans (Nat.le_of_eq HZ.out.symm) h1.size))
  have HZ1 : Hid (∀ wx, Below (q + 1) w1 wx → q + 1 ≤ wx.heap.size) := fun wx hb => Nat.le_trans (Nat.le_of_eq HZ.out.symm) hb.size
  have hbd : Below (q + 1) w1 w1.drew := (Below.refl _ _).drew
  go_upto_region 2 with fail
  go_cut [6, 7] (fun s6 s7 wx => ∃ B, Pre S n rs q w1 s6 s7 B wx)
  case first => as_aux_lemma =>
    go_region_held3 (fun w' => Below (q + 1) w1 w' ∧ w'.cell? ⟨q, 0, none⟩ = some (.slice a n c) ∧ w'.cell? ⟨q, 1, none⟩ = some (.slice b M d)) (go_keep) (first
      | (go_at_call 110; refine (inEdges_any (b := b) (m := M) (d := d) (c := c) (HSS.out _ (by assumption)) hn).mono ?_; rintro e wE ⟨gE, rfl, hoE, hbE⟩; have hbn := HNX.out _ _ (by assumption) hbE; obtain ⟨hd0, hd1⟩ := HXX.out _ hbn; have HOE := Lib.hid hoE; have HBE := Lib.hid hbE; clear hoE hbE)
      | (go_at_call 111; refine (marks_at (b := b) (m := M) (d := d) (c := c) rs HL.out (HSS.out _ (by assumption)) (HRX.out _ (by assumption)) hn hl).mono ?_; rintro e wM ⟨gM, B, rfl, hoM, hBB, hbM⟩; have hbn := HNX.out _ _ (by assumption) hbM; obtain ⟨hd0, hd1⟩ := HXX.out _ hbn; have HOM := Lib.hid hoM; have HBM := Lib.hid hbM; have HBBB := Lib.hid hBB; clear hoM hBB hbM))
    all_goals (go_wp2_with fail; go_meet; first
      | exact ⟨B, ⟨_, rfl⟩, row_mono (row_below HOE.out HBM.out) (HZ1.out _ hbd), ⟨_, rfl⟩, row_mono HOM.out (HZ1.out _ (by assumption)), HBBB.out, hbn⟩
      | exact ⟨B, ⟨_, rfl⟩, row_mono HOE.out (HZ1.out _ (by assumption)), ⟨_, rfl⟩, row_mono (row_below HOM.out HBE.out) (HZ1.out _ hbd), HBBB.out, hbn⟩)
  case' rest => as_aux_lemma =>
    obtain ⟨B, hP⟩ := hcut
    obtain ⟨gE, rfl⟩ := hP.ed
    obtain ⟨gM, rfl⟩ := hP.mrk
    have hb2 := hP.below
    have hs2 := hb2.size
    have HP := Lib.hid hP
    clear hc0 hc1 hbd hP
    go_upto_region 3 with fail
    have hbd : Below (q + 1) w1 wc.drew := hb2.drew
    obtain ⟨hc0, hc1⟩ := HXX.out _ hb2
    go_cut [8, 9] (fun s8 s9 wx => Pre2 S n fr rs q w1 (.slice (some ⟨gE, 0, none⟩) n n) (.slice (some ⟨gM, 0, none⟩) n n) B s8 s9 wx)
    case first => as_aux_lemma =>
      go_region_held3 (fun w' => Below (q + 1) w1 w' ∧ w'.cell? ⟨q, 0, none⟩ = some (.slice a n c) ∧ w'.cell? ⟨q, 1, none⟩ = some (.slice b M d)) (go_keep) (first
        | (go_at_call_of 112 (Value.slice b M d); refine (counts_at fr HMM.out (HFX.out _ (by assumption)) hn hfl).mono ?_; rintro e wE ⟨gL, rfl, hoE, hbE⟩; have hbn := HNX.out _ _ (by assumption) hbE; obtain ⟨hd0, hd1⟩ := HXX.out _ hbn; have HOE := Lib.hid hoE; have HBE := Lib.hid hbE; clear hoE hbE)
        | (go_at_call_of 112 (Value.slice ra L rc); refine (counts_at rs HL.out (HRX.out _ (by assumption)) hn hl).mono ?_; rintro e wM ⟨gH, rfl, hoM, hbM⟩; have hbn := HNX.out _ _ (by assumption) hbM; obtain ⟨hd0, hd1⟩ := HXX.out _ hbn; have HOM := Lib.hid hoM; have HBM := Lib.hid hbM; clear hoM hbM))
      all_goals (go_wp2_with fail; go_meet; first
        | exact ⟨HP.out.from ((Below.refl wc.heap.size wc).drew.trans (HBE.out.trans (HBM.out.mono HBE.out.size))) (Nat.le_of_eq HZ.out.symm), ⟨_, rfl⟩, row_mono (row_below HOE.out HBM.out) (HZ1.out _ hbd), ⟨_, rfl⟩, row_mono HOM.out (HZ1.out _ (by assumption))⟩
        | exact ⟨HP.out.from ((Below.refl wc.heap.size wc).drew.trans (HBM.out.trans (HBE.out.mono HBM.out.size))) (Nat.le_of_eq HZ.out.symm), ⟨_, rfl⟩, row_mono HOE.out (HZ1.out _ (by assumption)), ⟨_, rfl⟩, row_mono (row_below HOM.out HBE.out) (HZ1.out _ hbd)⟩)
    case' rest => as_aux_lemma =>
      rename World => w2
      obtain ⟨gL, rfl⟩ := hcut.li
      obtain ⟨gH, rfl⟩ := hcut.he
      have hbc := hcut.pre.below
      have HC := Lib.hid hcut
      clear HP hcut hb2 hs2 hbd hc0 hc1
      obtain ⟨Z, hZZ⟩ : ∃ Z, w2.heap.size = Z := ⟨_, rfl⟩
      have HZZ := Lib.hid hZZ
      clear hZZ
      have HCZ : Hid (∀ wx, Below Z w2 wx → Below (q + 1) w1 wx) := fun wx hb => HC.out.pre.below.trans (hb.mono (by have := HZ1.out _ HC.out.pre.below; have := HZZ.out; omega))
      have HPZ : Hid (∀ wx, Below Z w2 wx → Pre2 S n fr rs q w1 (.slice (some ⟨gE, 0, none⟩) n n) (.slice (some ⟨gM, 0, none⟩) n n) B (.slice (some ⟨gL, 0, none⟩) n n) (.slice (some ⟨gH, 0, none⟩) n n) wx) := fun wx hb => HC.out.from (by rw [HZZ.out]; exact hb) (Nat.le_of_eq HZ.out.symm)
      clear hbc
      go_wp2_with fail
      go_loopg [5, 10] n (fun gk x i wr => ∃ k, k ≤ n ∧ gk = n - k ∧ i = .int .i64 (k : Int) ∧ CSt Z w2 (chks S n fr rs R k) x wr)
      case atStart => exact ⟨0, Nat.zero_le _, rfl, rfl, CSt.start w2 HZZ.out⟩
      case round => as_aux_lemma =>
        obtain ⟨k, hk, hgk, rfl, hC⟩ := hrel
        have hbz := hC.below
        have hbc := HCZ.out _ hbz
        obtain ⟨hc0, hc1⟩ := HXX.out _ hbc
        by_cases hlt : k < n
        · have hki : (k : Int) < (n : Int) := by omega
          have hki0 : (0 : Int) ≤ (k : Int) := by omega
          have hkw : IntKind.u32.wrap ((k : Int) + 1) = (k : Int) + 1 := by rw [IntKind.wrap_u32']; omega
          have hC2 := hC
          obtain ⟨va, vc, rfl⟩ := hC2.val
          clear hC2
          obtain ⟨b', off, rfl, hlb, d0, d1, d2, d3, d4, d5, d6, d7, d8, d9, d10⟩ := (HSS.out _ hbc).all hlt
          have hqs : q < wr.heap.size := by have := HZ1.out _ hbc; omega
          have hq1 : ¬ q = wr.heap.size := by omega
          have hq2 : ¬ wr.heap.size = q := by omega
          have hq3 : ¬ b' = wr.heap.size := by omega
          have hq4 : ¬ wr.heap.size = b' := by omega
          have HCC := Lib.hid hC
          have HBZ := Lib.hid hbz
          have HGK := Lib.hid hgk
          clear hC hbz hbc hgk
          go_upto_region 7 with fail
          go_cut [11, 12] (fun s11 s12 wx => s11 = .int .u32 ((k + 1 : Nat) : Int) ∧ ∃ sb, s12 = .pointer (some ⟨sb, 0, none⟩) ∧ wx.heap[sb]? = some (.cells (slV (S k)).toArray 87 (0, 0)) ∧ Below wr.heap.size wr wx)
          case first => as_aux_lemma =>
            go_region
            all_goals (go_wp2_with fail; go_meet; exact ⟨rfl, _, rfl, heap_alloc_new wr _, (below_new _ _).drew⟩)
          case' rest => as_aux_lemma =>
            rename World => w3
            obtain ⟨rfl, sb, rfl, hsb, hbw⟩ := hcut
            have HR1 : Hid (RSt Z w2 (chks S n fr rs R k) (.slice va (chks S n fr rs R k).length vc) sb (S k) w3) := ⟨HCC.out.from hbw HZZ.out, hsb⟩
            have hlen1 := chks_le S n fr rs R k
            clear d0 d1 d2 d3 d4 d5 d6 d7 d8 d9 d10 hc0 hc1 hq1 hq2 hq3 hq4 hqs hlb hkw
            have e0 := (sl_cells hsb).1
            clear hsb hbw HCC HBZ
            have hl1 : (chks S n fr rs R k).length ≤ 1000000 := by omega
            clear hlen1
            obtain ⟨l1, hll1⟩ : ∃ l1, chks S n fr rs R k = l1 := ⟨_, rfl⟩
            rw [hll1] at HR1 hl1 ⊢
            have HL1 := Lib.hid hll1
            clear hll1
            go_upto_if 53 with fail
            go_cut [13] (fun s13 wx => s13 = .int .i64 (wantFree S k) ∧ w3 = wx)
            case first => as_aux_lemma =>
              cases ho : (S k).on
              · go_wp2_with fail
                go_meet
                exact ⟨by unfold wantFree; rw [ho]; rfl, rfl⟩
              · go_wp2_with fail
                go_meet
                exact ⟨by unfold wantFree; rw [ho]; rfl, rfl⟩
            case' rest => as_aux_lemma =>
              obtain ⟨rfl, rfl⟩ := hcut
              have hcL := ((HPZ.out _ HR1.out.st.below).liR.cellAt k (by omega)).trans (natR_at _ hlt)
              go_upto_if 60 with fail
              go_cut [5] (fun s5 wx => RSt Z w2 (l1 ++ F1 S fr k) s5 sb (S k) wx)
              case first => as_aux_lemma =>
                by_cases hne : (((fr.count (k + 1) : Nat) : Int) != wantFree S k) = true
                · have hF : F1 S fr k = _ := opt_yes hne
                  have HF := Lib.hid hF
                  clear hF
                  go_wp2_with (at_builtin; refine wpList_append_fd rfl (.tmp 61) (.tmp 66) rfl (HR1.out.st.from (below_new _ _) HZZ.out) HZZ.out rfl ⟨1, k + 1, wantFree S k, ((fr.count (k + 1) : Nat) : Int)⟩ w3.heap.size rfl (cell_new4 _ _ _ _ _ _) (by omega) ?_; intro v5 w5 hc5 ho5)
                  go_meet
                  rw [HF.out]
                  exact HR1.out.push (below_new _ _) hc5 ho5
                · have hne' : (((fr.count (k + 1) : Nat) : Int) != wantFree S k) = false := by simpa using hne
                  have hF : F1 S fr k = [] := opt_no hne'
                  have HF := Lib.hid hF
                  clear hF hne
                  go_wp2_with fail
                  go_meet
                  rw [HF.out, List.append_nil]
                  exact HR1.out
              case' rest => as_aux_lemma =>
                rename World => w4
                obtain ⟨va1, vc1, rfl⟩ := hcut.st.val
                have HR2 := Lib.hid hcut
                have e0 := (sl_cells hcut.box).1
                have hl2 : (l1 ++ F1 S fr k).length ≤ 1000001 := by rw [List.length_append]; have : (F1 S fr k).length ≤ 1 := opt_le _ _; omega
                clear hcut hcL hl1
                obtain ⟨l2, hll2⟩ : ∃ l2, l1 ++ F1 S fr k = l2 := ⟨_, rfl⟩
                rw [hll2] at HR2 hl2 ⊢
                have HL2 := Lib.hid hll2
                clear hll2
                go_upto_if 69 with fail
                go_cut [5, 15] (fun s5 s15 wx => s15 = .int .i64 (wantCount S n rs k) ∧ RSt Z w2 (l2 ++ (if (S k).on = true then kidsF S n k 2 ++ F3 S n k else [])) s5 sb (S k) wx)
                case first => as_aux_lemma =>
                  cases ho : (S k).on
                  · rw [ho] at e0
                    have HO := Lib.hid ho
                    clear ho
                    go_wp2_with fail
                    go_meet
                    exact ⟨by unfold wantCount; rw [HO.out]; rfl, by rw [HO.out, if_neg (by simp), List.append_nil]; exact HR2.out⟩
                  · obtain ⟨f0, f1, f2, f3, f4, f5, f6, f7, f8, f9, f10⟩ := sl_cells HR2.out.box
                    rw [ho] at f0
                    have HO := Lib.hid ho
                    clear ho e0
                    have hkid := (HSS.out _ (HCZ.out _ HR2.out.st.below)).kid k hlt
                    go_wp2_with fail
                    refine (kids_any _ _ _ _ _ _ _ _ _ _ _ _).mono ?_
                    rintro e w5 ⟨rfl, hb5⟩
                    clear f0 f1 f2 f3 f4 f5 f6 f7 f8 f9 f10
                    have hR6 := (HR2.out.from hb5 HZZ.out).from (below_new w5 (Obj.cells #[Value.int .u32 ((S k).nd.left : Int), .int .u32 ((S k).nd.right : Int)] 50)) HZZ.out
                    have hK := heap_alloc_new w5 (Obj.cells #[Value.int .u32 ((S k).nd.left : Int), .int .u32 ((S k).nd.right : Int)] 50)
                    go_upto_region 17 with fail
                    generalize w5.alloc (Obj.cells #[Value.int .u32 ((S k).nd.left : Int), .int .u32 ((S k).nd.right : Int)] 50) = w6 at hR6 hK ⊢
                    clear hb5
                    generalize w5.heap.size = kb at hK ⊢
                    have HK : Hid (RSt Z w2 (l2 ++ kidsF S n k 0) (.slice va1 l2.length vc1) sb (S k) w6 ∧ w6.heap[kb]? = some (Obj.cells #[Value.int .u32 ((S k).nd.left : Int), .int .u32 ((S k).nd.right : Int)] 50)) := ⟨by simpa [kidsF] using hR6, hK⟩
                    clear hR6 hK
                    go_wp2_with fail
                    go_loopg [5, 17, 18] 2 (fun g x sz i wx => ∃ t, t ≤ 2 ∧ g = 2 - t ∧ i = .int .i64 (t : Int) ∧ sz = .int .i64 (szF S n k t) ∧ RSt Z w2 (l2 ++ kidsF S n k t) x sb (S k) wx ∧ wx.heap[kb]? = some (Obj.cells #[Value.int .u32 ((S k).nd.left : Int), .int .u32 ((S k).nd.right : Int)] 50))
                    case atStart => exact ⟨0, by omega, rfl, rfl, rfl, HK.out.1, HK.out.2⟩
                    case round => as_aux_lemma =>
                      clear HK
                      obtain ⟨t, ht, hg, rfl, rfl, hR, hK⟩ := hrel
                      obtain ⟨xa, xc, rfl⟩ := hR.st.val
                      have hbc := HCZ.out _ hR.st.below
                      have HRt := Lib.hid hR
                      have HG := Lib.hid hg
                      have hlt2 : (l2 ++ kidsF S n k t).length ≤ 1000003 := by
                        rw [List.length_append]
                        have := kidsF_le S n k t
                        omega
                      obtain ⟨lt, hllt⟩ : ∃ lt, l2 ++ kidsF S n k t = lt := ⟨_, rfl⟩
                      have HLT := Lib.hid hllt
                      rw [hllt] at HRt hlt2 ⊢
                      clear hR hg hllt
                      by_cases htl : t < 2
                      · have hti : (t : Int) < 2 := by omega
                        have hti0 : (0 : Int) ≤ (t : Int) := by omega
                        obtain ⟨hc0, hc1⟩ := HXX.out _ hbc
                        have hkt := kid_at (s := S k) hK htl
                        have hX4 : kd (S k) t < 4294967296 := by unfold kd; split <;> omega
                        have hks : kidsF S n k (t + 1) = kidsF S n k t ++ kidF S n k t := kidsF_succ S n k t
                        have HKS := Lib.hid hks
                        have hsz : szF S n k (t + 1) = if Al S n (kd (S k) t) then IntKind.i64.wrap (szF S n k t + (S (kd (S k) t - 1)).nd.size) else szF S n k t := rfl
                        have hkf : kidF S n k t = opt (!decide (Al S n (kd (S k) t)) && kd (S k) t != 0) ⟨2, k + 1, 0, ((kd (S k) t : Nat) : Int)⟩ := rfl
                        have HSZ := Lib.hid hsz
                        have HKF := Lib.hid hkf
                        have HKB := Lib.hid hK
                        clear hks hsz hkf hK
                        generalize kd (S k) t = X at hkt hX4 HSZ HKF
                        generalize szF S n k t = sz at HSZ ⊢
                        have HKC : Hid (∀ wx, Below wr.heap.size wr wx → wx.cell? ⟨kb, t, none⟩ = some (.int .u32 (X : Int))) := fun wx hb => (World.cell?_of_block (a := ⟨kb, t, none⟩) (hb.block kb (Array.getElem?_eq_some_iff.1 HKB.out).1)).trans hkt
                        have hbd : Below (q + 1) w1 wr.drew := hbc.drew
                        have hbe : Below wr.heap.size wr wr.drew := (Below.refl _ _).drew
                        go_upto_region 21 with fail
                        go_cut [80] (fun s80 wx => s80 = .bool (decide (1 ≤ X ∧ X ≤ n ∧ (S (X - 1)).on = true)) ∧ Below wr.heap.size wr wx)
                        case first => as_aux_lemma =>
                          go_region_held3 (fun w' => Below (q + 1) w1 w' ∧ Below wr.heap.size wr w' ∧ w'.cell? ⟨q, 0, none⟩ = some (.slice (some ⟨b', off, none⟩) n c) ∧ w'.cell? ⟨q, 1, none⟩ = some (.slice b M d) ∧ w'.cell? ⟨kb, t, none⟩ = some (.int .u32 (X : Int))) (go_keep) ((go_at_call 105; refine (dallocated_any (HSS.out _ (by assumption)) hn hX4).mono ?_; rintro e w7 ⟨rfl, hb7⟩; have hbn := HNX.out _ _ (by assumption) hb7; have hbm := below_chain (a := wr) (by assumption) hb7; obtain ⟨hd0, hd1⟩ := HXX.out _ hbn; have hkn := HKC.out _ hbm))
                          all_goals (go_wp2_with fail; go_meet; exact ⟨by simp, hbm⟩)
                        case' rest => as_aux_lemma =>
                          rename World => w7
                          obtain ⟨rfl, hb7⟩ := hcut
                          have hR7 := HRt.out.from hb7 HZZ.out
                          have hK7 := (hb7.block kb (Array.getElem?_eq_some_iff.1 HKB.out).1).trans HKB.out
                          have HK7 := Lib.hid hK7
                          have hbc7 := HCZ.out _ hR7.st.below
                          clear hc0 hc1
                          obtain ⟨hc0, hc1⟩ := HXX.out _ hbc7
                          have hkt7 := HKC.out _ hb7
                          have HR7 := Lib.hid hR7
                          clear hbd hbe hkt hK7 hR7
                          by_cases hal : Al S n X
                          · rw [show decide (1 ≤ X ∧ X ≤ n ∧ (S (X - 1)).on = true) = true from decide_eq_true hal]
                            obtain ⟨j, rfl⟩ : ∃ j, X = j + 1 := ⟨X - 1, by have := hal.1; omega⟩
                            have hjn : j < n := by have := hal.2.1; omega
                            have hji : (j : Int) < (n : Int) := by omega
                            have hj0 : (0 : Int) ≤ (j : Int) := by omega
                            have hj1 : ((j + 1 : Nat) : Int) = (j : Int) + 1 := by omega
                            rw [hj1] at hkt7
                            obtain ⟨b9, off9, hbo, _, _, _, _, _, _, _, _, g7, _⟩ := (HSS.out _ hbc7).all hjn
                            simp only [Option.some.injEq, Addr.mk.injEq, and_true] at hbo
                            obtain ⟨rfl, rfl⟩ := hbo
                            have hs2 : szF S n k (t + 1) = IntKind.i64.wrap (sz + (S j).nd.size) := by rw [HSZ.out, if_pos hal]; rfl
                            have HS2 := Lib.hid hs2
                            have hkf2 : kidF S n k t = [] := by rw [HKF.out]; exact opt_no (by simp [hal])
                            have HKF2 := Lib.hid hkf2
                            clear hs2 hkf2 hal hbc7
                            go_wp2
                            go_quiet (fail)
                            go_wp2
                            go_roundg (2 - (t + 1))
                            case measure => have := HG.out; omega
                            case rel =>
                              refine ⟨t + 1, by omega, rfl, by go_num, ?_, ?_, HK7.out⟩
                              · rw [HS2.out, i64_is']
                              · rw [HKS.out, HKF2.out, List.append_nil, HLT.out]; exact HR7.out.from (below_drewN (Below.refl _ _) _) HZZ.out
                          · rw [show decide (1 ≤ X ∧ X ≤ n ∧ (S (X - 1)).on = true) = false from decide_eq_false hal]
                            have hs2 : szF S n k (t + 1) = sz := by rw [HSZ.out, if_neg hal]
                            have HS2 := Lib.hid hs2
                            by_cases hx0 : X = 0
                            · have hkf2 : kidF S n k t = [] := by rw [HKF.out]; exact opt_no (by simp [hx0])
                              have HKF2 := Lib.hid hkf2
                              subst hx0
                              clear hs2 hkf2 hal hbc7
                              go_wp2_with fail
                              go_roundg (2 - (t + 1))
                              case measure => have := HG.out; omega
                              case rel => exact ⟨t + 1, by omega, rfl, by go_num, by rw [HS2.out], by rw [HKS.out, HKF2.out, List.append_nil, HLT.out]; exact HR7.out, HK7.out⟩
                            · have hkf2 : kidF S n k t = [⟨2, k + 1, 0, (X : Int)⟩] := by rw [HKF.out]; exact opt_yes (by simp [hal, hx0])
                              have HKF2 := Lib.hid hkf2
                              have hxi : (X : Int) < 4294967296 := by omega
                              have hxi0 : (0 : Int) ≤ (X : Int) := by omega
                              have hxn : ((X : Int) != 0) = true := by simp; omega
                              clear hs2 hkf2 hal hbc7 hx0
                              go_wp2_with (at_builtin; refine wpList_append_fd rfl (.tmp 97) (.tmp 104) rfl (HR7.out.st.from (below_new _ _) HZZ.out) HZZ.out rfl ⟨2, k + 1, 0, (X : Int)⟩ w7.heap.size rfl (cell_new4 _ _ _ _ _ _) (by omega) ?_; intro v5 w8 hc5 ho5)
                              go_roundg (2 - (t + 1))
                              case measure => have := HG.out; omega
                              case rel =>
                                refine ⟨t + 1, by omega, rfl, by go_num, by rw [HS2.out], ?_, ?_⟩
                                · rw [HKS.out, HKF2.out, ← List.append_assoc, HLT.out]; exact HR7.out.push (below_new _ _) hc5 ho5
                                · exact ho5 _ _ _ (((below_new w7 _).block _ (Array.getElem?_eq_some_iff.1 HK7.out).1).trans HK7.out) (by decide)
                      · obtain rfl : t = 2 := by omega
                        obtain ⟨_, _, _, _, _, _, _, g7, _⟩ := sl_cells HRt.out.box
                        have hE := eg_le S n (k + 1)
                        have hCl : rs.count (k + 1) ≤ L := by have := List.count_le_length (a := k + 1) (l := rs); rw [HL.out] at this; exact this
                        have hwc : wantCount S n rs k = ((eg S n (k + 1) + rs.count (k + 1) : Nat) : Int) := by unfold wantCount; rw [if_pos HO.out]
                        have HWC := Lib.hid hwc
                        have HPC : Hid (∀ wx, Below Z w2 wx → wx.cell? ⟨gE, k, none⟩ = some (.int .i64 ((eg S n (k + 1) : Nat) : Int)) ∧ wx.cell? ⟨gH, k, none⟩ = some (.int .i64 ((rs.count (k + 1) : Nat) : Int))) := fun wx hb => ⟨((HPZ.out _ hb).pre.edR.cellAt k (by omega)).trans (natR_at _ hlt), ((HPZ.out _ hb).heR.cellAt k (by omega)).trans (natR_at _ hlt)⟩
                        generalize eg S n (k + 1) = E at hE HWC HPC
                        generalize rs.count (k + 1) = C at hCl HWC HPC
                        have hEC : IntKind.i64.wrap ((E : Int) + (C : Int)) = (E : Int) + (C : Int) := by rw [IntKind.wrap_i64]; omega
                        clear hwc hbc hK
                        by_cases hne : (szF S n k 2 != (S k).nd.size) = true
                        · have hF : F3 S n k = _ := opt_yes hne
                          have HF := Lib.hid hF
                          clear hF
                          go_wp2_with (at_builtin; refine wpList_append_fd rfl (.tmp 111) (.tmp 118) rfl (HRt.out.st.from (below_new _ _) HZZ.out) HZZ.out rfl ⟨3, k + 1, szF S n k 2, (S k).nd.size⟩ wr.heap.size rfl (cell_new4 _ _ _ _ _ _) (by omega) ?_; intro v5 w8 hc5 ho5)
                          obtain ⟨p0, p1⟩ := HPC.out _ hc5.below
                          have HR8 := Lib.hid (HRt.out.push (below_new _ _) hc5 ho5)
                          clear hc5 ho5 g7
                          go_quiet (fail)
                          go_wp2_with fail
                          go_meet
                          refine ⟨?_, ?_⟩
                          · rw [HWC.out]; rfl
                          · rw [HO.out, if_pos rfl, HF.out, ← List.append_assoc, HLT.out]; exact HR8.out.from (below_drewN (Below.refl _ _) _) HZZ.out
                        · have hne' : (szF S n k 2 != (S k).nd.size) = false := by simpa using hne
                          have hF : F3 S n k = [] := opt_no hne'
                          have HF := Lib.hid hF
                          obtain ⟨p0, p1⟩ := HPC.out _ HRt.out.st.below
                          clear hF hne
                          go_wp2_with fail
                          go_quiet (fail)
                          go_wp2_with fail
                          go_meet
                          refine ⟨?_, ?_⟩
                          · rw [HWC.out]; rfl
                          · rw [HO.out, if_pos rfl, HF.out, List.append_nil, HLT.out]; exact HRt.out.from (below_drewN (Below.refl _ _) _) HZZ.out
                case' rest => as_aux_lemma =>
                  rename World => w5
                  obtain ⟨rfl, hR3⟩ := hcut
                  obtain ⟨va2, vc2, rfl⟩ := hR3.st.val
                  have HR3 := Lib.hid hR3
                  obtain ⟨e0, e1, _⟩ := sl_cells hR3.box
                  have hl3 : (l2 ++ (if (S k).on = true then kidsF S n k 2 ++ F3 S n k else [])).length ≤ 1000004 := by rw [List.length_append]; have := mid_le S n k; omega
                  clear hR3 hl2
                  obtain ⟨l3, hll3⟩ : ∃ l3, l2 ++ (if (S k).on = true then kidsF S n k 2 ++ F3 S n k else []) = l3 := ⟨_, rfl⟩
                  rw [hll3] at HR3 hl3 ⊢
                  have HL3 := Lib.hid hll3
                  clear hll3
                  go_upto_if 132 with fail
                  go_cut [5] (fun s5 wx => RSt Z w2 (l3 ++ F4 S n rs k) s5 sb (S k) wx)
                  case first => as_aux_lemma =>
                    by_cases hne : (wantCount S n rs k != (S k).cnt) = true
                    · have hF : F4 S n rs k = _ := opt_yes hne
                      have HF := Lib.hid hF
                      clear hF
                      go_wp2_with (at_builtin; refine wpList_append_fd rfl (.tmp 133) (.tmp 139) rfl (HR3.out.st.from (below_new _ _) HZZ.out) HZZ.out rfl ⟨4, k + 1, wantCount S n rs k, (S k).cnt⟩ w5.heap.size rfl (cell_new4 _ _ _ _ _ _) (by omega) ?_; intro v5 w6 hc5 ho5)
                      go_meet
                      rw [HF.out]
                      exact HR3.out.push (below_new _ _) hc5 ho5
                    · have hne' : (wantCount S n rs k != (S k).cnt) = false := by simpa using hne
                      have hF : F4 S n rs k = [] := opt_no hne'
                      have HF := Lib.hid hF
                      clear hF hne
                      go_wp2_with fail
                      go_meet
                      rw [HF.out, List.append_nil]
                      exact HR3.out
                  case' rest => as_aux_lemma =>
                    rename World => w6
                    obtain ⟨va3, vc3, rfl⟩ := hcut.st.val
                    have HR4 := Lib.hid hcut
                    have e0 := (sl_cells hcut.box).1
                    have hl4 : (l3 ++ F4 S n rs k).length ≤ 1000005 := by rw [List.length_append]; have : (F4 S n rs k).length ≤ 1 := opt_le _ _; omega
                    have hcM := ((HPZ.out _ hcut.st.below).pre.mkR.cellAt k (by omega)).trans (boolR_at B hlt)
                    have hBR : B k = R k := Bool.eq_iff_iff.2 (((HPZ.out _ hcut.st.below).pre.mkB k hlt).trans (HRR.out k hlt).symm)
                    rw [hBR] at hcM
                    clear hcut hl3 hBR e1
                    obtain ⟨l4, hll4⟩ : ∃ l4, l3 ++ F4 S n rs k = l4 := ⟨_, rfl⟩
                    rw [hll4] at HR4 hl4 ⊢
                    have HL4 := Lib.hid hll4
                    clear hll4
                    have HEND : Hid (chks S n fr rs R (k + 1) = l4 ++ F5 S R k) := by
                      show chks S n fr rs R (k + 1) = l4 ++ F5 S R k
                      rw [chks_succ, HL1.out, ← HL4.out, ← HL3.out, ← HL2.out]
                      unfold chk1
                      simp only [List.append_assoc]
                    cases ho : (S k).on
                    · rw [ho] at e0
                      have hF : F5 S R k = [] := opt_no (by rw [ho]; rfl)
                      have HF := Lib.hid hF
                      clear hF ho
                      go_wp2_with fail
                      go_roundg (n - (k + 1))
                      case measure => have := HGK.out; omega
                      case rel => exact ⟨k + 1, by omega, rfl, by go_num, by rw [HEND.out, HF.out, List.append_nil]; exact HR4.out.st⟩
                    · rw [ho] at e0
                      cases hRk : R k
                      · rw [hRk] at hcM
                        have hF : F5 S R k = _ := opt_yes (by rw [ho, hRk]; rfl)
                        have HF := Lib.hid hF
                        clear hF ho hRk
                        go_wp2_with (at_builtin; refine wpList_append_fd rfl (.tmp 150) (.tmp 153) rfl (HR4.out.st.from (below_new _ _) HZZ.out) HZZ.out rfl ⟨5, k + 1, 0, 0⟩ w6.heap.size rfl (cell_new4 _ _ _ _ _ _) (by omega) ?_; intro v5 w7 hc5 ho5)
                        go_roundg (n - (k + 1))
                        case measure => have := HGK.out; omega
                        case rel => exact ⟨k + 1, by omega, rfl, by go_num, by rw [HEND.out, HF.out]; exact hc5⟩
                      · rw [hRk] at hcM
                        have hF : F5 S R k = [] := opt_no (by rw [ho, hRk]; rfl)
                        have HF := Lib.hid hF
                        clear hF ho hRk
                        go_wp2_with fail
                        go_roundg (n - (k + 1))
                        case measure => have := HGK.out; omega
                        case rel => exact ⟨k + 1, by omega, rfl, by go_num, by rw [HEND.out, HF.out, List.append_nil]; exact HR4.out.st⟩
        · have hkn : k = n := by omega
          rw [hkn] at hC ⊢
          obtain ⟨va, vc, rfl⟩ := hC.val
          have HCn := Lib.hid hC
          have hl1 := chks_le S n fr rs R n
          have hlz : (chks S n fr rs R n).length ≤ 400000 := by omega
          obtain ⟨l1, hll1⟩ : ∃ l1, chks S n fr rs R n = l1 := ⟨_, rfl⟩
          rw [hll1] at HCn hlz ⊢
          have HL1 := Lib.hid hll1
          clear hC hbz hl1 hgk hll1 hlt
          go_wp2_with fail
          clear hc0 hc1 hbc
          go_loopg [5, 19] M (fun g x i wx => ∃ j, j ≤ M ∧ g = M - j ∧ i = .int .i64 (j : Int) ∧ CSt Z w2 (l1 ++ (fr.take j).flatMap (rngF n)) x wx)
          case atStart => exact ⟨0, Nat.zero_le _, rfl, rfl, by simpa using HCn.out⟩
          case round => as_aux_lemma =>
            clear HCn
            obtain ⟨j, hj, hg, rfl, hC⟩ := hrel
            have HG := Lib.hid hg
            obtain ⟨xa, xc, rfl⟩ := hC.val
            have hbc := HCZ.out _ hC.below
            obtain ⟨hc0, hc1⟩ := HXX.out _ hbc
            have hl2 : (l1 ++ (fr.take j).flatMap (rngF n)).length ≤ 2000000 := by
              rw [List.length_append]
              have h1 := flat_le (l := fr.take j) (f := rngF n) (fun x => opt_le _ _)
              have h2 : (fr.take j).length ≤ j := by simp; omega
              omega
            obtain ⟨l2, hll2⟩ : ∃ l2, l1 ++ (fr.take j).flatMap (rngF n) = l2 := ⟨_, rfl⟩
            rw [hll2] at hC hl2 ⊢
            have HLL2 := Lib.hid hll2
            have HCj := Lib.hid hC
            clear hll2 hg hC
            by_cases hlt : j < M
            · have hjl : j < fr.length := by rw [HMM.out]; exact hlt
              have hji : (j : Int) < (M : Int) := by omega
              have hj0 : (0 : Int) ≤ (j : Int) := by omega
              obtain ⟨b2, off2, rfl, hlb, hcell⟩ := (HFX.out _ hbc).cell j hjl
              have hX4 : fr.getD j 0 < 4294967296 := (HFX.out _ hbc).lt _ (getD_mem hjl)
              have HT : Hid (l1 ++ (fr.take (j + 1)).flatMap (rngF n) = l2 ++ rngF n (fr.getD j 0)) := by
                show _ = _
                rw [flat_take hjl, ← List.append_assoc, HLL2.out]
              generalize fr.getD j 0 = X at hcell hX4 HT
              have hXi : (X : Int) < 4294967296 := by omega
              have HLN := Lib.hid hl2
              clear hjl hbc hX4 hl2
              by_cases h0 : X = 0
              · subst h0
                have hF : rngF n 0 = [⟨6, 0, 0, 0⟩] := opt_yes (by simp)
                have HF := Lib.hid hF
                clear hF
                go_wp2_with fail
                go_quiet (fail)
                go_wp2_with (at_builtin; refine wpList_append_fd rfl (.tmp 181) (.tmp 188) rfl ((HCj.out.from (below_drewN (Below.refl _ _) _) HZZ.out).from (below_new _ _) HZZ.out) HZZ.out rfl ⟨6, 0, 0, 0⟩ _ rfl (cell_new4 _ _ _ _ _ _) (by have := HLN.out; omega) ?_; intro v5 w8 hc5 ho5)
                go_roundg (M - (j + 1))
                case measure => have := HG.out; omega
                case rel => exact ⟨j + 1, by omega, rfl, by go_num, by rw [HT.out, HF.out]; exact hc5⟩
              · have h1 : decide ((X : Int) < 1) = false := decide_eq_false (by omega)
                by_cases h2 : n < X
                · have h3 : (n : Int) < (X : Int) := by omega
                  have hF : rngF n X = [⟨6, X, 0, 0⟩] := opt_yes (by simp [h2])
                  have HF := Lib.hid hF
                  clear hF h0 h2
                  go_wp2_with fail
                  go_quiet (fail)
                  go_wp2_with (at_builtin; refine wpList_append_fd rfl (.tmp 181) (.tmp 188) rfl ((HCj.out.from (below_drewN (Below.refl _ _) _) HZZ.out).from (below_new _ _) HZZ.out) HZZ.out rfl ⟨6, X, 0, 0⟩ _ rfl (cell_new4 _ _ _ _ _ _) (by have := HLN.out; omega) ?_; intro v5 w8 hc5 ho5)
                  go_roundg (M - (j + 1))
                  case measure => have := HG.out; omega
                  case rel => exact ⟨j + 1, by omega, rfl, by go_num, by rw [HT.out, HF.out]; exact hc5⟩
                · have h3 : decide ((n : Int) < (X : Int)) = false := decide_eq_false (by omega)
                  obtain ⟨Y, hY⟩ : ∃ Y : Int, (X : Int) = Y := ⟨_, rfl⟩
                  rw [hY] at hcell h1 h3 hXi
                  have hY0 : 0 ≤ Y := by omega
                  clear hY
                  have hF : rngF n X = [] := opt_no (by simp; omega)
                  have HF := Lib.hid hF
                  clear hF h0 h2
                  go_wp2_with fail
                  go_quiet (fail)
                  go_wp2_with fail
                  go_roundg (M - (j + 1))
                  case measure => have := HG.out; omega
                  case rel => exact ⟨j + 1, by omega, rfl, by go_num, by rw [HT.out, HF.out, List.append_nil]; exact HCj.out.from (below_drewN (Below.refl _ _) _) HZZ.out⟩
            · have hjM : j = M := by omega
              have HLL3 : Hid (l1 ++ fr.flatMap (rngF n) = l2) := by
                show _ = _
                rw [← HLL2.out, List.take_of_length_le (by rw [HMM.out]; omega)]
              rw [hjM] at *
              clear hbc hlt hjM
              go_wp2_with fail
              clear hc0 hc1
              go_loopg [5, 20] L (fun g x i wx => ∃ j, j ≤ L ∧ g = L - j ∧ i = .int .i64 (j : Int) ∧ CSt Z w2 (l2 ++ (rs.take j).flatMap (rootF S n)) x wx)
              case atStart => exact ⟨0, Nat.zero_le _, rfl, rfl, by simpa using HCj.out⟩
              case round => as_aux_lemma =>
                clear HCj
                obtain ⟨i, hi, hg, rfl, hC⟩ := hrel
                have HG := Lib.hid hg
                obtain ⟨xa, xc, rfl⟩ := hC.val
                have hbc := HCZ.out _ hC.below
                obtain ⟨hc0, hc1⟩ := HXX.out _ hbc
                have hl3 : (l2 ++ (rs.take i).flatMap (rootF S n)).length ≤ 3000000 := by
                  rw [List.length_append]
                  have h1 := flat_le (l := rs.take i) (f := rootF S n) (fun x => opt_le _ _)
                  have h2 : (rs.take i).length ≤ i := by simp; omega
                  omega
                obtain ⟨l3, hll3⟩ : ∃ l3, l2 ++ (rs.take i).flatMap (rootF S n) = l3 := ⟨_, rfl⟩
                rw [hll3] at hC hl3 ⊢
                have HLL4 := Lib.hid hll3
                have HCi := Lib.hid hC
                have HLN := Lib.hid hl3
                clear hll3 hg hC hl3 hl2
                by_cases hlt : i < L
                · have hjl : i < rs.length := by rw [HL.out]; exact hlt
                  have hji : (i : Int) < (L : Int) := by omega
                  have hj0 : (0 : Int) ≤ (i : Int) := by omega
                  obtain ⟨b2, off2, rfl, hlb, hcell⟩ := (HRX.out _ hbc).cell i hjl
                  have hX4 : rs.getD i 0 < 4294967296 := (HRX.out _ hbc).lt _ (getD_mem hjl)
                  have HT : Hid (l2 ++ (rs.take (i + 1)).flatMap (rootF S n) = l3 ++ rootF S n (rs.getD i 0)) := by
                    show _ = _
                    rw [flat_take hjl, ← List.append_assoc, HLL4.out]
                  generalize rs.getD i 0 = X at hcell hX4 HT
                  have hXi : (X : Int) < 4294967296 := by omega
                  have HX4 := Lib.hid hX4
                  clear hjl hX4
                  by_cases h0 : X = 0
                  · subst h0
                    have hF : rootF S n 0 = [] := opt_no (by simp)
                    have HF := Lib.hid hF
                    clear hF hbc
                    go_wp2_with fail
                    go_quiet (fail)
                    go_wp2_with fail
                    go_roundg (L - (i + 1))
                    case measure => have := HG.out; omega
                    case rel => exact ⟨i + 1, by omega, rfl, by go_num, by rw [HT.out, HF.out, List.append_nil]; exact HCi.out.from (below_drewN (Below.refl _ _) _) HZZ.out⟩
                  · have hxn : ((X : Int) != 0) = true := by simp; omega
                    have HKC : Hid (∀ wx, Below wr.heap.size wr wx → wx.cell? ⟨b2, off2 + i, none⟩ = some (.int .u32 (X : Int))) := fun wx hb => (World.cell?_of_block (a := ⟨b2, off2 + i, none⟩) (hb.block b2 hlb)).trans hcell
                    have hbd : Below (q + 1) w1 wr.drew := hbc.drew
                    have hbe : Below wr.heap.size wr wr.drew := (Below.refl _ _).drew
                    have H0 := Lib.hid h0
                    clear h0
                    go_upto_region 40 with fail
                    go_cut [209] (fun s209 wx => s209 = .bool (!decide (1 ≤ X ∧ X ≤ n ∧ (S (X - 1)).on = true)) ∧ Below wr.heap.size wr wx)
                    case first => as_aux_lemma =>
                      go_region_held3 (fun w' => Below (q + 1) w1 w' ∧ Below wr.heap.size wr w' ∧ w'.cell? ⟨q, 0, none⟩ = some (.slice a n c) ∧ w'.cell? ⟨q, 1, none⟩ = some (.slice b M d) ∧ w'.cell? ⟨b2, off2 + i, none⟩ = some (.int .u32 (X : Int))) (go_keep) ((go_at_call 105; refine (dallocated_any (HSS.out _ (by assumption)) hn HX4.out).mono ?_; rintro e w7 ⟨rfl, hb7⟩; have hbn := HNX.out _ _ (by assumption) hb7; have hbm := below_chain (a := wr) (by assumption) hb7; obtain ⟨hd0, hd1⟩ := HXX.out _ hbn; have hkn := HKC.out _ hbm))
                      all_goals (go_wp2_with fail; go_meet; exact ⟨by simp, hbm⟩)
                    case' rest => as_aux_lemma =>
                      rename World => w7
                      obtain ⟨rfl, hb7⟩ := hcut
                      have hkn := HKC.out _ hb7
                      have HC7 := Lib.hid (HCi.out.from hb7 HZZ.out)
                      clear hbd hbe hcell hc0 hc1 hbc hb7
                      by_cases hal : Al S n X
                      · rw [show (!decide (1 ≤ X ∧ X ≤ n ∧ (S (X - 1)).on = true)) = false by rw [show decide (1 ≤ X ∧ X ≤ n ∧ (S (X - 1)).on = true) = true from decide_eq_true hal]; rfl]
                        have hF : rootF S n X = [] := opt_no (by simp [hal])
                        have HF := Lib.hid hF
                        clear hF hal
                        go_wp2_with fail
                        go_roundg (L - (i + 1))
                        case measure => have := HG.out; omega
                        case rel => exact ⟨i + 1, by omega, rfl, by go_num, by rw [HT.out, HF.out, List.append_nil]; exact HC7.out⟩
                      · rw [show (!decide (1 ≤ X ∧ X ≤ n ∧ (S (X - 1)).on = true)) = true by rw [show decide (1 ≤ X ∧ X ≤ n ∧ (S (X - 1)).on = true) = false from decide_eq_false hal]; rfl]
                        have hF : rootF S n X = [⟨7, X, 0, 0⟩] := opt_yes (by simp [hal, H0.out])
                        have HF := Lib.hid hF
                        clear hF hal
                        go_wp2_with (at_builtin; refine wpList_append_fd rfl (.tmp 210) (.tmp 216) rfl (HC7.out.from (below_new _ _) HZZ.out) HZZ.out rfl ⟨7, X, 0, 0⟩ w7.heap.size rfl (cell_new4 _ _ _ _ _ _) (by have := HLN.out; omega) ?_; intro v5 w8 hc5 ho5)
                        go_roundg (L - (i + 1))
                        case measure => have := HG.out; omega
                        case rel => exact ⟨i + 1, by omega, rfl, by go_num, by rw [HT.out, HF.out]; exact hc5⟩
                · have hFIN : Hid (chk S n fr rs R = l3) := by
                    show _ = _
                    unfold chk
                    rw [← HLL4.out, ← HLL3.out, HL1.out, List.take_of_length_le (by rw [HL.out]; omega), List.append_assoc]
                  have hiL : i = L := by omega
                  rw [hiL] at *
                  clear hc0 hc1 hbc hlt hiL
                  go_wp2
                  go_ret
                  rw [hFIN.out]
                  have hZ2 : q + 1 ≤ Z := by have := HZ1.out _ HC.out.pre.below; have := HZZ.out; omega
                  exact ⟨xa, xc, rfl, row_mono HCi.out.row (by rw [HQ.out]; omega), by rw [HQ.out]; exact HB.out.trans ((HCZ.out _ HCi.out.below).mono (by omega))⟩
end Go.Proofs.YtfihklpofmcfgaaGreat
namespace Go.Proofs.YtfihklpofmcfgaaGreat
theorem check_spec : CheckSpec := fun w a b ra n c d rc S fr rs h1 h2 h3 h4 h5 h6 R h7 => (check_any fr rs h1 h2 h3 h4 h5 h6 R h7).mono fun e w' ⟨a', c', h8, h9, h10⟩ => ⟨a', c', h8, h9, h10⟩
end Go.Proofs.YtfihklpofmcfgaaGreat
