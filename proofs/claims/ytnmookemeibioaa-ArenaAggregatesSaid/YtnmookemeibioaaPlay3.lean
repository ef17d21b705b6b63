/- The client of layer 5's statements plays the first steps of a list. -/
import Derived.Test.YtnmookemeibioaaPlay2
set_option linter.unusedVariables false
namespace Go.Proofs.Ytnmookemeibioaa
open Go.RowKit

structure StepCells (w : World) (a : Option Addr) (k b off : Nat) (kd key val x y : Int) : Prop where
  addr : a = some ⟨b, off, none⟩
  lt : b < w.heap.size
  c0 : w.cell? ⟨b, off + k * 5, none⟩ = some (.int .i64 kd)
  c1 : w.cell? ⟨b, off + k * 5 + 1, none⟩ = some (.int .i64 key)
  c2 : w.cell? ⟨b, off + k * 5 + 2, none⟩ = some (.int .i64 val)
  c3 : w.cell? ⟨b, off + k * 5 + 3, none⟩ = some (.int .u32 x)
  c4 : w.cell? ⟨b, off + k * 5 + 4, none⟩ = some (.int .u32 y)
def StepsIn (w : World) (a : Option Addr) (n : Nat) : Prop :=
  ∀ r, r < n → ∃ b off kd key val x y, StepCells w a r b off kd key val x y ∧ (-9223372036854775808 ≤ kd ∧ kd ≤ 9223372036854775807) ∧ (-9223372036854775808 ≤ key ∧ key ≤ 9223372036854775807) ∧ (-9223372036854775808 ≤ val ∧ val ≤ 9223372036854775807) ∧ (0 ≤ x ∧ x < 4294967296) ∧ (0 ≤ y ∧ y < 4294967296)
theorem StepsIn.below {w w' : World} {a : Option Addr} {n : Nat} (h : StepsIn w a n) (hb : Below w.heap.size w w') : StepsIn w' a n := by
  intro r hr
  obtain ⟨b, off, kd, key, val, x, y, hc, h1⟩ := h r hr
  have hcell : ∀ o, w'.cell? ⟨b, o, none⟩ = w.cell? ⟨b, o, none⟩ := fun o => hb.cell (p := ⟨b, o, none⟩) hc.lt
  exact ⟨b, off, kd, key, val, x, y, ⟨hc.addr, Nat.lt_of_lt_of_le hc.lt hb.size, (hcell _).trans hc.c0, (hcell _).trans hc.c1, (hcell _).trans hc.c2, (hcell _).trans hc.c3, (hcell _).trans hc.c4⟩, h1⟩
theorem steps_in {H : Type} {enc : TypeId × Value → H} {W : World} {a : Option Addr} {n cap fuel : Nat} {z : DataW H × List MemPlace}
    (h : DataW.trod enc Try.prog W 0 (fun _ => true) true fuel 40 (Value.slice a n cap).cells.toList = some z) : n ≤ cap ∧ cap ≤ maxLen ∧ StepsIn W a n := by
  have hf := fields_in Try.underlying40 Try.underlying43 (by kernel_rfl) (by kernel_rfl) h
  refine ⟨hf.1, hf.2.1, fun r hr => ?_⟩
  obtain ⟨b, off, v, y, m, rfl, hlt, h1, h2⟩ := hf.2.2 r hr 0 _ rfl
  obtain ⟨b', off', v', y', m', he, _, h1', h2'⟩ := hf.2.2 r hr 1 _ rfl
  simp only [Option.some.injEq, Addr.mk.injEq, and_true] at he
  obtain ⟨rfl, rfl⟩ := he
  obtain ⟨b', off', v2, y2, m2, he, _, h12, h22⟩ := hf.2.2 r hr 2 _ rfl
  simp only [Option.some.injEq, Addr.mk.injEq, and_true] at he
  obtain ⟨rfl, rfl⟩ := he
  obtain ⟨b', off', v3, y3, m3, he, _, h13, h23⟩ := hf.2.2 r hr 3 _ rfl
  simp only [Option.some.injEq, Addr.mk.injEq, and_true] at he
  obtain ⟨rfl, rfl⟩ := he
  obtain ⟨b', off', v4, y4, m4, he, _, h14, h24⟩ := hf.2.2 r hr 4 _ rfl
  simp only [Option.some.injEq, Addr.mk.injEq, and_true] at he
  obtain ⟨rfl, rfl⟩ := he
  obtain ⟨kd, hv, _, hw⟩ := DataW.trod_int Try.underlying3 h2
  obtain ⟨key, hv', _, hw'⟩ := DataW.trod_int Try.underlying2 h2'
  obtain ⟨val, hv2, _, hw2⟩ := DataW.trod_int Try.underlying2 h22
  obtain ⟨p, hv3, _, hw3⟩ := DataW.trod_int Try.underlying41 h23
  obtain ⟨u, hv4, _, hw4⟩ := DataW.trod_int Try.underlying41 h24
  simp only [List.cons.injEq, and_true] at hv hv' hv2 hv3 hv4
  subst hv hv' hv2 hv3 hv4
  have hb := bounds_i64 hw
  have hb' := bounds_i64 hw'
  have hb2 := bounds_i64 hw2
  have hb3 := bounds_u32 hw3
  have hb4 := bounds_u32 hw4
  exact ⟨b, off, kd, key, val, p, u, ⟨rfl, hlt, h1, h1', h12, h13, h14⟩, hb, hb', hb2, ⟨by omega, by omega⟩, ⟨by omega, by omega⟩⟩
def PlayRes (I : AImpl) (n : Nat) (w : World) (e : Ending) (w' : World) : Prop :=
  ∃ (q : Nat) (pa : Addr) (A : Ar) (a : Option Addr) (c : Nat) (l : List Nat), e = .returned (.tuple #[.pointer (some ⟨q, 0, none⟩), .bool true]) ∧ A.σ.cap = n ∧ l.length ≤ 80 ∧ TC I w.heap.size w w' q (.pointer (some pa)) (.slice a l.length c) A 0 (hof l) l
set_option maxHeartbeats 4000000 in
set_option maxRecDepth 100000 in
theorem play_any (I : AImpl) (a : Option Addr) (n m cap : Nat) (w : World) (hl : StepsIn w a m) (hc : m ≤ cap) (hm : cap ≤ maxLen) (h1 : 1 ≤ n) (h2 : n ≤ 30) :
    Calls Try.prog 37 #[.int .i64 (n : Int), .slice a m cap] w (PlayRes I n w) := by
  unfold maxLen at hm
  have hmi : (m : Int) ≤ 9223372036854775807 := by omega
  have HLI := Lib.hid hl
  clear hl
  go_enter Try.func37, Try.ntmps37
  go_wp2_with fail
  refine (I.new_ok n w h1 (by omega)).mono ?_
  rintro e w1 ⟨p, F, rfl, hI, hF, hb⟩
  obtain ⟨pa, rfl⟩ := I.ptr hI
  have hTC : TC I w.heap.size w (w1.alloc (Obj.cells #[Value.pointer (some pa), .slice none 0 0] 70)) w1.heap.size (.pointer (some pa)) (.slice none ([] : List Nat).length 0) (Ar.init n) 0 (hof []) [] := by
    refine ⟨⟨F, I.below hI (below_new _ _), hF, fun hf => by have := I.dom hI _ hf; omega, fun k hk => by simp [Value.ownBlock] at hk⟩, ?_, Ar.init_agg n, hb.trans ((below_new w1 _).mono hb.size), by have := hb.size; simp; omega, hb.size, heap_alloc_new _ _, World.ownsRow_nil _ _ _ _, by simp [Value.ownBlock]⟩
    have := Ar.init_inv h1 (show n ≤ 65536 by omega)
    rw [show hof [] = fun _ => 0 by funext i; simp [hof]]
    exact this
  have HTC := Lib.hid hTC
  clear hTC hI hF hb
  go_upto_region 5 with fail
  generalize w1.alloc (Obj.cells #[Value.pointer (some pa), .slice none 0 0] 70) = w2 at HTC ⊢
  generalize w1.heap.size = q at HTC ⊢
  go_wp2_with fail
  go_loopw [9] (fun i wr => ∃ (k : Nat) (A : Ar) (xa : Option Addr) (xc : Nat) (l : List Nat), k ≤ m ∧ k ≤ 80 ∧ i = .int .i64 (k : Int) ∧ A.σ.cap = n ∧ l.length ≤ k ∧ TC I w.heap.size w wr q (.pointer (some pa)) (.slice xa l.length xc) A 0 (hof l) l) (fun i _ => 80 - (intOf i).toNat)
  case atStart => exact ⟨0, Ar.init n, none, 0, [], Nat.zero_le _, by decide, rfl, rfl, Nat.le_refl _, HTC.out⟩
  case round =>
    clear HTC
    obtain ⟨k, A, xa, xc, l, hk, hk80, rfl, hcap, hlk, hT⟩ := hrel
    have HT := Lib.hid hT
    have HCAP := Lib.hid hcap
    have HLK := Lib.hid hlk
    clear hT hcap hlk
    by_cases hlt : k < m
    · have hki : (k : Int) < (m : Int) := by omega
      have hki0 : (0 : Int) ≤ (k : Int) := by omega
      by_cases h80 : k < 80
      · have hki8 : (k : Int) < 80 := by omega
        obtain ⟨b, off, kd, key, val, x, y, hcs, hb1, hb2, hb3, hb4, hb5⟩ := (HLI.out.below HT.out.below) k hlt
        obtain ⟨rfl, hbl, c0, c1, c2, c3, c4⟩ := hcs
        go_wp2_with fail
        refine (astep pa HT.out kd key val x y (by have := HLK.out; omega) (by rw [HCAP.out]; exact h2) hb1.1 hb1.2 hb2 hb3 hb4.1 hb4.2 hb5.1 hb5.2).mono ?_
        rintro e w4 ⟨A', xa', xc', l', rfl, hcap', hll, hT'⟩
        have HT' := Lib.hid hT'
        have HLL := Lib.hid hll
        have HCAP' := Lib.hid hcap'
        clear c0 c1 c2 c3 c4 hT' hll hcap' hbl
        go_wp2
        exact ⟨⟨k + 1, A', xa', xc', l', by omega, by omega, by go_num, by rw [HCAP'.out, HCAP.out], by have := HLK.out; have := HLL.out; omega, HT'.out⟩, by simp [intOf]; omega⟩
      · have h80i : decide ((k : Int) < 80) = false := decide_eq_false (by omega)
        have hlk2 : l.length ≤ 80 := by have := HLK.out; omega
        go_wp2
        go_ret2
        exact ⟨q, pa, A, xa, xc, l, rfl, HCAP.out, hlk2, HT.out⟩
    · have hki : ¬ (k : Int) < (m : Int) := by omega
      have hlk2 : l.length ≤ 80 := by have := HLK.out; omega
      go_wp2
      go_ret2
      exact ⟨q, pa, A, xa, xc, l, rfl, HCAP.out, hlk2, HT.out⟩
end Go.Proofs.Ytnmookemeibioaa
