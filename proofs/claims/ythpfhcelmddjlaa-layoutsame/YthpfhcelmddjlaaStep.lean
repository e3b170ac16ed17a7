/- Contracts: one byte goes into the register; the sum of bytes. -/
import Derived.Test.YthpfhcelmddjlaaChecked
import Derived.Test.YthpfhcelmddjlaaMem
import Derived.Test.YthpfhcelmddjlaaCrcMath
import Derived.RegionTactic
import Derived.ChangeAlike
import Derived.BigRegion
import Derived.Deep.QuietTactic
import Derived.BigQuiet
import Derived.Deep.Draws
namespace Go.Proofs.Ythpfhcelmddjlaa
open Go.RowKit

theorem taken_walk (R X : Nat) (hR : R < 65536) (hX : X < 256) : (bits BinOp.and IntKind.u16 (bits BinOp.xor IntKind.u16 (R : Int) (X : Int)) 1 == 1) = (R.testBit 0 != X.testBit 0) := by
  rw [u16_xor_nat R X hR (by omega)]
  have h : R ^^^ X < 65536 := Nat.xor_lt_two_pow (n := 16) (by omega) (by omega)
  have e := u16_and_nat (R ^^^ X) 1 h (by omega)
  rw [show ((1 : Nat) : Int) = 1 from rfl] at e
  rw [e]
  have h1 := taken_num R X
  have h2 := taken_no R X
  cases hb : (R.testBit 0 != X.testBit 0)
  · rw [h2.2 hb]; rfl
  · rw [h1.2 hb]; rfl

theorem xor_walk (R : Nat) (hR : R < 65536) : bits BinOp.xor IntKind.u16 ((R : Int) / 2) 40961 = ((R / 2 ^^^ 40961 : Nat) : Int) :=
  u16_xor_nat (R / 2) 40961 (by omega) (by omega)

theorem bitsStep_yes {r x k R X : Nat} (h1 : bitsStep r x k = R) (h2 : x / 2 ^ k = X) (h : (R.testBit 0 != X.testBit 0) = true) : bitsStep r x (k + 1) = R / 2 ^^^ 40961 := by
  show bitStep _ _ = _
  rw [h1, ← low_bit, h2]; unfold bitStep; rw [if_pos h]
theorem bitsStep_no {r x k R X : Nat} (h1 : bitsStep r x k = R) (h2 : x / 2 ^ k = X) (h : (R.testBit 0 != X.testBit 0) = false) : bitsStep r x (k + 1) = R / 2 := by
  show bitStep _ _ = _
  rw [h1, ← low_bit, h2]; unfold bitStep; rw [if_neg (by rw [h]; decide)]

set_option maxHeartbeats 1000000 in
theorem step_any (r x : Nat) (w : World) (hr : r < 65536) (hx : x < 256) :
    Calls Try.prog 79 #[.int .u16 (r : Int), .int .u8 (x : Int)] w fun e w' => e = .returned (.int .u16 (bitsStep r x 8 : Nat)) ∧ w = w' := by
  go_enter Try.func79, Try.ntmps79
  go_wp2
  go_loop [0, 1, 6] (fun a b t => ∃ k : Nat, k ≤ 8 ∧ t = .int .i64 k ∧ a = .int .u16 (bitsStep r x k : Nat) ∧ b = .int .u8 (x / 2 ^ k : Nat)) (fun _ _ t => 8 - (intOf t).toNat)
  case atStart => exact ⟨0, by omega, rfl, rfl, by simp⟩
  case round =>
    obtain ⟨k, hk, rfl, rfl, rfl⟩ := hrel
    have hR := bitsStep_lt hr x k
    generalize hRR : bitsStep r x k = R at *
    have hX : x / 2 ^ k < 256 := Nat.lt_of_le_of_lt (Nat.div_le_self _ _) hx
    generalize hXX : x / 2 ^ k = X at *
    have HS : Hid (x / 2 ^ (k + 1) = X / 2) := by rw [← hXX, shift_bit]; rfl
    have HRR := Lib.hid hRR; have HXX := Lib.hid hXX
    clear hRR hXX
    by_cases hlt : k < 8
    · have ht := taken_walk R X hR hX
      have HX := Lib.hid (xor_walk R hR)
      cases hb : (R.testBit 0 != X.testBit 0)
      · rw [hb] at ht
        have H := Lib.hid (bitsStep_no HRR.out HXX.out hb)
        clear hb
        go_wp2
        go_round
        case rel => exact ⟨k + 1, by omega, by go_num, by rw [H.out]; rfl, by rw [HS.out]; rfl⟩
        case measure => simp [intOf]; omega
      · rw [hb] at ht
        have H := Lib.hid (bitsStep_yes HRR.out HXX.out hb)
        clear hb
        go_wp2
        go_round
        case rel => exact ⟨k + 1, by omega, by go_num, by rw [H.out, HX.out], by rw [HS.out]; rfl⟩
        case measure => simp [intOf]; omega
    · go_wp2
      go_ret
      obtain rfl : k = 8 := by omega
      exact ⟨by rw [HRR.out]; rfl, rfl⟩

theorem max_xor (R : Nat) (hR : R < 65536) : bits BinOp.xor IntKind.u16 IntKind.u16.max (R : Int) = ((65535 - R : Nat) : Int) := by
  rw [show IntKind.u16.max = ((65535 : Nat) : Int) from by decide, u16_xor_nat 65535 R (by omega) hR]
  congr 1
  apply Nat.eq_of_testBit_eq
  intro i
  rw [Nat.testBit_xor]
  by_cases c : i < 16
  · rw [sum_bit hR i c]
    have : (65535 : Nat).testBit i = true := by
      have := Nat.testBit_two_pow_sub_one 16 i
      rw [show 2 ^ 16 - 1 = 65535 from by decide] at this
      rw [this]; simp [c]
    rw [this]; cases R.testBit i <;> rfl
  · have h16 : 2 ^ 16 ≤ 2 ^ i := Nat.pow_le_pow_right (by decide) (by omega)
    rw [Nat.testBit_lt_two_pow (x := 65535) (by omega), Nat.testBit_lt_two_pow (x := R) (by omega), Nat.testBit_lt_two_pow (x := 65535 - R) (by omega)]; rfl

theorem ret_u16 {a b : Int} (h : a = b) : Ending.returned (.int .u16 a) = .returned (.int .u16 b) := by rw [h]

def bvals (q : List Nat) : List Value := q.map (fun (x : Nat) => Value.int .u8 (x : Int))

theorem bvals_length (q : List Nat) : (bvals q).length = q.length := by simp [bvals]
theorem bvals_set (q : List Nat) (i x : Nat) : (bvals q).set i (.int .u8 (x : Int)) = bvals (q.set i x) := by
  unfold bvals; rw [List.map_set]
theorem bvals_get (q : List Nat) (i : Nat) (h : i < q.length) : (bvals q)[i]? = some (.int .u8 (q[i] : Int)) := by
  simp [bvals, h]
theorem bvals_append (p q : List Nat) : bvals p ++ bvals q = bvals (p ++ q) := by simp [bvals]
theorem bvals_one (q : List Nat) : ∀ u ∈ bvals q, u.oneCell' = true := by
  intro u hu; simp only [bvals, List.mem_map] at hu; obtain ⟨x, _, rfl⟩ := hu; rfl

/-- A slice whose elements are these cells, in blocks below 'B'. -/
def Rd (w : World) (B : Nat) (v : Value) (xs : List Value) : Prop :=
  ∃ (A : Option Addr) (c : Nat), v = .slice A xs.length c ∧ ((A = none → c = 0) ∧ xs.length ≤ c) ∧ (0 < xs.length → ∃ b o, A = some ⟨b, o, none⟩ ∧ b < B ∧ ∀ j u, xs[j]? = some u → w.cell? ⟨b, o + j, none⟩ = some u)

theorem Rd.of_own {w : World} {base n : Nat} {e : TypeId} {v : Value} {xs : List Value} (h : w.ownsRow base e 1 v n xs) : Rd w w.heap.size v xs := by
  have hl : xs.length = n := by simpa using h.1
  rcases h.2 with ⟨rfl, rfl⟩ | ⟨g, cap, cur, rfl, _, _, hcap, _⟩
  · exact ⟨none, 0, by rw [hl], ⟨fun _ => rfl, by omega⟩, fun hp => by omega⟩
  · refine ⟨some ⟨g, 0, none⟩, cap, by rw [hl], ⟨(fun h => by cases h), by omega⟩, fun _ => ⟨g, 0, rfl, (h.lt g rfl).2, fun j u hu => ?_⟩⟩
    have hj : j < n := by have := (List.getElem?_eq_some_iff.1 hu).1; omega
    rw [Nat.zero_add, h.cellAt j (by omega)]; exact hu

theorem Rd.mono {w w' : World} {B B' : Nat} {v : Value} {xs : List Value} (h : Rd w B v xs) (hB : B ≤ B') (hc : ∀ p : Addr, p.block < B → w'.cell? p = w.cell? p) : Rd w' B' v xs := by
  obtain ⟨A, c, hv, h0, hx⟩ := h
  refine ⟨A, c, hv, h0, fun hp => ?_⟩
  obtain ⟨b, o, hA, hb, hcell⟩ := hx hp
  exact ⟨b, o, hA, by omega, fun j u hu => (hc _ hb).trans (hcell j u hu)⟩

theorem Rd.below {w w' : World} {B C : Nat} {v : Value} {xs : List Value} (h : Rd w B v xs) (hb : Below C w w') (hC : B ≤ C) : Rd w' B v xs :=
  h.mono (Nat.le_refl _) fun _ hp => hb.cell (by omega)

/-- The same elements, but for the last ones. -/
theorem Rd.take {w : World} {B : Nat} {A : Option Addr} {n c : Nat} {xs : List Value} (h : Rd w B (.slice A n c) xs) (m : Nat) (hm : m ≤ xs.length) : Rd w B (.slice A m c) (xs.take m) := by
  obtain ⟨A', c', hv, h0, hx⟩ := h
  injection hv with h1 h2 h3
  subst h1; subst h3
  have hl : (xs.take m).length = m := by simp; omega
  refine ⟨A, c, by rw [hl], ⟨h0.1, by have := h0.2; omega⟩, fun hp => ?_⟩
  obtain ⟨b, o, hA, hb, hc⟩ := hx (by omega)
  refine ⟨b, o, hA, hb, fun j u hu => hc j u ?_⟩
  rw [List.getElem?_take] at hu
  split at hu
  · exact hu
  · cases hu

theorem Rd.nil {w : World} {B : Nat} {v : Value} (h : Rd w B v []) : ∃ A c, v = .slice A 0 c ∧ (A = none → c = 0) := by
  obtain ⟨A, c, hv, h0, _⟩ := h; exact ⟨A, c, hv, h0.1⟩

theorem Rd.empty (w : World) (B : Nat) : Rd w B (.slice none 0 0) [] := ⟨_, 0, rfl, ⟨fun _ => rfl, Nat.le_refl _⟩, fun h => absurd h (by simp)⟩

theorem bvals_take (q : List Nat) (m : Nat) : (bvals q).take m = bvals (q.take m) := by unfold bvals; rw [List.map_take]

set_option maxHeartbeats 1000000 in
theorem of_any (w : World) (B : Nat) (v : Value) (q : List Nat) (h : Rd w B v (bvals q)) (hq : ∀ x ∈ q, x < 256) (hl : q.length ≤ 10000000) :
    Calls Try.prog 55 #[v] w fun e w' => e = .returned (.int .u16 (sumOf q : Nat)) ∧ w = w' := by
  obtain ⟨A, c, rfl, -, hA⟩ := h
  rw [bvals_length] at *
  have HA := Lib.hid hA; have HQ := Lib.hid hq
  clear hA hq
  generalize hn : q.length = n at *
  have Hn := Lib.hid hn; clear hn
  go_enter Try.func55, Try.ntmps55
  go_wp2
  go_loop [3, 8] (fun a t => ∃ i : Nat, i ≤ n ∧ t = .int .i64 i ∧ a = .int .u16 (reg (q.take i) : Nat)) (fun _ t => n - (intOf t).toNat)
  case atStart => exact ⟨0, Nat.zero_le _, rfl, rfl⟩
  case round =>
    obtain ⟨i, hi, rfl, rfl⟩ := hrel
    have hr := reg_lt (q.take i)
    by_cases hlt : i < n
    · obtain ⟨b, o, rfl, _, h1⟩ := HA.out (by omega)
      have hiq : i < q.length := by have := Hn.out; omega
      have HS := Lib.hid (reg_take_succ q i hiq)
      have k1 := h1 i _ (bvals_get q i hiq)
      have hx := HQ.out q[i] (List.getElem_mem _)
      clear h1
      generalize q[i] = x at *
      generalize hR : reg (q.take i) = R at *
      clear hR
      go_wp2_with fail
      refine (step_any R x _ hr hx).mono ?_
      rintro e w' ⟨rfl, rfl⟩
      go_wp2_with fail
      go_round
      case rel => exact ⟨i + 1, by omega, by go_num, by rw [HS.out]⟩
      case measure => simp [intOf]; omega
    · obtain rfl : i = n := by omega
      have HZ : Hid (sumOf q = sumOf (q.take i)) := by rw [List.take_of_length_le (by have := Hn.out; omega)]; rfl
      have HM := Lib.hid (max_xor _ hr)
      go_wp2
      go_ret
      exact ⟨by rw [HZ.out]; exact ret_u16 HM.out, rfl⟩

end Go.Proofs.Ythpfhcelmddjlaa
