/- Contracts: Flag, putTrail, Encode of the program. -/
import Derived.Test.YtcfnaajnkloobaaK2
import Derived.Test.YtcfnaajnkloobaaM1
namespace Go.Proofs.Ytcfnaajnkloobaa
open Go.RowKit
set_option maxRecDepth 100000

theorem numBits_one (b : Bool) : numBits b.toNat 1 = [b] := by cases b <;> rfl

theorem flag_any (w : World) (B g : Nat) (l : List Bool) (b : Bool) (hW : Wr w B g l) (hB : B ≤ w.heap.size) (hl : l.length ≤ 900000) :
    Calls Try.prog 21 #[.pointer (some ⟨g, 0, none⟩), .bool b] w fun e w' => e = .returned (.pointer (some ⟨g, 0, none⟩)) ∧ Wr w' B g (l ++ [b]) ∧ Kept B g w w' ∧ Still g w w' := by
  have H := Lib.hid hW; clear hW
  cases b with
  | true =>
    go_enter Try.func21, Try.ntmps21
    go_wp2_with fail
    refine (put_still w B g l 1 1 H.out hB hl).mono ?_
    rintro e w1 ⟨rfl, h1, h2, h3⟩
    have H1 : Hid (Wr w1 B g (l ++ [true]) ∧ Kept B g w w1 ∧ Still g w w1) := ⟨h1, h2, h3⟩
    clear h1 h2 h3
    go_wp2_with fail
    go_ret
    exact ⟨rfl, H1.out⟩
  | false =>
    go_enter Try.func21, Try.ntmps21
    go_wp2_with fail
    refine (put_still w B g l 0 1 H.out hB hl).mono ?_
    rintro e w1 ⟨rfl, h1, h2, h3⟩
    have H1 : Hid (Wr w1 B g (l ++ [false]) ∧ Kept B g w w1 ∧ Still g w w1) := ⟨h1, h2, h3⟩
    clear h1 h2 h3
    go_wp2_with fail
    go_ret
    exact ⟨rfl, H1.out⟩

theorem hasTrail_any (k : Nat) (w : World) : Calls Try.prog 22 #[.int .u8 (k : Int)] w fun e w' => e = .returned (.bool (hasT k)) ∧ w = w' := by
  by_cases h3 : k = 3
  · subst h3
    go_enter Try.func22, Try.ntmps22
    go_wp2_with fail
    go_ret
    exact ⟨rfl, rfl⟩
  · have e3 : ((k : Int) == 3) = false := by simp; omega
    by_cases h6 : k = 6
    · subst h6
      go_enter Try.func22, Try.ntmps22
      go_wp2_with fail
      go_ret
      exact ⟨rfl, rfl⟩
    · have e6 : ((k : Int) == 6) = false := by simp; omega
      go_enter Try.func22, Try.ntmps22
      go_wp2_with fail
      go_ret
      exact ⟨by unfold hasT; simp [h3, h6], rfl⟩

set_option maxHeartbeats 1000000 in
theorem putTrail_any (w : World) (B D g : Nat) (l : List Bool) (v : Value) (xs : List Int) (hW : Wr w B g l) (hB : B ≤ w.heap.size) (hv : Rd w D v (ivals xs)) (hD : D ≤ B) (hg : D ≤ g) (hl : l.length ≤ 400000) (hxl : xs.length ≤ 1000) :
    Calls Try.prog 23 #[.pointer (some ⟨g, 0, none⟩), v] w (Laid B g (l ++ etrail xs) w) := by
  obtain ⟨A, c, rfl, -, hx⟩ := hv
  rw [ivals_length] at *
  obtain ⟨n, hn⟩ : ∃ n, n = xs.length := ⟨_, rfl⟩
  rw [← hn] at hx hxl ⊢
  have HN := Lib.hid hn; have HX := Lib.hid hx; clear hn hx
  have HW := Lib.hid hW
  have HU := Lib.hid (u_wrap (n : Int))
  clear hW
  go_enter Try.func23, Try.ntmps23
  go_wp2_with fail
  have hu0 : (n : Int) = ((u (n : Int) : Nat) : Int) := by unfold u; omega
  rw [show (Value.int .u64 (n : Int)) = Value.int .u64 ((u (n : Int) : Nat) : Int) from by rw [← hu0]]
  clear hu0
  refine (put_still w B g l (u (n : Int)) 4 HW.out hB (by omega)).mono ?_
  rintro e w1 ⟨rfl, h1, h2, h3⟩
  have H1 : Hid (Laid B g (l ++ nbit 4 (n : Int)) w (.returned (.tuple #[])) w1) := ⟨rfl, h1, h2, h3⟩
  clear h1 h2 h3
  go_wp2_with fail
  go_loopw [13] (fun k wr => ∃ i : Nat, i ≤ n ∧ k = .int .i64 i ∧ Hid (Laid B g (l ++ (nbit 4 (n : Int) ++ (xs.take i).flatMap (nbit 6))) w (.returned (.tuple #[])) wr)) (fun k _ => n - (intOf k).toNat)
  case atStart => exact ⟨0, Nat.zero_le _, rfl, Lib.hid (by have := H1.out; simpa [Laid] using this)⟩
  case round =>
    obtain ⟨i, hi, rfl, HI⟩ := hrel
    by_cases hlt : i < n
    · have hiq : i < xs.length := by have := HN.out; omega
      obtain ⟨b, o, rfl, hbD, hc⟩ := HX.out (by omega)
      have hcell : wr.cell? ⟨b, o + i, none⟩ = some (.int .i64 xs[i]) := (HI.out.2.2.1.cellD hD hg ⟨b, o + i, none⟩ hbD).trans (hc i _ (ivals_get xs i hiq))
      have HT := Lib.hid (flat_take 6 xs i hiq)
      have hlen : (l ++ (nbit 4 (n : Int) ++ (xs.take i).flatMap (nbit 6))).length ≤ 900000 := by
        rw [List.length_append, List.length_append, nbit_length, flat_length, List.length_take]
        have : min i xs.length ≤ 1000 := by omega
        omega
      have HL := Lib.hid hlen
      clear hlen hc
      generalize xs[i] = x at *
      have HU := Lib.hid (u_wrap x)
      go_wp2_with fail
      rw [← HU.out]
      refine (put_still wr B g _ (u x) 6 HI.out.2.1 (Nat.le_trans hB HI.out.2.2.1.size) HL.out).mono ?_
      rintro e w2 ⟨rfl, h1, h2, h3⟩
      have H2 : Hid (Laid B g (l ++ (nbit 4 (n : Int) ++ (xs.take (i + 1)).flatMap (nbit 6))) w (.returned (.tuple #[])) w2) := by
        refine ⟨rfl, ?_, HI.out.2.2.1.trans h2, HI.out.2.2.2.trans h3⟩
        rw [HT.out, ← List.append_assoc (nbit 4 (n : Int)), ← List.append_assoc l]
        exact h1
      clear h1 h2 h3 hcell
      go_wp2_with fail
      go_roundw
      case rel => exact ⟨i + 1, by omega, by go_num, H2⟩
      case measure => simp [intOf]; omega
    · have hf : xs.take i = xs := List.take_of_length_le (by have := HN.out; omega)
      have HF := Lib.hid hf; clear hf
      go_wp2
      go_end0
      have := HI.out
      rw [HF.out] at this
      have e : nbit 4 (n : Int) ++ xs.flatMap (nbit 6) = etrail xs := by unfold etrail; rw [← HN.out]
      rw [e] at this
      exact this

end Go.Proofs.Ytcfnaajnkloobaa
