/- Items that came in, and all of them laid: as the program lays them, and as the document does. -/
import Derived.Test.YtnnfkehpoeehbaaRefB
import Derived.StillTailTactics
import Derived.Deep.RegionWith
namespace Go.Proofs.Ytnnfkehpoeehbaa
open Go.RowKit

/-- A slice of numbers and their widths. -/
def Its (w : World) (B : Nat) (v : Value) (its : List (Nat × Nat)) : Prop :=
  ∃ (A : Option Addr) (c : Nat), v = .slice A its.length c ∧ (0 < its.length → ∃ b o, A = some ⟨b, o, none⟩ ∧ b < B ∧ ∀ j (h : j < its.length), w.cell? ⟨b, o + j * 2, none⟩ = some (.int .u64 (its[j].1 : Int)) ∧ w.cell? ⟨b, o + j * 2 + 1, none⟩ = some (.int .u8 (its[j].2 : Int)))

theorem Its.mono {w w' : World} {B B' : Nat} {v : Value} {its : List (Nat × Nat)} (h : Its w B v its) (hB : B ≤ B') (hc : ∀ p : Addr, p.block < B → w'.cell? p = w.cell? p) : Its w' B' v its := by
  obtain ⟨A, c, hv, hx⟩ := h
  refine ⟨A, c, hv, fun hp => ?_⟩
  obtain ⟨b, o, hA, hb, hcell⟩ := hx hp
  exact ⟨b, o, hA, by omega, fun j hj => ⟨(hc _ hb).trans (hcell j hj).1, (hc _ hb).trans (hcell j hj).2⟩⟩

def wid (x : Nat × Nat) : Nat := min (x.2 % 66) 64
def itemBits (x : Nat × Nat) : List Bool := numBits x.1 (wid x)
/-- The bits of the first 'i' items. -/
def ib (its : List (Nat × Nat)) (i : Nat) : List Bool := (its.take i).flatMap itemBits

theorem ib_succ (its : List (Nat × Nat)) (i : Nat) (h : i < its.length) : ib its (i + 1) = ib its i ++ numBits its[i].1 (wid its[i]) := by
  unfold ib
  rw [List.take_succ_eq_append_getElem h, List.flatMap_append]
  simp [itemBits]

theorem wid_le (x : Nat × Nat) : wid x ≤ 64 := by unfold wid; omega

theorem ib_length (its : List (Nat × Nat)) (i : Nat) : (ib its i).length ≤ 64 * i := by
  induction i with
  | zero => simp [ib]
  | succ i ih =>
    by_cases h : i < its.length
    · rw [ib_succ its i h, List.length_append, numBits_length]
      have := wid_le its[i]; omega
    · have e : ib its (i + 1) = ib its i := by unfold ib; rw [List.take_of_length_le (by omega), List.take_of_length_le (by omega)]
      rw [e]; omega

theorem Still.owns {g : Nat} {w w' : World} (h : Still g w w') {base : Nat} {e : TypeId} {size n : Nat} {v : Value} {xs : List Value} {t : TypeId} {cs : Array Value} (ho : w.ownsRow base e size v n xs) (he : e ≠ 5) (hr : Row w g t cs) (ht : e ≠ t) : w'.ownsRow base e size v n xs := by
  obtain ⟨h1, h2⟩ := ho
  refine ⟨h1, ?_⟩
  rcases h2 with h2 | ⟨r, cap, cur, rfl, hb, hh, rest⟩
  · exact Or.inl h2
  · exact Or.inr ⟨r, cap, cur, rfl, hb, h r e cur (0, 0) he (Row.ne (t := e) hh hr ht) hh, rest⟩

theorem own_rebase {w : World} {base base' : Nat} {e : TypeId} {size n : Nat} {v : Value} {xs : List Value} (h : w.ownsRow base e size v n xs) (hb : base' ≤ base) : w.ownsRow base' e size v n xs := by
  obtain ⟨h1, h2⟩ := h
  refine ⟨h1, ?_⟩
  rcases h2 with h2 | ⟨r, cap, cur, rfl, hr, rest⟩
  · exact Or.inl h2
  · exact Or.inr ⟨r, cap, cur, rfl, Nat.le_trans hb hr, rest⟩

/-- It returns a writer and a list of bits, both of all items. -/
def RetLay (l : List Bool) (w : World) (e : Ending) (w' : World) : Prop :=
  ∃ vb, e = .returned (.tuple #[.pointer (some ⟨w.heap.size, 0, none⟩), vb]) ∧ Wr w' w.heap.size w.heap.size l ∧ w'.ownsRow w.heap.size 4 1 vb l.length (cvals l) ∧ Below w.heap.size w w'

set_option maxHeartbeats 2000000 in
theorem layAll_any (w : World) (v : Value) (its : List (Nat × Nat)) (h : Its w w.heap.size v its) (hs : ∀ x ∈ its, x.1 < 2 ^ 64 ∧ x.2 < 256) (hl : its.length ≤ 40) :
    Calls Try.prog 10 #[v] w (RetLay (ib its its.length) w) := by
  obtain ⟨A, c, rfl, hx⟩ := h
  have HX := Lib.hid hx; clear hx
  have hw0 := Wr.new w w.heap.size
  have hb0 : Below w.heap.size w (w.alloc (.cells #[.slice none 0 0, .int .i64 0] 52)) := (Below.refl _ _).alloc (Nat.le_refl _) _
  have HW0 := Lib.hid hw0; have HB0 := Lib.hid hb0
  clear hw0 hb0
  go_enter Try.func10, Try.ntmps10
  go_wp2
  go_loopw [5, 6] (fun t k wr => ∃ i : Nat, i ≤ its.length ∧ k = .int .i64 i ∧ Hid (Wr wr w.heap.size w.heap.size (ib its i) ∧ wr.ownsRow w.heap.size 4 1 t (ib its i).length (cvals (ib its i)) ∧ Below w.heap.size w wr)) (fun _ k _ => its.length - (intOf k).toNat)
  case atStart => exact ⟨0, Nat.zero_le _, rfl, by simpa [ib] using HW0.out, by simpa [ib, cvals] using World.ownsRow_nil _ _ _ _, HB0.out⟩
  case round =>
    obtain ⟨i, hi, rfl, HI⟩ := hrel
    by_cases hlt : i < its.length
    · obtain ⟨b, o, rfl, hbl, hc⟩ := HX.out (by omega)
      obtain ⟨c1, c2⟩ := hc i hlt
      have hsx := hs its[i] (List.getElem_mem _)
      have hsuc := ib_succ its i hlt
      generalize its[i] = x at *
      obtain ⟨N, D⟩ := x
      simp only at c1 c2 hsx
      have k1 : wr.drew.cell? ⟨b, o + i * 2, none⟩ = some (.int .u64 (N : Int)) := (HI.out.2.2.cell (p := ⟨b, o + i * 2, none⟩) hbl).trans c1
      have k2 : wr.drew.cell? ⟨b, o + i * 2 + 1, none⟩ = some (.int .u8 (D : Int)) := (HI.out.2.2.cell (p := ⟨b, o + i * 2 + 1, none⟩) hbl).trans c2
      have HD : Hid (Wr wr.drew w.heap.size w.heap.size (ib its i) ∧ wr.drew.ownsRow w.heap.size 4 1 u5 (ib its i).length (cvals (ib its i)) ∧ Below w.heap.size w wr.drew) := ⟨HI.out.1, HI.out.2.1, HI.out.2.2.drew⟩
      have hd := hsx.2
      have HC1 := Lib.hid c1; have HC2 := Lib.hid c2; have HSUC := Lib.hid hsuc
      have hlen := ib_length its i
      have hl9 : (ib its i).length ≤ 900000 := by omega
      have HL9 := Lib.hid hl9
      clear c1 c2 hc hsx hsuc hlen hl9 HI
      go_wp2
      go_still_tail 13, (by kernel_rfl)
      change wpList _ _ _ _ _ wr.drew
      generalize wr.drew = w2 at *
      go_wp2_with fail
      obtain ⟨hw2, ho2, hb2⟩ := HD.out
      with_reducible refine (put_still w2 w.heap.size w.heap.size (ib its i) N ((D : Int) % 66) hw2 hb2.size HL9.out).mono ?_
      rintro e w3 ⟨rfl, hw3, hk3, hs3⟩
      have hwd : (min (max ((D : Int) % 66) 0) 64).toNat = wid (N, D) := by unfold wid; simp only; omega
      rw [hwd, ← HSUC.out] at hw3
      obtain ⟨vv, hrow2, _⟩ := hw2
      have ho3 := hs3.owns ho2 (by decide) hrow2 (by decide)
      have hb3 : Below w.heap.size w w3 := hb2.trans (hk3.below (Nat.le_refl _))
      have HD3 : Hid (Wr w3.drew w.heap.size w.heap.size (ib its (i + 1)) ∧ w3.drew.ownsRow w.heap.size 4 1 u5 (ib its i).length (cvals (ib its i)) ∧ Below w.heap.size w w3.drew) := ⟨hw3, ho3, hb3.drew⟩
      have m1 : w3.drew.cell? ⟨b, o + i * 2, none⟩ = some (.int .u64 (N : Int)) := (hb3.cell (p := ⟨b, o + i * 2, none⟩) hbl).trans HC1.out
      have m2 : w3.drew.cell? ⟨b, o + i * 2 + 1, none⟩ = some (.int .u8 (D : Int)) := (hb3.cell (p := ⟨b, o + i * 2 + 1, none⟩) hbl).trans HC2.out
      clear hw3 hk3 hs3 hrow2 ho3 hb3 hwd k1 k2 HD ho2 hb2
      go_wp2_with fail
      go_still_tail 13, (by kernel_rfl)
      change wpList _ _ _ _ _ w3.drew
      generalize w3.drew = w4 at *
      go_wp2_with fail
      have hcall : Calls Try.prog 27 #[u5, .int .u64 (N : Int), .int .i64 ((D : Int) % 66)] w4 (RetBits (ib its i ++ numBits N (wid (N, D))) w4) := by
        have hw := wid_le (N, D)
        by_cases c64 : D % 66 ≤ 64
        · exact refPut_in w4 (ib its i) N (wid (N, D)) u5 _ (Or.inr ⟨_, HD3.out.2.1⟩) HL9.out hw (by unfold wid; simp only; omega)
        · exact refPut_over w4 (ib its i) N (wid (N, D)) u5 _ (Or.inr ⟨_, HD3.out.2.1⟩) HL9.out hw (by unfold wid; simp only; omega) (by omega)
      rw [← HSUC.out] at hcall
      with_reducible refine hcall.mono ?_
      clear hcall
      rintro e w5 ⟨v5, rfl, ho5, hb5⟩
      obtain ⟨hw4, _, hb4⟩ := HD3.out
      have H5 : Hid (Wr w5 w.heap.size w.heap.size (ib its (i + 1)) ∧ w5.ownsRow w.heap.size 4 1 v5 (ib its (i + 1)).length (cvals (ib its (i + 1))) ∧ Below w.heap.size w w5) :=
        ⟨Below.wr hb5 hw4 (Nat.le_refl _), own_rebase ho5 hb4.size, hb4.trans (hb5.mono hb4.size)⟩
      clear ho5 hb5 hw4 hb4 HD3 m1 m2
      go_wp2_with fail
      go_roundw
      case rel => exact ⟨i + 1, by omega, by go_num, H5⟩
      case measure => simp [intOf]; omega
    · obtain rfl : i = its.length := by omega
      go_wp2
      go_ret2
      exact ⟨_, rfl, HI.out⟩

end Go.Proofs.Ytnnfkehpoeehbaa
