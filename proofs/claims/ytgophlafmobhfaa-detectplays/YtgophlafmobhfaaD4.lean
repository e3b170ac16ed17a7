/- Contract: Step. -/
import Derived.Test.YtgophlafmobhfaaD3
namespace Go.Proofs.Ytgophlafmobhfaa
open Go.RowKit
set_option maxRecDepth 100000

/-- Bytes that are said, in no block that is 'h'. -/
def Ra (w : World) (h : Nat) (v : Value) (raw : List Nat) : Prop :=
  ∃ A c, v = .slice A raw.length c ∧ ((A = none → c = 0) ∧ raw.length ≤ c) ∧ (0 < raw.length → ∃ b o, A = some ⟨b, o, none⟩ ∧ b ≠ h ∧ b < w.heap.size ∧ ∀ j (hj : j < raw.length), w.cell? ⟨b, o + j, none⟩ = some (.int .u8 (raw[j] : Int)))
theorem Ra.rd {w : World} {h : Nat} {v : Value} {raw : List Nat} (r : Ra w h v raw) : Rd w w.heap.size v (bvals raw) := by
  obtain ⟨A, c, rfl, h0, hx⟩ := r
  refine ⟨A, c, by rw [bvals_length], by rw [bvals_length]; exact h0, fun hp => ?_⟩
  rw [bvals_length] at hp
  obtain ⟨b, o, rfl, _, hb, hc⟩ := hx hp
  refine ⟨b, o, rfl, hb, fun j u hu => ?_⟩
  have hj := (List.getElem?_eq_some_iff.1 hu).1
  rw [bvals_length] at hj
  rw [bvals_get raw j hj] at hu
  injection hu with hu
  rw [← hu]
  exact hc j hj
theorem Ra.kept {w w' : World} {h : Nat} {v : Value} {raw : List Nat} (r : Ra w h v raw) {S : List Nat} (hk : KeptL S w w') (hS : ∀ k ∈ S, k = h) : Ra w' h v raw := by
  obtain ⟨A, c, rfl, h0, hx⟩ := r
  refine ⟨A, c, rfl, h0, fun hp => ?_⟩
  obtain ⟨b, o, rfl, hne, hb, hc⟩ := hx hp
  refine ⟨b, o, rfl, hne, Nat.lt_of_lt_of_le hb hk.size, fun j hj => ?_⟩
  rw [← hc j hj]
  have e := hk.block b hb (fun hm => hne (hS b hm))
  simp only [World.cell?, e]
theorem Ra.one {w : World} {g h n : Nat} {cs : Array Value} (b : Nat) (hr : Row w g 5 #[.int .u8 (b : Int)]) (hh : Row w h 2 cs) (hn : n = 1) : Ra w h (.slice (some ⟨g, 0, none⟩) n n) [b] := by
  subst hn
  refine ⟨_, 1, rfl, ⟨fun e => by (cases e), by simp⟩, fun _ => ⟨g, 0, rfl, hr.ne hh (by decide), hr.lt, fun j hj => ?_⟩⟩
  simp only [List.length_singleton] at hj
  obtain rfl : j = 0 := by omega
  rw [hr.cell]; rfl

def mixC (c : Nat → Int) (raw : List Nat) (i j : Nat) : Int := if j < i then nextC (c j) (says raw j) else c j
def mixT (c : Nat → Int) (raw : List Nat) (s : Int) (i j : Nat) : Bool := if j < i then decide (s < nextC (c j) (says raw j)) else false
def stepC (c : Nat → Int) (raw : List Nat) (j : Nat) : Int := nextC (c j) (says raw j)
def toldC (c : Nat → Int) (s : Int) (j : Nat) : Bool := decide (s < c j)

structure StepS (w wr : World) (B g h n : Nat) (c : Nat → Int) (s : Int) (raw : List Nat) (v : Value) (i : Nat) : Prop where
  fi : Fi wr B g h n (mixC c raw i) s
  told : Row wr w.heap.size 4 (gvals n (mixT c raw s i)).toArray
  kept : KeptL [h] w wr
  ra : Ra wr h v raw

theorem mixC_in (c : Nat → Int) (raw : List Nat) (i : Nat) (hc : ∀ j, 0 ≤ c j ∧ c j ≤ 1001) : ∀ j, 0 ≤ mixC c raw i j ∧ mixC c raw i j ≤ 1001 := by
  intro j
  unfold mixC
  split
  · exact nextC_in _ _ (hc j).1
  · exact hc j

theorem StepS.start {w : World} {B g h n : Nat} {c : Nat → Int} {s : Int} {raw : List Nat} {v : Value} (f : Fi w B g h n c s) (r : Ra w h v raw) :
    StepS w (w.alloc (.cells (gvals n fun _ => false).toArray 4)) B g h n c s raw v 0 := by
  have e1 : mixC c raw 0 = c := by funext j; simp [mixC]
  have e2 : mixT c raw s 0 = fun _ => false := by funext j; simp [mixT]
  have hb : Below w.heap.size w (w.alloc (.cells (gvals n fun _ => false).toArray 4)) := (Below.refl _ _).alloc (Nat.le_refl _) _
  exact ⟨by rw [e1]; exact f.below hb, by rw [e2]; exact Row.new _ _ _, KeptL.of_below hb, r.kept (S := []) (KeptL.of_below hb) (by simp)⟩

theorem StepS.drew {w wr : World} {B g h n : Nat} {c : Nat → Int} {s : Int} {raw : List Nat} {v : Value} {i : Nat} (t : StepS w wr B g h n c s raw v i) (m : Nat) : StepS w (wr.drewN m) B g h n c s raw v i :=
  ⟨t.fi.below (Below.drewN (Below.refl _ _) m), t.told, ⟨t.kept.os, t.kept.tape, t.kept.output, t.kept.size, t.kept.block⟩, t.ra.kept (S := []) (KeptL.of_below (Below.drewN (Below.refl _ _) m)) (by simp)⟩

/-- The count is stored. -/
theorem StepS.put {w wr : World} {B g h n : Nat} {c : Nat → Int} {s : Int} {raw : List Nat} {v : Value} {i : Nat} (t : StepS w wr B g h n c s raw v i) :
    Fi (wr.setCell ⟨h, i, none⟩ (.int .i64 (nextC (c i) (says raw i)))) B g h n (mixC c raw (i + 1)) s ∧ Row (wr.setCell ⟨h, i, none⟩ (.int .i64 (nextC (c i) (says raw i)))) w.heap.size 4 (gvals n (mixT c raw s i)).toArray ∧ KeptL [h] w (wr.setCell ⟨h, i, none⟩ (.int .i64 (nextC (c i) (says raw i)))) ∧ Ra (wr.setCell ⟨h, i, none⟩ (.int .i64 (nextC (c i) (says raw i)))) h v raw := by
  have hs : KeptL [h] wr (wr.setCell ⟨h, i, none⟩ (.int .i64 (nextC (c i) (says raw i)))) := (KeptL.refl _ _).set (by simp) _
  have hc : Row (wr.setCell ⟨h, i, none⟩ (.int .i64 (nextC (c i) (says raw i)))) h 2 (fvals n (mixC c raw (i + 1))).toArray := by
    have := t.fi.cnt.set i (.int .i64 (nextC (c i) (says raw i)))
    rw [fvals_set n _ (mixC c raw (i + 1)) i _ (by unfold mixC; rw [if_pos (by omega)]) (fun j hj => by unfold mixC; by_cases c1 : j < i <;> simp [c1] <;> omega)] at this
    exact this
  refine ⟨⟨t.fi.lo, hs.row t.fi.row (by simpa using t.fi.row.ne t.fi.cnt (by decide)), hc, t.fi.n16, t.fi.stay, ?_⟩, hs.row t.told (by simpa using t.told.ne t.fi.cnt (by decide)), t.kept.trans hs, t.ra.kept hs (by simp)⟩
  intro j
  unfold mixC
  split
  · rename_i hj
    by_cases c1 : j < i
    · have := t.fi.ok j; unfold mixC at this; rw [if_pos c1] at this; exact this
    · obtain rfl : j = i := by omega
      have := t.fi.ok j; unfold mixC at this; rw [if_neg c1] at this
      exact nextC_in _ _ this.1
  · rename_i hj
    have := t.fi.ok j; unfold mixC at this; rw [if_neg (by omega)] at this; exact this

/-- It is told. -/
theorem StepS.tell {w W : World} {B g h n : Nat} {c : Nat → Int} {s : Int} {raw : List Nat} {v : Value} {i : Nat} (hin : i < n) (f : Fi W B g h n (mixC c raw (i + 1)) s) (ht : Row W w.heap.size 4 (gvals n (mixT c raw s i)).toArray) (hk : KeptL [h] w W) (r : Ra W h v raw) :
    StepS w (W.setCell ⟨w.heap.size, i, none⟩ (.bool (clrF n (mixC c raw (i + 1)) s (i : Int)))) B g h n c s raw v (i + 1) := by
  have e : clrF n (mixC c raw (i + 1)) s (i : Int) = decide (s < nextC (c i) (says raw i)) := by
    unfold clrF cntF mixC
    rw [if_pos (by omega), if_pos (by simp)]
    simp
  rw [e]
  have hs : KeptL [w.heap.size] W (W.setCell ⟨w.heap.size, i, none⟩ (.bool (decide (s < nextC (c i) (says raw i))))) := (KeptL.refl _ _).set (by simp) _
  refine ⟨f.kept hs (by simpa using f.row.ne ht (by decide)) (by simpa using f.cnt.ne ht (by decide)), ?_, hk.setNew (Nat.le_refl _) _, ?_⟩
  · have := ht.set i (.bool (decide (s < nextC (c i) (says raw i))))
    rw [gvals_set n _ (mixT c raw s (i + 1)) i _ (by unfold mixT; rw [if_pos (by omega)]) (fun j hj => by unfold mixT; by_cases c1 : j < i <;> simp [c1] <;> omega)] at this
    exact this
  · obtain ⟨A, cc, rfl, h0, hx⟩ := r
    refine ⟨A, cc, rfl, h0, fun hp => ?_⟩
    obtain ⟨b, o, rfl, hne, hb, hc⟩ := hx hp
    refine ⟨b, o, rfl, hne, Nat.lt_of_lt_of_le hb hs.size, fun j hj => ?_⟩
    rw [← hc j hj]
    have hbt : b ≠ w.heap.size := by
      rintro rfl
      have h1 := hc 0 hp
      rw [ht.cell] at h1
      rw [List.getElem?_toArray] at h1
      unfold gvals at h1
      rw [List.getElem?_map] at h1
      cases e2 : (List.range n)[o + 0]? with
      | none => rw [e2] at h1; cases h1
      | some z => rw [e2] at h1; simp at h1
    have e3 := hs.block b hb (by simpa using hbt)
    simp only [World.cell?, e3]

def RetStep (w : World) (B g h n : Nat) (c : Nat → Int) (s : Int) (raw : List Nat) (e : Ending) (w' : World) : Prop :=
  e = .returned (.slice (some ⟨w.heap.size, 0, none⟩) n n) ∧ Fi w' B g h n (stepC c raw) s ∧ Row w' w.heap.size 4 (gvals n (toldC (stepC c raw) s)).toArray ∧ KeptL [h] w w'

theorem gvals_eq (n : Nat) (b b' : Nat → Bool) (h : ∀ i, i < n → b i = b' i) : gvals n b = gvals n b' := by
  unfold gvals
  apply List.map_congr_left
  intro i hi
  rw [h i (by simpa using hi)]
theorem fvals_eq (n : Nat) (b b' : Nat → Int) (h : ∀ i, i < n → b i = b' i) : fvals n b = fvals n b' := by
  unfold fvals
  apply List.map_congr_left
  intro i hi
  rw [h i (by simpa using hi)]

theorem StepS.fin {w W : World} {B g h n : Nat} {c : Nat → Int} {s : Int} {raw : List Nat} {v : Value} (hc : ∀ j, 0 ≤ c j ∧ c j ≤ 1001) (t : StepS w W B g h n c s raw v n) : RetStep w B g h n c s raw (.returned (.slice (some ⟨w.heap.size, 0, none⟩) n n)) W := by
  refine ⟨rfl, ⟨t.fi.lo, t.fi.row, ?_, t.fi.n16, t.fi.stay, fun j => nextC_in _ _ (hc j).1⟩, ?_, t.kept⟩
  · have := t.fi.cnt
    rw [fvals_eq n _ (stepC c raw) (fun i hi => by unfold mixC stepC; rw [if_pos hi])] at this
    exact this
  · have := t.told
    rw [gvals_eq n _ (toldC (stepC c raw) s) (fun i hi => by unfold mixT toldC stepC; rw [if_pos hi])] at this
    exact this

set_option maxHeartbeats 2000000 in
theorem step_any (w : World) (B g h n : Nat) (c : Nat → Int) (s : Int) (raw : List Nat) (v : Value) (f : Fi w B g h n c s) (r : Ra w h v raw) :
    Calls Try.prog 10 #[.pointer (some ⟨g, 0, none⟩), v] w (RetStep w B g h n c s raw) := by
  have HC := Lib.hid f.ok
  have hn16 := f.n16
  have c0 := f.row.cell 0
  simp only [List.getElem?_toArray, List.getElem?_cons_zero] at c0
  have HS0 := Lib.hid (StepS.start f r)
  have hmk := make_b n (by omega)
  obtain ⟨RP, hRP⟩ : ∃ R, R = RetStep w B g h n c s raw := ⟨_, rfl⟩
  rw [← hRP]
  have HRP := Lib.hid hRP
  have hlit : (Value.slice (some ⟨w.heap.size, 0, none⟩) n n) = (Value.slice (some ⟨w.heap.size, 0, none⟩) n n) := rfl
  clear hRP hlit f r
  go_enter Try.func10, Try.ntmps10
  go_upto_region 4 with (fail)
  have HS : Hid (StepS w (w.alloc (.cells (gvals n fun _ => false).toArray 4)) B g h n c s raw v 0) := HS0
  obtain ⟨tb, htb⟩ : ∃ b, b = w.heap.size := ⟨_, rfl⟩
  have HTB := Lib.hid htb
  have c1 := HS.out.fi.row.cell 0
  simp only [List.getElem?_toArray, List.getElem?_cons_zero] at c1
  rw [← htb]
  generalize (w.alloc (.cells (gvals n fun _ => false).toArray 4)) = w1 at *
  clear c0 htb hmk HS0
  go_wp2_with fail
  clear c1
  go_loopw [21] (fun k wr => ∃ i : Nat, i ≤ n ∧ k = .int .i64 i ∧ Hid (StepS w wr B g h n c s raw v i)) (fun k _ => n - (intOf k).toNat)
  case atStart => exact ⟨0, Nat.zero_le _, rfl, HS⟩
  case round =>
    obtain ⟨i, hi, rfl, HJ⟩ := hrel
    by_cases hlt : i < n
    · have k0 := HJ.out.fi.cnt.cell i
      rw [List.getElem?_toArray, fvals_get n _ i hlt, show mixC c raw i i = c i by unfold mixC; simp] at k0
      have HPUT := Lib.hid (HJ.out.drew 1).put
      have s0 : wr.cell? ⟨g, 0, none⟩ = some (.slice (some ⟨h, 0, none⟩) n n) := by
        have := HJ.out.fi.row.cell 0
        simpa using this
      have HSY : Hid (∀ W, Ra W h v raw → Calls Try.prog 18 #[v, .int .i64 (i : Int)] W fun e w' => e = .returned (.bool (says raw i)) ∧ W = w') := fun W hW => says_any W _ v raw i hW.rd
      have HNX : Hid (∀ W, Calls Try.prog 17 #[.int .i64 (c i), .bool (says raw i)] W fun e w' => e = .returned (.int .i64 (nextC (c i) (says raw i))) ∧ W = w') := fun W => next_any W _ _ (HC.out i).1 (HC.out i).2
      have HRD : Hid (Ra (wr.drewN 1) h v raw) := (HJ.out.drew 1).ra
      have z0 : (wr.drewN 1).frozen? ⟨h, i, none⟩ = false := (HJ.out.drew 1).fi.cnt.frozen i
      obtain ⟨q0, hq0⟩ : ∃ k, (wr.drewN 1).cell? ⟨h, i, none⟩ = some k := ⟨_, k0⟩
      go_upto_region 7 with (fail)
      clear k0 HJ
      generalize says raw i = sb at *
      generalize hnc : nextC (c i) sb = nc at *
      clear hnc
      generalize c i = ci at *
      have e1 : wr.drew = wr.drewN 1 := rfl
      have s1 : ((wr.drewN 1).setCell ⟨h, i, none⟩ (.int .i64 nc)).cell? ⟨g, 0, none⟩ = some (.slice (some ⟨h, 0, none⟩) n n) := by
        have := HPUT.out.1.row.cell 0
        simpa using this
      go_region_held3 (fun w' => w'.cell? ⟨g, 0, none⟩ = some (.slice (some ⟨h, 0, none⟩) n n)) (first | exact s0 | exact s1) (first | (go_at_call 18; (with_reducible refine (HSY.out _ HRD.out).mono ?_); rintro e w' ⟨rfl, rfl⟩) | (go_at_call 17; (with_reducible refine (HNX.out _).mono ?_); rintro e w' ⟨rfl, rfl⟩))
      generalize (wr.drewN 1).setCell ⟨h, i, none⟩ (.int .i64 nc) = w2 at *
      clear s0 s1 hq0 z0 HRD HNX HSY e1
      go_wp2_with fail
      refine (clear_any w2 B g h n _ s (i : Int) HPUT.out.1).mono ?_; rintro e w3 ⟨rfl, m, rfl⟩
      have hbl : Below w2.heap.size w2 (w2.drewN m) := Below.drewN (Below.refl _ _) m
      have hrt : Row (w2.drewN m) w.heap.size 4 (gvals n (mixT c raw s i)).toArray := HPUT.out.2.1
      have HNEXT := Lib.hid (StepS.tell hlt (HPUT.out.1.below hbl) hrt (HPUT.out.2.2.1.trans (KeptL.of_below hbl)) (HPUT.out.2.2.2.kept (S := []) (KeptL.of_below hbl) (by simp)))
      rw [← HTB.out] at hrt HNEXT
      have z1 := hrt.frozen i
      have y1 := hrt.cell i
      rw [List.getElem?_toArray, gvals_get n _ i hlt] at y1
      generalize mixT c raw s i i = old at *
      generalize clrF n (mixC c raw (i + 1)) s (i : Int) = cb at *
      clear HPUT hbl hrt
      generalize w2.drewN m = w3 at *
      go_wp2_with fail
      go_roundw
      case rel => exact ⟨i + 1, by omega, by go_num, HNEXT⟩
      case measure => simp [intOf]; omega
    · obtain rfl : i = n := by omega
      go_wp2_with fail
      rw [HRP.out, HTB.out]
      exact StepS.fin HC.out HJ.out

end Go.Proofs.Ytgophlafmobhfaa
