/- The law StateChanges. -/
import Derived.Test.YtblbbdkpebacbaaDoorSe
import Derived.Below
namespace Go.Proofs.YtblbbdkpebacbaaDoor
open Go.RowKit Fl
set_option maxRecDepth 100000

theorem kindO_self (a : Nat) : kindO a a = 0 := by
  by_cases h : a ≤ 3
  · exact (kindO_zero a a h h).2 rfl
  · unfold kindO; rw [if_pos (by omega)]
theorem chgO_self (x : List Nat) : chgO x x = [] := by
  have : ∀ n, chgTo x x n = [] := by
    intro n
    induction n with
    | zero => rfl
    | succ n ih => rw [chgTo, ih, if_pos (kindO_self _)]; rfl
  exact this _
theorem chgO_len (x y : List Nat) : (chgO x y).length ≤ x.length := by
  have := chgTo_len x y (min x.length y.length)
  unfold chgO; omega
theorem backO_len (x y : List Nat) (n : Nat) : (backO x y n).length = x.length := by simp [backO]
theorem backO_at (x y : List Nat) (n : Nat) (h : n < x.length) : (backO x y n).getD n 0 = x.getD n 0 := by
  simp [backO, List.getD, h]

/-- One cell of a row of one's own is written. -/
theorem own_put {w : World} {base n c : Nat} {A : Option Addr} {q : List Nat} (h : w.ownsRow base 5 1 (.slice A n c) n (bvals q)) (i z : Nat) (hi : i < q.length) :
    ∃ g, A = some ⟨g, 0, none⟩ ∧ base ≤ g ∧ g < w.heap.size ∧ w.cell? ⟨g, i, none⟩ = some (.int .u8 (q.getD i 0 : Int)) ∧ w.frozen? ⟨g, i, none⟩ = false ∧
      (w.setCell ⟨g, i, none⟩ (.int .u8 (z : Int))).ownsRow base 5 1 (.slice A n c) n (bvals (q.set i z)) := by
  have hn : q.length = n := by have := h.1; rw [bvals_length] at this; omega
  rcases h.2 with ⟨hv, h0⟩ | ⟨g, cap, cur, hv, hb, hh, hcap, hm, hsz, ht⟩
  · exfalso; omega
  · have hc := h
    injection hv with h1 h2 h3
    subst h1 h3
    have hrow : Row w g 5 cur := hh
    refine ⟨g, rfl, hb, heap_lt hh, ?_, hrow.frozen i, ?_, Or.inr ⟨g, c, cur.setIfInBounds i (.int .u8 (z : Int)), rfl, hb, hrow.set i _, hcap, hm, by simp [hsz], ?_⟩⟩
    · rw [hc.cellAt i (by omega), bvals_get q i hi]; simp [List.getD, hi]
    · rw [bvals_length, List.length_set]; omega
    · rw [Array.toList_setIfInBounds, List.take_set, ht]
      simp [bvals, List.map_set]

/-- What the law on changes keeps: two lists of its own. -/
structure ChL (w : World) (B2 : Nat) (vx vy : Value) (n m : Nat) (p q : List Nat) (W : World) : Prop where
  bel : Below w.heap.size w W
  ox : W.ownsRow w.heap.size 5 1 vx n (bvals p)
  oy : W.ownsRow B2 5 1 vy m (bvals q)
  lt : ∀ k, vx.ownBlock = some k → k < B2
  le : w.heap.size ≤ B2
theorem ChL.putX {w : World} {B2 : Nat} {Ax : Option Addr} {vy : Value} {n m cx : Nat} {p q : List Nat} {W : World} (h : ChL w B2 (.slice Ax n cx) vy n m p q W) {i : Nat} (z : Nat) (hi : i < p.length) :
    ∃ g, Ax = some ⟨g, 0, none⟩ ∧ W.cell? ⟨g, i, none⟩ = some (.int .u8 (p.getD i 0 : Int)) ∧ W.frozen? ⟨g, i, none⟩ = false ∧ ChL w B2 (.slice Ax n cx) vy n m (p.set i z) q (W.setCell ⟨g, i, none⟩ (.int .u8 (z : Int))) := by
  obtain ⟨g, hA, hb, hl, hc, hf, ho⟩ := own_put h.ox i z hi
  refine ⟨g, hA, hc, hf, h.bel.setCell (p := ⟨g, i, none⟩) hb _, ho, ownsRow_setCell_below h.oy (a := ⟨g, i, none⟩) (h.lt g (by subst hA; rfl)) _, h.lt, h.le⟩
theorem ChL.putY {w : World} {B2 : Nat} {Ay : Option Addr} {vx : Value} {n m cy : Nat} {p q : List Nat} {W : World} (h : ChL w B2 vx (.slice Ay m cy) n m p q W) {j : Nat} (z : Nat) (hi : j < q.length) :
    ∃ g, Ay = some ⟨g, 0, none⟩ ∧ W.cell? ⟨g, j, none⟩ = some (.int .u8 (q.getD j 0 : Int)) ∧ W.frozen? ⟨g, j, none⟩ = false ∧ ChL w B2 vx (.slice Ay m cy) n m p (q.set j z) (W.setCell ⟨g, j, none⟩ (.int .u8 (z : Int))) := by
  obtain ⟨g, hA, hb, hl, hc, hf, ho⟩ := own_put h.oy j z hi
  refine ⟨g, hA, hc, hf, h.bel.setCell (p := ⟨g, j, none⟩) (by have := h.le; show _ ≤ g; omega) _, own_far h.ox (a := ⟨g, j, none⟩) (fun e => ?_) _, ho, h.lt, h.le⟩
  have := h.lt g e
  omega

set_option maxHeartbeats 16000000 in
theorem lawChanges (w : World) (va vb : Value) (a b : List Nat) (near : Bool) (ha : Rd w w.heap.size va (bvals a)) (hb : Rd w w.heap.size vb (bvals b)) (hx : ∀ v ∈ a, v < 256) (hy : ∀ v ∈ b, v < 256) (hla : a.length ≤ 9223372036854775807) (hlb : b.length ≤ 9223372036854775807) (hkd : KD w) :
    Calls Tryd.prog 6 #[va, vb, .bool near] w (RetL true w) := by
  have HKD := Lib.hid hkd
  have HA0 := Lib.hid ha; have HB0 := Lib.hid hb
  have HX := Lib.hid hx; have HY := Lib.hid hy
  obtain ⟨A, c, rfl, -⟩ := ha
  obtain ⟨A', c', rfl, -⟩ := hb
  simp only [bvals_length] at HA0 HB0 ⊢
  obtain ⟨n, hn⟩ : ∃ n, a.length = n := ⟨_, rfl⟩
  obtain ⟨m, hm⟩ : ∃ n, b.length = n := ⟨_, rfl⟩
  have HN := Lib.hid hn; have HM := Lib.hid hm
  rw [hn] at HA0 hla ⊢
  rw [hm] at HB0 hlb ⊢
  clear hkd hx hy hn hm
  go_enter Tryd.func6, Tryd.ntmps6
  go_wp2_with fail
  refine (second_any w HKD.out).mono ?_; rintro e wA ⟨rfl, hbA⟩
  have HA := Lib.hid hbA
  clear hbA
  by_cases h60 : 60 < n
  · have g1 : (60 : Int) < (n : Int) := by omega
    clear HA0 HB0
    go_wp2_with fail
    refine (second_any wA (HKD.out.up HA.out)).mono ?_; rintro e wZ ⟨rfl, hbZ⟩
    have HZ := Lib.hid (HA.out.trans (hbZ.mono HA.out.size))
    clear hbZ
    go_wp2_with fail
    go_ret
    exact ⟨rfl, HZ.out⟩
  · have g1 : ¬ (60 : Int) < (n : Int) := by omega
    by_cases h61 : 60 < m
    · have g2 : (60 : Int) < (m : Int) := by omega
      clear HA0 HB0
      go_wp2_with fail
      refine (second_any wA (HKD.out.up HA.out)).mono ?_; rintro e wZ ⟨rfl, hbZ⟩
      have HZ := Lib.hid (HA.out.trans (hbZ.mono HA.out.size))
      clear hbZ
      go_wp2_with fail
      go_ret
      exact ⟨rfl, HZ.out⟩
    · have g2 : ¬ (60 : Int) < (m : Int) := by omega
      have HA1 := Lib.hid (HA0.out.up HA.out)
      have HB1 := Lib.hid (HB0.out.up HA.out)
      clear HA0 HB0
      have hj1 := join_any wA wA.heap.size _ (.slice none 0 0) a [] HA1.out (Rd.empty _ _) (Nat.le_refl _) (by have := HN.out; omega) (by decide)
      rw [List.append_nil] at hj1
      go_wp2_with fail
      refine hj1.mono ?_; rintro e wB ⟨vx, rfl, ho1, hbB⟩
      obtain ⟨Ax, cx, rfl⟩ := own_slice ho1
      have HOX := Lib.hid ho1
      have HB2 := Lib.hid (HB1.out.up hbB)
      have HBB := Lib.hid (HA.out.trans (hbB.mono HA.out.size))
      clear hj1 ho1 hbB HA1 HB1
      have hj2 := join_any wB wB.heap.size _ (.slice none 0 0) b [] HB2.out (Rd.empty _ _) (Nat.le_refl _) (by have := HM.out; omega) (by decide)
      rw [List.append_nil] at hj2
      rw [HN.out] at HOX ⊢
      go_wp2_with fail
      refine hj2.mono ?_; rintro e wC ⟨vy, rfl, ho2, hbC⟩
      obtain ⟨Ay, cy, rfl⟩ := own_slice ho2
      rw [HM.out] at ho2 ⊢
      obtain ⟨B2, hB2⟩ : ∃ n, wB.heap.size = n := ⟨_, rfl⟩
      have HC : Hid (ChL w B2 (.slice Ax n cx) (.slice Ay m cy) n m a b wC) := by
        rw [← hB2]
        exact ⟨HBB.out.trans (hbC.mono HBB.out.size), own_base (own_below HOX.out hbC) HA.out.size, ho2, fun k hk => (HOX.out.lt k hk).2, HBB.out.size⟩
      clear hj2 ho2 hbC HOX HB2 HBB HA hB2
      cases near with
      | false =>
        have HPP := HX; have HQQ := HY
        have HPL : Hid (a.length ≤ 60) := by show _ ≤ _; have := HN.out; omega
        by_cases hn0 : 0 < n
        · have hn1 : (0 : Int) < (n : Int) := by omega
          go_wp2_with fail
          go_loopw [9] (fun k wr => k = .int .i64 0 ∧ wr = wC) (fun _ _ => 0)
          case atStart => exact ⟨rfl, rfl⟩
          case round =>
            obtain ⟨rfl, hwr⟩ := hrel
            obtain ⟨wD, hwD⟩ : ∃ W, W = wr := ⟨_, rfl⟩
            rw [← hwD] at hwr ⊢
            clear hwD
            subst hwr
            by_cases hm0 : 0 < m
            · have hm1 : (0 : Int) < (m : Int) := by omega
              go_wp2_with fail
              go_loopw [10] (fun k wr => k = .int .i64 0 ∧ wr = wD) (fun _ _ => 0)
              case atStart => exact ⟨rfl, rfl⟩
              case round =>
                obtain ⟨rfl, hwr⟩ := hrel
                subst hwr
                have HRX := Lib.hid (Rd.of_own HC.out.ox)
                have HRY := Lib.hid (Rd.of_own (HC.out.oy))
                have HBW := Lib.hid HC.out.bel
                have hc1 := changes_any wr _ _ a b HRX.out HRY.out HPP.out HQQ.out (by have := HPL.out; omega) (HKD.out.up HBW.out)
                go_wp2_with fail
                refine hc1.mono ?_; rintro e w4 ⟨v4, rfl, ho4, hb4⟩
                have HX4 := Lib.hid (HRX.out.up hb4)
                have HY4 := Lib.hid (HRY.out.up hb4)
                have HC4 := Lib.hid (Chs.of_own ho4)
                have HB4 := Lib.hid (HBW.out.trans (hb4.mono HBW.out.size))
                clear hc1 ho4 hb4 HRX HRY HBW HC
                go_wp2_with fail
                refine (refChanges_any w4 _ _ a b HX4.out HY4.out HPP.out HQQ.out (by have := HPL.out; omega)).mono ?_; rintro e w5 ⟨v5, rfl, ho5, hb5⟩
                have HX5 := Lib.hid (HX4.out.up hb5)
                have HC5 := Lib.hid (HC4.out.up hb5)
                have HD5 := Lib.hid (Chs.of_own ho5)
                have HB5 := Lib.hid (HB4.out.trans (hb5.mono HB4.out.size))
                clear ho5 hb5 HX4 HY4 HC4 HB4
                go_wp2_with fail
                refine (same_true w5 _ _ _ (chgO a b) HC5.out HD5.out (by have := chgO_len a b; have := HPL.out; omega)).mono ?_; rintro e w6 ⟨rfl, n6, rfl⟩
                have hb6 := Below.drewN (Below.refl w5.heap.size w5) n6
                have HX6 := Lib.hid (HX5.out.up hb6)
                have HB6 := Lib.hid (HB5.out.trans (hb6.mono HB5.out.size))
                clear hb6 HX5 HC5 HD5 HB5
                generalize w5.drewN n6 = w7 at *
                go_wp2_with fail
                refine (changes_any w7 _ _ a a HX6.out HX6.out HPP.out HPP.out (by have := HPL.out; omega) (HKD.out.up HB6.out)).mono ?_; rintro e w8 ⟨v8, rfl, ho8, hb8⟩
                have HB8 := Lib.hid (HB6.out.trans (hb8.mono HB6.out.size))
                rw [chgO_self] at ho8
                obtain ⟨A8, c8, rfl⟩ := own_slice ho8
                clear ho8 hb8 HX6 HB6
                go_wp2_with fail
                go_ret
                exact ⟨rfl, HB8.out⟩
            · have hm1 : ¬ (0 : Int) < (m : Int) := by omega
              go_wp2_with fail
              go_loopw [10] (fun k wr => k = .int .i64 0 ∧ wr = wD) (fun _ _ => 0)
              case atStart => exact ⟨rfl, rfl⟩
              case round =>
                obtain ⟨rfl, hwr⟩ := hrel
                subst hwr
                have HRX := Lib.hid (Rd.of_own HC.out.ox)
                have HRY := Lib.hid (Rd.of_own (HC.out.oy))
                have HBW := Lib.hid HC.out.bel
                have hc1 := changes_any wr _ _ a b HRX.out HRY.out HPP.out HQQ.out (by have := HPL.out; omega) (HKD.out.up HBW.out)
                go_wp2_with fail
                refine hc1.mono ?_; rintro e w4 ⟨v4, rfl, ho4, hb4⟩
                have HX4 := Lib.hid (HRX.out.up hb4)
                have HY4 := Lib.hid (HRY.out.up hb4)
                have HC4 := Lib.hid (Chs.of_own ho4)
                have HB4 := Lib.hid (HBW.out.trans (hb4.mono HBW.out.size))
                clear hc1 ho4 hb4 HRX HRY HBW HC
                go_wp2_with fail
                refine (refChanges_any w4 _ _ a b HX4.out HY4.out HPP.out HQQ.out (by have := HPL.out; omega)).mono ?_; rintro e w5 ⟨v5, rfl, ho5, hb5⟩
                have HX5 := Lib.hid (HX4.out.up hb5)
                have HC5 := Lib.hid (HC4.out.up hb5)
                have HD5 := Lib.hid (Chs.of_own ho5)
                have HB5 := Lib.hid (HB4.out.trans (hb5.mono HB4.out.size))
                clear ho5 hb5 HX4 HY4 HC4 HB4
                go_wp2_with fail
                refine (same_true w5 _ _ _ (chgO a b) HC5.out HD5.out (by have := chgO_len a b; have := HPL.out; omega)).mono ?_; rintro e w6 ⟨rfl, n6, rfl⟩
                have hb6 := Below.drewN (Below.refl w5.heap.size w5) n6
                have HX6 := Lib.hid (HX5.out.up hb6)
                have HB6 := Lib.hid (HB5.out.trans (hb6.mono HB5.out.size))
                clear hb6 HX5 HC5 HD5 HB5
                generalize w5.drewN n6 = w7 at *
                go_wp2_with fail
                refine (changes_any w7 _ _ a a HX6.out HX6.out HPP.out HPP.out (by have := HPL.out; omega) (HKD.out.up HB6.out)).mono ?_; rintro e w8 ⟨v8, rfl, ho8, hb8⟩
                have HB8 := Lib.hid (HB6.out.trans (hb8.mono HB6.out.size))
                rw [chgO_self] at ho8
                obtain ⟨A8, c8, rfl⟩ := own_slice ho8
                clear ho8 hb8 HX6 HB6
                go_wp2_with fail
                go_ret
                exact ⟨rfl, HB8.out⟩
        · have hn1 : ¬ (0 : Int) < (n : Int) := by omega
          go_wp2_with fail
          go_loopw [9] (fun k wr => k = .int .i64 0 ∧ wr = wC) (fun _ _ => 0)
          case atStart => exact ⟨rfl, rfl⟩
          case round =>
            obtain ⟨rfl, hwr⟩ := hrel
            obtain ⟨wD, hwD⟩ : ∃ W, W = wr := ⟨_, rfl⟩
            rw [← hwD] at hwr ⊢
            clear hwD
            subst hwr
            by_cases hm0 : 0 < m
            · have hm1 : (0 : Int) < (m : Int) := by omega
              go_wp2_with fail
              go_loopw [10] (fun k wr => k = .int .i64 0 ∧ wr = wD) (fun _ _ => 0)
              case atStart => exact ⟨rfl, rfl⟩
              case round =>
                obtain ⟨rfl, hwr⟩ := hrel
                subst hwr
                have HRX := Lib.hid (Rd.of_own HC.out.ox)
                have HRY := Lib.hid (Rd.of_own (HC.out.oy))
                have HBW := Lib.hid HC.out.bel
                have hc1 := changes_any wr _ _ a b HRX.out HRY.out HPP.out HQQ.out (by have := HPL.out; omega) (HKD.out.up HBW.out)
                go_wp2_with fail
                refine hc1.mono ?_; rintro e w4 ⟨v4, rfl, ho4, hb4⟩
                have HX4 := Lib.hid (HRX.out.up hb4)
                have HY4 := Lib.hid (HRY.out.up hb4)
                have HC4 := Lib.hid (Chs.of_own ho4)
                have HB4 := Lib.hid (HBW.out.trans (hb4.mono HBW.out.size))
                clear hc1 ho4 hb4 HRX HRY HBW HC
                go_wp2_with fail
                refine (refChanges_any w4 _ _ a b HX4.out HY4.out HPP.out HQQ.out (by have := HPL.out; omega)).mono ?_; rintro e w5 ⟨v5, rfl, ho5, hb5⟩
                have HX5 := Lib.hid (HX4.out.up hb5)
                have HC5 := Lib.hid (HC4.out.up hb5)
                have HD5 := Lib.hid (Chs.of_own ho5)
                have HB5 := Lib.hid (HB4.out.trans (hb5.mono HB4.out.size))
                clear ho5 hb5 HX4 HY4 HC4 HB4
                go_wp2_with fail
                refine (same_true w5 _ _ _ (chgO a b) HC5.out HD5.out (by have := chgO_len a b; have := HPL.out; omega)).mono ?_; rintro e w6 ⟨rfl, n6, rfl⟩
                have hb6 := Below.drewN (Below.refl w5.heap.size w5) n6
                have HX6 := Lib.hid (HX5.out.up hb6)
                have HB6 := Lib.hid (HB5.out.trans (hb6.mono HB5.out.size))
                clear hb6 HX5 HC5 HD5 HB5
                generalize w5.drewN n6 = w7 at *
                go_wp2_with fail
                refine (changes_any w7 _ _ a a HX6.out HX6.out HPP.out HPP.out (by have := HPL.out; omega) (HKD.out.up HB6.out)).mono ?_; rintro e w8 ⟨v8, rfl, ho8, hb8⟩
                have HB8 := Lib.hid (HB6.out.trans (hb8.mono HB6.out.size))
                rw [chgO_self] at ho8
                obtain ⟨A8, c8, rfl⟩ := own_slice ho8
                clear ho8 hb8 HX6 HB6
                go_wp2_with fail
                go_ret
                exact ⟨rfl, HB8.out⟩
            · have hm1 : ¬ (0 : Int) < (m : Int) := by omega
              go_wp2_with fail
              go_loopw [10] (fun k wr => k = .int .i64 0 ∧ wr = wD) (fun _ _ => 0)
              case atStart => exact ⟨rfl, rfl⟩
              case round =>
                obtain ⟨rfl, hwr⟩ := hrel
                subst hwr
                have HRX := Lib.hid (Rd.of_own HC.out.ox)
                have HRY := Lib.hid (Rd.of_own (HC.out.oy))
                have HBW := Lib.hid HC.out.bel
                have hc1 := changes_any wr _ _ a b HRX.out HRY.out HPP.out HQQ.out (by have := HPL.out; omega) (HKD.out.up HBW.out)
                go_wp2_with fail
                refine hc1.mono ?_; rintro e w4 ⟨v4, rfl, ho4, hb4⟩
                have HX4 := Lib.hid (HRX.out.up hb4)
                have HY4 := Lib.hid (HRY.out.up hb4)
                have HC4 := Lib.hid (Chs.of_own ho4)
                have HB4 := Lib.hid (HBW.out.trans (hb4.mono HBW.out.size))
                clear hc1 ho4 hb4 HRX HRY HBW HC
                go_wp2_with fail
                refine (refChanges_any w4 _ _ a b HX4.out HY4.out HPP.out HQQ.out (by have := HPL.out; omega)).mono ?_; rintro e w5 ⟨v5, rfl, ho5, hb5⟩
                have HX5 := Lib.hid (HX4.out.up hb5)
                have HC5 := Lib.hid (HC4.out.up hb5)
                have HD5 := Lib.hid (Chs.of_own ho5)
                have HB5 := Lib.hid (HB4.out.trans (hb5.mono HB4.out.size))
                clear ho5 hb5 HX4 HY4 HC4 HB4
                go_wp2_with fail
                refine (same_true w5 _ _ _ (chgO a b) HC5.out HD5.out (by have := chgO_len a b; have := HPL.out; omega)).mono ?_; rintro e w6 ⟨rfl, n6, rfl⟩
                have hb6 := Below.drewN (Below.refl w5.heap.size w5) n6
                have HX6 := Lib.hid (HX5.out.up hb6)
                have HB6 := Lib.hid (HB5.out.trans (hb6.mono HB5.out.size))
                clear hb6 HX5 HC5 HD5 HB5
                generalize w5.drewN n6 = w7 at *
                go_wp2_with fail
                refine (changes_any w7 _ _ a a HX6.out HX6.out HPP.out HPP.out (by have := HPL.out; omega) (HKD.out.up HB6.out)).mono ?_; rintro e w8 ⟨v8, rfl, ho8, hb8⟩
                have HB8 := Lib.hid (HB6.out.trans (hb8.mono HB6.out.size))
                rw [chgO_self] at ho8
                obtain ⟨A8, c8, rfl⟩ := own_slice ho8
                clear ho8 hb8 HX6 HB6
                go_wp2_with fail
                go_ret
                exact ⟨rfl, HB8.out⟩
      | true =>
        obtain ⟨a4, ha4⟩ : ∃ q, q = a.map (· % 4) := ⟨_, rfl⟩
        obtain ⟨b4, hb4⟩ : ∃ q, q = b.map (· % 4) := ⟨_, rfl⟩
        have HA4 := Lib.hid ha4; have HB4 := Lib.hid hb4
        have HPP : Hid (∀ v ∈ a4, v < 256) := by
          show ∀ v ∈ a4, v < 256
          rw [ha4]; intro v hv; rw [List.mem_map] at hv; obtain ⟨y, _, rfl⟩ := hv; omega
        have HQQ : Hid (∀ v ∈ b4, v < 256) := by
          show ∀ v ∈ b4, v < 256
          rw [hb4]; intro v hv; rw [List.mem_map] at hv; obtain ⟨y, _, rfl⟩ := hv; omega
        have HPL : Hid (a4.length ≤ 60) := by show _ ≤ _; rw [ha4, List.length_map]; have := HN.out; omega
        clear ha4 hb4
        go_wp2_with fail
        go_loopw [9] (fun k wr => ∃ i : Nat, i ≤ n ∧ k = .int .i64 i ∧ Hid (ChL w B2 (.slice Ax n cx) (.slice Ay m cy) n m (backO a a4 i) b wr)) (fun k _ => n - (intOf k).toNat)
        case atStart => exact ⟨0, Nat.zero_le _, rfl, by rw [backO_zero]; exact HC.out⟩
        case round =>
          obtain ⟨i, hi, rfl, HJ⟩ := hrel
          clear HC
          by_cases hlt : i < n
          · have hli : (i : Int) < (n : Int) := by omega
            have hia : i < a.length := by have := HN.out; omega
            obtain ⟨gx, rfl, k1, z1, hput⟩ := HJ.out.putX (i := i) (a4.getD i 0) (by rw [backO_len]; exact hia)
            rw [backO_at a a4 i hia] at k1
            rw [backO_set] at hput
            have HPT := Lib.hid hput
            have e4 : a4.getD i 0 = a.getD i 0 % 4 := by rw [HA4.out]; simp [List.getD, hia]
            rw [e4] at HPT
            have htm : ((a.getD i 0 : Nat) : Int).tmod 4 = ((a.getD i 0 % 4 : Nat) : Int) := by rw [Int.tmod_eq_emod_of_nonneg (by omega)]; omega
            clear hput e4
            obtain ⟨X, hX⟩ : ∃ X, a.getD i 0 % 4 = X := ⟨_, rfl⟩
            rw [hX] at HPT htm
            have hX5 : X < 4 := by omega
            clear hX
            generalize a.getD i 0 = Y at *
            go_wp2_with fail
            go_roundw
            case rel => exact ⟨i + 1, by omega, by go_num, HPT.out⟩
            case measure => simp [intOf]; omega
          · have hin : i = n := by omega
            have hli : ¬ (i : Int) < (n : Int) := by omega
            have HF0 : Hid (ChL w B2 (.slice Ax n cx) (.slice Ay m cy) n m a4 b wr) := by
              have := HJ.out
              rw [hin, ← HN.out, backO_full a a4 (by rw [HA4.out, List.length_map])] at this
              rw [← HN.out]; exact this
            obtain ⟨wD, hwD⟩ : ∃ W, W = wr := ⟨_, rfl⟩
            rw [← hwD] at HF0 ⊢
            clear HJ hwD
            go_wp2_with fail
            go_loopw [10] (fun k wr => ∃ i : Nat, i ≤ m ∧ k = .int .i64 i ∧ Hid (ChL w B2 (.slice Ax n cx) (.slice Ay m cy) n m a4 (backO b b4 i) wr)) (fun k _ => m - (intOf k).toNat)
            case atStart => exact ⟨0, Nat.zero_le _, rfl, by rw [backO_zero]; exact HF0.out⟩
            case round =>
              obtain ⟨j, hj, rfl, HK⟩ := hrel
              clear HF0
              by_cases hlu : j < m
              · have hlj : (j : Int) < (m : Int) := by omega
                have hjb : j < b.length := by have := HM.out; omega
                obtain ⟨gy, rfl, k1, z1, hput⟩ := HK.out.putY (j := j) (b4.getD j 0) (by rw [backO_len]; exact hjb)
                rw [backO_at b b4 j hjb] at k1
                rw [backO_set] at hput
                have HPT := Lib.hid hput
                have e4 : b4.getD j 0 = b.getD j 0 % 4 := by rw [HB4.out]; simp [List.getD, hjb]
                rw [e4] at HPT
                have htm : ((b.getD j 0 : Nat) : Int).tmod 4 = ((b.getD j 0 % 4 : Nat) : Int) := by rw [Int.tmod_eq_emod_of_nonneg (by omega)]; omega
                clear hput e4
                obtain ⟨X, hX⟩ : ∃ X, b.getD j 0 % 4 = X := ⟨_, rfl⟩
                rw [hX] at HPT htm
                have hX5 : X < 4 := by omega
                clear hX
                generalize b.getD j 0 = Y at *
                go_wp2_with fail
                go_roundw
                case rel => exact ⟨j + 1, by omega, by go_num, HPT.out⟩
                case measure => simp [intOf]; omega
              · have hjm : j = m := by omega
                have hlj : ¬ (j : Int) < (m : Int) := by omega
                have HF : Hid (ChL w B2 (.slice Ax n cx) (.slice Ay m cy) n m a4 b4 wr) := by
                  have := HK.out
                  rw [hjm, ← HM.out, backO_full b b4 (by rw [HB4.out, List.length_map])] at this
                  rw [← HM.out]; exact this
                clear HK
                have HRX := Lib.hid (Rd.of_own HF.out.ox)
                have HRY := Lib.hid (Rd.of_own (HF.out.oy))
                have HBW := Lib.hid HF.out.bel
                have hc1 := changes_any wr _ _ a4 b4 HRX.out HRY.out HPP.out HQQ.out (by have := HPL.out; omega) (HKD.out.up HBW.out)
                go_wp2_with fail
                refine hc1.mono ?_; rintro e w4 ⟨v4, rfl, ho4, hb4⟩
                have HX4 := Lib.hid (HRX.out.up hb4)
                have HY4 := Lib.hid (HRY.out.up hb4)
                have HC4 := Lib.hid (Chs.of_own ho4)
                have HB4 := Lib.hid (HBW.out.trans (hb4.mono HBW.out.size))
                clear hc1 ho4 hb4 HRX HRY HBW HF
                go_wp2_with fail
                refine (refChanges_any w4 _ _ a4 b4 HX4.out HY4.out HPP.out HQQ.out (by have := HPL.out; omega)).mono ?_; rintro e w5 ⟨v5, rfl, ho5, hb5⟩
                have HX5 := Lib.hid (HX4.out.up hb5)
                have HC5 := Lib.hid (HC4.out.up hb5)
                have HD5 := Lib.hid (Chs.of_own ho5)
                have HB5 := Lib.hid (HB4.out.trans (hb5.mono HB4.out.size))
                clear ho5 hb5 HX4 HY4 HC4 HB4
                go_wp2_with fail
                refine (same_true w5 _ _ _ (chgO a4 b4) HC5.out HD5.out (by have := chgO_len a4 b4; have := HPL.out; omega)).mono ?_; rintro e w6 ⟨rfl, n6, rfl⟩
                have hb6 := Below.drewN (Below.refl w5.heap.size w5) n6
                have HX6 := Lib.hid (HX5.out.up hb6)
                have HB6 := Lib.hid (HB5.out.trans (hb6.mono HB5.out.size))
                clear hb6 HX5 HC5 HD5 HB5
                generalize w5.drewN n6 = w7 at *
                go_wp2_with fail
                refine (changes_any w7 _ _ a4 a4 HX6.out HX6.out HPP.out HPP.out (by have := HPL.out; omega) (HKD.out.up HB6.out)).mono ?_; rintro e w8 ⟨v8, rfl, ho8, hb8⟩
                have HB8 := Lib.hid (HB6.out.trans (hb8.mono HB6.out.size))
                rw [chgO_self] at ho8
                obtain ⟨A8, c8, rfl⟩ := own_slice ho8
                clear ho8 hb8 HX6 HB6
                go_wp2_with fail
                go_ret
                exact ⟨rfl, HB8.out⟩

end Go.Proofs.YtblbbdkpebacbaaDoor
