/- Contract: slices.BinarySearchFunc over timers. -/
import Derived.Test.YtkhceigfmaajdaaT2
namespace Go.Proofs.Ytkhceigfmaajdaa
open Go.RowKit
set_option maxRecDepth 100000

/-- A slice of timers, as it reads. -/
def Ts (w : World) (D : Nat) (v : Value) (l : List (Int × Int)) : Prop :=
  ∃ (A : Option Addr) (c : Nat), v = .slice A l.length c ∧ ((A = none → c = 0) ∧ l.length ≤ c) ∧ (0 < l.length → ∃ b o, A = some ⟨b, o, none⟩ ∧ b < D ∧ ∀ j (h : j < l.length), w.cell? ⟨b, o + j * 2, none⟩ = some (.int .i64 l[j].1) ∧ w.cell? ⟨b, o + j * 2 + 1, none⟩ = some (.int .i64 l[j].2))

theorem Ts.mono {w w' : World} {D D' : Nat} {v : Value} {xs : List (Int × Int)} (h : Ts w D v xs) (hD : D ≤ D') (hc : ∀ p : Addr, p.block < D → w'.cell? p = w.cell? p) : Ts w' D' v xs := by
  obtain ⟨A, c, hv, h0, hx⟩ := h
  refine ⟨A, c, hv, h0, fun hp => ?_⟩
  obtain ⟨b, o, hA, hb, hcc⟩ := hx hp
  exact ⟨b, o, hA, Nat.lt_of_lt_of_le hb hD, fun j hj => ⟨(hc _ hb).trans (hcc j hj).1, (hc _ hb).trans (hcc j hj).2⟩⟩
theorem Ts.below {w w' : World} {D C : Nat} {v : Value} {xs : List (Int × Int)} (h : Ts w D v xs) (hb : Below C w w') (hC : D ≤ C) : Ts w' D v xs :=
  h.mono (Nat.le_refl _) fun p hp => hb.cell (p := p) (by omega)
theorem Ts.nil (w : World) (D : Nat) : Ts w D (.slice none 0 0) [] := ⟨none, 0, rfl, ⟨fun _ => rfl, Nat.le_refl _⟩, fun h => absurd h (by simp)⟩
theorem Ts.of_own {w : World} {base n : Nat} {e : TypeId} {v : Value} {xs : List (Int × Int)} (h : w.ownsRow base e 2 v n (ecells xs)) : Ts w w.heap.size v xs := by
  have hl := h.1
  rw [ecells_len] at hl
  have hn : n = xs.length := by omega
  subst hn
  rcases h.2 with ⟨rfl, hn⟩ | ⟨g, cap, cur, rfl, hg, hh, h1, h2, h3, h4⟩
  · exact ⟨none, 0, by rw [hn], ⟨fun _ => rfl, by omega⟩, fun hp => by omega⟩
  · refine ⟨_, cap, rfl, ⟨fun e => (by cases e), h1⟩, fun hp => ⟨g, 0, rfl, heap_lt hh, fun j hj => ?_⟩⟩
    obtain ⟨e0, e1⟩ := ecells_get xs j hj
    have hR : Row w g e cur := hh
    rw [hR.cell, hR.cell, Nat.zero_add]
    rw [← h4] at e0 e1
    have t0 : ∀ (k : Nat) (u : Value), (cur.toList.take (xs.length * 2))[k]? = some u → cur[k]? = some u := by
      intro k u hu
      rw [List.getElem?_take] at hu
      split at hu
      · simpa using hu
      · cases hu
    exact ⟨t0 _ _ e0, t0 _ _ e1⟩
theorem Ts.at {w : World} {D : Nat} {A : Option Addr} {n c : Nat} {xs : List (Int × Int)} (h : Ts w D (.slice A n c) xs) (i : Nat) (hi : i < xs.length) : ∃ b o, A = some ⟨b, o, none⟩ ∧ b < D ∧ w.cell? ⟨b, o + i * 2, none⟩ = some (.int .i64 xs[i].1) ∧ w.cell? ⟨b, o + i * 2 + 1, none⟩ = some (.int .i64 xs[i].2) := by
  obtain ⟨A', c', hv, _, hx⟩ := h
  obtain ⟨b, o, hA, hb, hc⟩ := hx (by omega)
  injection hv with e _ _
  exact ⟨b, o, by rw [e]; exact hA, hb, (hc i hi).1, (hc i hi).2⟩

/-- Where the search stands: all ahead of 'a' come first, none from 'b' on does. -/
def Part (l : List (Int × Int)) (x : Int × Int) (a b : Nat) : Prop := (∀ j (hj : j < l.length), j < a → ltT l[j] x) ∧ ∀ j (hj : j < l.length), b ≤ j → ¬ ltT l[j] x
theorem Part.up {l : List (Int × Int)} {x : Int × Int} {a b h : Nat} (hp : Part l x a b) (hs : l.Pairwise ltT) (hh : h < l.length) (hl : ltT l[h] x) : Part l x (h + 1) b := by
  refine ⟨fun j hj hjh => ?_, hp.2⟩
  rcases Nat.lt_or_ge j h with c | c
  · exact ltT_trans (List.pairwise_iff_getElem.1 hs j h hj hh c) hl
  · obtain rfl : j = h := by omega
    exact hl
theorem Part.down {l : List (Int × Int)} {x : Int × Int} {a b h : Nat} (hp : Part l x a b) (hs : l.Pairwise ltT) (hh : h < l.length) (hl : ¬ ltT l[h] x) : Part l x a h := by
  refine ⟨hp.1, fun j hj hjh c2 => ?_⟩
  rcases Nat.lt_or_ge h j with c | c
  · exact hl (ltT_trans (List.pairwise_iff_getElem.1 hs h j hh hj c) c2)
  · obtain rfl : j = h := by omega
    exact hl c2

def RetPlace (l : List (Int × Int)) (x : Int × Int) (w : World) (e : Ending) (w' : World) : Prop :=
  ∃ (p : Nat) (f : Bool), e = .returned (.tuple #[.int .i64 p, .bool f]) ∧ p ≤ l.length ∧ Part l x p p ∧ Below w.heap.size w w'

theorem keep4 {W w1 : World} {b c : Nat} {o0 o1 o2 o3 : Nat} {v0 v1 v2 v3 : Value} (hl : b < W.heap.size ∧ c < W.heap.size) (h : (W.cell? ⟨b, o0, none⟩ = some v0 ∧ W.cell? ⟨b, o1, none⟩ = some v1) ∧ W.cell? ⟨c, o2, none⟩ = some v2 ∧ W.cell? ⟨c, o3, none⟩ = some v3) (hb : Below W.drew.heap.size W.drew w1) :
    (w1.cell? ⟨b, o0, none⟩ = some v0 ∧ w1.cell? ⟨b, o1, none⟩ = some v1) ∧ w1.cell? ⟨c, o2, none⟩ = some v2 ∧ w1.cell? ⟨c, o3, none⟩ = some v3 :=
  ⟨⟨(hb.cell (p := ⟨b, o0, none⟩) hl.1).trans h.1.1, (hb.cell (p := ⟨b, o1, none⟩) hl.1).trans h.1.2⟩, (hb.cell (p := ⟨c, o2, none⟩) hl.2).trans h.2.1, (hb.cell (p := ⟨c, o3, none⟩) hl.2).trans h.2.2⟩
theorem keepW {w W w1 : World} {B0 : Nat} {cs : Array Value} (h0 : B0 = w.heap.size) (h : Below B0 w W ∧ Row W B0 61 cs ∧ B0 + 1 ≤ W.heap.size) (hb : Below W.drew.heap.size W.drew w1) : Below B0 w w1 ∧ Row w1 B0 61 cs ∧ B0 + 1 ≤ w1.heap.size :=
  ⟨h.1.drew.trans (hb.mono (by have := h.2.2; show _ ≤ W.heap.size; omega)), (hb.block _ h.2.1.lt).trans h.2.1, Nat.le_trans h.2.2 hb.size⟩

set_option maxHeartbeats 4000000 in
theorem search_any (w : World) (D : Nat) (v : Value) (l : List (Int × Int)) (x : Int × Int) (h : Ts w D v l) (hD : D ≤ w.heap.size) (hl : l.length ≤ 1000) (hs : l.Pairwise ltT) :
    Calls Try.prog 24 #[v, .agg #[.int .i64 x.1, .int .i64 x.2], .func (.func 25) #[] #[]] w (RetPlace l x w) := by
  have HP := Lib.hid h
  obtain ⟨A, c, rfl, -⟩ := h
  have HS := Lib.hid hs
  clear hs
  obtain ⟨m, hm⟩ : ∃ m, l.length = m := ⟨_, rfl⟩
  rw [hm] at HP hl ⊢
  have HM := Lib.hid hm
  clear hm
  obtain ⟨B0, hB0⟩ : ∃ n, n = w.heap.size := ⟨_, rfl⟩
  rw [← hB0] at hD
  have HB0 := Lib.hid hB0
  have HX : Hid (x = (x.1, x.2)) := rfl
  have HC := Lib.hid (fun z => cmpT_lt z x)
  have HCC := Lib.hid (fun W z => compare_any W z x)
  have HBX : Hid (Below B0 w (w.alloc (.cells #[.int .i64 x.1, .int .i64 x.2] 61)) ∧ Row (w.alloc (.cells #[.int .i64 x.1, .int .i64 x.2] 61)) B0 61 #[.int .i64 x.1, .int .i64 x.2] ∧ B0 + 1 ≤ (w.alloc (.cells #[.int .i64 x.1, .int .i64 x.2] 61)).heap.size) := by
    rw [hB0]
    exact ⟨(Below.refl _ _).alloc (Nat.le_refl _) _, Row.new _ _ _, by simp⟩
  have HRT := Lib.hid (fun e w' => (Iff.rfl : RetPlace l x w e w' ↔ _))
  generalize x.1 = x0 at *
  generalize x.2 = x1 at *
  obtain ⟨RP, hRP⟩ : ∃ R, R = RetPlace l x w := ⟨_, rfl⟩
  rw [← hRP]
  have HRP := Lib.hid hRP
  clear hRP hB0
  go_enter Try.func24, Try.ntmps24
  go_wp2_with fail
  go_loopw [9, 10] (fun i j wr => ∃ a b : Nat, a ≤ b ∧ b ≤ m ∧ i = .int .i64 a ∧ j = .int .i64 b ∧ Hid (Part l x a b) ∧ Hid (Below B0 w wr ∧ Row wr B0 61 #[.int .i64 x0, .int .i64 x1] ∧ B0 + 1 ≤ wr.heap.size)) (fun i j _ => (intOf j).toNat - (intOf i).toNat)
  case atStart => exact ⟨0, m, Nat.zero_le _, Nat.le_refl _, rfl, rfl, ⟨fun j _ hj => absurd hj (by omega), fun j hj hj2 => absurd hj (by have := HM.out; omega)⟩, HBX.out⟩
  case round =>
    obtain ⟨a, b, hab, hbm, rfl, rfl, HPT, HW⟩ := hrel
    by_cases hlt : a < b
    · obtain ⟨k, hk⟩ : ∃ k, k = (a + b) / 2 := ⟨_, rfl⟩
      have hk1 : a ≤ k := by omega
      have hk2 : k < b := by omega
      have hkl : k < l.length := by have := HM.out; omega
      have e2 : ((a : Int) + (b : Int)) / 2 = (k : Int) := by omega
      have HK := Lib.hid hk
      clear hk
      go_upto_region 5 with (fail)
      obtain ⟨bb, oo, rfl, hbb, c0, c1⟩ := HP.out.at k hkl
      have lift : ∀ p : Addr, p.block < B0 → wr.cell? p = w.cell? p := fun p hp => HW.out.1.cell (p := p) hp
      have q0 := (lift ⟨bb, oo + k * 2, none⟩ (by show bb < B0; omega)).trans c0
      have q1 := (lift ⟨bb, oo + k * 2 + 1, none⟩ (by show bb < B0; omega)).trans c1
      have HCZ := Lib.hid (fun W => HCC.out W l[k])
      have HUP := Lib.hid (fun h => HPT.out.up HS.out hkl h)
      have HDN := Lib.hid (fun h => HPT.out.down HS.out hkl h)
      have HCL := Lib.hid (HC.out l[k])
      have q2 := HW.out.2.1.cell 0; have q3 := HW.out.2.1.cell 1
      simp only [List.getElem?_toArray, List.getElem?_cons_zero, List.getElem?_cons_succ, HB0.out] at q2 q3
      generalize l[k] = z at *
      obtain ⟨z0, z1⟩ := z
      obtain ⟨r, hr⟩ : ∃ r, cmpT (z0, z1) x = r := ⟨_, rfl⟩
      simp only at HCZ q0 q1
      rw [hr] at HCL
      simp only [hr] at HCZ
      have s0 : (wr.cell? ⟨bb, oo + k * 2, none⟩ = some (.int .i64 z0) ∧ wr.cell? ⟨bb, oo + k * 2 + 1, none⟩ = some (.int .i64 z1)) ∧ wr.cell? ⟨w.heap.size, 0, none⟩ = some (.int .i64 x0) ∧ wr.cell? ⟨w.heap.size, 1, none⟩ = some (.int .i64 x1) := ⟨⟨q0, q1⟩, q2, q3⟩
      have HLT : Hid (bb < wr.heap.size ∧ w.heap.size < wr.heap.size) := by have := HW.out.2.2; have := HB0.out; exact ⟨by omega, by omega⟩
      clear lift c0 c1 q0 q1 q2 q3 hr HCC HC HPT
      have hk3 : (k : Int) < (m : Int) := by omega
      have hk4 : (0 : Int) ≤ (k : Int) := by omega
      go_region_held3 (fun w' => (w'.cell? ⟨bb, oo + k * 2, none⟩ = some (.int .i64 z0) ∧ w'.cell? ⟨bb, oo + k * 2 + 1, none⟩ = some (.int .i64 z1)) ∧ w'.cell? ⟨w.heap.size, 0, none⟩ = some (.int .i64 x0) ∧ w'.cell? ⟨w.heap.size, 1, none⟩ = some (.int .i64 x1)) (first | exact s0 | exact s1) (first | (go_at_call 25; (with_reducible refine (HCZ.out _).mono ?_); rintro e w1 ⟨rfl, hb1⟩; have s1 := keep4 HLT.out s0 hb1; have HW1 := Lib.hid (keepW HB0.out HW.out hb1); clear hb1))
      by_cases hrn : r < 0
      · have hd : decide (r < 0) = true := decide_eq_true hrn
        have HNX := Lib.hid (HUP.out (HCL.out.1 hrn))
        clear s0 s1 HUP HDN HCL HCZ HW
        go_wp2_with fail
        go_roundw
        case rel => exact ⟨k + 1, b, by omega, hbm, by go_num, rfl, HNX, HW1⟩
        case measure => simp [intOf]; omega
      · have hd : decide (r < 0) = false := decide_eq_false hrn
        have HNX := Lib.hid (HDN.out (fun h => hrn (HCL.out.2 h)))
        clear s0 s1 HUP HDN HCL HCZ HW
        go_wp2_with fail
        go_roundw
        case rel => exact ⟨a, k, hk1, by omega, rfl, rfl, HNX, HW1⟩
        case measure => simp [intOf]; omega
    · have HEQ : Hid (a = b) := by show _ = _; omega
      have HPA : Hid (Part l x a a) := by have := HPT.out; rw [← HEQ.out] at this; exact this
      have HAM : Hid (a ≤ l.length) := by show _ ≤ _; rw [HM.out]; omega
      by_cases ham : a < m
      · have hkl : a < l.length := by have := HM.out; omega
        have hlt2 : ¬ (a : Int) < (b : Int) := by omega
        have ham2 : (a : Int) < (m : Int) := by omega
        have hd8 : decide ((a : Int) < (m : Int)) = true := decide_eq_true ham2
        go_upto_region 8 with (fail)
        obtain ⟨bb, oo, rfl, hbb, c0, c1⟩ := HP.out.at a hkl
        have lift : ∀ p : Addr, p.block < B0 → wr.cell? p = w.cell? p := fun p hp => HW.out.1.cell (p := p) hp
        have q0 := (lift ⟨bb, oo + a * 2, none⟩ (by show bb < B0; omega)).trans c0
        have q1 := (lift ⟨bb, oo + a * 2 + 1, none⟩ (by show bb < B0; omega)).trans c1
        have HCZ := Lib.hid (fun W => HCC.out W l[a])
        have HCL := Lib.hid (HC.out l[a])
        have q2 := HW.out.2.1.cell 0; have q3 := HW.out.2.1.cell 1
        simp only [List.getElem?_toArray, List.getElem?_cons_zero, List.getElem?_cons_succ, HB0.out] at q2 q3
        generalize l[a] = z at *
        obtain ⟨z0, z1⟩ := z
        obtain ⟨r, hr⟩ : ∃ r, cmpT (z0, z1) x = r := ⟨_, rfl⟩
        simp only at HCZ q0 q1
        rw [hr] at HCL
        simp only [hr] at HCZ
        have s0 : (wr.cell? ⟨bb, oo + a * 2, none⟩ = some (.int .i64 z0) ∧ wr.cell? ⟨bb, oo + a * 2 + 1, none⟩ = some (.int .i64 z1)) ∧ wr.cell? ⟨w.heap.size, 0, none⟩ = some (.int .i64 x0) ∧ wr.cell? ⟨w.heap.size, 1, none⟩ = some (.int .i64 x1) := ⟨⟨q0, q1⟩, q2, q3⟩
        have HLT : Hid (bb < wr.heap.size ∧ w.heap.size < wr.heap.size) := by have := HW.out.2.2; have := HB0.out; exact ⟨by omega, by omega⟩
        clear lift c0 c1 q0 q1 q2 q3 hr HCC HC
        have ha3 : (a : Int) < (m : Int) := by omega
        have ha4 : (0 : Int) ≤ (a : Int) := by omega
        go_region_held3 (fun w' => (w'.cell? ⟨bb, oo + a * 2, none⟩ = some (.int .i64 z0) ∧ w'.cell? ⟨bb, oo + a * 2 + 1, none⟩ = some (.int .i64 z1)) ∧ w'.cell? ⟨w.heap.size, 0, none⟩ = some (.int .i64 x0) ∧ w'.cell? ⟨w.heap.size, 1, none⟩ = some (.int .i64 x1)) (first | exact s0 | exact s1) (first | (go_at_call 25; (with_reducible refine (HCZ.out _).mono ?_); rintro e w1 ⟨rfl, hb1⟩; have s1 := keep4 HLT.out s0 hb1; have HW1 := Lib.hid (keepW HB0.out HW.out hb1); clear hb1))
        go_wp2_with fail
        rw [HRP.out]
        exact ⟨a, _, rfl, HAM.out, HPA.out, by rw [← HB0.out]; exact HW1.out.1⟩
      · have ham2 : ¬ (a : Int) < (m : Int) := by omega
        have hlt2 : ¬ (a : Int) < (b : Int) := by omega
        have hd8 : decide ((a : Int) < (m : Int)) = false := decide_eq_false ham2
        go_upto_region 8 with (fail)
        go_quiet (fail)
        go_wp2_with fail
        rw [HRP.out]
        exact ⟨a, _, rfl, HAM.out, HPA.out, by rw [← HB0.out]; exact Below.drewN HW.out.1 _⟩

end Go.Proofs.Ytkhceigfmaajdaa
