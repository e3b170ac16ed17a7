/- Contracts: Path. -/
import Derived.Test.YtifcgkpannlnnaaN4
import Derived.Deep.RegionHeld3
namespace Go.Proofs.Ytifcgkpannlnnaa
open Go.RowKit Fl
set_option maxRecDepth 100000

def ways (L : Lay) (a : Int) (r : List Int) : Option (List (Int × Bool)) := match wayL L (a, 0) r with
  | some x => some x
  | none => wayL L (a, 1) r
/-- The needs of a path. -/
def pathL (L : Lay) (p : List Int) : Option (List (Int × Bool)) := if p.length < 2 ∨ (riseL p).length < p.length then none else ways L (p.getD 0 0) (p.drop 1)

set_option maxHeartbeats 8000000 in
theorem path_any (w : World) (D : Nat) (v : Value) (L : Lay) (A : Option Addr) (c : Nat) (p : List Int) (h : IsGr w D v L) (hD : D ≤ w.heap.size) (hL : Fits L) (hp : Rd w w.heap.size (.slice A p.length c) (ivals p)) (hpl : p.length ≤ 1000) :
    Calls Try.prog 50 #[v, .slice A p.length c] w (RetWay w.heap.size (pathL L p) w) := by
  have HI := Lib.hid h
  obtain ⟨g, vS, vQ, vP, rfl, -⟩ := h
  have HL := Lib.hid hL
  have HP := Lib.hid hp
  clear hL
  obtain ⟨B0, hB0⟩ : ∃ n, n = w.heap.size := ⟨_, rfl⟩
  rw [← hB0]
  have HB0 := Lib.hid hB0
  have hDB : D ≤ B0 := by omega
  clear hB0 hD
  by_cases h2 : p.length < 2
  · have HE : Hid (pathL L p = none) := by show _ = _; unfold pathL; rw [if_pos (Or.inl h2)]
    generalize pathL L p = r at *
    generalize p.length = m at *
    clear hp HP
    have h2i : (m : Int) < 2 := by omega
    go_enter Try.func50, Try.ntmps50
    go_wp2_with fail
    go_ret2
    rw [HE.out]
    exact ⟨_, rfl, World.ownsRow_nil _ _ _ _, Below.refl _ _⟩
  · obtain ⟨A', c', hv, ⟨h0, hcl⟩, hx⟩ := hp
    injection hv with e1 e2 e3
    subst e1 e3
    have hvl : (ivals p).length = p.length := by simp [ivals]
    rw [hvl] at hcl hx
    obtain ⟨b, o, rfl, hb, hcc⟩ := hx (by omega)
    obtain ⟨a, rest, rfl⟩ : ∃ a rest, p = a :: rest := by cases p with | nil => simp at h2 | cons a r => exact ⟨a, r, rfl⟩
    have q0 : w.cell? ⟨b, o, none⟩ = some (.int .i64 a) := hcc 0 _ (by simp [ivals])
    have HQ : Hid (∀ j u, (ivals rest)[j]? = some u → w.cell? ⟨b, o + 1 + j, none⟩ = some u) := fun j u hu => by
      have := hcc (j + 1) u (by simpa [ivals] using hu)
      rw [show o + 1 + j = o + (j + 1) by omega]; exact this
    have HQ0 := Lib.hid q0
    have HBL : Hid (b < B0) := by have := HB0.out; show b < B0; omega
    clear q0 hcc hx h0 hvl hb e2
    obtain ⟨m, hm⟩ : ∃ m, (a :: rest).length = m := ⟨_, rfl⟩
    have HM : Hid (rest.length + 1 = m) := by rw [← hm]; rfl
    have HRS : Hid ((riseL (a :: rest)).length < m → pathL L (a :: rest) = none) := fun h => by unfold pathL; rw [if_pos (Or.inr (by omega))]
    have HRW : Hid (¬ (riseL (a :: rest)).length < m → pathL L (a :: rest) = ways L a rest) := fun h => by
      unfold pathL
      rw [if_neg (by omega)]; rfl
    rw [hm] at HP h2 hpl hcl ⊢
    have h2i : ¬ (m : Int) < 2 := by omega
    generalize pathL L (a :: rest) = r at *
    have hml : (a :: rest).length ≤ 1000 := by omega
    clear hm
    go_enter Try.func50, Try.ntmps50
    go_wp2_with fail
    refine (clone38 w _ _ (a :: rest) HP.out (by omega)).mono ?_; rintro e w1 ⟨v1, rfl, ho1, hb1⟩
    obtain ⟨A1, c1, hv1⟩ := own_slice ho1
    subst hv1
    have HO1 := Lib.hid ho1
    have HB1 : Hid (Below B0 w w1) := by have := HB0.out; rw [this]; exact hb1
    clear ho1 hb1
    go_wp2_with fail
    refine (eachOnce_any w1 w.heap.size _ (a :: rest) HO1.out (by have := HB1.out.size; omega) (by omega)).mono ?_; rintro e w2 ⟨v2, rfl, ho2, hb2⟩
    obtain ⟨A2, c2, hv2⟩ := own_slice ho2
    subst hv2
    have HB2 : Hid (Below B0 w w2) := by have := HB0.out; rw [this]; rw [this] at HB1; exact HB1.out.trans hb2
    have hrl := riseL_le (a :: rest)
    clear ho2 hb2 HB1 HO1 HP
    generalize (riseL (a :: rest)).length = rl at *
    by_cases hr : rl < m
    · have HE := Lib.hid (HRS.out hr)
      clear HRS HRW
      go_wp2_with fail
      go_ret2
      rw [HE.out]
      exact ⟨_, rfl, World.ownsRow_nil _ _ _ _, HB2.out⟩
    · have HE := Lib.hid (HRW.out hr)
      have hri : ¬ (rl : Int) < (m : Int) := by omega
      have hc1 : ¬ c = 1 := by omega
      have h1m : (1 : Int) ≤ (m : Int) := by omega
      have h0m : (0 : Int) < (m : Int) := by omega
      have h0n : 0 < m := by omega
      have h1n : 1 ≤ m := by omega
      have hz : ¬ m = 0 := by omega
      clear HRS HRW
      have HWAY : Hid (∀ (W : World) (k : Int), Below B0 w W → Calls Try.prog 61 #[.pointer (some ⟨g, 0, none⟩), .agg #[.int .i64 a, .int .i64 k], .slice (some ⟨b, o + 1, none⟩) (m - 1) (c - 1)] W (RetWay W.heap.size (wayL L (a, k) rest) W)) := fun W k hW => by
        have e : m - 1 = rest.length := by have := HM.out; omega
        rw [e]
        refine way_any W D _ L a k (some ⟨b, o + 1, none⟩) (c - 1) rest (HI.out.keep hW hDB) (by have := hW.size; have := HB0.out; omega) HL.out ?_ (by have := HM.out; omega)
        refine ⟨some ⟨b, o + 1, none⟩, c - 1, by simp [ivals], ⟨(fun e => by cases e), by simp [ivals]; have := HM.out; omega⟩, fun _ => ⟨b, o + 1, rfl, by have := hW.size; have := HB0.out; have := HBL.out; omega, fun j u hu => ?_⟩⟩
        exact (hW.cell (p := ⟨b, o + 1 + j, none⟩) HBL.out).trans (HQ.out j u hu)
      go_wp2_with fail
      go_loopw [21] (fun k wr => ∃ i : Nat, i ≤ 2 ∧ k = .int .i64 i ∧ Hid ((0 < i → wayL L (a, 0) rest = none) ∧ (1 < i → wayL L (a, 1) rest = none)) ∧ Hid (Below B0 w wr)) (fun k _ => 2 - (intOf k).toNat)
      case atStart => exact ⟨0, Nat.zero_le _, rfl, ⟨fun h => absurd h (by omega), fun h => absurd h (by omega)⟩, HB2⟩
      case round =>
        obtain ⟨i, hi, rfl, HNO, HB3⟩ := hrel
        by_cases hlt : i < 2
        · have HWS : Hid (∀ xs, wayL L (a, (i : Int)) rest = some xs → ways L a rest = some xs) := fun xs hx => by
            unfold ways
            rcases Nat.lt_or_ge 0 i with c | c
            · have e : i = 1 := by omega
              subst e
              rw [HNO.out.1 (by omega)]; exact hx
            · have e : i = 0 := by omega
              subst e
              have hx' : wayL L (a, 0) rest = some xs := hx
              rw [hx']
          have HWN : Hid (wayL L (a, (i : Int)) rest = none → (0 < i + 1 → wayL L (a, 0) rest = none) ∧ (1 < i + 1 → wayL L (a, 1) rest = none)) := fun hx => by
            rcases Nat.lt_or_ge 0 i with c | c
            · have e : i = 1 := by omega
              subst e
              exact ⟨fun _ => HNO.out.1 (by omega), fun _ => hx⟩
            · have e : i = 0 := by omega
              subst e
              exact ⟨fun _ => hx, fun h => absurd h (by omega)⟩
          have d1 : wr.drew.cell? ⟨b, o, none⟩ = some (.int .i64 a) := (HB3.out.drew.cell (p := ⟨b, o, none⟩) HBL.out).trans HQ0.out
          have HBD : Hid (Below B0 w wr.drew) := HB3.out.drew
          have HSZ : Hid (B0 ≤ wr.drew.heap.size) := by have := HB3.out.size; have := HB0.out; show B0 ≤ wr.heap.size; omega
          have HSB : Hid (b < wr.drew.heap.size) := Nat.lt_of_lt_of_le HBL.out HSZ.out
          clear HNO
          go_upto_region 6 with (fail)
          go_region_held3 (fun w' => w'.cell? ⟨b, o, none⟩ = some (.int .i64 a)) (first | assumption | go_keep) (first | (go_at_call 61; (with_reducible refine (HWAY.out wr.drew (i : Int) HBD.out).mono ?_); rintro e w3 ⟨v3, rfl, ho3, hb3⟩; have d2 : w3.cell? ⟨b, o, none⟩ = some (.int .i64 a) := (hb3.cell (p := ⟨b, o, none⟩) HSB.out).trans d1; have HO3 := Lib.hid ho3; have HB4 : Hid (Below B0 w w3) := HBD.out.trans (hb3.mono HSZ.out); clear ho3 hb3))
          clear d1 d2
          cases hw : wayL L (a, (i : Int)) rest with
          | some xs =>
            have HES : Hid (r = some xs) := by show _ = _; rw [HE.out]; exact HWS.out xs hw
            rw [hw] at HO3
            clear hw HWS HWN
            simp only [Option.isSome_some, Option.getD_some] at HO3 ⊢
            go_wp2_with fail
            go_ret2
            rw [HES.out]
            exact ⟨_, rfl, own_base HO3.out HSZ.out, HB4.out⟩
          | none =>
            have HN2 := Lib.hid (HWN.out hw)
            clear hw HWS HWN HO3
            simp only [Option.isSome_none]
            go_wp2_with fail
            go_roundw
            case rel => exact ⟨i + 1, by omega, by go_num, HN2, HB4⟩
            case measure => simp [intOf]; omega
        · have HES : Hid (r = none) := by show _ = _; rw [HE.out]; unfold ways; rw [HNO.out.1 (by omega), HNO.out.2 (by omega)]
          go_wp2_with fail
          go_ret2
          rw [HES.out]
          exact ⟨_, rfl, World.ownsRow_nil _ _ _ _, HB3.out⟩

end Go.Proofs.Ytifcgkpannlnnaa
