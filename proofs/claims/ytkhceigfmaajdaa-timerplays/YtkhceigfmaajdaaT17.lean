/- Contract: the document's Ended. -/
import Derived.Test.YtkhceigfmaajdaaT16
namespace Go.Proofs.Ytkhceigfmaajdaa
open Go.RowKit
set_option maxRecDepth 100000

/-- The first of those that have ended, of the first 'i'. -/
def BestT (ms : List (Int × Int)) (now : Int) (i : Nat) : Option Nat → Prop
  | none => ∀ j (_ : j < ms.length), j < i → ¬ ms[j].2 ≤ now
  | some b => ∃ hb : b < ms.length, b < i ∧ ms[b].2 ≤ now ∧ ∀ j (_ : j < ms.length), j < i → ms[j].2 ≤ now → ¬ ltT ms[j] ms[b]
theorem BestT.start (ms : List (Int × Int)) (now : Int) : BestT ms now 0 none := fun _ _ h => absurd h (by omega)
theorem BestT.skip {ms : List (Int × Int)} {now : Int} {i : Nat} {o : Option Nat} (h : BestT ms now i o) (hi : i < ms.length) (hn : ¬ ms[i].2 ≤ now) : BestT ms now (i + 1) o := by
  cases o with
  | none =>
    intro j hj hji
    rcases Nat.lt_or_ge j i with c | c
    · exact h j hj c
    · obtain rfl : j = i := by omega
      exact hn
  | some b =>
    obtain ⟨hb, h1, h2, h3⟩ := h
    refine ⟨hb, by omega, h2, fun j hj hji hbj => ?_⟩
    rcases Nat.lt_or_ge j i with c | c
    · exact h3 j hj c hbj
    · obtain rfl : j = i := by omega
      exact absurd hbj hn
theorem BestT.keep {ms : List (Int × Int)} {now : Int} {i b : Nat} (h : BestT ms now i (some b)) (hi : i < ms.length) (hb : b < ms.length) (hn : ¬ ltT ms[i] ms[b]) : BestT ms now (i + 1) (some b) := by
  obtain ⟨hb, h1, h2, h3⟩ := h
  refine ⟨hb, by omega, h2, fun j hj hji hbj => ?_⟩
  rcases Nat.lt_or_ge j i with c | c
  · exact h3 j hj c hbj
  · obtain rfl : j = i := by omega
    exact hn
theorem BestT.take0 {ms : List (Int × Int)} {now : Int} {i : Nat} (h : BestT ms now i none) (hi : i < ms.length) (hn : ms[i].2 ≤ now) : BestT ms now (i + 1) (some i) := by
  refine ⟨hi, by omega, hn, fun j hj hji hbj => ?_⟩
  rcases Nat.lt_or_ge j i with c | c
  · exact absurd hbj (h j hj c)
  · obtain rfl : j = i := by omega
    exact ltT_irrefl _
theorem BestT.take1 {ms : List (Int × Int)} {now : Int} {i b : Nat} (h : BestT ms now i (some b)) (hi : i < ms.length) (hb : b < ms.length) (hn : ms[i].2 ≤ now) (hl : ltT ms[i] ms[b]) : BestT ms now (i + 1) (some i) := by
  obtain ⟨hb', h1, h2, h3⟩ := h
  refine ⟨hi, by omega, hn, fun j hj hji hbj => ?_⟩
  rcases Nat.lt_or_ge j i with c | c
  · exact fun hc => h3 j hj c hbj (ltT_trans hc hl)
  · obtain rfl : j = i := by omega
    exact ltT_irrefl _

/-- What the document's Ended tells. -/
def EndR (ms : List (Int × Int)) (now : Int) : Option (Int × Int) → Prop
  | none => ∀ p ∈ ms, ¬ p.2 ≤ now
  | some x => x ∈ ms ∧ x.2 ≤ now ∧ ∀ p ∈ ms, p.2 ≤ now → ¬ ltT p x

def RetEnd (ms : List (Int × Int)) (now : Int) (w : World) (e : Ending) (w' : World) : Prop :=
  ∃ r : Option (Int × Int), EndR ms now r ∧ e = .returned (.tuple #[.int .i64 ((r.map Prod.fst).getD 0), .bool r.isSome]) ∧ ∃ n, w' = w.drewN n

set_option maxHeartbeats 8000000 in
theorem refEnded_any (w : World) (v : Value) (ms : List (Int × Int)) (now : Int) (h : Ms w v ms) : Calls Try.prog 17 #[v, .int .i64 now] w (RetEnd ms now w) := by
  have HM := Lib.hid h.ts
  obtain ⟨A, c, rfl, hc1, hc2, hc3⟩ := h.slice
  clear h hc3
  obtain ⟨RP, hRP⟩ : ∃ R, R = RetEnd ms now w := ⟨_, rfl⟩
  rw [← hRP]
  have HRP := Lib.hid hRP
  clear hRP
  go_enter Try.func17, Try.ntmps17
  go_wp2_with fail
  go_loopw [6, 7] (fun b k wr => ∃ (i : Nat) (bo : Option Nat), i ≤ ms.length ∧ k = .int .i64 i ∧ b = .int .i64 (idxI bo) ∧ Hid (BestT ms now i bo) ∧ ∃ m, wr = w.drewN m) (fun _ k _ => ms.length - (intOf k).toNat)
  case atStart => exact ⟨0, none, Nat.zero_le _, rfl, rfl, BestT.start _ _, 0, rfl⟩
  case round =>
    obtain ⟨i, bo, hi, rfl, rfl, HB, m, rfl⟩ := hrel
    by_cases hlt : i < ms.length
    · obtain ⟨b0, o0, hA, -, q0, q1⟩ := HM.out.at i hlt
      subst hA
      obtain ⟨x, hx⟩ : ∃ x, ms[i] = x := ⟨_, rfl⟩
      rw [hx] at q0 q1
      have HX := Lib.hid hx
      obtain ⟨x0, x1⟩ := x
      simp only at q0 q1
      clear hx
      by_cases hn : x1 ≤ now
      · have hd0 : decide (x1 ≤ now) = true := decide_eq_true hn
        have HNI : Hid (ms[i].2 ≤ now) := by show _ ≤ _; rw [HX.out]; exact hn
        cases bo with
        | none =>
          have HBN : Hid (BestT ms now (i + 1) (some i)) := HB.out.take0 hlt HNI.out
          simp only [idxI] at *
          go_upto_region 5 with (fail)
          go_quiet (fail)
          go_wp2_with fail
          go_roundw
          case rel => exact ⟨i + 1, some i, by omega, by go_num, rfl, HBN, m + nq, rfl⟩
          case measure => simp [intOf]; omega
        | some b =>
          have hbl : b < ms.length := by obtain ⟨hb, _⟩ := HB.out; exact hb
          obtain ⟨b1, o1, hA1, -, r0, r1⟩ := HM.out.at b hbl
          injection hA1 with hA1
          injection hA1 with hA2 hA3
          subst hA2 hA3
          obtain ⟨y, hy⟩ : ∃ y, ms[b] = y := ⟨_, rfl⟩
          rw [hy] at r0 r1
          have HY := Lib.hid hy
          obtain ⟨y0, y1⟩ := y
          simp only at r0 r1
          clear hy
          simp only [idxI] at *
          have hbn : ¬ (b : Int) < 0 := by omega
          have hbd : decide ((b : Int) < 0) = false := decide_eq_false hbn
          have hb2 : (b : Int) < (ms.length : Int) := by omega
          have hb3 : (0 : Int) ≤ (b : Int) := by omega
          by_cases c1 : x1 < y1
          · have hd1 : decide (x1 < y1) = true := decide_eq_true c1
            have HBN : Hid (BestT ms now (i + 1) (some i)) := HB.out.take1 hlt hbl HNI.out (by rw [HX.out, HY.out]; exact Or.inl c1)
            go_upto_region 5 with (fail)
            go_quiet (fail)
            go_wp2_with fail
            go_roundw
            case rel => exact ⟨i + 1, some i, by omega, by go_num, rfl, HBN, m + nq, rfl⟩
            case measure => simp [intOf]; omega
          · have hd1 : decide (x1 < y1) = false := decide_eq_false c1
            by_cases c2 : x1 = y1
            · have hd2 : (x1 == y1) = true := by simpa using c2
              by_cases c3 : x0 < y0
              · have hd3 : decide (x0 < y0) = true := decide_eq_true c3
                have HBN : Hid (BestT ms now (i + 1) (some i)) := HB.out.take1 hlt hbl HNI.out (by rw [HX.out, HY.out]; exact Or.inr ⟨c2, c3⟩)
                clear c2
                go_upto_region 5 with (fail)
                go_quiet (fail)
                go_wp2_with fail
                go_roundw
                case rel => exact ⟨i + 1, some i, by omega, by go_num, rfl, HBN, m + nq, rfl⟩
                case measure => simp [intOf]; omega
              · have hd3 : decide (x0 < y0) = false := decide_eq_false c3
                have HBN : Hid (BestT ms now (i + 1) (some b)) := HB.out.keep hlt hbl (by rw [HX.out, HY.out]; unfold ltT; simp only; omega)
                clear c2
                go_upto_region 5 with (fail)
                go_quiet (fail)
                go_wp2_with fail
                go_roundw
                case rel => exact ⟨i + 1, some b, by omega, by go_num, rfl, HBN, m + nq, rfl⟩
                case measure => simp [intOf]; omega
            · have hd2 : (x1 == y1) = false := by simpa using c2
              have HBN : Hid (BestT ms now (i + 1) (some b)) := HB.out.keep hlt hbl (by rw [HX.out, HY.out]; unfold ltT; simp only; omega)
              go_upto_region 5 with (fail)
              go_quiet (fail)
              go_wp2_with fail
              go_roundw
              case rel => exact ⟨i + 1, some b, by omega, by go_num, rfl, HBN, m + nq, rfl⟩
              case measure => simp [intOf]; omega
      · have hd0 : decide (x1 ≤ now) = false := decide_eq_false hn
        have HBN : Hid (BestT ms now (i + 1) bo) := HB.out.skip hlt (by rw [HX.out]; exact hn)
        go_upto_region 5 with (fail)
        go_quiet (fail)
        go_wp2_with fail
        go_roundw
        case rel => exact ⟨i + 1, bo, by omega, by go_num, rfl, HBN, m + nq, rfl⟩
        case measure => simp [intOf]; omega
    · have HIE : Hid (BestT ms now ms.length bo) := by have e : i = ms.length := by omega
                                                       rw [← e]; exact HB.out
      cases bo with
      | none =>
        simp only [idxI] at *
        go_wp2_with fail
        rw [HRP.out]
        refine ⟨none, ?_, rfl, m, rfl⟩
        intro p hp
        obtain ⟨j, hj, rfl⟩ := List.getElem_of_mem hp
        exact HIE.out j hj hj
      | some b =>
        have hbl : b < ms.length := by obtain ⟨hb, _⟩ := HIE.out; exact hb
        obtain ⟨b1, o1, hA1, -, r0, -⟩ := HM.out.at b hbl
        subst hA1
        obtain ⟨y, hy⟩ : ∃ y, ms[b] = y := ⟨_, rfl⟩
        rw [hy] at r0
        have HY := Lib.hid hy
        obtain ⟨y0, y1⟩ := y
        simp only at r0
        clear hy
        simp only [idxI] at *
        have hbn : ¬ (b : Int) < 0 := by omega
        have hb2 : (b : Int) < (ms.length : Int) := by omega
        have hb3 : (0 : Int) ≤ (b : Int) := by omega
        go_wp2_with fail
        rw [HRP.out]
        refine ⟨some (y0, y1), ?_, rfl, m, rfl⟩
        obtain ⟨hb, -, h2, h3⟩ := HIE.out
        rw [HY.out] at h2
        refine ⟨by rw [← HY.out]; exact List.getElem_mem _, h2, fun p hp hpn => ?_⟩
        obtain ⟨j, hj, rfl⟩ := List.getElem_of_mem hp
        have := h3 j hj hj hpn
        rwa [HY.out] at this

end Go.Proofs.Ytkhceigfmaajdaa
