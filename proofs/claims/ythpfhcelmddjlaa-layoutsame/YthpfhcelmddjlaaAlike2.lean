/- Contracts: are two lists alike? The program's, and the document's. -/
import Derived.Test.YthpfhcelmddjlaaAlike
namespace Go.Proofs.Ythpfhcelmddjlaa
open Go.RowKit Fl
set_option maxRecDepth 100000


set_option maxHeartbeats 2000000 in
theorem equalSecs_any (w : World) (D : Nat) (va vb : Value) (xs ys : List (Int × Int × Int)) (ha : Secs w D va xs) (hb : Secs w D vb ys) (hl : xs.length ≤ 1000000) : Calls Try.prog 44 #[va, vb] w (RetB (decide (xs = ys)) w) := by
  have HA := Lib.hid ha; have HB := Lib.hid hb
  obtain ⟨A, c, rfl, -⟩ := ha
  obtain ⟨A', c', rfl, -⟩ := hb
  by_cases hne : xs.length = ys.length
  · obtain ⟨n, hn⟩ : ∃ n, n = xs.length := ⟨_, rfl⟩
    rw [← hne, ← hn]
    rw [← hn] at hl
    have HN : Hid (n = xs.length ∧ n = ys.length) := ⟨hn, by omega⟩
    clear hn hne
    go_enter Try.func44, Try.ntmps44
    go_wp2
    go_loopw [13] (fun t wr => ∃ i : Nat, i ≤ n ∧ t = .int .i64 i ∧ Hid (xs.take i = ys.take i) ∧ ∃ m, wr = w.drewN m) (fun t _ => n - (intOf t).toNat)
    case atStart => exact ⟨0, Nat.zero_le _, rfl, rfl, 0, rfl⟩
    case round =>
      obtain ⟨i, hi, rfl, HE, m, rfl⟩ := hrel
      by_cases hlt : i < n
      · have hix : i < xs.length := by have := HN.out; omega
        have hiy : i < ys.length := by have := HN.out; omega
        have HT : Hid (xs[i] = ys[i] → xs.take (i + 1) = ys.take (i + 1)) := take_snoc_eq HE.out hix hiy
        have HD : Hid (xs[i] ≠ ys[i] → xs ≠ ys) := fun h1 h2 => h1 (by subst h2; rfl)
        obtain ⟨b, o, rfl, _, p0, p1, p2⟩ := HA.out.at i hix
        obtain ⟨b', o', rfl, _, q0, q1, q2⟩ := HB.out.at i hiy
        generalize xs[i] = x at *
        generalize ys[i] = y at *
        obtain ⟨x0, x1, x2⟩ := x
        obtain ⟨y0, y1, y2⟩ := y
        simp only at p0 q0 p1 q1 p2 q2
        by_cases e0 : x0 = y0
        · by_cases e1 : x1 = y1
          · by_cases e2 : x2 = y2
            · have HT2 : Hid (xs.take (i + 1) = ys.take (i + 1)) := HT.out (by rw [e0, e1, e2])
              clear HT HD
              subst e0; subst e1; subst e2; skip
              go_wp2
              go_quiet (fail)
              go_wp2
              go_roundw
              case rel => exact ⟨i + 1, by omega, by go_num, HT2, _, rfl⟩
              case measure => simp [intOf]; omega
            · have HD2 : Hid (xs ≠ ys) := HD.out (by intro h; injection h; simp_all)
              have hd : (x2 == y2) = false := by simpa using e2
              clear HT HD e2
              go_wp2
              go_quiet (fail)
              go_wp2
              go_ret
              exact ⟨ret_bool (by rw [decide_eq_false HD2.out]), m + nq, World.drewN_drewN _ _ _⟩
          · have HD2 : Hid (xs ≠ ys) := HD.out (by intro h; injection h; simp_all)
            have hd : (x1 == y1) = false := by simpa using e1
            clear HT HD e1
            go_wp2
            go_quiet (fail)
            go_wp2
            go_ret
            exact ⟨ret_bool (by rw [decide_eq_false HD2.out]), m + nq, World.drewN_drewN _ _ _⟩
        · have HD2 : Hid (xs ≠ ys) := HD.out (by intro h; injection h; simp_all)
          have hd : (x0 == y0) = false := by simpa using e0
          clear HT HD e0
          go_wp2
          go_quiet (fail)
          go_wp2
          go_ret
          exact ⟨ret_bool (by rw [decide_eq_false HD2.out]), m + nq, World.drewN_drewN _ _ _⟩

      · have HF : Hid (xs = ys) := by
          have := HE.out
          rw [List.take_of_length_le (by have := HN.out; omega), List.take_of_length_le (by have := HN.out; omega)] at this
          exact this
        go_wp2
        go_ret
        exact ⟨ret_bool (by rw [decide_eq_true HF.out]), m, rfl⟩
  · have HF : Hid (xs ≠ ys) := fun h => hne (by rw [h])
    have hcmp : ((xs.length : Int) == (ys.length : Int)) = false := by simp; omega
    clear hne
    generalize xs.length = la at *
    generalize ys.length = lb at *
    go_enter Try.func44, Try.ntmps44
    go_wp2
    go_ret
    exact ⟨ret_bool (by rw [decide_eq_false HF.out]), 0, rfl⟩

set_option maxHeartbeats 2000000 in
theorem equalPoints_any (w : World) (D : Nat) (va vb : Value) (xs ys : List (Int × Int × Int × Int)) (ha : Pts w D va xs) (hb : Pts w D vb ys) (hl : xs.length ≤ 1000000) : Calls Try.prog 46 #[va, vb] w (RetB (decide (xs = ys)) w) := by
  have HA := Lib.hid ha; have HB := Lib.hid hb
  obtain ⟨A, c, rfl, -⟩ := ha
  obtain ⟨A', c', rfl, -⟩ := hb
  by_cases hne : xs.length = ys.length
  · obtain ⟨n, hn⟩ : ∃ n, n = xs.length := ⟨_, rfl⟩
    rw [← hne, ← hn]
    rw [← hn] at hl
    have HN : Hid (n = xs.length ∧ n = ys.length) := ⟨hn, by omega⟩
    clear hn hne
    go_enter Try.func46, Try.ntmps46
    go_wp2
    go_loopw [13] (fun t wr => ∃ i : Nat, i ≤ n ∧ t = .int .i64 i ∧ Hid (xs.take i = ys.take i) ∧ ∃ m, wr = w.drewN m) (fun t _ => n - (intOf t).toNat)
    case atStart => exact ⟨0, Nat.zero_le _, rfl, rfl, 0, rfl⟩
    case round =>
      obtain ⟨i, hi, rfl, HE, m, rfl⟩ := hrel
      by_cases hlt : i < n
      · have hix : i < xs.length := by have := HN.out; omega
        have hiy : i < ys.length := by have := HN.out; omega
        have HT : Hid (xs[i] = ys[i] → xs.take (i + 1) = ys.take (i + 1)) := take_snoc_eq HE.out hix hiy
        have HD : Hid (xs[i] ≠ ys[i] → xs ≠ ys) := fun h1 h2 => h1 (by subst h2; rfl)
        obtain ⟨b, o, rfl, _, p0, p1, p2, p3⟩ := HA.out.at i hix
        obtain ⟨b', o', rfl, _, q0, q1, q2, q3⟩ := HB.out.at i hiy
        generalize xs[i] = x at *
        generalize ys[i] = y at *
        obtain ⟨x0, x1, x2, x3⟩ := x
        obtain ⟨y0, y1, y2, y3⟩ := y
        simp only at p0 q0 p1 q1 p2 q2 p3 q3
        by_cases e0 : x0 = y0
        · by_cases e1 : x1 = y1
          · by_cases e2 : x2 = y2
            · by_cases e3 : x3 = y3
              · have HT2 : Hid (xs.take (i + 1) = ys.take (i + 1)) := HT.out (by rw [e0, e1, e2, e3])
                clear HT HD
                subst e0; subst e1; subst e2; subst e3; skip
                go_wp2
                go_quiet (fail)
                go_wp2
                go_roundw
                case rel => exact ⟨i + 1, by omega, by go_num, HT2, _, rfl⟩
                case measure => simp [intOf]; omega
              · have HD2 : Hid (xs ≠ ys) := HD.out (by intro h; injection h; simp_all)
                have hd : (x3 == y3) = false := by simpa using e3
                clear HT HD e3
                go_wp2
                go_quiet (fail)
                go_wp2
                go_ret
                exact ⟨ret_bool (by rw [decide_eq_false HD2.out]), m + nq, World.drewN_drewN _ _ _⟩
            · have HD2 : Hid (xs ≠ ys) := HD.out (by intro h; injection h; simp_all)
              have hd : (x2 == y2) = false := by simpa using e2
              clear HT HD e2
              go_wp2
              go_quiet (fail)
              go_wp2
              go_ret
              exact ⟨ret_bool (by rw [decide_eq_false HD2.out]), m + nq, World.drewN_drewN _ _ _⟩
          · have HD2 : Hid (xs ≠ ys) := HD.out (by intro h; injection h; simp_all)
            have hd : (x1 == y1) = false := by simpa using e1
            clear HT HD e1
            go_wp2
            go_quiet (fail)
            go_wp2
            go_ret
            exact ⟨ret_bool (by rw [decide_eq_false HD2.out]), m + nq, World.drewN_drewN _ _ _⟩
        · have HD2 : Hid (xs ≠ ys) := HD.out (by intro h; injection h; simp_all)
          have hd : (x0 == y0) = false := by simpa using e0
          clear HT HD e0
          go_wp2
          go_quiet (fail)
          go_wp2
          go_ret
          exact ⟨ret_bool (by rw [decide_eq_false HD2.out]), m + nq, World.drewN_drewN _ _ _⟩

      · have HF : Hid (xs = ys) := by
          have := HE.out
          rw [List.take_of_length_le (by have := HN.out; omega), List.take_of_length_le (by have := HN.out; omega)] at this
          exact this
        go_wp2
        go_ret
        exact ⟨ret_bool (by rw [decide_eq_true HF.out]), m, rfl⟩
  · have HF : Hid (xs ≠ ys) := fun h => hne (by rw [h])
    have hcmp : ((xs.length : Int) == (ys.length : Int)) = false := by simp; omega
    clear hne
    generalize xs.length = la at *
    generalize ys.length = lb at *
    go_enter Try.func46, Try.ntmps46
    go_wp2
    go_ret
    exact ⟨ret_bool (by rw [decide_eq_false HF.out]), 0, rfl⟩

end Go.Proofs.Ythpfhcelmddjlaa
