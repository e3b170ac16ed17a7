/- Contracts: are two lists alike; a trail, and what may be behind it: the document's. -/
import Derived.Test.YtifcgkpannlnnaaJ2
import Derived.Test.YtifcgkpannlnnaaLHead
import Derived.Deep.DeepCutAuto
namespace Go.Proofs.Ytifcgkpannlnnaa
open Go.RowKit Fl
set_option maxRecDepth 100000

/-- Does the search go on? -/
def seeks (i n m f : Nat) : Bool := decide (i < n) && (decide (0 < m) && decide (f = 0))
theorem seeks_iff (i n m f : Nat) : seeks i n m f = true ↔ i < n ∧ 0 < m ∧ f = 0 := by unfold seeks; simp [Bool.and_eq_true]
def RetB (b : Bool) (w : World) (e : Ending) (w' : World) : Prop := e = .returned (.bool b) ∧ ∃ n, w' = w.drewN n

theorem take_snoc_eq {α : Type} {xs ys : List α} {i : Nat} (h : xs.take i = ys.take i) (h1 : i < xs.length) (h2 : i < ys.length) (he : xs[i] = ys[i]) : xs.take (i + 1) = ys.take (i + 1) := by
  rw [List.take_succ_eq_append_getElem h1, List.take_succ_eq_append_getElem h2, h, he]

set_option maxHeartbeats 2000000 in
theorem ints_any (w : World) (D : Nat) (va vb : Value) (xs ys : List Int) (ha : Rd w D va (ivals xs)) (hb : Rd w D vb (ivals ys)) (hl : xs.length ≤ 1000000) : Calls Try.prog 20 #[va, vb] w (RetB (decide (xs = ys)) w) := by
  have HA := Lib.hid ha; have HB := Lib.hid hb
  obtain ⟨A, c, rfl, -, -⟩ := ha
  obtain ⟨A', c', rfl, -, -⟩ := hb
  simp only [ivals_length] at *
  by_cases hne : xs.length = ys.length
  · obtain ⟨n, hn⟩ : ∃ n, n = xs.length := ⟨_, rfl⟩
    rw [← hne, ← hn]
    rw [← hn] at hl
    have HN : Hid (n = xs.length ∧ n = ys.length) := ⟨hn, by omega⟩
    clear hn hne
    go_enter Try.func20, Try.ntmps20
    go_wp2
    go_loopw [5] (fun t wr => ∃ i : Nat, i ≤ n ∧ t = .int .i64 i ∧ Hid (xs.take i = ys.take i) ∧ ∃ m, wr = w.drewN m) (fun t _ => n - (intOf t).toNat)
    case atStart => exact ⟨0, Nat.zero_le _, rfl, rfl, 0, rfl⟩
    case round =>
      obtain ⟨i, hi, rfl, HE, m, rfl⟩ := hrel
      by_cases hlt : i < n
      · have hix : i < xs.length := by have := HN.out; omega
        have hiy : i < ys.length := by have := HN.out; omega
        have HT : Hid (xs[i] = ys[i] → xs.take (i + 1) = ys.take (i + 1)) := take_snoc_eq HE.out hix hiy
        have HD : Hid (xs[i] ≠ ys[i] → xs ≠ ys) := fun h1 h2 => h1 (by subst h2; rfl)
        obtain ⟨b, o, rfl, _, h1⟩ := HA.out.at (ivals_get xs i hix)
        obtain ⟨b', o', rfl, _, h2⟩ := HB.out.at (ivals_get ys i hiy)
        generalize xs[i] = x at *
        generalize ys[i] = y at *
        by_cases hxy : x = y
        · have HT2 := Lib.hid (HT.out hxy)
          clear HT HD
          subst hxy
          go_wp2
          go_quiet (fail)
          go_wp2
          go_roundw
          case rel => exact ⟨i + 1, by omega, by go_num, HT2, _, rfl⟩
          case measure => simp [intOf]; omega
        · have HD2 := Lib.hid (HD.out hxy)
          have hd : (x == y) = false := by simpa using hxy
          clear hxy HT HD
          go_wp2
          go_quiet (fail)
          go_wp2
          go_ret
          exact ⟨ret_bool (by rw [decide_eq_false HD2.out]), m + nq, World.drewN_drewN _ _ _⟩
      · have HF : Hid (xs = ys) := by
          have := HE.out
          rw [List.take_of_length_le (by have := HN.out; omega), List.take_of_length_le (by have := HN.out; omega)] at this
          exact this
        go_wp2
        go_ret
        exact ⟨ret_bool (by rw [decide_eq_true HF.out]), m, rfl⟩
  · have HF : Hid (xs ≠ ys) := fun h => hne (by rw [h])
    have hcmp : ((xs.length : Int) == (ys.length : Int)) = false := by simp; omega
    clear hne
    generalize xs.length = la at *
    generalize ys.length = lb at *
    go_enter Try.func20, Try.ntmps20
    go_wp2
    go_ret
    exact ⟨ret_bool (by rw [decide_eq_false HF.out]), 0, rfl⟩

theorem ivals_app (xs ys : List Int) : ivals xs ++ ivals ys = ivals (xs ++ ys) := by simp [ivals]
theorem ivals_one (xs : List Int) : ∀ u ∈ ivals xs, u.oneCell' = true := by
  intro u hu
  simp [ivals] at hu
  obtain ⟨x, _, rfl⟩ := hu
  rfl

theorem wpList_app_rd {P : Program} {w : World} {ops : Array Oper} {rest : List Oper} {o : Oper} {a : Act} {Q : Exit → Act → World → Prop} (hgd : o.guard = none) (s x : Operand) (t : TypeId)
    (ho : o.op = .call { callee := .builtin .append, args := #[s, x], argTypes := #[t, t] })
    (base : Nat) (e : TypeId) (i : TypeInfo) (z : Value) (ht : P.underlying t = some (.slice e)) (hi : P.info? e = some i) (hz : i.zero = some z)
    (hsize : i.size = 1) (hby : i.bytes = 8) (hzs : z.cells.size = 1)
    (v : Value) (n : Nat) (xs : List Int) (hs : a.eval s = v) (hown : w.ownsRow base e 1 v n (ivals xs))
    (y : Value) (ys : List Int) (hx : a.eval x = y) (hy : Rd w w.heap.size y (ivals ys)) (h63 : n + ys.length ≤ 1000000) (hbase : base ≤ w.heap.size)
    (h : ∀ v' w', w'.ownsRow base e 1 v' (n + ys.length) (ivals (xs ++ ys)) → w.grownBy w' v.ownBlock → wpList P ops Q rest (a.put o.dst v') w') : wpList P ops Q (o :: rest) a w := by
  have hy2 := hy
  obtain ⟨A, c, rfl, ⟨h0, hc⟩, hp⟩ := hy
  rw [ivals_length] at hx hc hp hy2
  cases A with
  | none =>
    have hl : ys.length = 0 := by
      rcases Nat.eq_zero_or_pos ys.length with e0 | e0
      · exact e0
      · obtain ⟨b, o', e1, _⟩ := hp e0; cases e1
    have hys : ys = [] := List.length_eq_zero_iff.1 hl
    subst hys
    have hc0 := h0 rfl
    subst hc0
    refine wpList_append_own_none hgd s x t ho base e i 1 ht hi v n (ivals xs) hs hown hx ?_
    refine h v w (by simpa using hown) ⟨rfl, rfl, rfl, Nat.le_refl _, fun _ _ _ => rfl⟩
  | some ad =>
    refine wpList_append_own w hgd s x t ho base e i z 1 8 ht hi hz hsize hby hzs (by decide) v n (ivals xs) hs hown ad ys.length c (ivals ys) hx (by rw [ivals_length]; omega) (fun j u hu => hy2.cells j u hu) (ivals_one ys) (by unfold maxLen; omega) (by omega) hbase ?_
    intro v' w' h1 h2 _
    rw [ivals_app] at h1
    exact h v' w' h1 h2

set_option maxHeartbeats 8000000 in
theorem refJoin_any (w : World) (vt vw : Value) (t was : List Int) (ht : Rd w w.heap.size vt (ivals t)) (hw : Rd w w.heap.size vw (ivals was)) (hl : was.length ≤ 10000) (hlt : t.length ≤ 10000) :
    Calls Try.prog 21 #[vt, vw] w (RetOwn w.heap.size (joinL t was) w) := by
  have HT := Lib.hid ht; have HW := Lib.hid hw
  obtain ⟨A, c, rfl, hac, -⟩ := ht
  obtain ⟨A', c', rfl, hac', -⟩ := hw
  simp only [ivals_length] at *
  have HEND := Lib.hid (joinTo_end t was)
  have HF0 := Lib.hid (fromL_none (t := t) (was := was))
  have HF1 : Hid (∀ (i : Nat) (_ : 0 < t.length) (hi : i < was.length), was[i] = t.getD (t.length - 1) 0 → (∀ j (_ : j < i) (hj : j < was.length), was[j] ≠ t.getD (t.length - 1) 0) → fromL t was = i + 1) := fun i h0 hi he h => fromL_some h0 hi he (fun j hj => h j hj (by omega))
  have HFL := Lib.hid (fromL_le t was)
  have HFN : Hid (t.length = 0 → fromL t was = 0) := fun e => by rw [List.length_eq_zero_iff.1 e]; rfl
  have HDR : Hid (joinTo t (was.drop (fromL t was)) 0 = t) := rfl
  have HSU : Hid (∀ k (h : fromL t was + k < was.length), joinTo t (was.drop (fromL t was)) (k + 1) = addL (joinTo t (was.drop (fromL t was)) k) was[fromL t was + k]) := fun k h => by
    rw [joinTo_succ _ _ k (by simp; omega)]; simp
  have HLE2 : Hid (∀ k, (joinTo t (was.drop (fromL t was)) k).length ≤ t.length + k) := fun k => (joinTo_le t _ k).2
  obtain ⟨F, hF⟩ : ∃ F, fromL t was = F := ⟨_, rfl⟩
  obtain ⟨R, hR⟩ : ∃ R, joinL t was = R := ⟨_, rfl⟩
  rw [hF] at HF0 HF1 HFL HEND HFN HDR HSU HLE2
  rw [hR] at HEND ⊢
  obtain ⟨x, hx⟩ : ∃ x, t.getD (t.length - 1) 0 = x := ⟨_, rfl⟩
  rw [hx] at HF0 HF1
  obtain ⟨i3, hi3, hz30, hz31, hz32⟩ := info_parts Try.info3n
  obtain ⟨B, hB⟩ : ∃ B, w.heap.size = B := ⟨_, rfl⟩
  rw [hB] at HT HW ⊢
  have HBE := Lib.hid hB
  have HX := Lib.hid hx
  clear hR hF hB hx
  go_enter Try.func21, Try.ntmps21
  go_wp2_with fail
  go_loopw [5, 6] (fun fv iv wr => ∃ (f i m : Nat), i ≤ was.length ∧ iv = .int .i64 i ∧ fv = .int .i64 f ∧ Hid ((f = 0 ∧ ∀ j (_ : j < i) (hj : j < was.length), 0 < t.length → was[j] ≠ x) ∨ (f ≠ 0 ∧ f = F)) ∧ wr = w.drewN m) (fun _ iv _ => was.length - (intOf iv).toNat)
  case atStart => exact ⟨0, 0, 0, Nat.zero_le _, rfl, rfl, .inl ⟨rfl, fun j hj => absurd hj (by omega)⟩, rfl⟩
  case round =>
    obtain ⟨f, i, m, hi, rfl, rfl, HJ, rfl⟩ := hrel
    go_upto_region 3 with (fail)
    go_cut [21] (fun v wx => v = .bool (seeks i was.length t.length f) ∧ wx = w.drewN m)
    case first =>
      by_cases c1 : i < was.length
      · by_cases c2 : 0 < t.length
        · by_cases c3 : f = 0
          · have hs : seeks i was.length t.length f = true := (seeks_iff _ _ _ _).2 ⟨c1, c2, c3⟩
            subst c3
            go_wp2_with fail
            go_meet
            case rel => exact ⟨by rw [hs], rfl⟩
          · have hs : seeks i was.length t.length f = false := by
              rw [Bool.eq_false_iff]; intro h; exact c3 ((seeks_iff _ _ _ _).1 h).2.2
            have c4 : ((f : Int) == 0) = false := by simp; omega
            go_wp2_with fail
            go_meet
            case rel => exact ⟨by rw [hs], rfl⟩
        · have hs : seeks i was.length t.length f = false := by
            rw [Bool.eq_false_iff]; intro h; exact c2 ((seeks_iff _ _ _ _).1 h).2.1
          go_wp2_with fail
          go_meet
          case rel => exact ⟨by rw [hs], rfl⟩
      · have hs : seeks i was.length t.length f = false := by
          rw [Bool.eq_false_iff]; intro h; exact c1 ((seeks_iff _ _ _ _).1 h).1
        go_wp2_with fail
        go_meet
        case rel => exact ⟨by rw [hs], rfl⟩
    case rest =>
      obtain ⟨rfl, rfl⟩ := hcut
      cases hgo : seeks i was.length t.length f with
      | true =>
        obtain ⟨hiw, ht0, rfl⟩ := (seeks_iff _ _ _ _).1 hgo
        clear hgo
        have HJ0 : Hid (∀ j (_ : j < i) (hj : j < was.length), was[j] ≠ x) := fun j hj hjw => by
          rcases HJ.out with h | h
          · exact h.2 j hj hjw ht0
          · exact absurd rfl h.1
        obtain ⟨b, o, rfl, _, h1⟩ := HW.out.at (ivals_get was i hiw)
        obtain ⟨b', o', rfl, _, h2⟩ := HT.out.at (ivals_get t (t.length - 1) (by omega))
        have hxe : t[t.length - 1] = x := by have := HX.out; simpa [List.getD, List.getElem?_eq_getElem (show t.length - 1 < t.length by omega)] using this
        rw [hxe] at h2
        have HY1 : Hid (was[i] = x → i + 1 = F) := fun e => (HF1.out i ht0 hiw e HJ0.out).symm
        have HY2 : Hid (was[i] ≠ x → ∀ j (_ : j < i + 1) (hj : j < was.length), 0 < t.length → was[j] ≠ x) := fun e j hj hjw _ => by
          rcases Nat.lt_or_ge j i with c | c
          · exact HJ0.out j c hjw
          · obtain rfl : j = i := by omega
            exact e
        have g1 : (i : Int) < (was.length : Int) := by omega
        have g2 : (0 : Int) < (t.length : Int) := by omega
        have g3 : (0 : Int) ≤ (t.length : Int) - 1 := by omega
        have g4 : (t.length : Int) - 1 < (t.length : Int) := by omega
        generalize was[i] = y at *
        clear hxe
        by_cases hyx : y = x
        · have HF2 := Lib.hid (HY1.out hyx)
          subst hyx
          clear HY1 HY2
          go_wp2
          go_quiet (fail)
          go_wp2
          go_roundw
          case rel => exact ⟨i + 1, i + 1, _, by omega, by go_num, by go_num, .inr ⟨by omega, HF2.out⟩, rfl⟩
          case measure => simp [intOf]; omega
        · have HF2 := Lib.hid (HY2.out hyx)
          have hd : (y == x) = false := by simpa using hyx
          clear HY1 HY2 hyx
          go_wp2
          go_quiet (fail)
          go_wp2
          go_roundw
          case rel => exact ⟨0, i + 1, _, by omega, by go_num, rfl, .inl ⟨rfl, HF2.out⟩, rfl⟩
          case measure => simp [intOf]; omega
      | false =>
        have HFF : Hid (f = F) := by
          have hno : ¬ (i < was.length ∧ 0 < t.length ∧ f = 0) := fun h => by rw [(seeks_iff _ _ _ _).2 h] at hgo; cases hgo
          rcases HJ.out with ⟨h1, h2⟩ | h
          · show _ = _
            rw [h1]
            rcases Nat.eq_zero_or_pos t.length with c0 | c0
            · exact (HFN.out c0).symm
            · exact (HF0.out fun j hj => h2 j (by omega) hj c0).symm
          · exact h.2
        have hfl := HFL.out
        have hff := HFF.out
        subst hff
        clear hgo HJ HFF HF0 HF1 HFN HX HFL
        have HB0 : Hid (Below B w (w.drewN m)) := Below.drewN (Below.refl _ _) m
        have HT0 : Hid (Rd (w.drewN m) B (.slice A t.length c) (ivals t)) := HT.out.below HB0.out (Nat.le_refl _)
        have HSW : Hid ((w.drewN m).heap.size = B) := HBE.out
        generalize hW : w.drewN m = W0 at *
        clear hW
        go_wp2_with (first
          | (at_builtin; refine wpList_app_rd rfl (.tmp 37) (.tmp 38) 40 rfl B 3 i3 (.int .i64 0) Try.underlying40 hi3 hz30 hz31 hz32 rfl _ 0 [] rfl (World.ownsRow_nil _ _ _ _) _ t rfl (by rw [HSW.out]; exact HT0.out) (by omega) (by have := HSW.out; omega) ?_; intro v1 w1 hown1 hgrow1)
          | fail)
        have HO1 : Hid (w1.ownsRow B 3 1 v1 t.length (ivals t)) := by have h := hown1; simp only [Nat.zero_add, List.nil_append] at h; exact h
        have HB1 : Hid (Below B w w1) := HB0.out.grown hgrow1 (by have := HSW.out; omega) (fun j hj => by cases hj)
        obtain ⟨A1, c1, hv1⟩ := own_slice HO1.out
        subst hv1
        clear hown1 hgrow1 HB0 HT0
        go_wp2_with fail
        go_loopw [7, 8] (fun va iv wr => ∃ (k : Nat) (o : List Int), f + k ≤ was.length ∧ iv = .int .i64 ((f + k : Nat) : Int) ∧ o.length ≤ 10000 + k ∧ Hid (o = joinTo t (was.drop f) k) ∧ Hid (wr.ownsRow B 3 1 va o.length (ivals o)) ∧ Hid (Below B w wr)) (fun _ iv _ => was.length - (intOf iv).toNat)
        case atStart => exact ⟨0, t, by omega, rfl, by omega, HDR.out.symm, HO1, HB1⟩
        case round =>
          obtain ⟨k, o, hk, rfl, hol, HOE, HO, HB⟩ := hrel
          obtain ⟨Av, cv, hv⟩ := own_slice HO.out
          subst hv
          obtain ⟨i2, hi2⟩ : ∃ i2, f + k = i2 := ⟨_, rfl⟩
          have HI2 := Lib.hid hi2
          rw [hi2] at hk ⊢
          have hkl : k ≤ i2 := by omega
          have HSZ : Hid (B ≤ wr.heap.size) := by have := HB.out.size; have := HBE.out; show B ≤ _; omega
          by_cases hlt2 : i2 < was.length
          · obtain ⟨b, o', hA, hbB, q0⟩ := (HW.out.below HB.out (Nat.le_refl _)).at (i := i2) (u := .int .i64 was[i2]) (ivals_get was i2 hlt2)
            subst hA
            have HN : Hid (joinTo t (was.drop f) (k + 1) = addL o was[i2]) := by
              show _ = _
              have h := HSU.out k (by rw [hi2]; exact hlt2)
              simp only [hi2] at h
              rw [h, ← HOE.out]
            generalize was[i2] = z at *
            clear hi2
            go_wp2_with fail
            refine (refHas_any wr wr.heap.size _ o z (Rd.of_own HO.out) (by omega)).mono ?_; rintro e wh ⟨rfl, rfl⟩
            cases hc : o.contains z with
            | true =>
              have HN2 : Hid (o = joinTo t (was.drop f) (k + 1)) := by show _ = _; rw [HN.out, addL, if_pos hc]
              clear hc HN HOE
              go_wp2_with fail
              go_roundw
              case rel => exact ⟨k + 1, o, by have := HI2.out; omega, by have := HI2.out; rw [show f + (k + 1) = i2 + 1 by omega]; go_num, by omega, HN2, HO, HB⟩
              case measure => simp [intOf]; omega
            | false =>
              have HN2 : Hid (o ++ [z] = joinTo t (was.drop f) (k + 1)) := by show _ = _; rw [HN.out, addL, if_neg (by rw [hc]; decide)]
              have HSN : Hid (ivals o ++ [.int .i64 z] = ivals (o ++ [z]) ∧ (o ++ [z]).length = o.length + 1) := ⟨ivals_snoc' o z, by simp⟩
              clear hc HN HOE
              go_wp2_with (first
                | (at_builtin; refine wpList_append_own _ rfl (.tmp 54) (.tmp 59) 40 rfl B 3 i3 (.int .i64 0) 1 8 Try.underlying40 hi3 hz30 hz31 hz32 rfl (by decide) _ _ _ rfl (HO.out.alloc _) ⟨wr.heap.size, 0, none⟩ 1 1 [.int .i64 z] rfl rfl (one_new wr 3 _) (one_cell rfl) (by unfold maxLen; omega) (by omega) (by have := HSZ.out; simp; omega) ?_; intro v7 w7 hown7 hgrow7 _)
                | fail)
              rw [HSN.out.1] at hown7
              have HB7 : Hid (Below B w w7) := (HB.out.alloc HSZ.out _).grown hgrow7 (by simp; have := HSZ.out; omega) (fun j hj => (HO.out.lt j hj).1)
              have HO7 : Hid (w7.ownsRow B 3 1 v7 (o ++ [z]).length (ivals (o ++ [z]))) := by rw [HSN.out.2]; exact hown7
              go_roundw
              case rel => exact ⟨k + 1, o ++ [z], by have := HI2.out; omega, by have := HI2.out; rw [show f + (k + 1) = i2 + 1 by omega]; go_num, by rw [HSN.out.2]; omega, HN2, HO7, HB7⟩
              case measure => simp [intOf]; omega
          · have HE : Hid (o = R) := by show _ = _; rw [HOE.out]; exact HEND.out k (by simp; omega)
            clear hi2
            go_wp2_with fail
            go_ret
            rw [← HE.out]
            exact ⟨_, rfl, HO.out, HB.out⟩

end Go.Proofs.Ytifcgkpannlnnaa
