/- Contracts: the document's find, Stop, Start, Left. -/
import Derived.Test.YtkhceigfmaajdaaT14
namespace Go.Proofs.Ytkhceigfmaajdaa
open Go.RowKit
set_option maxRecDepth 100000

/-- The document's list of timers, in a row of its type. -/
def Ms (w : World) (v : Value) (xs : List (Int × Int)) : Prop :=
  ∃ (A : Option Addr) (c : Nat), v = .slice A xs.length c ∧ ((A = none → c = 0) ∧ xs.length ≤ c ∧ c ≤ 9223372036854775807) ∧ (0 < xs.length → ∃ b o cur, A = some ⟨b, o, none⟩ ∧ w.heap[b]? = some (.cells cur 59 (0, 0)) ∧ ∀ j (h : j < xs.length), cur[o + j * 2]? = some (.int .i64 xs[j].1) ∧ cur[o + j * 2 + 1]? = some (.int .i64 xs[j].2))

theorem Ms.nil (w : World) : Ms w (.slice none 0 0) [] := ⟨none, 0, rfl, ⟨fun _ => rfl, Nat.le_refl _, by omega⟩, fun h => absurd h (by simp)⟩
theorem Ms.up {w w' : World} {v : Value} {xs : List (Int × Int)} (h : Ms w v xs) (hb : Below w.heap.size w w') : Ms w' v xs := by
  obtain ⟨A, c, hv, h0, hx⟩ := h
  refine ⟨A, c, hv, h0, fun hp => ?_⟩
  obtain ⟨b, o, cur, hA, hh, hcc⟩ := hx hp
  exact ⟨b, o, cur, hA, (hb.block b (heap_lt hh)).trans hh, hcc⟩
theorem Ms.kt {w w' : World} {v : Value} {xs : List (Int × Int)} (h : Ms w v xs) (hk : Kt w w') : Ms w' v xs := by
  obtain ⟨A, c, hv, h0, hx⟩ := h
  refine ⟨A, c, hv, h0, fun hp => ?_⟩
  obtain ⟨b, o, cur, hA, hh, hcc⟩ := hx hp
  exact ⟨b, o, cur, hA, hk.block hh (by decide) (by decide), hcc⟩
theorem Ms.ts {w : World} {v : Value} {xs : List (Int × Int)} (h : Ms w v xs) : Ts w w.heap.size v xs := by
  obtain ⟨A, c, hv, ⟨h0, h1, h2⟩, hx⟩ := h
  refine ⟨A, c, hv, ⟨h0, h1⟩, fun hp => ?_⟩
  obtain ⟨b, o, cur, hA, hh, hcc⟩ := hx hp
  have hr : Row w b 59 cur := hh
  exact ⟨b, o, hA, heap_lt hh, fun j hj => ⟨(hr.cell _).trans (hcc j hj).1, (hr.cell _).trans (hcc j hj).2⟩⟩
theorem Ms.of_own {w : World} {base n : Nat} {v : Value} {xs : List (Int × Int)} (h : w.ownsRow base 59 2 v n (ecells xs)) : Ms w v xs := by
  have hl := h.1
  rw [ecells_len] at hl
  have hn : n = xs.length := by omega
  subst hn
  rcases h.2 with ⟨rfl, hn⟩ | ⟨g, cap, cur, rfl, hg, hh, h1, h2, h3, h4⟩
  · exact ⟨none, 0, by rw [hn], ⟨fun _ => rfl, by omega, by omega⟩, fun hp => by omega⟩
  · refine ⟨_, cap, rfl, ⟨fun e => (by cases e), h1, by unfold maxLen at h2; omega⟩, fun hp => ⟨g, 0, cur, rfl, hh, fun j hj => ?_⟩⟩
    obtain ⟨e0, e1⟩ := ecells_get xs j hj
    rw [← h4] at e0 e1
    rw [Nat.zero_add]
    have t0 : ∀ (k : Nat) (u : Value), (cur.toList.take (xs.length * 2))[k]? = some u → cur[k]? = some u := by
      intro k u hu
      rw [List.getElem?_take] at hu
      split at hu
      · simpa using hu
      · cases hu
    exact ⟨t0 _ _ e0, t0 _ _ e1⟩
theorem Ms.slice {w : World} {v : Value} {xs : List (Int × Int)} (h : Ms w v xs) : ∃ A c, v = .slice A xs.length c ∧ xs.length ≤ c ∧ c ≤ 9223372036854775807 ∧ (A = none → c = 0) := by
  obtain ⟨A, c, hv, ⟨h0, h1, h2⟩, _⟩ := h
  exact ⟨A, c, hv, h1, h2, h0⟩
theorem Ms.take {w : World} {A : Option Addr} {n c : Nat} {xs : List (Int × Int)} (h : Ms w (.slice A n c) xs) (i : Nat) (hi : i ≤ xs.length) : Ms w (.slice A i c) (xs.take i) := by
  obtain ⟨A', c', hv, ⟨h0, h1, h2⟩, hx⟩ := h
  injection hv with e1 e2 e3
  subst e1 e3
  have hl : (xs.take i).length = i := by simp; omega
  refine ⟨A, c, by rw [hl], ⟨h0, by omega, h2⟩, fun hp => ?_⟩
  obtain ⟨b, o, cur, hA, hh, hcc⟩ := hx (by omega)
  refine ⟨b, o, cur, hA, hh, fun j hj => ?_⟩
  rw [hl] at hj
  simpa using hcc j (by omega)
theorem Ms.drop {w : World} {b o n c : Nat} {xs : List (Int × Int)} (h : Ms w (.slice (some ⟨b, o, none⟩) n c) xs) (i : Nat) (hi : i ≤ xs.length) : Ms w (.slice (if c = i then some ⟨b, o, none⟩ else some ⟨b, o + i * 2, none⟩) (xs.length - i) (c - i)) (xs.drop i) := by
  obtain ⟨A', c', hv, ⟨h0, h1, h2⟩, hx⟩ := h
  injection hv with e1 e2 e3
  subst e1 e3
  have hl : (xs.drop i).length = xs.length - i := by simp
  refine ⟨_, c - i, by rw [hl], ⟨fun e => ?_, by omega, by omega⟩, fun hp => ?_⟩
  · split at e <;> cases e
  · rw [hl] at hp
    obtain ⟨b', o', cur, hA, hh, hcc⟩ := hx (by omega)
    injection hA with hA
    injection hA with hA1 hA2
    subst hA1 hA2
    rw [if_neg (by omega)]
    refine ⟨b, o + i * 2, cur, rfl, hh, fun j hj => ?_⟩
    rw [hl] at hj
    have := hcc (i + j) (by omega)
    rw [show o + (i + j) * 2 = o + i * 2 + j * 2 by omega] at this
    simpa using this

theorem Try.info59 : (Try.prog.info? 59).map (fun i => (i.zero, i.size, i.bytes)) = some (some (.agg #[.int .i64 0, .int .i64 0]), 2, 16) := by kernel_rfl

theorem wpList_app_ms {w : World} {ops : Array Oper} {rest : List Oper} {o : Oper} {a : Act} {Q : Exit → Act → World → Prop} (hgd : o.guard = none) (s x : Operand)
    (ho : o.op = .call { callee := .builtin .append, args := #[s, x], argTypes := #[26, 26] })
    (base : Nat) (v : Value) (n : Nat) (xs : List (Int × Int)) (hs : a.eval s = v) (hown : w.ownsRow base 59 2 v n (ecells xs))
    (y : Value) (ys : List (Int × Int)) (hx : a.eval x = y) (hy : Ms w y ys) (k : Nat) (hk : ys.length = k) (h63 : n + k ≤ 1000000) (hbase : base ≤ w.heap.size)
    (h : ∀ v' w', w'.ownsRow base 59 2 v' (n + k) (ecells (xs ++ ys)) → w.grownBy w' v.ownBlock → wpList Try.prog ops Q rest (a.put o.dst v') w') : wpList Try.prog ops Q (o :: rest) a w := by
  subst hk
  obtain ⟨i, hi, hz, hsize, hby⟩ := info_parts Try.info59
  obtain ⟨A, c, rfl, ⟨h0, hc, _⟩, hp⟩ := hy
  cases A with
  | none =>
    have hl : ys.length = 0 := by
      rcases Nat.eq_zero_or_pos ys.length with e0 | e0
      · exact e0
      · obtain ⟨b, o', cur, e1, _⟩ := hp e0; cases e1
    have hys : ys = [] := List.length_eq_zero_iff.1 hl
    subst hys
    have hc0 := h0 rfl
    subst hc0
    refine wpList_append_own_none hgd s x 26 ho base 59 i 2 Try.underlying26 hi v n (ecells xs) hs hown hx ?_
    refine h v w (by simpa using hown) ⟨rfl, rfl, rfl, Nat.le_refl _, fun _ _ _ => rfl⟩
  | some ad =>
    refine wpList_append_own w hgd s x 26 ho base 59 i _ 2 16 Try.underlying26 hi hz hsize hby rfl (by decide) v n (ecells xs) hs hown ad ys.length c (ecells ys) hx (ecells_len ys) ?_ (ecells_one ys) (by unfold maxLen; omega) (by omega) hbase ?_
    · intro j u hu
      have hjl := (List.getElem?_eq_some_iff.1 hu).1
      rw [ecells_len] at hjl
      obtain ⟨b, o', cur, e1, hh, hcell⟩ := hp (by omega)
      injection e1 with e1
      subst e1
      have hr : Row w b 59 cur := hh
      rw [add_at, hr.cell]
      obtain ⟨f0, f1⟩ := hcell (j / 2) (by omega)
      obtain ⟨g0, g1⟩ := ecells_get ys (j / 2) (by omega)
      rcases Nat.mod_two_eq_zero_or_one j with e | e
      · rw [show j = j / 2 * 2 by omega] at hu ⊢
        rw [g0] at hu
        rw [f0]; exact hu
      · rw [show j = j / 2 * 2 + 1 by omega] at hu ⊢
        rw [g1] at hu
        rw [← Nat.add_assoc, f1]; exact hu
    · intro v' w' h1 h2 _
      rw [ecells_app] at h1
      exact h v' w' h1 h2

set_option maxHeartbeats 1000000 in
theorem refFind_any (w : World) (v : Value) (ps : List (Int × Int)) (n : Int) (h : Ms w v ps) (hl : ps.length ≤ 1000) :
    Calls Try.prog 27 #[v, .int .i64 n] w fun e w' => e = .returned (.int .i64 (findL ps n)) ∧ w = w' := by
  have HP := Lib.hid h.ts
  obtain ⟨A, c, rfl, -⟩ := h
  obtain ⟨r, hr⟩ : ∃ r, findL ps n = r := ⟨_, rfl⟩
  rw [hr]
  have HR := Lib.hid hr
  clear hr
  obtain ⟨m, hm⟩ : ∃ m, ps.length = m := ⟨_, rfl⟩
  rw [hm] at HP hl ⊢
  have HM := Lib.hid hm
  clear hm
  go_enter Try.func27, Try.ntmps27
  go_wp2_with fail
  go_loopw [5] (fun k wr => ∃ i : Nat, i ≤ m ∧ k = .int .i64 i ∧ Hid (∀ j (hj : j < ps.length), j < i → ps[j].1 ≠ n) ∧ wr = w) (fun k _ => m - (intOf k).toNat)
  case atStart => exact ⟨0, Nat.zero_le _, rfl, fun j _ hj => absurd hj (by omega), rfl⟩
  case round =>
    obtain ⟨i, hi, rfl, HJ, rfl⟩ := hrel
    by_cases hlt : i < m
    · have him : i < ps.length := by have := HM.out; omega
      obtain ⟨b, o, rfl, hb, e0, e1⟩ := HP.out.at i him
      have HQ1 : Hid (ps[i].1 = n → r = (i : Int)) := fun e => by rw [← HR.out]; exact findL_at him e HJ.out
      have HQ2 : Hid (ps[i].1 ≠ n → ∀ j (hj : j < ps.length), j < i + 1 → ps[j].1 ≠ n) := fun e j hj hji => by
        rcases Nat.lt_or_ge j i with c | c
        · exact HJ.out j hj c
        · obtain rfl : j = i := by omega
          exact e
      generalize ps[i] = z at *
      obtain ⟨z0, z1⟩ := z
      simp only at e0 e1 HQ1 HQ2
      by_cases hz : z0 = n
      · have HF := Lib.hid (HQ1.out hz)
        have hz2 : (z0 == n) = true := by simpa using hz
        clear hz HQ1 HQ2
        go_wp2_with fail
        go_ret
        exact ⟨ret_int HF.out.symm, rfl⟩
      · have hz2 : (z0 == n) = false := by simpa using hz
        have HN2 := Lib.hid (HQ2.out hz)
        clear HQ1 HQ2
        go_wp2_with fail
        go_roundw
        case rel => exact ⟨i + 1, by omega, by go_num, HN2, trivial⟩
        case measure => simp [intOf]; omega
    · have HF : Hid (r = -1) := by
        show _ = _
        rw [← HR.out]
        exact findL_none fun j hj => HJ.out j hj (by have := HM.out; omega)
      go_wp2_with fail
      go_ret
      exact ⟨ret_int HF.out.symm, rfl⟩

set_option maxHeartbeats 2000000 in
theorem refStop_any (w : World) (v : Value) (ms : List (Int × Int)) (id : Int) (h : Ms w v ms) (hl : ms.length ≤ 1000) (hn : (ms.map Prod.fst).Nodup) :
    Calls Try.prog 14 #[v, .int .i64 id] w fun e w' => ∃ v', e = .returned (.tuple #[v', .bool (hasL ms id)]) ∧ Ms w' v' (stopL ms id) ∧ Below w.heap.size w w' := by
  have HM := Lib.hid h
  have HL := Lib.hid hl
  obtain ⟨A, c, rfl, hc1, hc2, hc3⟩ := h.slice
  clear h
  rcases find_cases ms hn id with ⟨f1, f2, f3, -⟩ | ⟨i, hi, f1, f2, f3, -⟩
  · rw [f2, f3]
    have HF := Lib.hid f1
    clear f1 f2 f3
    go_enter Try.func14, Try.ntmps14
    go_wp2_with fail
    refine (refFind_any w _ ms id HM.out HL.out).mono ?_; rintro e w1 ⟨rfl, rfl⟩
    rw [HF.out]
    go_wp2_with fail
    go_ret2
    exact ⟨_, rfl, HM.out, Below.refl _ _⟩
  · rw [f2, f3]
    have HF := Lib.hid f1
    have HD : Hid (∃ b o, A = some ⟨b, o, none⟩) := by
      obtain ⟨b, o, e, _⟩ := HM.out.ts.at i hi
      exact ⟨b, o, e⟩
    obtain ⟨b, o, rfl⟩ := HD.out
    obtain ⟨p, hp⟩ : ∃ p, p = i + 1 := ⟨_, rfl⟩
    have hp1 : (i : Int) + 1 = (p : Int) := by omega
    have hp2 : p ≤ ms.length := by omega
    have hp3 : (p : Int) ≤ (ms.length : Int) := by omega
    have hp4 : i ≤ ms.length := by omega
    have hp5 : (i : Int) ≤ (ms.length : Int) := by omega
    have hp6 : (i : Int) ≤ (c : Int) := by omega
    have hp7 : ¬ (i : Int) < 0 := by omega
    have hp8 : p ≤ c := by omega
    have hp9 : i ≤ c := by omega
    obtain ⟨T, hT⟩ : ∃ T, T = ms.take i := ⟨_, rfl⟩
    obtain ⟨U, hU⟩ : ∃ U, U = ms.drop p := ⟨_, rfl⟩
    have HT1 : Hid (Ms w (.slice (some ⟨b, o, none⟩) i c) T) := by rw [hT]; exact HM.out.take i hp4
    have HT2 : Hid (Ms w (.slice (if c = p then some ⟨b, o, none⟩ else some ⟨b, o + p * 2, none⟩) (ms.length - p) (c - p)) U) := by rw [hU]; exact HM.out.drop p hp2
    have HLI : Hid (T.length = i ∧ U.length = ms.length - p) := ⟨by rw [hT]; simp; omega, by rw [hU]; simp⟩
    rw [← hp, ← hT, ← hU]
    clear f1 f2 f3 hp hT hU
    go_enter Try.func14, Try.ntmps14
    go_wp2_with fail
    refine (refFind_any w _ ms id HM.out HL.out).mono ?_; rintro e w1 ⟨rfl, rfl⟩
    rw [HF.out]
    go_wp2_with (at_builtin; refine wpList_app_ms rfl (.tmp 14) (.tmp 17) rfl w.heap.size _ 0 [] rfl (World.ownsRow_nil _ _ _ _) _ T rfl HT1.out i HLI.out.1 (by have := HL.out; omega) (Nat.le_refl _) ?_)
    intro v5 x5 hown5 hgrow5
    have HB5 : Hid (Below w.heap.size w x5) := ⟨hgrow5.os, hgrow5.tape, hgrow5.output, hgrow5.size, fun k hk => hgrow5.block k hk (by simp [Value.ownBlock])⟩
    have HO5 := Lib.hid hown5
    obtain ⟨A5, c5, hA5⟩ := own_slice hown5
    subst hA5
    clear hown5 hgrow5
    by_cases hcp : c = p
    · have HT25 : Hid (Ms x5 (.slice (some ⟨b, o, none⟩) (ms.length - p) 0) U) := by
        have h := HT2.out.up HB5.out
        rw [if_pos hcp, show c - p = 0 by omega] at h
        exact h
      go_wp2_with (at_builtin; refine wpList_app_ms rfl (.tmp 19) (.tmp 23) rfl w.heap.size _ i T rfl HO5.out _ U rfl HT25.out (ms.length - p) HLI.out.2 (by have := HL.out; omega) HB5.out.size ?_)
      intro v6 x6 hown6 hgrow6
      have HB6 : Hid (Below w.heap.size w x6) := HB5.out.grown hgrow6 HB5.out.size (fun kk hk => (HO5.out.lt kk hk).1)
      have HM6 := Lib.hid (Ms.of_own hown6)
      obtain ⟨A6, c6, hA6⟩ := own_slice hown6
      subst hA6
      clear hown6 hgrow6
      go_wp2_with fail
      go_ret2
      exact ⟨_, rfl, HM6.out, HB6.out⟩
    · have HT25 : Hid (Ms x5 (.slice (some ⟨b, o + p * 2, none⟩) (ms.length - p) (c - p)) U) := by
        have h := HT2.out.up HB5.out
        rw [if_neg hcp] at h
        exact h
      go_wp2_with (at_builtin; refine wpList_app_ms rfl (.tmp 19) (.tmp 23) rfl w.heap.size _ i T rfl HO5.out _ U rfl HT25.out (ms.length - p) HLI.out.2 (by have := HL.out; omega) HB5.out.size ?_)
      intro v6 x6 hown6 hgrow6
      have HB6 : Hid (Below w.heap.size w x6) := HB5.out.grown hgrow6 HB5.out.size (fun kk hk => (HO5.out.lt kk hk).1)
      have HM6 := Lib.hid (Ms.of_own hown6)
      obtain ⟨A6, c6, hA6⟩ := own_slice hown6
      subst hA6
      clear hown6 hgrow6
      go_wp2_with fail
      go_ret2
      exact ⟨_, rfl, HM6.out, HB6.out⟩

end Go.Proofs.Ytkhceigfmaajdaa
