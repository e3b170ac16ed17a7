/- Contracts: the document's Start, Left, Ended. -/
import Derived.Test.YtkhceigfmaajdaaT15
namespace Go.Proofs.Ytkhceigfmaajdaa
open Go.RowKit
set_option maxRecDepth 100000

def startR (ms : List (Int × Int)) (id at_ : Int) : List (Int × Int) := if fullL ms id then ms else stopL ms id ++ [(id, at_)]

theorem two_new (w : World) (x y : Int) : Ms (w.alloc (.cells #[.int .i64 x, .int .i64 y] 59)) (.slice (some ⟨w.heap.size, 0, none⟩) 1 1) [(x, y)] := by
  refine ⟨_, 1, rfl, ⟨fun h => (by cases h), by simp, by omega⟩, fun _ => ⟨w.heap.size, 0, _, rfl, Row.new w 59 _, fun j hj => ?_⟩⟩
  have : j = 0 := by simpa using hj
  subst this
  exact ⟨rfl, rfl⟩

set_option maxHeartbeats 2000000 in
theorem refStart_any (w : World) (v : Value) (ms : List (Int × Int)) (id at_ : Int) (h : Ms w v ms) (hl : ms.length ≤ 32) (hn : (ms.map Prod.fst).Nodup) :
    Calls Try.prog 12 #[v, .int .i64 id, .int .i64 at_] w fun e w' => ∃ v', e = .returned (.tuple #[v', .int .i64 (startE ms id)]) ∧ Ms w' v' (startR ms id at_) ∧ Below w.heap.size w w' := by
  have HM := Lib.hid h
  have HN := Lib.hid hn
  have HSL : Hid ((stopL ms id).length ≤ 32) := Nat.le_trans (List.length_filter_le _ _) hl
  obtain ⟨A, c, rfl, hc1, hc2, hc3⟩ := h.slice
  clear h hn hc3
  cases hf : fullL ms id with
  | true =>
    have hf2 : hasL ms id = false ∧ 32 ≤ ms.length := by simpa [fullL] using hf
    have e1 : startE ms id = 6 := startE_full hf
    have e2 : startR ms id at_ = ms := by unfold startR; rw [if_pos hf]
    rw [e1, e2]
    have HF := Lib.hid hf2
    have hge : (32 : Int) ≤ (ms.length : Int) := by omega
    clear hf hf2 e1 e2
    go_enter Try.func12, Try.ntmps12
    go_wp2_with fail
    refine (refStop_any w _ ms id HM.out (by omega) HN.out).mono ?_; rintro e w1 ⟨v1, rfl, hm1, hb1⟩
    rw [HF.out.1]
    have HB1 := Lib.hid hb1
    obtain ⟨A1, c1, hA1, -⟩ := hm1.slice
    subst hA1
    clear hm1 hb1
    go_wp2_with fail
    go_ret2
    exact ⟨_, rfl, HM.out.up HB1.out, HB1.out⟩
  | false =>
    have hf2 : ¬ (hasL ms id = false ∧ 32 ≤ ms.length) := by intro hh; rw [full_yes hh.1 (by omega)] at hf; cases hf
    have e1 : startE ms id = 0 := startE_ok hf
    have e2 : startR ms id at_ = stopL ms id ++ [(id, at_)] := by unfold startR; rw [if_neg (by rw [hf]; simp)]
    rw [e1, e2]
    obtain ⟨bo, hbo⟩ : ∃ b, hasL ms id = b := ⟨_, rfl⟩
    have HBO := Lib.hid hbo
    have HGE : Hid (bo = false → ¬ (32 : Int) ≤ (ms.length : Int)) := fun hb hc => hf2 ⟨hbo.trans hb, by omega⟩
    clear hf hf2 e1 e2 hbo
    go_enter Try.func12, Try.ntmps12
    go_wp2_with fail
    refine (refStop_any w _ ms id HM.out (by omega) HN.out).mono ?_; rintro e w1 ⟨v1, rfl, hm1, hb1⟩
    rw [HBO.out]
    have HB1 := Lib.hid hb1
    have HM1 := Lib.hid hm1
    obtain ⟨S, hS⟩ : ∃ S, S = stopL ms id := ⟨_, rfl⟩
    rw [← hS] at HM1 HSL hm1
    have HSE := Lib.hid hS
    obtain ⟨A1, c1, hA1, -⟩ := hm1.slice
    subst hA1
    clear hm1 hb1 hS
    cases bo with
    | true =>
      go_wp2_with (at_builtin; refine wpList_app_ms rfl (.tmp 25) (.tmp 26) rfl w1.heap.size _ 0 [] rfl (World.ownsRow_nil _ _ _ _) _ S rfl HM1.out S.length rfl (by have := HSL.out; omega) (Nat.le_refl _) ?_)
      intro v5 x5 hown5 hgrow5
      have HB5 : Hid (Below w1.heap.size w1 x5) := ⟨hgrow5.os, hgrow5.tape, hgrow5.output, hgrow5.size, fun k hk => hgrow5.block k hk (by simp [Value.ownBlock])⟩
      have HO5 := Lib.hid hown5
      obtain ⟨A5, c5, hA5⟩ := own_slice hown5
      subst hA5
      clear hown5 hgrow5
      go_wp2_with (at_builtin; refine wpList_app_ms rfl (.tmp 28) (.tmp 32) rfl w1.heap.size _ S.length S rfl (HO5.out.alloc _) _ [(id, at_)] rfl (two_new x5 id at_) 1 rfl (by have := HSL.out; omega) (by have := HB5.out.size; simp; omega) ?_)
      intro v6 x6 hown6 hgrow6
      have HB6 : Hid (Below w1.heap.size w1 x6) := (HB5.out.alloc HB5.out.size _).grown hgrow6 (by have := HB5.out.size; simp; omega) (fun kk hk => (HO5.out.lt kk hk).1)
      have HM6 := Lib.hid (Ms.of_own hown6)
      obtain ⟨A6, c6, hA6⟩ := own_slice hown6
      subst hA6
      clear hown6 hgrow6
      go_wp2_with fail
      go_ret2
      rw [← HSE.out]
      exact ⟨_, rfl, HM6.out, HB1.out.trans (HB6.out.mono HB1.out.size)⟩
    | false =>
      have hge := HGE.out rfl
      go_wp2_with (at_builtin; refine wpList_app_ms rfl (.tmp 25) (.tmp 26) rfl w1.heap.size _ 0 [] rfl (World.ownsRow_nil _ _ _ _) _ S rfl HM1.out S.length rfl (by have := HSL.out; omega) (Nat.le_refl _) ?_)
      intro v5 x5 hown5 hgrow5
      have HB5 : Hid (Below w1.heap.size w1 x5) := ⟨hgrow5.os, hgrow5.tape, hgrow5.output, hgrow5.size, fun k hk => hgrow5.block k hk (by simp [Value.ownBlock])⟩
      have HO5 := Lib.hid hown5
      obtain ⟨A5, c5, hA5⟩ := own_slice hown5
      subst hA5
      clear hown5 hgrow5
      go_wp2_with (at_builtin; refine wpList_app_ms rfl (.tmp 28) (.tmp 32) rfl w1.heap.size _ S.length S rfl (HO5.out.alloc _) _ [(id, at_)] rfl (two_new x5 id at_) 1 rfl (by have := HSL.out; omega) (by have := HB5.out.size; simp; omega) ?_)
      intro v6 x6 hown6 hgrow6
      have HB6 : Hid (Below w1.heap.size w1 x6) := (HB5.out.alloc HB5.out.size _).grown hgrow6 (by have := HB5.out.size; simp; omega) (fun kk hk => (HO5.out.lt kk hk).1)
      have HM6 := Lib.hid (Ms.of_own hown6)
      obtain ⟨A6, c6, hA6⟩ := own_slice hown6
      subst hA6
      clear hown6 hgrow6
      go_wp2_with fail
      go_ret2
      rw [← HSE.out]
      exact ⟨_, rfl, HM6.out, HB1.out.trans (HB6.out.mono HB1.out.size)⟩

/-- How long it has left. -/
theorem left_wrap {now at_ : Int} (h1 : -9223372036854775808 ≤ now) (h2 : at_ ≤ 9223372036854775807) (h : now < at_) : IntKind.u64.wrap (IntKind.u64.wrap at_ - IntKind.u64.wrap now) = at_ - now := by
  rw [IntKind.wrap_u64, IntKind.wrap_u64, IntKind.wrap_u64]
  omega

set_option maxHeartbeats 2000000 in
theorem refLeft_any (w : World) (v : Value) (ms : List (Int × Int)) (id now : Int) (h : Ms w v ms) (hl : ms.length ≤ 32) (hn : (ms.map Prod.fst).Nodup) (hf : Fit ms) (h1 : -9223372036854775808 ≤ now) :
    Calls Try.prog 19 #[v, .int .i64 id, .int .i64 now] w fun e w' => e = .returned (.tuple #[.int .i64 (leftL ms id now).1, .bool (leftL ms id now).2]) ∧ w = w' := by
  have HM := Lib.hid h
  obtain ⟨A, c, rfl, hc1, hc2, hc3⟩ := h.slice
  clear h hc3
  rcases find_cases ms hn id with ⟨f1, -, -, f4⟩ | ⟨i, hi, f1, -, -, f4⟩
  · rw [f4]
    have HF := Lib.hid f1
    clear f1 f4 hf hn
    go_enter Try.func19, Try.ntmps19
    go_wp2_with fail
    refine (refFind_any w _ ms id HM.out (by omega)).mono ?_; rintro e w1 ⟨rfl, rfl⟩
    rw [HF.out]
    go_wp2_with fail
    go_ret2
    exact ⟨rfl, rfl⟩
  · obtain ⟨z, hz⟩ : ∃ z, ms[i] = z := ⟨_, rfl⟩
    have hfi := hf ms[i] (List.getElem_mem _)
    rw [f4, hz]
    rw [hz] at hfi
    obtain ⟨b, o, rfl, -, q0, q1⟩ := HM.out.ts.at i hi
    rw [hz] at q0 q1
    obtain ⟨z0, z1⟩ := z
    simp only at hfi q0 q1 ⊢
    have HF := Lib.hid f1
    have hi2 : (i : Int) < (ms.length : Int) := by omega
    have hi3 : (0 : Int) ≤ (i : Int) := by omega
    have hi4 : ¬ (i : Int) < 0 := by omega
    clear f1 f4 hf hz hn q0
    by_cases c1 : z1 ≤ now
    · have e : betw now z1 = 0 := by simp [betw, c1]
      rw [e]
      clear e
      go_enter Try.func19, Try.ntmps19
      go_wp2_with fail
      refine (refFind_any w _ ms id HM.out (by omega)).mono ?_; rintro e w1 ⟨rfl, rfl⟩
      rw [HF.out]
      go_wp2_with fail
      go_ret2
      exact ⟨rfl, rfl⟩
    · have hw := left_wrap h1 hfi.2 (by omega : now < z1)
      obtain ⟨d, hd⟩ : ∃ d, z1 - now = d := ⟨_, rfl⟩
      rw [hd] at hw
      by_cases c2 : d ≤ 9223372036854775807
      · have e : betw now z1 = d := by simp [betw, c1, hd, c2]
        rw [e]
        have hd1 : ¬ (9223372036854775807 : Int) < d := by omega
        have hd2 : IntKind.i64.wrap d = d := IntWalk.i64_in _ (by omega)
        clear e hd
        go_enter Try.func19, Try.ntmps19
        go_wp2_with fail
        refine (refFind_any w _ ms id HM.out (by omega)).mono ?_; rintro e w1 ⟨rfl, rfl⟩
        rw [HF.out]
        go_wp2_with fail
        go_ret2
        exact ⟨rfl, rfl⟩
      · have e : betw now z1 = 9223372036854775807 := by simp [betw, c1, hd, c2]
        rw [e]
        have hd1 : (9223372036854775807 : Int) < d := by omega
        clear e hd
        go_enter Try.func19, Try.ntmps19
        go_wp2_with fail
        refine (refFind_any w _ ms id HM.out (by omega)).mono ?_; rintro e w1 ⟨rfl, rfl⟩
        rw [HF.out]
        go_wp2_with fail
        go_ret2
        exact ⟨rfl, rfl⟩

end Go.Proofs.Ytkhceigfmaajdaa
